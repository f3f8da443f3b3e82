import Derived.Test.YthjokkihlodapaaGreatWe
import Derived.Test.YthjokkihlodapaaGreatXm
set_option maxRecDepth 1000000
set_option maxHeartbeats 80000000
/- croftref9: rule 11. -/
namespace Go.Proofs.YthjokkihlodapaaGreat
open Go.RowKit
set_option linter.unusedVariables false
set_option maxHeartbeats 8000000
set_option maxRecDepth 6000
/-- Rule 11. -/
theorem full9 (I : Img) (V : ImV) (k r : Nat) (hS : Sn9 I k r) (w : World) (hI : ImD w I V) :
    Calls Tryz.prog 36 #[imA I V] w fun e w' => e = .returned (.int .i64 (plI (fst1 I.np (ok11 I)))) ∧ Kept none' w w' := by
  obtain ⟨⟨ma, mc, hm⟩, ⟨pa, pc, hp⟩, ⟨ra, rc, hr⟩, ⟨ha, hc, hh⟩, ⟨ta, tc, ht⟩, -⟩ := hI.sl
  obtain ⟨vm, vp, vr, vh, vt⟩ := V
  dsimp only at hm hp hr hh ht
  subst hm hp hr hh ht
  have IM0 := hid (show ImAt (w.alloc (imO I _)) w.heap.size I _ from ⟨heap_new _ _, hI.keep ((Kept.refl _ w).alloc _)⟩)
  have K0 := hid (show Kept none' w (w.alloc (imO I _)) from (Kept.refl _ w).alloc (imO I ⟨.slice ma I.nm mc, .slice pa I.np pc, .slice ra I.no rc, .slice ha I.hd.length hc, .slice ta I.pt.length tc⟩))
  obtain ⟨c0, c1, c2, c3, c4, c5, c6, c7, c8⟩ := IM0.out.cells
  obtain ⟨ok, hok⟩ : ∃ ok, ok = ok11 I := ⟨_, rfl⟩
  rw [← hok]
  have OKE := hid (show ∀ i, ok i = ok11 I i from fun i => by rw [hok])
  have hnp := hS.np1
  have HS := hid hS
  clear hS
  obtain ⟨n, hn⟩ : ∃ n, n = I.np := ⟨_, rfl⟩
  have NP := hid hn
  obtain ⟨rr, hrr⟩ : ∃ rr, rr = plI (fst1 I.np ok) := ⟨_, rfl⟩
  rw [← hrr]
  have BAD := hid (show ∀ a, a < n → (∀ j, j < a → ok j = true) → ok a = false → rr = (a : Int) from fun a h1 h2 h3 => by rw [hrr, fst1_bad (by omega) h2 h3]; rfl)
  have GOOD := hid (show (∀ j, j < n → ok j = true) → rr = -1 from fun h => by rw [hrr, fst1_ok (by rw [← hn]; exact h)]; rfl)
  rw [← hn] at c5 hnp IM0 K0
  rw [← hn]
  have HNP := hid hnp
  clear hI hok hn hrr hnp
  go_enter Tryz.func36, Tryz.ntmps36
  go_wp2_with fail
  clear c0 c1 c2 c3 c4 c5 c6 c7 c8
  generalize w.heap.size = ib at *
  generalize w.alloc (imO I ⟨.slice ma I.nm mc, .slice pa n pc, .slice ra I.no rc, .slice ha I.hd.length hc, .slice ta I.pt.length tc⟩) = W0 at *
  go_loopw [3] (fun iv W => ∃ a : Nat, a ≤ n ∧ iv = .int .i64 a ∧ Hid (Kept none' W0 W ∧ ∀ j, j < a → ok j = true)) (fun iv _ => n - (intOf iv).toNat)
  case atStart => exact ⟨0, Nat.zero_le _, rfl, hid ⟨Kept.refl _ _, fun j hj => by omega⟩⟩
  case round =>
    obtain ⟨a, ha', rfl, hG⟩ := hrel
    have IMa := hid (IM0.out.keep hG.out.1)
    by_cases hlt : a < n
    · have hai : (a : Int) < (n : Int) := by omega
      obtain ⟨c0, c1, c2, c3, c4, c5, c6, c7, c8⟩ := IMa.out.cells
      dsimp only at c5
      obtain ⟨bl, oo, oc, hv, -, hpc⟩ := IMa.out.page a (by rw [← NP.out]; exact hlt)
      injection hv with e1 e2 e3
      subst e1
      clear e2 e3
      obtain ⟨d0, d1, d2, d3, d4, d5, d6, d7, d8, d9, d10⟩ := hpc.c
      have OKA := hid (OKE.out a)
      obtain ⟨kd, od, cc, ll, -, -, -, -, y5, y6, -⟩ := HS.out.pg a (by rw [← NP.out]; exact hlt)
      have CE := hid (fun W => Cells9 (I.pg a) cc y5 y6 W)
      have EQ := hid (show ok11 I a = (!(decide ((I.pg a).kd = 4) && decide ((I.pg a).lv = (celN9 cc : Int))) || (decide ((I.pg a).nx = -1) && decide ((I.pg a).pv = -1))) by unfold ok11; rw [y5, Int.toNat_natCast])
      rw [EQ.out] at OKA
      clear EQ y5
      have BADA := hid (BAD.out a hlt hG.out.2)
      have HLT := hid hlt
      generalize I.pg a = p at *
      clear hpc hlt ha'
      go_upto_region 5 with fail
      refine gen_world9 (P := fun W => Code.wp Tryz.prog _ _ _ W) _ ?_
      intro W1 hW
      have k1 : Kept none' wr W1 := by subst hW; exact (Kept.refl _ wr).alloc _
      have X1 : W1.heap[wr.heap.size]? = some (pgO p) := by subst hW; exact heap_new _ _
      have KE := hid (none_trans hG.out.1 k1)
      have PREV := hid hG.out.2
      generalize wr.heap.size = pb at *
      have X : ∀ x : KW W1, x.v.heap[pb]? = some (pgO p) := fun x => (x.k.block _ (heap_lt X1) (fun y => y)).trans X1
      clear hW k1 X1 hG c0 c1 c2 c3 c4 c5 c6 c7 c8 d0 d1 d2 d3 d4 d5 d6 d7 d8 d9 d10 IMa
      have e0 : ∀ x : KW W1, x.v.cell? ⟨pb, 0, none⟩ = some (.int .i64 p.kd) := fun x => by simp [World.cell?, X x]
      have e1 : ∀ x : KW W1, x.v.cell? ⟨pb, 1, none⟩ = some (.int .i64 p.od) := fun x => by simp [World.cell?, X x]
      have e2 : ∀ x : KW W1, x.v.cell? ⟨pb, 2, none⟩ = some (.int .i64 p.cl) := fun x => by simp [World.cell?, X x]
      have e3 : ∀ x : KW W1, x.v.cell? ⟨pb, 3, none⟩ = some (.int .i64 p.lv) := fun x => by simp [World.cell?, X x]
      have e4 : ∀ x : KW W1, x.v.cell? ⟨pb, 4, none⟩ = some (.int .i64 p.nx) := fun x => by simp [World.cell?, X x]
      have e5 : ∀ x : KW W1, x.v.cell? ⟨pb, 5, none⟩ = some (.int .i64 p.pv) := fun x => by simp [World.cell?, X x]
      have e6 : ∀ x : KW W1, x.v.cell? ⟨pb, 6, none⟩ = some (.int .i64 p.fs) := fun x => by simp [World.cell?, X x]
      have e7 : ∀ x : KW W1, x.v.cell? ⟨pb, 7, none⟩ = some (.int .u64 (p.b0 : Int)) := fun x => by simp [World.cell?, X x]
      have e8 : ∀ x : KW W1, x.v.cell? ⟨pb, 8, none⟩ = some (.int .u64 (p.b1 : Int)) := fun x => by simp [World.cell?, X x]
      have e9 : ∀ x : KW W1, x.v.cell? ⟨pb, 9, none⟩ = some (.int .u64 (p.b2 : Int)) := fun x => by simp [World.cell?, X x]
      have e10 : ∀ x : KW W1, x.v.cell? ⟨pb, 10, none⟩ = some (.int .u64 (p.b3 : Int)) := fun x => by simp [World.cell?, X x]
      generalize celN9 cc = cn at *
      have NEXT := hid (show ok a = true → ∀ j, j < a + 1 → ok j = true from fun eo j hj => by
        by_cases e : j = a
        · rw [e]; exact eo
        · exact PREV.out j (by omega))
      by_cases h1 : p.kd = 4
      case neg =>
        have q1 : (p.kd == 4) = false := by rw [beq_eq_false_iff_ne]; exact h1
        refine wp_region_kept (by kernel_rfl) (by kernel_rfl) ?_
        repeat (go_big_quiet_step (first | (go_at_call 21; exact Calls.kept_of (CE.out _))))
        refine wpQuiet_nil ?_
        intro y
        have YK := hid (none_trans KE.out y.k)
        clear e0 e1 e2 e3 e4 e5 e6 e7 e8 e9 e10 X
        generalize y.v = W6 at *
        have eo : ok a = true := by rw [OKA.out]; rw [decide_eq_false h1]; rfl
        go_wp2_with fail
        have hw : wrap64 ((a : Int) + 1) = ((a + 1 : Nat) : Int) := by have := HNP.out; have := HLT.out; rw [wrap64]; omega
        rw [hw]
        exact ⟨⟨a + 1, by have := HLT.out; omega, rfl, hid ⟨YK.out, NEXT.out eo⟩⟩, by have := HLT.out; simp only [intOf, Int.toNat_natCast]; omega⟩
      have q1 : (p.kd == 4) = true := by rw [beq_iff_eq]; exact h1
      have H1 := hid h1
      clear h1
      by_cases h2 : p.lv = (cn : Int)
      case neg =>
        have q2 : (p.lv == (cn : Int)) = false := by rw [beq_eq_false_iff_ne]; exact h2
        refine wp_region_kept (by kernel_rfl) (by kernel_rfl) ?_
        repeat (go_big_quiet_step (first | (go_at_call 21; exact Calls.kept_of (CE.out _))))
        refine wpQuiet_nil ?_
        intro y
        have YK := hid (none_trans KE.out y.k)
        clear e0 e1 e2 e3 e4 e5 e6 e7 e8 e9 e10 X
        generalize y.v = W6 at *
        have eo : ok a = true := by rw [OKA.out]; rw [decide_eq_false h2]; simp
        go_wp2_with fail
        have hw : wrap64 ((a : Int) + 1) = ((a + 1 : Nat) : Int) := by have := HNP.out; have := HLT.out; rw [wrap64]; omega
        rw [hw]
        exact ⟨⟨a + 1, by have := HLT.out; omega, rfl, hid ⟨YK.out, NEXT.out eo⟩⟩, by have := HLT.out; simp only [intOf, Int.toNat_natCast]; omega⟩
      have q2 : (p.lv == (cn : Int)) = true := by rw [beq_iff_eq]; exact h2
      have H2 := hid h2
      clear h2
      by_cases h3 : p.nx = -1
      case neg =>
        have q3 : (p.nx != -1) = true := by rw [bne_iff_ne]; exact h3
        refine wp_region_kept (by kernel_rfl) (by kernel_rfl) ?_
        repeat (go_big_quiet_step (first | (go_at_call 21; exact Calls.kept_of (CE.out _))))
        refine wpQuiet_nil ?_
        intro y
        have YK := hid (none_trans KE.out y.k)
        clear e0 e1 e2 e3 e4 e5 e6 e7 e8 e9 e10 X
        generalize y.v = W6 at *
        have er := BADA.out (by rw [OKA.out]; rw [decide_eq_true H1.out, decide_eq_true H2.out, decide_eq_false h3]; rfl)
        subst er
        go_wp2_with fail
        go_ret
        exact ⟨rfl, none_trans K0.out YK.out⟩
      have q3 : (p.nx != -1) = false := by rw [bne_eq_false_iff_eq]; exact h3
      have H3 := hid h3
      clear h3
      by_cases h4 : p.pv = -1
      case neg =>
        have q4 : (p.pv != -1) = true := by rw [bne_iff_ne]; exact h4
        refine wp_region_kept (by kernel_rfl) (by kernel_rfl) ?_
        repeat (go_big_quiet_step (first | (go_at_call 21; exact Calls.kept_of (CE.out _))))
        refine wpQuiet_nil ?_
        intro y
        have YK := hid (none_trans KE.out y.k)
        clear e0 e1 e2 e3 e4 e5 e6 e7 e8 e9 e10 X
        generalize y.v = W6 at *
        have er := BADA.out (by rw [OKA.out]; rw [decide_eq_true H1.out, decide_eq_true H2.out, decide_eq_false h4]; simp)
        subst er
        go_wp2_with fail
        go_ret
        exact ⟨rfl, none_trans K0.out YK.out⟩
      have q4 : (p.pv != -1) = false := by rw [bne_eq_false_iff_eq]; exact h4
      have H4 := hid h4
      clear h4
      refine wp_region_kept (by kernel_rfl) (by kernel_rfl) ?_
      repeat (go_big_quiet_step (first | (go_at_call 21; exact Calls.kept_of (CE.out _))))
      refine wpQuiet_nil ?_
      intro y
      have YK := hid (none_trans KE.out y.k)
      clear e0 e1 e2 e3 e4 e5 e6 e7 e8 e9 e10 X
      generalize y.v = W6 at *
      have eo : ok a = true := by rw [OKA.out]; rw [decide_eq_true H3.out, decide_eq_true H4.out]; simp
      go_wp2_with fail
      have hw : wrap64 ((a : Int) + 1) = ((a + 1 : Nat) : Int) := by have := HNP.out; have := HLT.out; rw [wrap64]; omega
      rw [hw]
      exact ⟨⟨a + 1, by have := HLT.out; omega, rfl, hid ⟨YK.out, NEXT.out eo⟩⟩, by have := HLT.out; simp only [intOf, Int.toNat_natCast]; omega⟩
    · have hai : ¬ (a : Int) < (n : Int) := by omega
      obtain ⟨c0, c1, c2, c3, c4, c5, c6, c7, c8⟩ := IMa.out.cells
      dsimp only at c5
      have er := GOOD.out (fun j hj => hG.out.2 j (by omega))
      subst er
      go_wp2_with fail
      go_ret
      exact ⟨rfl, none_trans K0.out hG.out.1⟩
end Go.Proofs.YthjokkihlodapaaGreat
