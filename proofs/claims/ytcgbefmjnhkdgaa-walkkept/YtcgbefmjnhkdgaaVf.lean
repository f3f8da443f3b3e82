import Derived.Test.YtcgbefmjnhkdgaaVa
import Derived.Test.YtcgbefmjnhkdgaaVb
import Derived.SizedLaws
set_option maxRecDepth 1000000
set_option maxHeartbeats 80000000
/- croftref9.Alike of two images that are the same. -/
namespace Go.Proofs.Ytcgbefmjnhkdgaa
open Go.RowKit
set_option linter.unusedVariables false
set_option maxHeartbeats 8000000
set_option maxRecDepth 6000
theorem Same2_yes (va vb : Value) (n : Nat) (f : Nat → Nat) (w : World) (ha : SlIn w va n (ByC w f)) (hb : SlIn w vb n (ByC w f)) :
    Calls Try.prog 24 #[va, vb] w fun e w' => e = .returned (.bool true) ∧ Kept none' w w' := by
  obtain ⟨hn, oa, oc, rfl, ha⟩ := ha
  obtain ⟨-, ob, od, rfl, hb⟩ := hb
  have HA := hid ha
  have HB := hid hb
  have HN := hid hn
  clear ha hb hn
  go_enter Try.func24, Try.ntmps24
  go_wp2_with fail
  go_loopw [5] (fun iv W => ∃ a : Nat, a ≤ n ∧ iv = .int .i64 a ∧ Hid (Kept none' w W)) (fun iv _ => n - (intOf iv).toNat)
  case atStart => exact ⟨0, Nat.zero_le _, rfl, hid (Kept.refl _ _)⟩
  case round =>
    obtain ⟨a, ha, rfl, hK⟩ := hrel
    by_cases hlt : a < n
    · have hai : (a : Int) < (n : Int) := by omega
      obtain ⟨ba, pa, rfl, -, hac⟩ := HA.out.resolve_left (by omega)
      obtain ⟨bb, pb, rfl, -, hbc⟩ := HB.out.resolve_left (by omega)
      have h1 := hK.out.cell (fun x => x) (hac a hlt).2
      have h2 := hK.out.cell (fun x => x) (hbc a hlt).2
      have HLT := hid hlt
      clear hac hbc HA HB hlt ha
      go_wp2_with fail
      go_quiet (fail)
      go_wp2_with fail
      have hw : wrap64 ((a : Int) + 1) = ((a + 1 : Nat) : Int) := by have := HN.out; have := HLT.out; rw [wrap64]; omega
      rw [hw]
      exact ⟨⟨a + 1, by have := HLT.out; omega, rfl, hid (none_trans hK.out (drewN_kept wr nq))⟩, by have := HLT.out; simp only [intOf, Int.toNat_natCast]; omega⟩
    · have hai : ¬ (a : Int) < (n : Int) := by omega
      go_wp2_with fail
      go_ret
      exact ⟨rfl, hK.out⟩
theorem SamePg_yes (va vb : Value) (n : Nat) (pg : Nat → Pg) (w : World) (ha : SlIn w va n fun bl o i => PgIn (pg i) ∧ PgC w bl o i (pg i)) (hb : SlIn w vb n fun bl o i => PgIn (pg i) ∧ PgC w bl o i (pg i)) :
    Calls Try.prog 25 #[va, vb] w fun e w' => e = .returned (.bool true) ∧ Kept none' w w' := by
  obtain ⟨hn, oa, oc, rfl, ha⟩ := ha
  obtain ⟨-, ob, od, rfl, hb⟩ := hb
  have HA := hid ha
  have HB := hid hb
  have HN := hid hn
  have hae := arr_eq
  clear ha hb hn
  go_enter Try.func25, Try.ntmps25
  go_wp2_with fail
  go_loopw [5] (fun iv W => ∃ a : Nat, a ≤ n ∧ iv = .int .i64 a ∧ Hid (Kept none' w W)) (fun iv _ => n - (intOf iv).toNat)
  case atStart => exact ⟨0, Nat.zero_le _, rfl, hid (Kept.refl _ _)⟩
  case round =>
    obtain ⟨a, ha, rfl, hK⟩ := hrel
    by_cases hlt : a < n
    · have hai : (a : Int) < (n : Int) := by omega
      obtain ⟨ba, pa, rfl, -, hac⟩ := HA.out.resolve_left (by omega)
      obtain ⟨bb, pb, rfl, -, hbc⟩ := HB.out.resolve_left (by omega)
      obtain ⟨d0, d1, d2, d3, d4, d5, d6, d7, d8, d9, d10⟩ := ((hac a hlt).2.keep hK.out).c
      obtain ⟨e0, e1, e2, e3, e4, e5, e6, e7, e8, e9, e10⟩ := ((hbc a hlt).2.keep hK.out).c
      have HLT := hid hlt
      generalize pg a = p at *
      clear hac hbc HA HB hlt ha
      go_wp2_with fail
      go_quiet (fail)
      go_wp2_with fail
      have hw : wrap64 ((a : Int) + 1) = ((a + 1 : Nat) : Int) := by have := HN.out; have := HLT.out; rw [wrap64]; omega
      rw [hw]
      exact ⟨⟨a + 1, by have := HLT.out; omega, rfl, hid (none_trans hK.out (drewN_kept wr nq))⟩, by have := HLT.out; simp only [intOf, Int.toNat_natCast]; omega⟩
    · have hai : ¬ (a : Int) < (n : Int) := by omega
      go_wp2_with fail
      go_ret
      exact ⟨rfl, hK.out⟩
/-- A row of words can be read. -/
theorem src_at {w : World} {v : Value} {zs : List Nat} (h : Src w v zs) : ∃ so sc, v = .slice so zs.length sc ∧ ∀ W, Kept none' w W → ∀ j, j < zs.length → ∃ bb oo, so = some ⟨bb, oo, none⟩ ∧ W.cell? ⟨bb, oo + j, none⟩ = some (.int .u64 ((zs.getD j 0 : Nat) : Int)) := by
  obtain ⟨-, so, sc, rfl, hsc⟩ := h
  refine ⟨so, sc, rfl, fun W hW j hj => ?_⟩
  rcases hsc with e | ⟨ad, rfl, -, hc'⟩
  · rw [e] at hj; simp at hj
  · have g0 := hc' 0 (by omega)
    have e0 : ad.add 0 = ad := by simp [Addr.add]
    rw [e0] at g0
    obtain ⟨bb, oo, s⟩ := ad
    cases s with
    | some s => simp [World.cell?] at g0; split at g0 <;> simp at g0
    | none =>
      have := hc' j (by omega)
      rw [Addr.add_lit] at this
      exact ⟨bb, oo, rfl, hW.cell (fun x => x) this⟩
theorem Alike_yes (I : Img) (V U : ImV) (w : World) (hI : ImD w I V) (hU : ImD w I U) (hpr : ∀ i, i < I.no → (I.pr i).length ≤ 9223372036854775807) :
    Calls Try.prog 16 #[imA I V, imA I U] w fun e w' => e = .returned (.bool true) ∧ Kept none' w w' := by
  obtain ⟨⟨ma, mc, hm⟩, ⟨pa, pc, hp⟩, ⟨ra, rc, hr⟩, ⟨ha, hc, hh⟩, ⟨ta, tc, ht⟩, -⟩ := hI.sl
  obtain ⟨⟨ma', mc', hm'⟩, ⟨pa', pc', hp'⟩, ⟨ra', rc', hr'⟩, ⟨ha', hc', hh'⟩, ⟨ta', tc', ht'⟩, -⟩ := hU.sl
  obtain ⟨vm, vp, vr, vh, vt⟩ := V
  obtain ⟨um, up, ur, uh, ut⟩ := U
  dsimp only at hm hp hr hh ht hm' hp' hr' hh' ht'
  subst hm hp hr hh ht hm' hp' hr' hh' ht'
  have OK := hid hI.ok
  have HPR := hid hpr
  have DI := hid hI
  have DU := hid hU
  clear hI hU hpr
  go_enter Try.func16, Try.ntmps16
  go_upto_region 1 with fail
  refine gen_world (P := fun W => Code.wp Try.prog _ _ _ W) _ ?_
  intro W0 hW0
  have k0 : Kept none' w W0 := hW0 ▸ ((Kept.refl _ w).alloc _).alloc _
  have IA := hid (show ImAt W0 w.heap.size I ⟨.slice ma I.nm mc, .slice pa I.np pc, .slice ra I.no rc, .slice ha I.hd.length hc, .slice ta I.pt.length tc⟩ from ⟨by
    subst hW0
    show ((w.heap.push _).push _)[w.heap.size]? = _
    rw [Array.getElem?_push, if_neg (by simp), Array.getElem?_push, if_pos rfl], DI.out.keep k0⟩)
  have IB := hid (show ImAt W0 (w.heap.size + 1) I ⟨.slice ma' I.nm mc', .slice pa' I.np pc', .slice ra' I.no rc', .slice ha' I.hd.length hc', .slice ta' I.pt.length tc'⟩ from ⟨by
    subst hW0
    exact heap_new2 w _ _, DU.out.keep k0⟩)
  have K0 := hid k0
  clear hW0 k0 DI DU
  obtain ⟨nm, hnm⟩ : ∃ n, n = I.nm := ⟨_, rfl⟩
  obtain ⟨np, hnp⟩ : ∃ n, n = I.np := ⟨_, rfl⟩
  obtain ⟨no, hno⟩ : ∃ n, n = I.no := ⟨_, rfl⟩
  obtain ⟨nh, hnh⟩ : ∃ n, n = I.hd.length := ⟨_, rfl⟩
  obtain ⟨nt, hnt⟩ : ∃ n, n = I.pt.length := ⟨_, rfl⟩
  have NO := hid hno
  have NH := hid hnh
  have NT := hid hnt
  have B3 := hid (show no ≤ 9223372036854775807 by rw [hno]; exact OK.out.no)
  have B4 := hid (show nh ≤ 9223372036854775807 by rw [hnh]; exact OK.out.nh)
  have B5 := hid (show nt ≤ 9223372036854775807 by rw [hnt]; exact OK.out.nt)
  have S2 := hid (Same2_yes _ _ _ _ W0 IA.out.d.mem IB.out.d.mem)
  rw [← hnm, ← hnp, ← hno, ← hnh, ← hnt] at IA IB
  dsimp only at S2
  rw [← hnm] at S2
  clear hnm hno hnh hnt
  obtain ⟨c0, c1, c2, c3, c4, c5, c6, c7, c8⟩ := IA.out.cells
  obtain ⟨d0, d1, d2, d3, d4, d5, d6, d7, d8⟩ := IB.out.cells
  generalize w.heap.size + 1 = ub at *
  generalize w.heap.size = vb at *
  go_wp2_with fail
  refine S2.out.mono ?_
  rintro e w1 ⟨rfl, k1⟩
  have SP := hid (SamePg_yes _ _ _ _ w1 (IA.out.keep k1).d.pgs (IB.out.keep k1).d.pgs)
  dsimp only at SP
  replace IA := hid (IA.out.keep k1)
  replace IB := hid (IB.out.keep k1)
  have K1 := hid (none_trans K0.out k1)
  clear k1 K0 S2 hnp c0 c1 c2 c3 c4 c5 c6 c7 c8 d0 d1 d2 d3 d4 d5 d6 d7 d8
  obtain ⟨c0, c1, c2, c3, c4, c5, c6, c7, c8⟩ := IA.out.cells
  obtain ⟨d0, d1, d2, d3, d4, d5, d6, d7, d8⟩ := IB.out.cells
  go_wp2_with fail
  refine SP.out.mono ?_
  rintro e w2 ⟨rfl, k2⟩
  replace IA := hid (IA.out.keep k2)
  replace IB := hid (IB.out.keep k2)
  have K2 := hid (none_trans K1.out k2)
  clear k2 K1 SP c0 c1 c2 c3 c4 c5 c6 c7 c8 d0 d1 d2 d3 d4 d5 d6 d7 d8
  obtain ⟨c0, c1, c2, c3, c4, c5, c6, c7, c8⟩ := IA.out.cells
  obtain ⟨d0, d1, d2, d3, d4, d5, d6, d7, d8⟩ := IB.out.cells
  go_wp2_with fail
  clear c0 c1 c2 c3 c4 c5 c6 c7 c8 d0 d1 d2 d3 d4 d5 d6 d7 d8
  go_loopw [5] (fun iv W => ∃ a : Nat, a ≤ no ∧ iv = .int .i64 a ∧ Hid (Kept none' w2 W)) (fun iv _ => no - (intOf iv).toNat)
  case atStart => exact ⟨0, Nat.zero_le _, rfl, hid (Kept.refl _ _)⟩
  case round =>
    obtain ⟨a, hla, rfl, hK⟩ := hrel
    obtain ⟨c0, c1, c2, c3, c4, c5, c6, c7, c8⟩ := (IA.out.keep hK.out).cells
    obtain ⟨d0, d1, d2, d3, d4, d5, d6, d7, d8⟩ := (IB.out.keep hK.out).cells
    by_cases hlt : a < no
    · have hai : (a : Int) < (no : Int) := by omega
      have hlt' : a < I.no := by rw [← NO.out]; exact hlt
      obtain ⟨bl, o, so, sc, rfl, hcc, SA⟩ : ∃ bl o so sc, ra = some ⟨bl, o, none⟩ ∧ (∀ W, Kept none' w2 W → W.cell? ⟨bl, o + a, none⟩ = some (.slice so (I.pr a).length sc)) ∧ Hid (∀ W, Kept none' w2 W → ∀ j, j < (I.pr a).length → ∃ bb oo, so = some ⟨bb, oo, none⟩ ∧ W.cell? ⟨bb, oo + j, none⟩ = some (.int .u64 (((I.pr a).getD j 0 : Nat) : Int))) := by
        obtain ⟨ws, -, oa, oc, e1, e2⟩ := IA.out.d.prs
        cases e1
        rcases e2 with e2 | ⟨bl, o, rfl, -, hc'⟩
        · omega
        · obtain ⟨q1, q2⟩ := hc' a hlt'
          obtain ⟨so, sc, q3, q4⟩ := src_at q2
          exact ⟨bl, o, so, sc, rfl, fun W hW => by rw [← q3]; exact hW.cell (fun x => x) q1, hid q4⟩
      obtain ⟨bl', o', so', sc', rfl, hcc', SB⟩ : ∃ bl o so sc, ra' = some ⟨bl, o, none⟩ ∧ (∀ W, Kept none' w2 W → W.cell? ⟨bl, o + a, none⟩ = some (.slice so (I.pr a).length sc)) ∧ Hid (∀ W, Kept none' w2 W → ∀ j, j < (I.pr a).length → ∃ bb oo, so = some ⟨bb, oo, none⟩ ∧ W.cell? ⟨bb, oo + j, none⟩ = some (.int .u64 (((I.pr a).getD j 0 : Nat) : Int))) := by
        obtain ⟨ws, -, oa, oc, e1, e2⟩ := IB.out.d.prs
        cases e1
        rcases e2 with e2 | ⟨bl, o, rfl, -, hc'⟩
        · omega
        · obtain ⟨q1, q2⟩ := hc' a hlt'
          obtain ⟨so, sc, q3, q4⟩ := src_at q2
          exact ⟨bl, o, so, sc, rfl, fun W hW => by rw [← q3]; exact hW.cell (fun x => x) q1, hid q4⟩
      have BN := hid (HPR.out a hlt')
      generalize I.pr a = zs at *
      obtain ⟨n, hn⟩ : ∃ n, n = zs.length := ⟨_, rfl⟩
      rw [← hn] at hcc hcc' SA SB BN
      have f1 := hcc wr hK.out
      have f2 := hcc' wr hK.out
      have HCC := hid hcc
      have HCC' := hid hcc'
      have HLT := hid hlt
      clear hn hcc hcc' hlt hlt' hla
      go_wp2_with fail
      go_quiet (fail)
      clear f1 f2 c0 c1 c2 c3 c4 c5 c6 c7 c8 d0 d1 d2 d3 d4 d5 d6 d7 d8
      have KQ := hid (none_trans hK.out (drewN_kept wr nq))
      generalize wr.drewN nq = wq at *
      clear hK
      obtain ⟨c0, c1, c2, c3, c4, c5, c6, c7, c8⟩ := (IA.out.keep KQ.out).cells
      obtain ⟨d0, d1, d2, d3, d4, d5, d6, d7, d8⟩ := (IB.out.keep KQ.out).cells
      go_wp2_with fail
      clear c0 c1 c2 c3 c4 c5 c6 c7 c8 d0 d1 d2 d3 d4 d5 d6 d7 d8
      go_loopw [6] (fun iv W => ∃ b : Nat, b ≤ n ∧ iv = .int .i64 b ∧ Hid (Kept none' w2 W)) (fun iv _ => n - (intOf iv).toNat)
      case atStart => exact ⟨0, Nat.zero_le _, rfl, KQ⟩
      case round =>
        obtain ⟨b, hlb, rfl, hJ⟩ := hrel
        obtain ⟨c0, c1, c2, c3, c4, c5, c6, c7, c8⟩ := (IA.out.keep hJ.out).cells
        obtain ⟨d0, d1, d2, d3, d4, d5, d6, d7, d8⟩ := (IB.out.keep hJ.out).cells
        have f1 := HCC.out _ hJ.out
        have f2 := HCC'.out _ hJ.out
        by_cases hlt : b < n
        · have hbi : (b : Int) < (n : Int) := by omega
          obtain ⟨bb, oo, rfl, g1⟩ := SA.out _ hJ.out b hlt
          obtain ⟨bb', oo', rfl, g2⟩ := SB.out _ hJ.out b hlt
          have HLB := hid hlt
          clear hlt hlb
          go_wp2_with fail
          go_quiet (fail)
          go_wp2_with fail
          have hw : wrap64 ((b : Int) + 1) = ((b + 1 : Nat) : Int) := by have := BN.out; have := HLB.out; rw [wrap64]; omega
          rw [hw]
          exact ⟨⟨b + 1, by have := HLB.out; omega, rfl, hid (none_trans hJ.out (drewN_kept _ nq))⟩, by have := HLB.out; simp only [intOf, Int.toNat_natCast]; omega⟩
        · have hbi : ¬ (b : Int) < (n : Int) := by omega
          go_wp2_with fail
          have hw : wrap64 ((a : Int) + 1) = ((a + 1 : Nat) : Int) := by have := B3.out; have := HLT.out; rw [wrap64]; omega
          go_round
          case rel => exact ⟨a + 1, by have := HLT.out; omega, by rw [hw], hJ⟩
          case measure => rw [hw]; have := HLT.out; simp only [intOf, Int.toNat_natCast]; omega
    · have hai : ¬ (a : Int) < (no : Int) := by omega
      have K3 := hid hK.out
      clear hK
      go_wp2_with fail
      clear c0 c1 c2 c3 c4 c5 c6 c7 c8 d0 d1 d2 d3 d4 d5 d6 d7 d8
      go_loopw [7] (fun iv W => ∃ b : Nat, b ≤ nh ∧ iv = .int .i64 b ∧ Hid (Kept none' w2 W)) (fun iv _ => nh - (intOf iv).toNat)
      case atStart => exact ⟨0, Nat.zero_le _, rfl, K3⟩
      case round =>
        obtain ⟨b, hlb, rfl, hJ⟩ := hrel
        obtain ⟨c0, c1, c2, c3, c4, c5, c6, c7, c8⟩ := (IA.out.keep hJ.out).cells
        obtain ⟨d0, d1, d2, d3, d4, d5, d6, d7, d8⟩ := (IB.out.keep hJ.out).cells
        by_cases hlt : b < nh
        · have hbi : (b : Int) < (nh : Int) := by omega
          obtain ⟨bl, o, rfl, g1⟩ : ∃ bl o, ha = some ⟨bl, o, none⟩ ∧ wr.cell? ⟨bl, o + b, none⟩ = some (.int .u64 ((I.hd.getD b 0 : Nat) : Int)) := by
            obtain ⟨-, oa, oc, e1, e2⟩ := (IA.out.keep hJ.out).d.hds
            cases e1
            rcases e2 with e2 | ⟨bl, o, rfl, -, hc'⟩
            · rw [NH.out] at hlt; omega
            · exact ⟨bl, o, rfl, (hc' b (by rw [← NH.out]; exact hlt)).2⟩
          obtain ⟨bl', o', rfl, g2⟩ : ∃ bl o, ha' = some ⟨bl, o, none⟩ ∧ wr.cell? ⟨bl, o + b, none⟩ = some (.int .u64 ((I.hd.getD b 0 : Nat) : Int)) := by
            obtain ⟨-, oa, oc, e1, e2⟩ := (IB.out.keep hJ.out).d.hds
            cases e1
            rcases e2 with e2 | ⟨bl, o, rfl, -, hc'⟩
            · rw [NH.out] at hlt; omega
            · exact ⟨bl, o, rfl, (hc' b (by rw [← NH.out]; exact hlt)).2⟩
          have HLB := hid hlt
          clear hlt hlb
          go_wp2_with fail
          go_quiet (fail)
          go_wp2_with fail
          have hw : wrap64 ((b : Int) + 1) = ((b + 1 : Nat) : Int) := by have := B4.out; have := HLB.out; rw [wrap64]; omega
          rw [hw]
          exact ⟨⟨b + 1, by have := HLB.out; omega, rfl, hid (none_trans hJ.out (drewN_kept _ nq))⟩, by have := HLB.out; simp only [intOf, Int.toNat_natCast]; omega⟩
        · have hbi : ¬ (b : Int) < (nh : Int) := by omega
          have K4 := hid hJ.out
          clear hJ
          go_wp2_with fail
          clear c0 c1 c2 c3 c4 c5 c6 c7 c8 d0 d1 d2 d3 d4 d5 d6 d7 d8
          go_loopw [8] (fun iv W => ∃ b : Nat, b ≤ nt ∧ iv = .int .i64 b ∧ Hid (Kept none' w2 W)) (fun iv _ => nt - (intOf iv).toNat)
          case atStart => exact ⟨0, Nat.zero_le _, rfl, K4⟩
          case round =>
            obtain ⟨b2, hlb2, rfl, hJ⟩ := hrel
            obtain ⟨c0, c1, c2, c3, c4, c5, c6, c7, c8⟩ := (IA.out.keep hJ.out).cells
            obtain ⟨d0, d1, d2, d3, d4, d5, d6, d7, d8⟩ := (IB.out.keep hJ.out).cells
            by_cases hlt : b2 < nt
            · have hbi2 : (b2 : Int) < (nt : Int) := by omega
              obtain ⟨bl, o, rfl, g1⟩ : ∃ bl o, ta = some ⟨bl, o, none⟩ ∧ wr.cell? ⟨bl, o + b2, none⟩ = some (.int .i64 (I.pt.getD b2 0)) := by
                obtain ⟨-, oa, oc, e1, e2⟩ := (IA.out.keep hJ.out).d.pts
                cases e1
                rcases e2 with e2 | ⟨bl, o, rfl, -, hc'⟩
                · rw [NT.out] at hlt; omega
                · exact ⟨bl, o, rfl, (hc' b2 (by rw [← NT.out]; exact hlt)).2⟩
              obtain ⟨bl', o', rfl, g2⟩ : ∃ bl o, ta' = some ⟨bl, o, none⟩ ∧ wr.cell? ⟨bl, o + b2, none⟩ = some (.int .i64 (I.pt.getD b2 0)) := by
                obtain ⟨-, oa, oc, e1, e2⟩ := (IB.out.keep hJ.out).d.pts
                cases e1
                rcases e2 with e2 | ⟨bl, o, rfl, -, hc'⟩
                · rw [NT.out] at hlt; omega
                · exact ⟨bl, o, rfl, (hc' b2 (by rw [← NT.out]; exact hlt)).2⟩
              have HLB := hid hlt
              clear hlt hlb2
              go_wp2_with fail
              go_quiet (fail)
              go_wp2_with fail
              have hw : wrap64 ((b2 : Int) + 1) = ((b2 + 1 : Nat) : Int) := by have := B5.out; have := HLB.out; rw [wrap64]; omega
              rw [hw]
              exact ⟨⟨b2 + 1, by have := HLB.out; omega, rfl, hid (none_trans hJ.out (drewN_kept _ nq))⟩, by have := HLB.out; simp only [intOf, Int.toNat_natCast]; omega⟩
            · have hbi2 : ¬ (b2 : Int) < (nt : Int) := by omega
              have K5 := hid hJ.out
              clear hJ
              go_wp2_with fail
              go_ret
              exact ⟨rfl, none_trans K2.out K5.out⟩
end Go.Proofs.Ytcgbefmjnhkdgaa
/- An image that came in is not too great to be copied. -/
namespace Go.Proofs.Ytcgbefmjnhkdgaa
open Go.ChangeShapes Go.WideShapes Go.ChangeAt Go.RowKit Go.Deep
set_option linter.unusedVariables false
theorem sl_wt {H : Type} {enc : TypeId × Value → H} {W : World} {t e : TypeId} (hu : Try.prog.underlying t = some (.slice e)) {fuel : Nat} {v : Value} {x : DataW H × List MemPlace}
    (hf : DataW.trod enc Try.prog W 0 (fun _ => true) true fuel t [v] = some x) (hw : ∀ k ∈ x.1.weights Try.prog t, k ≤ reachBytes) {a : Option Addr} {n c : Nat} (hv : v = .slice a n c) : n * Try.prog.bytesOf e ≤ reachBytes := by
  rcases open_slice hu hf with ⟨hcs, _⟩ | ⟨x', len, cap, m, nn, D, Pl, hcs, _, hl, hm, hmm, hx, _⟩
  · simp at hcs
    rw [hcs] at hv
    cases hv
    omega
  · simp at hcs
    rw [hcs] at hv
    cases hv
    subst hx
    have := hw ((n + (m - n)) * Try.prog.bytesOf e) (by simp [DataW.weights, hu])
    exact Nat.le_trans (Nat.mul_le_mul_right _ (Nat.le_add_right n (m - n))) this
theorem wtAll_mem {H : Type} {P : Program} {e : TypeId} : ∀ {l : List (DataW H)} {d : DataW H}, d ∈ l → ∀ k ∈ d.weights P e, k ∈ DataW.weightsAll P e l
  | x :: l, d, h, k, hk => by
    simp only [DataW.weightsAll, List.mem_append]
    rcases List.mem_cons.1 h with rfl | h
    · exact .inl hk
    · exact .inr (wtAll_mem h k hk)
theorem by_u8 : Try.prog.bytesOf 5 = 1 := by kernel_rfl
theorem by_pg : Try.prog.bytesOf 39 = 88 := by kernel_rfl
theorem by_ws : Try.prog.bytesOf 28 = 24 := by kernel_rfl
theorem by_u64 : Try.prog.bytesOf 22 = 8 := by kernel_rfl
theorem by_int : Try.prog.bytesOf 3 = 8 := by kernel_rfl
theorem pr_wt {H : Type} {enc : TypeId × Value → H} {W : World} {fuel : Nat} {v : Value} {x : DataW H × List MemPlace}
    (hf : DataW.trod enc Try.prog W 0 (fun _ => true) true fuel 27 [v] = some x) (hw : ∀ k ∈ x.1.weights Try.prog 27, k ≤ reachBytes) {n : Nat} {ws : Nat → Value} {zs : Nat → List Nat}
    (hs : SlIn W v n fun bl o i => W.cell? ⟨bl, o + i, none⟩ = some (ws i) ∧ Src W (ws i) (zs i)) : ∀ i, i < n → (zs i).length * 8 ≤ reachBytes := by
  intro i hi
  obtain ⟨-, oa, oc, hv, hc⟩ := hs
  rcases hc with hc | ⟨bl, o, rfl, -, hc⟩
  · omega
  obtain ⟨h1, h2⟩ := hc i hi
  rcases open_slice1 Try.underlying27 cells_wsl hf with ⟨hcs, _⟩ | ⟨x', len, cap, m, nn, V, D, Pl, hcs, _, hl, hm, hmm, hx, hcell⟩
  · simp at hcs
    rw [hcs] at hv
    cases hv
  · simp at hcs
    rw [hcs] at hv
    cases hv
    simp only [if_true] at hmm
    subst hmm
    obtain ⟨g1, g2⟩ := hcell i (by omega)
    rw [Addr.add_lit, h1] at g1
    have ev : V i = ws i := (Option.some.inj g1).symm
    rw [ev] at g2
    obtain ⟨-, so, sc, hws, -⟩ := h2
    have hwd : ∀ k ∈ (D i).weights Try.prog 28, k ≤ reachBytes := fun k hk => hw k (by
      rw [hx]
      simp only [DataW.weights, Try.underlying27, List.mem_cons, List.mem_append]
      exact .inr (.inl (wtAll_mem (List.mem_map.2 ⟨i, List.mem_range.2 hi, rfl⟩) k hk)))
    have := sl_wt Try.underlying28 g2 hwd hws
    rwa [by_u64] at this
set_option maxRecDepth 8000 in
theorem image_sized {H : Type} {enc : TypeId × Value → H} {W : World} {d : DataW H} {p : List MemPlace} {I : Img} {V : ImV}
    (h : DataW.Trod enc Try.prog W 0 (fun _ => true) true 31 (imA I V) d p) (hw : ∀ k ∈ d.weights Try.prog 31, k ≤ reachBytes) (hI : ImD W I V) : ImZ I := by
  obtain ⟨fuel, hf⟩ := h
  obtain ⟨xs, nn, -, hd, hlen, hxl, hfld⟩ := DataW.trod_struct Try.underlying31 hf
  simp only [Value.cells] at hfld
  match xs, hxl with
  | [y0, y1, y2, y3, y4, y5, y6], _ =>
    have g2 := hfld 2 _ rfl
    have g3 := hfld 3 _ rfl
    have g4 := hfld 4 _ rfl
    have g5 := hfld 5 _ rfl
    have g6 := hfld 6 _ rfl
    simp [cells_bsl] at g2
    simp [cells_psl] at g3
    simp [cells_wws] at g4
    simp [cells_wsl] at g5
    simp [cells_isl] at g6
    have e : d = .agg [y0.1, y1.1, y2.1, y3.1, y4.1, y5.1, y6.1] := by
      have := congrArg Prod.fst hd
      simpa using this
    subst e
    have hw' : ∀ k ∈ DataW.weightsEach Try.prog [24, 3, 25, 26, 27, 28, 29] [y0.1, y1.1, y2.1, y3.1, y4.1, y5.1, y6.1], k ≤ reachBytes := fun k hk => hw k (by
      simp only [DataW.weights, Try.underlying31]
      exact hk)
    have w2 : ∀ k ∈ y2.1.weights Try.prog 25, k ≤ reachBytes := fun k hk => hw' k (DataW.weights_mem_each (j := 2) rfl rfl k hk)
    have w3 : ∀ k ∈ y3.1.weights Try.prog 26, k ≤ reachBytes := fun k hk => hw' k (DataW.weights_mem_each (j := 3) rfl rfl k hk)
    have w4 : ∀ k ∈ y4.1.weights Try.prog 27, k ≤ reachBytes := fun k hk => hw' k (DataW.weights_mem_each (j := 4) rfl rfl k hk)
    have w5 : ∀ k ∈ y5.1.weights Try.prog 28, k ≤ reachBytes := fun k hk => hw' k (DataW.weights_mem_each (j := 5) rfl rfl k hk)
    have w6 : ∀ k ∈ y6.1.weights Try.prog 29, k ≤ reachBytes := fun k hk => hw' k (DataW.weights_mem_each (j := 6) rfl rfl k hk)
    obtain ⟨⟨ma, mc, hm⟩, ⟨pa, pc, hp⟩, ⟨ra, rc, hr⟩, ⟨ha, hc, hh⟩, ⟨ta, tc, ht⟩, -⟩ := hI.sl
    obtain ⟨ws, hps⟩ := hI.prs
    have s2 := sl_wt Try.underlying25 g2 w2 hm
    have s3 := sl_wt Try.underlying26 g3 w3 hp
    have s4 := sl_wt Try.underlying27 g4 w4 hr
    have s5 := sl_wt Try.underlying28 g5 w5 hh
    have s6 := sl_wt Try.underlying29 g6 w6 ht
    have s7 := pr_wt g4 w4 hps
    rw [by_u8] at s2
    rw [by_pg] at s3
    rw [by_ws] at s4
    rw [by_u64] at s5
    rw [by_int] at s6
    have hr47 := reachBytes_lt
    exact ⟨by omega, by omega, by omega, fun i hi => by have := s7 i hi; omega, by omega, by omega⟩
end Go.Proofs.Ytcgbefmjnhkdgaa
/- WalkKept: rows of blocks that are written over, and grow. -/
namespace Go.Proofs.Ytcgbefmjnhkdgaa
open Go.RowKit
set_option linter.unusedVariables false
theorem RBk.keepS {w W : World} {v : Value} {l : List (Nat × Nat)} {S : Nat → Prop} (h : RBk w v l) (hk : Kept S w W) (hS : ∀ b, v.ownBlock = some b → ¬ S b) : RBk W v l := by
  obtain ⟨oa, oc, rfl, h2⟩ := h
  refine ⟨oa, oc, rfl, ?_⟩
  rcases h2 with h2 | ⟨g, rfl, hg, hc⟩
  · exact .inl h2
  · have hn := hS g rfl
    exact .inr ⟨g, rfl, Nat.lt_of_lt_of_le hg hk.size, fun j hj => ⟨hk.cell hn (hc j hj).1, hk.cell hn (hc j hj).2⟩⟩
/-- An append, told whole: in place, or to a new block. -/
theorem GS.pushT {w0 W : World} {e : TypeId} {size : Nat} {v : Value} {n : Nat} {xs : List Value} (h : GS w0 W e size v n xs) (t : TypeId) (i : TypeInfo) (z : Value) (bytes : Nat)
    (ht : Try.prog.underlying t = some (.slice e)) (hi : Try.prog.info? e = some i) (hz : i.zero = some z) (hs : i.size = size) (hby : i.bytes = bytes) (hzs : z.cells.size = size) (hsz : 0 < size)
    (a : Addr) (c m : Nat) (hm : 0 < m) (news : List Value) (hl' : news.length = m * size) (hnews : ∀ j u, news[j]? = some u → W.cell? (a.add j) = some u) (h1 : ∀ u ∈ news, u.oneCell' = true) (h63 : n + m ≤ maxLen) (hbb : (n + m) * bytes ≤ 140737488355328) :
    ∃ g cap w', (∀ ty, (Builtin.append_ #[t, t] ty #[v, .slice (some a) m c]).run Try.prog W = .ok (.slice (some ⟨g, 0, none⟩) (n + m) cap) w') ∧ GS w0 w' e size (.slice (some ⟨g, 0, none⟩) (n + m) cap) (n + m) (xs ++ news) ∧ ((v.ownBlock = some g ∧ Kept (fun b => b = g) W w') ∨ (W.heap.size ≤ g ∧ Kept none' W w')) := by
  have ho := h.own
  by_cases hr : ∃ g cap, v = .slice (some ⟨g, 0, none⟩) n cap ∧ n + m ≤ cap
  · obtain ⟨g, cap, rfl, hroom⟩ := hr
    obtain ⟨w', hrun, hown, hgr⟩ := run_append_fits (P := Try.prog) W 0 t 0 e i size ht hi hs g n cap xs ho a m c news hl' hnews h1 hroom
    have hg := h.new g cap rfl
    have hk := grown_kept' hgr
    refine ⟨g, cap, w', fun ty => ?_, ⟨hown, fun g' cap' e => ?_, h.kp.trans hk (fun _ _ x => x) (fun x hx e => ?_)⟩, .inl ⟨rfl, hk.mono fun x hx e => by cases e; rfl⟩⟩
    · rw [← hrun]; simp [Builtin.append_]
    · simp at e; omega
    · cases e; omega
  · have key : ∃ v' w', (Builtin.append_ #[t, t] 0 #[v, .slice (some a) m c]).run Try.prog W = .ok v' w' ∧ w'.ownsRow W.heap.size e size v' (n + m) (xs ++ news) ∧ Kept none' W w' := by
      rcases ho.2 with ⟨rfl, h0⟩ | ⟨g, cap, cur, rfl, hb, hg, hnc, hcm, hcs, htake⟩
      · subst h0
        have : xs = [] := List.eq_nil_of_length_eq_zero (by rw [ho.1, Nat.zero_mul])
        subst this
        obtain ⟨v', w', hrun, hown, hgr, _⟩ := run_append_own (P := Try.prog) W W.heap.size t 0 e i z size bytes ht hi hz hs hby hzs hsz (.slice none 0 0) 0 [] (World.ownsRow_nil _ _ _ _) a m c news hl' hnews h1 h63 hbb (Nat.le_refl _)
        exact ⟨v', w', hrun, hown, (grown_kept' hgr).mono (fun _ _ e => by cases e)⟩
      · obtain ⟨v', w', hrun, hown, hgr⟩ := run_append_arg_grows (P := Try.prog) W t 0 e i z size bytes ht hi hz hs hby hzs hsz ⟨g, 0, none⟩ n cap xs ho.1 (fun j u hj => by
          rw [Addr.add_lit, Nat.zero_add]
          rw [← htake, List.getElem?_take] at hj
          split at hj
          · simp only [World.cell?, hg]
            rw [← Array.getElem?_toList, hj]
            rfl
          · cases hj) a m c news hl' hnews (Nat.lt_of_not_le fun hle => hr ⟨g, cap, rfl, hle⟩) h63 hbb
        exact ⟨v', w', hrun, hown, (grown_kept' hgr).mono (fun _ _ e => by cases e)⟩
    obtain ⟨v', w', hrun, hown, hk⟩ := key
    rcases hown.2 with ⟨_, h0⟩ | ⟨g, cap, cur, rfl, hb, hg, h3⟩
    · omega
    · refine ⟨g, cap, w', fun ty => ?_, ⟨⟨hown.1, .inr ⟨g, cap, cur, rfl, Nat.zero_le _, hg, h3⟩⟩, fun g' cap' e => ?_, none_trans h.kp hk⟩, .inr ⟨hb, hk⟩⟩
      · rw [← hrun]; simp [Builtin.append_]
      · simp at e
        have := h.kp.size
        omega
/-- A block of a row is written over. -/
theorem GB.put {w0 W : World} {g n cap : Nat} {l : List (Nat × Nat)} (h : GB w0 W (.slice (some ⟨g, 0, none⟩) n cap) l) {j : Nat} (hj : j < l.length) (p s : Nat) :
    GB w0 ((W.setCell ⟨g, j * 2, none⟩ (.int .u64 (p : Int))).setCell ⟨g, j * 2 + 1, none⟩ (.int .u64 (s : Int))) (.slice (some ⟨g, 0, none⟩) n cap) (l.set j (p, s)) := by
  have hk : Kept (fun b => b = g) W ((W.setCell ⟨g, j * 2, none⟩ (.int .u64 (p : Int))).setCell ⟨g, j * 2 + 1, none⟩ (.int .u64 (s : Int))) := ((Kept.refl (fun b => b = g) W).setCell (p := ⟨g, j * 2, none⟩) rfl _).setCell (p := ⟨g, j * 2 + 1, none⟩) rfl _
  have hl2 := blV_len l
  have hl3 : (blV (l.set j (p, s))) = ((blV l).set (j * 2) (.int .u64 (p : Int))).set (j * 2 + 1) (.int .u64 (s : Int)) := by
    clear h hk hl2
    induction l generalizing j with
    | nil => simp at hj
    | cons b l ih =>
      cases j with
      | zero => rfl
      | succ j =>
        show Value.int .u64 (b.1 : Int) :: Value.int .u64 (b.2 : Int) :: blV (l.set j (p, s)) = _
        rw [ih (by simpa using hj), show (j + 1) * 2 = j * 2 + 1 + 1 by omega]
        rfl
  rcases h.own.2 with ⟨e, _⟩ | ⟨g', cap', cur, e, hb, hg, h1, h2, h3, h4⟩
  · cases e
  · have eg : g = g' := by
      injection e with e1
      injection e1 with e2
      injection e2
    have ec : n = l.length ∧ cap = cap' := by
      injection e with e1 e2 e3
      exact ⟨e2, e3⟩
    obtain ⟨ec1, ec2⟩ := ec
    subst eg ec2
    have hg1 := heap_set hg (j * 2) (.int .u64 (p : Int))
    have hg2 := heap_set hg1 (j * 2 + 1) (.int .u64 (s : Int))
    refine ⟨⟨?_, .inr ⟨g, cap, _, ?_, hb, hg2, ?_, h2, ?_, ?_⟩⟩, fun g' cap' e => ?_, h.kp.trans hk (fun _ _ x => x) (fun x hx e => ?_)⟩
    · rw [blV_len]
    · rw [List.length_set, ec1]
    · rw [List.length_set]; exact h1
    · simpa using h3
    · rw [hl3, List.length_set, ← h4]
      simp only [Array.toList_setIfInBounds]
      rw [List.take_set, List.take_set]
    · rw [List.length_set] at e
      exact h.new g' cap' (by rw [← e, ec1])
    · have := h.new g cap (by rw [ec1])
      omega
theorem set_rep {x : Nat × Nat} {l : List (Nat × Nat)} {j : Nat} (hj : j < l.length) : (List.replicate j x ++ l.drop j).set j x = List.replicate (j + 1) x ++ l.drop (j + 1) := by
  apply List.ext_getElem?
  intro i
  rw [List.getElem?_set]
  by_cases e : j = i
  · subst e
    rw [if_pos rfl, if_pos (by simp; omega), List.getElem?_append_left (by simp)]
    simp
  · rw [if_neg e]
    by_cases l1 : i < j
    · rw [List.getElem?_append_left (by simpa using l1), List.getElem?_append_left (by simp; omega), List.getElem?_replicate, List.getElem?_replicate, if_pos l1, if_pos (by omega)]
    · rw [List.getElem?_append_right (by simp; omega), List.getElem?_append_right (by simp; omega)]
      simp only [List.length_replicate, List.getElem?_drop]
      congr 1
      omega
theorem rep_get {x : Nat × Nat} {n j : Nat} (h : j < n) : (List.replicate n x).getD j (0, 0) = x := by simp [List.getD, h]
end Go.Proofs.Ytcgbefmjnhkdgaa
