import Derived.Test.YthglogiglimebaaGreatQf
import Derived.Test.YthglogiglimebaaGreatKps
import Derived.Deep.RegionHeld3
import Derived.Test.YthglogiglimebaaGreatQd
import Derived.Test.YthglogiglimebaaGreatQe
import Derived.Laws.StructEq
/- BuddyPlays: the law's free, word, linked. -/
namespace Go.Proofs.YthglogiglimebaaGreat
open Go.RowKit
set_option linter.unusedVariables false

set_option maxRecDepth 4000 in
set_option maxHeartbeats 1000000 in
theorem free_no {E w W lw c x t fr ls fa fc va n vc} (h : PW E w W lw c x t fr ls fa fc va n vc) (k : Int) (hk : inR (x.o + 1) k = false) :
    Calls Tryz.prog 53 #[.pointer (some ⟨lw, 0, none⟩), .int .i64 k] W fun e w' => e = .returned (.slice none 0 0) ∧ Kept none' W w' := by
  obtain ⟨c0, c1, c2, c3, c4, c5, c6, c7, c8, c9⟩ := h.law.c
  have KD := hid (fun m => (Kept.refl none' W).drewN m)
  have K0 := hid (Kept.refl none' W)
  clear h
  by_cases h1 : k < 0
  · have e1 : decide (k < 0) = true := decide_eq_true h1
    go_enter Tryz.func53, Tryz.ntmps53
    go_wp2_with fail
    go_ret
    exact ⟨rfl, K0.out⟩
  · have h2 : (x.o : Int) < k := by
      unfold inR at hk
      have := of_decide_eq_false hk
      omega
    have e1 : decide (k < 0) = false := decide_eq_false h1
    have e2 : 0 ≤ k := by omega
    have e3 : decide ((x.o : Int) < k) = true := decide_eq_true h2
    go_enter Tryz.func53, Tryz.ntmps53
    go_wp2_with fail
    go_ret
    exact ⟨rfl, K0.out⟩
set_option maxRecDepth 4000 in
set_option maxHeartbeats 1000000 in
theorem free_x {E w W lw c x t fr ls fa fc va n vc} (h : PW E w W lw c x t fr ls fa fc va n vc) (k : Nat) (hk : k ≤ x.o) :
    Calls Tryz.prog 53 #[.pointer (some ⟨lw, 0, none⟩), .int .i64 (k : Int)] W fun e w' => NewL W (freeL x t k) e w' := by
  have ho := h.nums.1
  have HFW := hid (h.sf.words hk)
  obtain ⟨X, hX⟩ : ∃ X, X = (fr k).map (ad x) := ⟨_, rfl⟩
  rw [HFW.out, ← hX]
  have HX := hid hX
  have hL2 := h.sf.len hk
  obtain ⟨L, hL⟩ : ∃ L, L = (fr k).length := ⟨_, rfl⟩
  rw [← hL] at hL2
  have HL := hid hL
  have HC := hid (fun W' (k : Kept none' W W') => show W'.cell? ⟨lw, 2, none⟩ = some (.int .i64 (x.o : Int)) ∧ W'.cell? ⟨lw, 8, none⟩ = some (.slice fa (x.o + 1) fc) from by
    obtain ⟨c0, c1, c2, c3, c4, c5, c6, c7, c8, c9⟩ := (h.keep k).law.c
    exact ⟨c2, c8⟩)
  obtain ⟨c2, c8⟩ := HC.out W (Kept.refl none' W)
  have e1 : decide ((k : Int) < 0) = false := by simp
  have e2 : decide ((x.o : Int) < (k : Int)) = false := by simp; omega
  have e3 : (k : Int) ≤ (x.o : Int) := by omega
  have e4 : decide (x.o < k) = false := decide_eq_false (by omega)
  have HB := hid h
  obtain ⟨g0, A0, C0, hfa, _, _⟩ := h.fl.get k hk
  subst hfa
  clear h hX hL
  go_enter Tryz.func53, Tryz.ntmps53
  go_wp2_with fail
  clear c2 c8 e1 e2 e4
  have hki2 : (k : Int) < ((x.o + 1 : Nat) : Int) := by omega
  have hki3 : (k : Int) < (x.o : Int) + 1 := by omega
  go_loopw [5, 6] (fun l i W' => ∃ j : Nat, j ≤ L ∧ i = .int .i64 j ∧ (∃ ga gc, l = .slice ga j gc) ∧ Hid (WL W W' l (X.take j) ∧ Kept none' W W')) (fun _ i _ => L - (intOf i).toNat)
  case atStart => exact ⟨0, by omega, rfl, ⟨_, _, rfl⟩, hid ⟨WL.nil W W (Kept.refl none' W), Kept.refl none' W⟩⟩
  case round =>
    obtain ⟨j, hj, rfl, ⟨ga, gc, rfl⟩, hR⟩ := hrel
    obtain ⟨c2, c8⟩ := HC.out _ hR.out.2
    have HW := hid (HB.out.keep hR.out.2)
    obtain ⟨g1, A, C, hfa, r0, hN⟩ := HW.out.fl.get k hk
    injection hfa with hfa
    injection hfa with hfa
    subst hfa
    rw [← HL.out] at r0
    have hXL : X.length = L := by rw [HX.out, List.length_map, HL.out]
    by_cases hlt : j < L
    · have hji : (j : Int) < (L : Int) := by omega
      have hjl : j < (fr k).length := by rw [← HL.out]; exact hlt
      obtain ⟨g2, hA, r2⟩ := hN.get hjl
      subst hA
      have hm := M.getD_mem hjl
      have TN : X.take (j + 1) = X.take j ++ [ad x ((fr k).getD j 0)] := by
        rw [take_next X (by omega), show X.getD j 0 = ad x ((fr k).getD j 0) by rw [HX.out]; exact map_getD' x _ j hjl]
      have hlen : (X.take j).length = j := by rw [List.length_take]; omega
      generalize (fr k).getD j 0 = p at *
      have hp := HW.out.sf.le hk hm
      have hlt64 := ad_lt HW.out hk hm
      have AT := hid (at_ok HW.out.law p hp (by unfold ad at hlt64; exact hlt64))
      obtain ⟨g, cap, w', hap, hw, hkp⟩ := hR.out.1.push hlen.symm (ad x p) (by omega)
      have D := hid (show WL W w' (.slice (some ⟨g, 0, none⟩) (j + 1) cap) (X.take (j + 1)) ∧ Kept none' W w' from ⟨by rw [TN]; exact hw, hkp⟩)
      have HAP := hid hap
      clear hap hw hkp hN hlen hm hlt64 TN hXL hjl
      generalize ad x p = a at *
      go_wp2_with fail
      refine AT.out.mono ?_
      rintro e w2 ⟨rfl, h2⟩
      replace h2 := h2.symm
      subst h2
      go_wp2_with (at_builtin; refine Lib.wpList_append_run _ rfl _ _ _ _ rfl (.slice ga j gc) (.slice (some ⟨wr.heap.size, 0, none⟩) 1 1) rfl rfl _ _ (HAP.out _) ?_)
      exact ⟨⟨j + 1, by omega, by simp, ⟨_, _, rfl⟩, D⟩, by simp [intOf]; omega⟩
    · obtain rfl : j = L := by omega
      have hji : ¬ (j : Int) < (j : Int) := by omega
      have D := hid (show NewL W X (.returned (.slice ga j gc)) wr from by
        have := hR.out.1
        rw [← hXL, List.take_length, hXL] at this
        refine this.lst (fun y hy => ?_)
        rw [HX.out] at hy
        obtain ⟨q, hq, rfl⟩ := List.mem_map.1 hy
        exact ad_lt HB.out hk hq)
      clear hXL hN
      go_wp2_with fail
      go_ret
      exact D.out
theorem word_x {E w W lw c x t fr ls fa fc va n vc} (h : PW E w W lw c x t fr ls fa fc va n vc) (p : Nat) (hp : M.In x.base x.n p 8) :
    Calls Tryz.prog 98 #[.pointer (some ⟨lw, 0, none⟩), .int .u64 (p : Int)] W fun e w' => e = .returned (.int .u64 ((M.word t.f (p - x.base) : Nat) : Int)) ∧ Kept none' W w' := by
  obtain ⟨g, hg⟩ := space_some h.law.bd.sp (by unfold M.In at hp; omega)
  have hs := h.law.bd.sp
  rw [hg] at hs
  have WI := hid (M.Word_in x.s g x.base x.R x.lim x.n t.f p W hs hp)
  obtain ⟨c0, c1, c2, c3, c4, c5, c6, c7, c8, c9⟩ := h.law.c
  generalize M.word t.f (p - x.base) = u at *
  clear h hs hp hg
  go_enter Tryz.func98, Tryz.ntmps98
  go_wp2_with fail
  refine WI.out.mono ?_
  rintro e w2 ⟨rfl, hk2⟩
  have K2 := hid (toK hk2)
  clear hk2
  go_wp2_with fail
  go_ret
  exact ⟨rfl, K2.out⟩
theorem Sf.link {x t fr ls} (s : Sf x t fr ls) {k : Nat} (hk : k ≤ x.o) {i : Nat} (hi : i < (fr k).length) : M.In x.base x.n (ad x ((fr k).getD i 0)) 16 ∧ M.word t.f (ad x ((fr k).getD i 0) - x.base) = ((fr k).map (ad x)).getD (i + 1) 0 ∧ M.word t.f (ad x ((fr k).getD i 0) + 8 - x.base) = if i = 0 then 0 else ((fr k).map (ad x)).getD (i - 1) 0 := by
  obtain ⟨B, s, _⟩ := s
  have hc := s.ch k hk
  have e := map_getD' x (fr k) i hi
  have hl : i < ((fr k).map (ad x)).length := by rw [List.length_map]; exact hi
  have h1 := hc.nxt i hl
  have h2 := hc.prv i hl
  have h3 := (hc.cellD hl).inn
  rw [e] at h1 h2 h3
  exact ⟨h3, h1, h2⟩
set_option maxRecDepth 4000 in
set_option maxHeartbeats 2000000 in
theorem linked_x {E w W lw c x t fr ls fa fc va n vc} (h : PW E w W lw c x t fr ls fa fc va n vc) (k : Nat) (hk : k ≤ x.o) :
    Calls Tryz.prog 56 #[.pointer (some ⟨lw, 0, none⟩), .int .i64 (k : Int)] W fun e w' => e = .returned (.bool true) ∧ Kept none' W w' := by
  have FR := hid (free_x h k hk)
  have HFW := hid (h.sf.words hk)
  have hL2 := h.sf.len hk
  have HB := hid h
  clear h
  go_enter Tryz.func56, Tryz.ntmps56
  go_wp2_with fail
  refine FR.out.mono ?_
  rintro e w1 ⟨v, rfl, hL, hk1, hN1⟩
  rw [HFW.out] at hL
  obtain ⟨_, ao, cap, hv, hne, hcs⟩ := hL.wds
  rw [List.length_map] at hv hcs
  obtain ⟨av, hav⟩ : ∃ av, av = M.adr ao := ⟨_, rfl⟩
  rw [← hav] at hv
  subst hv
  have CS := hid (show ∀ i, i < (fr k).length → ∃ g, av = some ⟨g, 0, none⟩ ∧ ∀ j, j < (fr k).length → w1.cell? ⟨g, j, none⟩ = some (.int .u64 ((((fr k).map (ad x)).getD j 0 : Nat) : Int)) from fun i hi => by
    obtain ⟨g, hg⟩ := hne (fun e => by rw [List.map_eq_nil_iff] at e; rw [e] at hi; exact absurd hi (Nat.not_lt_zero _))
    subst hg
    exact ⟨g, hav, fun j hj => (hcs g rfl).2.2 j hj⟩)
  have K1 := hid hk1
  obtain ⟨L, hl⟩ : ∃ L, L = (fr k).length := ⟨_, rfl⟩
  rw [← hl] at CS hL2 ⊢
  have HL := hid hl
  clear hL hk1 hN1 hne hcs hav FR hl HFW
  go_wp2_with fail
  go_loopw [6] (fun i W' => ∃ j : Nat, j ≤ L ∧ i = .int .i64 j ∧ Hid (Kept none' w1 W')) (fun i _ => L - (intOf i).toNat)
  case atStart => exact ⟨0, by omega, rfl, hid (Kept.refl none' w1)⟩
  case round =>
    obtain ⟨j, hj, rfl, hK⟩ := hrel
    have KW := hid (none_trans K1.out hK.out)
    by_cases hlt : j < L
    · have hji : (j : Int) < (L : Int) := by omega
      obtain ⟨g, hav, hcell⟩ := CS.out j hlt
      subst hav
      have hjl : j < (fr k).length := by rw [← HL.out]; exact hlt
      have HW := hid (HB.out.keep KW.out)
      obtain ⟨i1, i2, i3⟩ := HW.out.sf.link hk hjl
      have q0 := hK.out.cell (fun e => e) (hcell j hlt)
      rw [map_getD' x _ j hjl] at q0
      have q1 := fun (h : j + 1 < L) => hK.out.cell (fun e => e) (hcell (j + 1) h)
      have q2 := fun (h : 0 < j) => hK.out.cell (fun e => e) (hcell (j - 1) (by omega))
      have hz := fun (h : ¬ j + 1 < L) => show ((fr k).map (ad x)).getD (j + 1) 0 = 0 from M.getD_out (by rw [List.length_map, ← HL.out]; omega)
      unfold M.In at i1
      have W1 := hid (fun W' (kk : Kept none' wr W') => word_x (HW.out.keep kk) (ad x ((fr k).getD j 0)) (by unfold M.In; omega))
      have W2 := hid (fun W' (kk : Kept none' wr W') => word_x (HW.out.keep kk) (ad x ((fr k).getD j 0) + 8) (by unfold M.In; omega))
      obtain ⟨_, _, _, n4, _⟩ := HW.out.nums
      have ha : ad x ((fr k).getD j 0) + 8 < 18446744073709551616 := by omega
      rw [i2] at W1
      rw [i3] at W2
      generalize ((fr k).map (ad x)).getD (j + 1) 0 = nv at *
      generalize ((fr k).map (ad x)).getD (j - 1) 0 = bv at *
      generalize ad x ((fr k).getD j 0) = a at *
      have ha2 : ((a + 8 : Nat) : Int) = (a : Int) + 8 := by simp
      rw [ha2] at W2
      clear i1 i2 i3 n4 hcell hjl
      by_cases h1 : j + 1 < L
      · have r1 := q1 h1
        have h1i : (j : Int) + 1 < (L : Int) := by omega
        clear q1 hz
        by_cases h2 : j = 0
        · subst h2
          rw [if_pos rfl] at W2
          clear q2
          go_wp2_with fail
          refine (W1.out _ (Kept.refl none' wr)).mono ?_
          rintro e w2 ⟨rfl, hk2⟩
          have K2 := hid hk2
          have y0 := hk2.cell (fun e => e) q0
          clear hk2
          go_wp2_with fail
          refine (W2.out _ K2.out).mono ?_
          rintro e w3 ⟨rfl, hk3⟩
          have K3 := hid (none_trans hK.out (none_trans K2.out hk3))
          clear hk3
          go_wp2_with fail
          exact ⟨⟨0 + 1, by omega, by simp, K3⟩, by simp [intOf]; omega⟩
        · obtain ⟨d, rfl⟩ : ∃ d, j = d + 1 := ⟨j - 1, by omega⟩
          rw [if_neg h2] at W2
          have r2 := q2 (by omega)
          rw [Nat.add_sub_cancel] at r2
          clear q2 h2
          go_wp2_with fail
          refine (W1.out _ (Kept.refl none' wr)).mono ?_
          rintro e w2 ⟨rfl, hk2⟩
          have K2 := hid hk2
          have y0 := hk2.cell (fun e => e) q0
          clear hk2
          go_wp2_with fail
          refine (W2.out _ K2.out).mono ?_
          rintro e w3 ⟨rfl, hk3⟩
          have K3 := hid (none_trans hK.out (none_trans K2.out hk3))
          clear hk3
          go_wp2_with fail
          exact ⟨⟨d + 1 + 1, by omega, by simp, K3⟩, by simp [intOf]; omega⟩
      · have hz0 := hz h1
        subst hz0
        have h1i : ¬ (j : Int) + 1 < (L : Int) := by omega
        clear q1 hz
        by_cases h2 : j = 0
        · subst h2
          rw [if_pos rfl] at W2
          clear q2
          go_wp2_with fail
          refine (W1.out _ (Kept.refl none' wr)).mono ?_
          rintro e w2 ⟨rfl, hk2⟩
          have K2 := hid hk2
          have y0 := hk2.cell (fun e => e) q0
          clear hk2
          go_wp2_with fail
          refine (W2.out _ K2.out).mono ?_
          rintro e w3 ⟨rfl, hk3⟩
          have K3 := hid (none_trans hK.out (none_trans K2.out hk3))
          clear hk3
          go_wp2_with fail
          exact ⟨⟨0 + 1, by omega, by simp, K3⟩, by simp [intOf]; omega⟩
        · obtain ⟨d, rfl⟩ : ∃ d, j = d + 1 := ⟨j - 1, by omega⟩
          rw [if_neg h2] at W2
          have r2 := q2 (by omega)
          rw [Nat.add_sub_cancel] at r2
          clear q2 h2
          go_wp2_with fail
          refine (W1.out _ (Kept.refl none' wr)).mono ?_
          rintro e w2 ⟨rfl, hk2⟩
          have K2 := hid hk2
          have y0 := hk2.cell (fun e => e) q0
          clear hk2
          go_wp2_with fail
          refine (W2.out _ K2.out).mono ?_
          rintro e w3 ⟨rfl, hk3⟩
          have K3 := hid (none_trans hK.out (none_trans K2.out hk3))
          clear hk3
          go_wp2_with fail
          exact ⟨⟨d + 1 + 1, by omega, by simp, K3⟩, by simp [intOf]; omega⟩
    · have hji : ¬ (j : Int) < (L : Int) := by omega
      go_wp2_with fail
      go_ret
      exact ⟨rfl, KW.out⟩
end Go.Proofs.YthglogiglimebaaGreat
/- BuddyPlays: the law's mapped, looks. -/
namespace Go.Proofs.YthglogiglimebaaGreat
open Go.RowKit
set_option linter.unusedVariables false

/-- The four words. -/
theorem arr_eq (a0 a1 a2 a3 b0 b1 b2 b3 : Int) (w : World) :
    (Op.equalIn 9999 147 (.agg #[.int .u64 a0, .int .u64 a1, .int .u64 a2, .int .u64 a3]) (.agg #[.int .u64 b0, .int .u64 b1, .int .u64 b2, .int .u64 b3])).run Tryz.prog w = .ok (a0 == b0 && (a1 == b1 && (a2 == b2 && a3 == b3))) w := by
  have u3 := Tryz.underlying22
  have s3 := Tryz.isAgg22
  have z3 := Tryz.sizeOf22
  rw [show (9999 : Nat) = 9998 + 1 from rfl, Op.equalIn]
  simp only [Sem.run_bind, run_underlying Tryz.underlying147, Result.andThen_ok]
  simp only [Std.Legacy.Range.forIn_eq_forIn_range', Std.Legacy.Range.size, Nat.sub_zero, Nat.add_sub_cancel, Nat.div_one, List.range'_succ, List.range'_zero, List.forIn_cons, List.forIn_nil]
  go_simp
  by_cases h1 : a0 = b0 <;> by_cases h2 : a1 = b1 <;> by_cases h3 : a2 = b2 <;> by_cases h4 : a3 = b3 <;> simp [h1, h2, h3, h4]
theorem wds_of {W : World} {g : Nat} {ws : List Nat} (hg : W.heap[g]? = some (.cells (wcells ws) 22 (0, 0))) (hw : ∀ i, ws.getD i 0 < 2 ^ 64) : M.Wds W (.slice (some ⟨g, 0, none⟩) ws.length ws.length) ws := by
  refine ⟨fun y hy => ?_, some g, ws.length, rfl, fun _ => ⟨g, rfl⟩, fun g' e => ?_⟩
  · obtain ⟨i, hi, rfl⟩ := M.mem_getD hy
    exact hw i
  · cases e
    refine ⟨heap_lt hg, Nat.le_refl _, fun i hi => ?_⟩
    simp [World.cell?, hg, wcells, hi, M.e64]
theorem bd_ok {w x t} (h : BdAt w x t) : ∀ k, k < x.o → ∀ i, i < (t.m.wd k).length → (t.m.wd k).getD i 0 < 2 ^ (min 64 (t.m.n / 2 ^ (k + 1) - 64 * i)) := fun k hk => (h.mp.set k (by rw [h.mo]; exact hk)).ok
set_option maxRecDepth 4000 in
set_option maxHeartbeats 2000000 in
theorem mapped_x {E w W lw c x t fr ls fa fc va n vc} (h : PW E w W lw c x t fr ls fa fc va n vc) (hc : n ≤ 1000) :
    Calls Tryz.prog 55 #[.pointer (some ⟨lw, 0, none⟩)] W fun e w' => e = .returned (.bool true) ∧ Kept none' W w' := by
  have ho := h.nums.1
  have hn1 := h.nums.2.1
  have hmo := h.law.bd.mo
  have PL := hid (Plain_any x.m x.B t.m W h.law.bd.mp)
  rw [hmo] at PL
  obtain ⟨P, hP⟩ : ∃ P, P = t.m.n := ⟨_, rfl⟩
  have hls : ls.length ≤ 1000 := by rw [← h.nl]; exact hc
  have PG := hid (fun W' (k : Kept none' W W') => Pages5 h.sf ho fa fc va vc hls W' (h.keep k).fl (by rw [← h.nl]; exact (h.keep k).rn))
  have PS := hid (fun W' (k : Kept none' W W') => Pairs5 h.sf (bd_words h.law.bd).1 (bd_ok h.law.bd) ho fa fc va n vc W' (h.keep k).fl)
  have WDL := hid (bd_words h.law.bd).1
  have HC := hid (fun W' (k : Kept none' W W') => show W'.cell? ⟨lw, 4, none⟩ = some (.pointer (some ⟨x.m, 0, none⟩)) ∧ W'.cell? ⟨lw, 6, none⟩ = some (.int .i64 (x.o : Int)) ∧ W'.cell? ⟨lw, 7, none⟩ = some (.int .i64 (P : Int)) ∧ W'.cell? ⟨lw, 8, none⟩ = some (.slice fa (x.o + 1) fc) ∧ W'.cell? ⟨lw, 9, none⟩ = some (.slice va n vc) from by
    obtain ⟨c0, c1, c2, c3, c4, c5, c6, c7, c8, c9⟩ := (h.keep k).law.c
    rw [hP]
    exact ⟨c4, c6, c7, c8, c9⟩)
  rw [← h.nl] at PG
  have WLN := hid (show ∀ k, k < x.o → (t.m.wd k).length ≤ 100 from fun k hk => by
    obtain ⟨B, s, _⟩ := h.sf
    rw [s.wl k hk]
    have := Nat.div_le_self t.m.n (2 ^ (k + 1))
    omega)
  rw [← hP] at PG PS PL hn1
  have HP := hid hP
  have hae := arr_eq
  obtain ⟨c4, c6, c7, c8, c9⟩ := HC.out W (Kept.refl none' W)
  clear h hmo hP
  go_enter Tryz.func55, Tryz.ntmps55
  go_wp2_with fail
  refine PL.out.mono ?_
  rintro e w1 ⟨gp, gq, D, rfl, hT⟩
  have T1 := hid hT
  have K1 := hid hT.kp
  clear hT PL c4 c6 c7 c8 c9
  obtain ⟨c4, c6, c7, c8, c9⟩ := HC.out w1 K1.out
  go_wp2_with fail
  refine (PG.out w1 K1.out).mono ?_
  rintro e w2 ⟨gw, rfl, hrow2, hk2, hgw⟩
  have R2 := hid hrow2
  have K2 := hid (none_trans K1.out hk2)
  have KB2 := hid hk2
  clear hrow2 hk2 hgw PG c4 c6 c7 c8 c9
  obtain ⟨c4, c6, c7, c8, c9⟩ := HC.out w2 K2.out
  go_wp2_with fail
  refine (PS.out w2 K2.out).mono ?_
  rintro e w3 ⟨ga, gc, D2, rfl, hPr⟩
  have P3 := hid hPr
  have K3 := hid (none_trans K2.out hPr.gs.kp)
  have R3 := hid (R2.out.kept hPr.gs.kp (fun e => e))
  have T3 := hid (show Row w3 gp P t.m.pg ∧ (∃ cs : Array Value, w3.heap[gq]? = some (.cells cs 29 (0, 0)) ∧ ∀ j, j < x.o → cs[j]? = some (wsl D t.m.wd j)) ∧ ∀ j, j < x.o → w3.heap[D j]? = some (.cells (wcells (t.m.wd j)) 22 (0, 0)) from by
    have kk := none_trans KB2.out hPr.gs.kp
    obtain ⟨cs, hq, _, hc2⟩ := T1.out.q
    refine ⟨by rw [HP.out]; exact T1.out.row.kept kk (fun e => e), ⟨cs, (kk.block _ (heap_lt hq) (fun e => e)).trans hq, hc2⟩, fun j hj => (kk.block _ (heap_lt (T1.out.d j hj)) (fun e => e)).trans (T1.out.d j hj)⟩)
  clear hPr PS c4 c6 c7 c8 c9 T1 R2 KB2 K1 K2 HC
  go_wp2_with fail
  go_loopw [7] (fun i W' => ∃ a : Nat, a ≤ P ∧ i = .int .i64 a ∧ Hid (Kept none' w3 W')) (fun i _ => P - (intOf i).toNat)
  case atStart => exact ⟨0, by omega, rfl, hid (Kept.refl none' w3)⟩
  case round =>
    obtain ⟨a, ha, rfl, hK⟩ := hrel
    have KD := hid (fun m => none_trans hK.out ((Kept.refl none' wr).drewN m))
    by_cases hlt : a < P
    · have hai : (a : Int) < (P : Int) := by omega
      obtain ⟨d0, d1, d2, d3, d4, d5, d6, d7, d8, d9, d10⟩ := (Row.kept T3.out.1 hK.out (fun x => x)).cell a hlt
      obtain ⟨e0, e1, e2, e3, e4, e5, e6, e7, e8, e9, e10⟩ := (Row.kept R3.out hK.out (fun x => x)).cell a hlt
      go_wp2_with fail
      go_quiet (fail)
      go_wp2_with fail
      exact ⟨⟨a + 1, by omega, by simp, hid (KD.out _)⟩, by simp [intOf]; omega⟩
    · obtain rfl : a = P := by omega
      have hai : ¬ (a : Int) < (a : Int) := by omega
      clear hae
      go_wp2_with fail
      generalize wr = w4 at *
      clear hai ha hlt KD
      go_loopw [8] (fun i W' => ∃ k : Nat, k ≤ x.o ∧ i = .int .i64 k ∧ Hid (Kept none' w4 W')) (fun i _ => x.o - (intOf i).toNat)
      case atStart => exact ⟨0, by omega, rfl, hid (Kept.refl none' w4)⟩
      case round =>
        obtain ⟨k, hk, rfl, hK2⟩ := hrel
        have K4 := hid (none_trans hK.out hK2.out)
        have KF := hid (none_trans K3.out K4.out)
        by_cases hlt : k < x.o
        · have hki : (k : Int) < (x.o : Int) := by omega
          obtain ⟨⟨cs, hq, hcs⟩, hd⟩ := T3.out.2
          have q0 : wr.cell? ⟨gq, k, none⟩ = some (.slice (some ⟨D k, 0, none⟩) (t.m.wd k).length (t.m.wd k).length) := by
            have h1 := (K4.out.block _ (heap_lt hq) (fun e => e)).trans hq
            simp [World.cell?, h1, hcs k hlt, wsl]
          have hd1 := (K4.out.block _ (heap_lt (hd k hlt)) (fun e => e)).trans (hd k hlt)
          have hd2 := P3.out.rw k hlt
          have hd3 := (K4.out.block _ (heap_lt hd2) (fun e => e)).trans hd2
          obtain ⟨gb, hga, r0⟩ := own_get (own_kept P3.out.gs.own K4.out (fun _ _ e => e)) (i := k) (u := .slice (some ⟨D2 k, 0, none⟩) (t.m.wd k).length (t.m.wd k).length) (by rw [List.getElem?_map, List.getElem?_range hlt]; rfl)
          subst hga
          have kd := (Kept.refl none' wr).drew
          have IN := hid (M.ints_any _ _ (t.m.wd k) (t.m.wd k) (by have := WLN.out k hlt; omega) wr.drew (wds_of ((kd.block _ (heap_lt hd1) (fun e => e)).trans hd1) (WDL.out k hlt)) (wds_of ((kd.block _ (heap_lt hd3) (fun e => e)).trans hd3) (WDL.out k hlt)))
          rw [decide_eq_true rfl] at IN
          have y0 := kd.cell (fun e => e) q0
          have y1 := kd.cell (fun e => e) r0
          have KE := hid (none_trans hK2.out kd)
          generalize (t.m.wd k).length = L at *
          clear hq hcs hd hd1 hd2 hd3 kd
          go_wp2_with fail
          go_region_held3 (fun w' => w'.cell? ⟨gq, k, none⟩ = some (.slice (some ⟨D k, 0, none⟩) L L) ∧ w'.cell? ⟨gb, k, none⟩ = some (.slice (some ⟨D2 k, 0, none⟩) L L)) ((refine ⟨?_, ?_⟩ <;> first | with_reducible assumption)) (first
            | (go_at_call 30; refine IN.out.mono ?_; rintro e w5 ⟨rfl, hk5⟩; have K5 := hid (none_trans KE.out (toK hk5)); have z0 := (toK hk5).cell (fun e => e) y0; have z1 := (toK hk5).cell (fun e => e) y1; clear hk5)
            | fail)
          all_goals
            go_wp2_with fail
            exact ⟨⟨k + 1, by omega, by simp, K5⟩, by simp [intOf]; omega⟩
        · obtain rfl : k = x.o := by omega
          have hki : ¬ (x.o : Int) < (x.o : Int) := by omega
          go_wp2_with fail
          go_ret
          exact ⟨rfl, KF.out⟩
end Go.Proofs.YthglogiglimebaaGreat
/- BuddyPlays: the law's looks. -/
namespace Go.Proofs.YthglogiglimebaaGreat
open Go.RowKit
set_option linter.unusedVariables false

theorem Wds.keep' {W W' v xs} (h : M.Wds W v xs) (k : Kept none' W W') : M.Wds W' v xs := by
  obtain ⟨h1, ao, cap, h2, h3, h4⟩ := h
  refine ⟨h1, ao, cap, h2, h3, fun g e => ?_⟩
  obtain ⟨h5, h6, h7⟩ := h4 g e
  exact ⟨Nat.lt_of_lt_of_le h5 k.size, h6, fun i hi => k.cell (fun e => e) (h7 i hi)⟩
theorem PW.hd64 {E w W lw c x t fr ls fa fc va n vc} (h : PW E w W lw c x t fr ls fa fc va n vc) : ∀ i, (headsL x t).getD i 0 < 2 ^ 64 := fun i => by
  rcases Nat.lt_or_ge i (headsL x t).length with hi | hi
  · have hm := M.getD_mem hi
    obtain ⟨k, hk, he⟩ := List.mem_map.1 hm
    have hk := List.mem_range.1 hk
    rw [← he, h.sf.hd (k := k) (by omega)]
    cases hfr : fr k with
    | nil => exact (show (0 : Nat) < 2 ^ 64 by decide)
    | cons p l => exact ad_lt h (k := k) (by omega) (by rw [hfr]; exact List.mem_cons_self)
  · rw [M.getD_out hi]; decide
/-- The buddy's heads, as words. -/
theorem heads_w {E w W lw c x t fr ls fa fc va n vc} (h : PW E w W lw c x t fr ls fa fc va n vc) :
    Calls Tryz.prog 29 #[.pointer (some ⟨x.b, 0, none⟩)] W fun e w' => ∃ g, e = .returned (.slice (some ⟨g, 0, none⟩) (x.o + 1) (x.o + 1)) ∧ M.Wds w' (.slice (some ⟨g, 0, none⟩) (x.o + 1) (x.o + 1)) (headsL x t) ∧ Kept none' W w' ∧ w'.heap[g]? = some (.cells (wcells (headsL x t)) 22 (0, 0)) ∧ W.heap.size ≤ g := by
  refine (Heads_any x t W h.law.bd).mono ?_
  rintro e w' ⟨rfl, h1, h2⟩
  have := wds_of h1 h.hd64
  rw [headsL_len] at this
  exact ⟨_, rfl, this, h2, h1, Nat.le_refl _⟩
/-- The buddy's list of an order, as words. -/
theorem free_w {E w W lw c x t fr ls fa fc va n vc} (h : PW E w W lw c x t fr ls fa fc va n vc) (k : Nat) (hk : k ≤ x.o) :
    Calls Tryz.prog 20 #[.pointer (some ⟨x.b, 0, none⟩), .int .i64 (k : Int)] W fun e w' => NewL W (freeL x t k) e w' := Free_yes x t k hk W h.law.bd
theorem PW.flen {E w W lw c x t fr ls fa fc va n vc} (h : PW E w W lw c x t fr ls fa fc va n vc) (k : Nat) (hk : k ≤ x.o) : (freeL x t k).length ≤ 1024 := by
  rw [h.sf.words hk, List.length_map]
  exact h.sf.len hk
set_option maxRecDepth 4000 in
set_option maxHeartbeats 2000000 in
theorem looks_x {E w W lw c x t fr ls fa fc va n vc} (h : PW E w W lw c x t fr ls fa fc va n vc) (hc : n ≤ 1000) :
    Calls Tryz.prog 13 #[.pointer (some ⟨lw, 0, none⟩)] W fun e w' => e = .returned (.bool true) ∧ Kept none' W w' := by
  have ho := h.nums.1
  have HC := hid (fun W' (k : Kept none' W W') => show W'.cell? ⟨lw, 2, none⟩ = some (.int .i64 (x.o : Int)) ∧ W'.cell? ⟨lw, 5, none⟩ = some (.pointer (some ⟨x.b, 0, none⟩)) from by
    obtain ⟨c0, c1, c2, c3, c4, c5, c6, c7, c8, c9⟩ := (h.keep k).law.c
    exact ⟨c2, c5⟩)
  have HB := hid h
  obtain ⟨c2, c5⟩ := HC.out W (Kept.refl none' W)
  clear h
  go_enter Tryz.func13, Tryz.ntmps13
  go_wp2_with fail
  refine (heads_w HB.out).mono ?_
  rintro e w1 ⟨g1, rfl, hw1, hk1, _, _⟩
  have K1 := hid hk1
  have L1 := hid hw1
  clear hw1 hk1 c2 c5
  obtain ⟨c2, c5⟩ := HC.out w1 K1.out
  go_wp2_with fail
  refine (heads_x (HB.out.keep K1.out)).mono ?_
  rintro e w2 ⟨v2, rfl, hw2, hk2, _⟩
  have K2 := hid (none_trans K1.out hk2)
  have IN := hid (M.ints_any _ _ _ _ (by rw [headsL_len]; omega) w2 (Wds.keep' L1.out hk2) hw2.wds)
  rw [decide_eq_true rfl] at IN
  clear hw2 hk2 c2 c5 L1
  go_wp2_with fail
  refine IN.out.mono ?_
  rintro e w3 ⟨rfl, hk3⟩
  have K3 := hid (none_trans K2.out (toK hk3))
  clear hk3 IN
  go_wp2_with fail
  refine (mapped_x (HB.out.keep K3.out) hc).mono ?_
  rintro e w4 ⟨rfl, hk4⟩
  have K4 := hid (none_trans K3.out hk4)
  clear hk4
  go_wp2_with fail
  go_loopw [3] (fun i W' => ∃ k : Nat, k ≤ x.o + 1 ∧ i = .int .i64 k ∧ Hid (Kept none' W W')) (fun i _ => x.o + 1 - (intOf i).toNat)
  case atStart => exact ⟨0, by omega, rfl, K4⟩
  case round =>
    clear K1 K2 K3 K4
    obtain ⟨k, hk, rfl, hK⟩ := hrel
    obtain ⟨c2, c5⟩ := HC.out wr hK.out
    by_cases hlt : k ≤ x.o
    · have hki : (k : Int) ≤ (x.o : Int) := by omega
      go_wp2_with fail
      refine (free_w (HB.out.keep hK.out) k hlt).mono ?_
      rintro e w1 ⟨v1, rfl, hw1, hk1, _⟩
      have K1 := hid (none_trans hK.out hk1)
      have L1 := hid hw1.wds
      clear hw1 hk1 c2 c5
      go_wp2_with fail
      refine (free_x (HB.out.keep K1.out) k hlt).mono ?_
      rintro e w2 ⟨v2, rfl, hw2, hk2, _⟩
      have K2 := hid (none_trans K1.out hk2)
      have IN := hid (M.ints_any _ _ _ _ (by have := HB.out.flen k hlt; omega) w2 (Wds.keep' L1.out hk2) hw2.wds)
      rw [decide_eq_true rfl] at IN
      clear hw2 hk2 L1
      go_wp2_with fail
      refine IN.out.mono ?_
      rintro e w3 ⟨rfl, hk3⟩
      have K3 := hid (none_trans K2.out (toK hk3))
      clear hk3 IN
      go_wp2_with fail
      refine (linked_x (HB.out.keep K3.out) k hlt).mono ?_
      rintro e w4 ⟨rfl, hk4⟩
      have K4 := hid (none_trans K3.out hk4)
      clear hk4
      go_wp2_with fail
      exact ⟨⟨k + 1, by omega, by simp, K4⟩, by simp [intOf]; omega⟩
    · obtain rfl : k = x.o + 1 := by omega
      have hki : ¬ ((x.o + 1 : Nat) : Int) ≤ (x.o : Int) := by omega
      have hki2 : ¬ (x.o : Int) + 1 ≤ (x.o : Int) := by omega
      go_wp2_with fail
      go_ret
      exact ⟨rfl, hK.out⟩
end Go.Proofs.YthglogiglimebaaGreat
