import Derived.Test.YtgjapopddblpoaaGreatDoorBdA
import Derived.Test.YtgjapopddblpoaaGreatDoorKf
/- buddy: Give, Shrink, top, Feed. buddy: top, Feed, Free, free. buddy: free, Pull, Heads. buddy: Pull, Heads. -/
namespace Go.Proofs.YtgjapopddblpoaaGreatDoor
open Go.RowKit
set_option linter.unusedVariables false

theorem pageI_le (x : Bx) (t : Bt) (p : Nat) {w : World} (h : BdAt w x t) : pageI x t p ≤ 1024 := by
  unfold pageI
  have := h.mp.n1
  split
  · next c => have := c.2; omega
  · omega
theorem Give_no (x : Bx) (t : Bt) (p : Nat) (k : Int) (hp : p < 18446744073709551616) (hl : liveB x t p k = false) (w : World) (h : BdAt w x t) :
    Calls Tryz.prog 133 #[.pointer (some ⟨x.b, 0, none⟩), .int .u64 (p : Int), .int .i64 k] w fun e w' => e = .returned (.int .i64 1) ∧ Kept none' w w' := by
  have LV := hid (live_any x t p k hp w h)
  rw [hl] at LV
  clear h hl
  go_enter Tryz.func133, Tryz.ntmps133
  go_wp2_with fail
  refine LV.out.mono ?_
  rintro e w1 ⟨rfl, hk⟩
  have K := hid hk
  clear hk
  go_wp2_with fail
  go_ret
  exact ⟨rfl, K.out⟩
theorem Give_yes (x : Bx) (t : Bt) (p k : Nat) (hp : p < 18446744073709551616) (hl : liveB x t p (k : Int) = true) (w : World) (h : BdAt w x t) :
    Calls Tryz.prog 133 #[.pointer (some ⟨x.b, 0, none⟩), .int .u64 (p : Int), .int .i64 (k : Int)] w fun e w' => ∃ tr pr kr, (tr, pr, kr) = joinL x (x.o - k) t (pageI x t p) k ∧ e = .returned (.int .i64 (enterE x tr pr kr : Int)) ∧ BdAt w' x (enterT x tr pr kr) ∧ Kept (bown x) w w' := by
  have LV := hid (live_any x t p k hp w h)
  have hk : k ≤ x.o := by
    unfold liveB at hl
    simp only [Bool.and_eq_true] at hl
    have := hl.1.2
    simp only [inR, decide_eq_true_eq] at this
    omega
  rw [hl] at LV
  have hpi := pageI_le x t p h
  have H := hid h
  clear h hl
  obtain ⟨q, hq⟩ : ∃ q, q = pageI x t p := ⟨_, rfl⟩
  rw [← hq] at LV hpi ⊢
  clear hq
  go_enter Tryz.func133, Tryz.ntmps133
  go_wp2_with fail
  refine LV.out.mono ?_
  rintro e w1 ⟨rfl, hk1⟩
  have K := hid hk1
  have H1 := hid (H.out.keep hk1)
  clear hk1 LV
  go_wp2_with fail
  refine (join_any x t q k hpi hk _ H1.out).mono ?_
  rintro e w2 ⟨tr, pr, kr, he, rfl, hB, hK⟩
  have D := hid (show (tr, pr, kr) = joinL x (x.o - k) t q k ∧ BdAt w2 x (enterT x tr pr kr) ∧ Kept (bown x) w w2 from ⟨he, hB, bown_trans (bown_none K.out) hK⟩)
  clear he hB hK
  go_wp2_with fail
  go_ret
  exact ⟨tr, pr, kr, D.out.1, rfl, D.out.2⟩
theorem Shrink_noB (x : Bx) (t : Bt) (p : Nat) (k o : Int) (hp : p < 18446744073709551616) (hl : liveB x t p k = false ∨ (liveB x t p k = true ∧ (o < 0 ∨ (¬ o < 0 ∧ k < o)))) (w : World) (h : BdAt w x t) :
    Calls Tryz.prog 49 #[.pointer (some ⟨x.b, 0, none⟩), .int .u64 (p : Int), .int .i64 k, .int .i64 o] w fun e w' => e = .returned (.int .i64 1) ∧ Kept none' w w' := by
  have LV := hid (live_any x t p k hp w h)
  clear h
  rcases hl with hl | ⟨hl, h1 | ⟨h1, h2⟩⟩
  all_goals
    rw [hl] at LV
    clear hl
    go_enter Tryz.func49, Tryz.ntmps49
    go_wp2_with fail
    refine LV.out.mono ?_
    rintro e w1 ⟨rfl, hk⟩
    have K := hid hk
    clear hk
    go_wp2_with fail
    go_ret
    exact ⟨rfl, K.out⟩
theorem Shrink_yesB (x : Bx) (t : Bt) (p k o : Nat) (hp : p < 18446744073709551616) (hl : liveB x t p (k : Int) = true) (ho : o ≤ k) (w : World) (h : BdAt w x t) :
    Calls Tryz.prog 49 #[.pointer (some ⟨x.b, 0, none⟩), .int .u64 (p : Int), .int .i64 (k : Int), .int .i64 (o : Int)] w fun e w' => e = .returned (.int .i64 (cutE x t (pageI x t p) k o : Int)) ∧ BdAt w' x (cutT x t (pageI x t p) k o) ∧ Kept (bown x) w w' := by
  have LV := hid (live_any x t p k hp w h)
  have hk : k ≤ x.o := by
    unfold liveB at hl
    simp only [Bool.and_eq_true] at hl
    have := hl.1.2
    simp only [inR, decide_eq_true_eq] at this
    omega
  rw [hl] at LV
  have hpi := pageI_le x t p h
  have H := hid h
  clear h hl
  obtain ⟨q, hq⟩ : ∃ q, q = pageI x t p := ⟨_, rfl⟩
  rw [← hq] at LV hpi ⊢
  have h1 : ¬ (k : Int) < (o : Int) := by omega
  clear hq
  go_enter Tryz.func49, Tryz.ntmps49
  go_wp2_with fail
  refine LV.out.mono ?_
  rintro e w1 ⟨rfl, hk1⟩
  have K := hid hk1
  have H1 := hid (H.out.keep hk1)
  clear hk1 LV
  go_wp2_with fail
  refine (cutB_any x t q k o hpi ho hk _ H1.out).mono ?_
  rintro e w2 ⟨rfl, hB, hK⟩
  have D := hid (And.intro hB (bown_trans (bown_none K.out) hK))
  clear hB hK
  go_wp2_with fail
  go_ret
  exact ⟨rfl, D.out⟩
/-- The regions of space and map are the same, and there is one. -/
def topOk (x : Bx) (t : Bt) : Prop := x.n ≠ 0 ∧ t.m.n * 4096 = x.n
def topP (x : Bx) : Nat := x.n / 4096 - 2 ^ x.o
theorem regs {w x t} (h : BdAt w x t) : ∃ k, x.n = k * (4096 * 2 ^ x.o) ∧ k ≤ 64 ∧ x.n / x.R = k := by
  obtain ⟨k, hk, hl⟩ := h.sp.kn
  have h2 := h.sp.cfg.l2
  have hp : 0 < 4096 * 2 ^ x.o := Nat.mul_pos (by decide) (Nat.pow_pos (by decide))
  rw [h.hR] at hk
  exact ⟨k, hk, by omega, by rw [h.hR, hk, Nat.mul_div_cancel _ hp]⟩
theorem top_no (x : Bx) (t : Bt) (hn : ¬ topOk x t) (w : World) (h : BdAt w x t) :
    Calls Tryz.prog 185 #[.pointer (some ⟨x.b, 0, none⟩)] w fun e w' => e = .returned (.tuple #[.int .i64 0, .bool false]) ∧ Kept none' w w' := by
  obtain ⟨k, hk, hk64, hkr⟩ := regs h
  have ho := h.o8
  have hn1 := h.mp.n1
  have c1 := h.b1
  have H := hid h
  obtain ⟨z, hz⟩ : ∃ z, z = 2 ^ x.o := ⟨_, rfl⟩
  have hzi : (2 : Int) ^ x.o = (z : Int) := by rw [hz]; simp
  have hz1 : 1 ≤ z := by rw [hz]; exact Nat.pow_pos (by decide)
  have hz2 : z ≤ 256 := by rw [hz]; exact Nat.pow_le_pow_right (n := 2) (by decide) ho
  obtain ⟨kz, hkz⟩ : ∃ kz, kz = k * z := ⟨_, rfl⟩
  have hkzl : kz ≤ 16384 := by rw [hkz]; exact Nat.mul_le_mul hk64 hz2
  have hmul : (k : Int) * (z : Int) = (kz : Int) := by rw [hkz]; simp
  have hnx : x.n = kz * 4096 := by rw [hk, hkz, hz, Nat.mul_comm 4096, Nat.mul_assoc]
  have hcase : k = 0 ∨ (k ≠ 0 ∧ t.m.n ≠ kz) := by
    by_cases e : k = 0
    · exact .inl e
    · refine .inr ⟨e, fun e2 => hn ⟨?_, by rw [e2, hnx]⟩⟩
      intro e3
      have : 0 < k * z := Nat.mul_pos (by omega) (by omega)
      omega
  have RG := hid (M.regions_any x.s x.a x.base x.R x.lim x.n t.f w h.sp)
  rw [hkr] at RG
  clear h hz hkz hnx hn hk
  rcases hcase with h0 | ⟨h0, h1⟩
  · subst h0
    go_enter Tryz.func185, Tryz.ntmps185
    go_wp2_with fail
    refine RG.out.mono ?_
    rintro e w1 ⟨rfl, d, hw1⟩
    have K := hid (show Kept none' w w1 by rw [hw1]; exact (Kept.refl none' w).drewN d)
    clear hw1
    go_wp2_with fail
    exact ⟨rfl, .tuple #[.int .i64 0, .bool false], by simp [results, Tryz.results185, go_sem], rfl, K.out⟩
  · have h0i : ¬ (k : Int) = 0 := by omega
    have h1i : ¬ (t.m.n : Int) = (kz : Int) := by omega
    have hb0 : ((k : Int) == 0) = false := beq_eq_false_iff_ne.2 h0i
    have hb1 : ((t.m.n : Int) != (kz : Int)) = true := by simpa using h1i
    go_enter Tryz.func185, Tryz.ntmps185
    go_wp2_with fail
    refine RG.out.mono ?_
    rintro e w1 ⟨rfl, d, hw1⟩
    have K := hid (show Kept none' w w1 by rw [hw1]; exact (Kept.refl none' w).drewN d)
    have H1 := hid (H.out.keep K.out)
    have c2 := H1.out.b2
    clear hw1 c1
    go_wp2_with fail
    refine (pages_any x.m x.B t.m _ H1.out.mp).mono ?_
    rintro e w2 ⟨rfl, hw2⟩
    rw [hw2]
    clear hw2
    go_wp2_with fail
    refine (greatest_any x t _ H1.out).mono ?_
    rintro e w2 ⟨rfl, hw2⟩
    rw [hw2]
    clear hw2
    go_wp2_with fail
    exact ⟨rfl, .tuple #[.int .i64 0, .bool false], by simp [results, Tryz.results185, go_sem], rfl, K.out⟩
theorem top_yes (x : Bx) (t : Bt) (hn : topOk x t) (w : World) (h : BdAt w x t) :
    Calls Tryz.prog 185 #[.pointer (some ⟨x.b, 0, none⟩)] w fun e w' => e = .returned (.tuple #[.int .i64 (topP x : Int), .bool true]) ∧ Kept none' w w' := by
  obtain ⟨k, hk, hk64, hkr⟩ := regs h
  have ho := h.o8
  have hn1 := h.mp.n1
  have c1 := h.b1
  have H := hid h
  obtain ⟨z, hz⟩ : ∃ z, z = 2 ^ x.o := ⟨_, rfl⟩
  have hzi : (2 : Int) ^ x.o = (z : Int) := by rw [hz]; simp
  have hz1 : 1 ≤ z := by rw [hz]; exact Nat.pow_pos (by decide)
  have hz2 : z ≤ 256 := by rw [hz]; exact Nat.pow_le_pow_right (n := 2) (by decide) ho
  have hnx : x.n = k * z * 4096 := by rw [hk, hz, Nat.mul_comm 4096, Nat.mul_assoc]
  have hk0 : k ≠ 0 := fun e => hn.1 (by rw [hk, e]; simp)
  obtain ⟨j, rfl⟩ : ∃ j, k = j + 1 := ⟨k - 1, by omega⟩
  obtain ⟨kz, hkz⟩ : ∃ kz, kz = (j + 1) * z := ⟨_, rfl⟩
  obtain ⟨jz, hjz⟩ : ∃ jz, jz = j * z := ⟨_, rfl⟩
  have hsum : kz = jz + z := by rw [hkz, hjz, Nat.add_mul, Nat.one_mul]
  have hkzl : kz ≤ 16384 := by rw [hkz]; exact Nat.mul_le_mul hk64 hz2
  have hmul : ((j : Int) + 1) * (z : Int) = (kz : Int) := by rw [hkz]; simp
  have hmulj : (j : Int) * (z : Int) = (jz : Int) := by rw [hjz]; simp
  rw [← hkz] at hnx
  have hmn : (t.m.n : Int) = (kz : Int) := by have := hn.2; omega
  have HJW := hid (show wrap64 (jz : Int) = (jz : Int) by simp only [wrap64]; omega)
  have hb0 : (((j : Int) + 1) == 0) = false := beq_eq_false_iff_ne.2 (by omega)
  have hb1 : ((t.m.n : Int) != (kz : Int)) = false := by simp [hmn]
  rw [show topP x = jz by unfold topP; rw [← hz]; omega]
  have RG := hid (M.regions_any x.s x.a x.base x.R x.lim x.n t.f w h.sp)
  rw [hkr] at RG
  clear h hz hkz hjz hnx hn hk hk0 hsum
  go_enter Tryz.func185, Tryz.ntmps185
  go_wp2_with fail
  refine RG.out.mono ?_
  rintro e w1 ⟨rfl, d, hw1⟩
  have K := hid (show Kept none' w w1 by rw [hw1]; exact (Kept.refl none' w).drewN d)
  have H1 := hid (H.out.keep K.out)
  have c2 := H1.out.b2
  clear hw1 c1
  go_wp2_with fail
  refine (pages_any x.m x.B t.m _ H1.out.mp).mono ?_
  rintro e w2 ⟨rfl, hw2⟩
  rw [hw2]
  clear hw2
  go_wp2_with fail
  refine (greatest_any x t _ H1.out).mono ?_
  rintro e w2 ⟨rfl, hw2⟩
  rw [hw2]
  clear hw2
  go_wp2_with fail
  refine (greatest_any x t _ H1.out).mono ?_
  rintro e w2 ⟨rfl, hw2⟩
  rw [hw2]
  clear hw2
  go_wp2_with fail
  exact ⟨rfl, .tuple #[.int .i64 (jz : Int), .bool true], by simp [results, Tryz.results185, go_sem]; exact HJW.out, rfl, K.out⟩
theorem topP_le {w x t} (h : BdAt w x t) (hn : topOk x t) : topP x ≤ 1024 ∧ ad x (topP x) < 18446744073709551616 := by
  have h1 := h.mp.n1
  have h2 := hn.2
  have h3 : topP x ≤ 1024 := by unfold topP; exact Nat.le_trans (Nat.sub_le _ _) (by omega)
  have h4 := h.end63
  exact ⟨h3, by unfold ad; omega⟩
theorem Feed_no (x : Bx) (t : Bt) (hn : ¬ topOk x t ∨ (topOk x t ∧ liveB x t (ad x (topP x)) (x.o : Int) = false)) (w : World) (h : BdAt w x t) :
    Calls Tryz.prog 200 #[.pointer (some ⟨x.b, 0, none⟩)] w fun e w' => e = .returned (.int .i64 9) ∧ Kept none' w w' := by
  have H := hid h
  rcases hn with hn | ⟨hn, hl⟩
  · have TP := hid (top_no x t hn w h)
    clear h hn
    go_enter Tryz.func200, Tryz.ntmps200
    go_wp2_with fail
    refine TP.out.mono ?_
    rintro e w1 ⟨rfl, hk⟩
    have K := hid hk
    clear hk
    go_wp2_with fail
    go_ret
    exact ⟨rfl, K.out⟩
  · have TP := hid (top_yes x t hn w h)
    obtain ⟨h1, h2⟩ := topP_le h hn
    obtain ⟨p, hp⟩ : ∃ p, p = topP x := ⟨_, rfl⟩
    rw [← hp] at TP h1 h2 hl
    have AD := hid (show ∀ W, BdAt W x t → Calls Tryz.prog 182 #[.pointer (some ⟨x.b, 0, none⟩), .int .i64 (p : Int)] W fun e w' => e = .returned (.int .u64 ((ad x p : Nat) : Int)) ∧ w' = W from fun W hW => address_any x t p (by omega) W hW)
    have GV := hid (fun W (hW : BdAt W x t) => Give_no x t (ad x p) (x.o : Int) h2 hl W hW)
    obtain ⟨a, ha⟩ : ∃ a, a = ad x p := ⟨_, rfl⟩
    rw [← ha] at AD GV
    clear h hn hl hp ha h2
    go_enter Tryz.func200, Tryz.ntmps200
    go_wp2_with fail
    refine TP.out.mono ?_
    rintro e w1 ⟨rfl, hk⟩
    have K := hid hk
    have H1 := hid (H.out.keep hk)
    clear hk
    go_wp2_with fail
    refine (AD.out _ H1.out).mono ?_
    rintro e w2 ⟨rfl, hw2⟩
    rw [hw2]
    clear hw2
    go_wp2_with fail
    refine (greatest_any x t _ H1.out).mono ?_
    rintro e w2 ⟨rfl, hw2⟩
    rw [hw2]
    clear hw2
    go_wp2_with fail
    refine (GV.out _ H1.out).mono ?_
    rintro e w3 ⟨rfl, hk⟩
    have K3 := hid (none_trans K.out hk)
    clear hk
    go_wp2_with fail
    go_ret
    exact ⟨rfl, K3.out⟩
theorem Feed_yes (x : Bx) (t : Bt) (hn : topOk x t) (hl : liveB x t (ad x (topP x)) (x.o : Int) = true) (he : enterE x t (pageI x t (ad x (topP x))) x.o = 0) (w : World) (h : BdAt w x t) :
    Calls Tryz.prog 200 #[.pointer (some ⟨x.b, 0, none⟩)] w fun e w' => e = .returned (.int .i64 0) ∧ BdAt w' x (enterT x t (pageI x t (ad x (topP x))) x.o) ∧ Kept (bown x) w w' := by
  have H := hid h
  have TP := hid (top_yes x t hn w h)
  obtain ⟨h1, h2⟩ := topP_le h hn
  obtain ⟨p, hp⟩ : ∃ p, p = topP x := ⟨_, rfl⟩
  rw [← hp] at TP h1 h2 hl he ⊢
  have AD := hid (show ∀ W, BdAt W x t → Calls Tryz.prog 182 #[.pointer (some ⟨x.b, 0, none⟩), .int .i64 (p : Int)] W fun e w' => e = .returned (.int .u64 ((ad x p : Nat) : Int)) ∧ w' = W from fun W hW => address_any x t p (by omega) W hW)
  have GV := hid (show ∀ W, BdAt W x t → Calls Tryz.prog 133 #[.pointer (some ⟨x.b, 0, none⟩), .int .u64 ((ad x p : Nat) : Int), .int .i64 (x.o : Int)] W fun e w' => e = .returned (.int .i64 0) ∧ BdAt w' x (enterT x t (pageI x t (ad x p)) x.o) ∧ Kept (bown x) W w' from fun W hW => (Give_yes x t (ad x p) x.o h2 hl W hW).mono (by
    rintro e w' ⟨tr, pr, kr, hj, rfl, hB, hK⟩
    rw [Nat.sub_self, joinL] at hj
    cases hj
    rw [he]
    exact ⟨rfl, hB, hK⟩))
  obtain ⟨a, ha⟩ : ∃ a, a = ad x p := ⟨_, rfl⟩
  rw [← ha] at AD GV ⊢
  clear h hn hl hp ha h2 he
  go_enter Tryz.func200, Tryz.ntmps200
  go_wp2_with fail
  refine TP.out.mono ?_
  rintro e w1 ⟨rfl, hk⟩
  have K := hid hk
  have H1 := hid (H.out.keep hk)
  clear hk
  go_wp2_with fail
  refine (AD.out _ H1.out).mono ?_
  rintro e w2 ⟨rfl, hw2⟩
  rw [hw2]
  clear hw2
  go_wp2_with fail
  refine (greatest_any x t _ H1.out).mono ?_
  rintro e w2 ⟨rfl, hw2⟩
  rw [hw2]
  clear hw2
  go_wp2_with fail
  refine (GV.out _ H1.out).mono ?_
  rintro e w3 ⟨rfl, hB, hK⟩
  have D := hid (And.intro hB (bown_trans (bown_none K.out) hK))
  clear hB hK
  go_wp2_with fail
  go_ret
  exact ⟨rfl, D.out⟩
/-- What Free tells. -/
def freeL (x : Bx) (t : Bt) (k : Nat) : List Nat := M.walkR x.base x.n t.f (x.n / 16) 0 (t.hd k)
theorem Free_no (x : Bx) (t : Bt) (k : Int) (hk : inR (x.o + 1) k = false) (w : World) (h : BdAt w x t) :
    Calls Tryz.prog 216 #[.pointer (some ⟨x.b, 0, none⟩), .int .i64 k] w fun e w' => e = .returned (.slice none 0 0) ∧ w' = w := by
  have HS := hid (hasO_any x t k w h)
  rw [hk] at HS
  go_enter Tryz.func216, Tryz.ntmps216
  go_wp2_with fail
  refine HS.out.mono ?_
  rintro e w1 ⟨rfl, hw1⟩
  rw [hw1]
  clear hw1
  go_wp2_with fail
  go_ret
  exact ⟨rfl, rfl⟩
theorem Free_yes (x : Bx) (t : Bt) (k : Nat) (hk : k ≤ x.o) (w : World) (h : BdAt w x t) :
    Calls Tryz.prog 216 #[.pointer (some ⟨x.b, 0, none⟩), .int .i64 (k : Int)] w fun e w' => ∃ v, e = .returned v ∧ M.Lst w' v (freeL x t k) ∧ Kept none' w w' ∧ ∀ r, v.ownBlock = some r → w.heap.size ≤ r := by
  have HS := hid (has_yes x t k hk w h)
  have c3 := h.b3
  have cl := h.lc k hk
  have ho := h.o8
  have H := hid h
  have hki : (k : Int) < ((x.o + 1 : Nat) : Int) := by omega
  clear h
  go_enter Tryz.func216, Tryz.ntmps216
  go_wp2_with fail
  refine HS.out.mono ?_
  rintro e w1 ⟨rfl, hw1⟩
  rw [hw1]
  clear hw1
  go_wp2_with fail
  refine (M.All_any (x.L k) _).mono ?_
  rintro e w1 ⟨rfl, hw1⟩
  have K1 := hid (show Kept none' w w1 by rw [hw1]; exact (Kept.refl none' w).alloc _)
  have H1 := hid (H.out.keep K1.out)
  have P1 := hid (show M.PtrB w1 w.heap.size (x.L k) by rw [hw1]; exact heap_new _ _)
  clear hw1 c3 cl HS
  go_wp2_with fail
  refine (M.Collect_any w.heap.size (x.L k) x.s x.a x.base x.R x.lim x.n t.f (t.hd k) x.o ho H1.out.hR _ (H1.out.ls' k hk) P1.out).mono ?_
  rintro e w2 ⟨v, rfl, hL, hK, hN⟩
  have D := hid (show M.Lst w2 v (freeL x t k) ∧ Kept none' w w2 ∧ ∀ r, v.ownBlock = some r → w.heap.size ≤ r from ⟨hL, none_trans K1.out (toK hK), fun r hr => Nat.le_trans K1.out.size (hN r hr)⟩)
  clear hL hK hN
  go_wp2_with fail
  go_ret
  exact ⟨v, rfl, D.out⟩
theorem Index_any (v : Value) (xs : List Nat) (a : Nat) (ha : a < 18446744073709551616) (hl : xs.length ≤ 4194305) (w : World) (hv : M.Wds w v xs) :
    Calls Tryz.prog 225 #[v, .int .u64 (a : Int)] w fun e w' => ∃ i : Int, e = .returned (.int .i64 i) ∧ (0 ≤ i ↔ a ∈ xs) ∧ w' = w := by
  obtain ⟨hxl, ao, ac, rfl, hA, hac⟩ := hv
  have HA := hid hA
  have HAC := hid hac
  have HXL := hid hxl
  obtain ⟨m, hm⟩ : ∃ m, m = xs.length := ⟨_, rfl⟩
  rw [← hm] at hl ⊢
  have HM := hid hm
  clear hA hac hxl hm
  go_enter Tryz.func225, Tryz.ntmps225
  go_wp2_with fail
  go_loopw [8] (fun i W => Hid (W = w) ∧ ∃ k : Nat, k ≤ m ∧ i = .int .i64 k ∧ Hid (∀ j, j < k → xs.getD j 0 ≠ a)) (fun i _ => m - (intOf i).toNat)
  case atStart => exact ⟨rfl, 0, by omega, rfl, fun j hj => by omega⟩
  case round =>
    obtain ⟨hW, k, hk, rfl, hz⟩ := hrel
    have hW := hW.out
    subst hW
    by_cases hlt : k < m
    · have hki : (k : Int) < (m : Int) := by omega
      have hne : xs ≠ [] := fun e => by have := HM.out; rw [e] at this; simp at this; omega
      obtain ⟨g, rfl⟩ := HA.out hne
      rw [show M.adr (some g) = some ⟨g, 0, none⟩ from rfl]
      have hca := (HAC.out g rfl).2.2 k (by have := HM.out; omega)
      have hmem : xs.getD k 0 ∈ xs := by have := HM.out; rw [List.getD_eq_getElem?_getD, List.getElem?_eq_getElem (by omega)]; simp
      have HMEM := hid hmem
      obtain ⟨y, hy⟩ : ∃ y, y = xs.getD k 0 := ⟨_, rfl⟩
      rw [← hy] at hca
      replace hca : wr.cell? ⟨g, k, none⟩ = some (.int .u64 (y : Int)) := hca
      have HY := hid hy
      clear hy hmem
      by_cases hay : a = y
      · have hayi : (a : Int) = (y : Int) := by omega
        have hayb : ((a : Int) == (y : Int)) = true := by simp [hayi]
        have HIN := hid (show a ∈ xs by rw [hay, HY.out]; exact HMEM.out)
        clear hay hayi
        go_wp2_with fail
        go_ret
        exact ⟨(k : Int), rfl, ⟨fun _ => HIN.out, fun _ => by omega⟩, rfl⟩
      · have hayi : ¬ (a : Int) = (y : Int) := by omega
        have hayb : ((a : Int) == (y : Int)) = false := beq_eq_false_iff_ne.2 hayi
        go_wp2_with fail
        exact ⟨⟨trivial, k + 1, by omega, by simp, fun j hj => by
          by_cases e : j = k
          · subst e; rw [← HY.out]; exact fun e => hay e.symm
          · exact hz.out j (by omega)⟩, by simp [intOf]; omega⟩
    · have hki : ¬ (k : Int) < (m : Int) := by omega
      have HN := hid (show ¬ a ∈ xs from fun e => by
        obtain ⟨j, hj, e2⟩ := List.mem_iff_getElem.1 e
        have hm := HM.out
        exact hz.out j (by omega) (by rw [List.getD_eq_getElem?_getD, List.getElem?_eq_getElem hj]; exact e2))
      go_wp2_with fail
      go_ret
      exact ⟨-1, rfl, ⟨fun e => by omega, fun e => absurd e HN.out⟩, rfl⟩
theorem Contains_any (v : Value) (xs : List Nat) (a : Nat) (ha : a < 18446744073709551616) (hl : xs.length ≤ 4194305) (w : World) (hv : M.Wds w v xs) :
    Calls Tryz.prog 215 #[v, .int .u64 (a : Int)] w fun e w' => e = .returned (.bool (decide (a ∈ xs))) ∧ w' = w := by
  have IX := hid (Index_any v xs a ha hl w hv)
  clear hv
  go_enter Tryz.func215, Tryz.ntmps215
  go_wp2_with fail
  refine IX.out.mono ?_
  rintro e w1 ⟨i, rfl, hi, rfl⟩
  have HI := hid hi
  clear hi IX
  go_wp2_with fail
  go_ret
  exact ⟨ret_bool (decide_eq_decide.2 HI.out), rfl⟩
theorem walkR_len (base n : Nat) (f : Nat → Nat) : ∀ k q p, (M.walkR base n f k q p).length ≤ k
  | 0, _, _ => Nat.le_refl _
  | k + 1, q, p => by
    unfold M.walkR
    split
    · have := walkR_len base n f k p (M.nx base f p)
      simp; omega
    · simp
theorem freeL_len {w x t} (h : BdAt w x t) (k : Nat) : (freeL x t k).length ≤ 4194305 := by
  have h1 := walkR_len x.base x.n t.f (x.n / 16) 0 (t.hd k)
  have h2 : x.n ≤ 4194304 := Nat.le_trans h.sp.nle h.sp.cfg.lr
  unfold freeL
  omega
/-- The block at a page stands on the list. -/
def freeB (x : Bx) (t : Bt) (p k : Nat) : Bool := isB t.m 0 (p : Int) (k : Int) && decide (ad x p ∈ freeL x t k)
theorem free_any (x : Bx) (t : Bt) (p k : Nat) (hp : p ≤ 4000) (hk : k ≤ x.o) (w : World) (h : BdAt w x t) :
    Calls Tryz.prog 186 #[.pointer (some ⟨x.b, 0, none⟩), .int .i64 (p : Int), .int .i64 (k : Int)] w fun e w' => e = .returned (.bool (freeB x t p k)) ∧ Kept none' w w' := by
  have H := hid h
  have hfl := freeL_len h k
  have IS := hid (is_any x t 0 (p : Int) (k : Int) w h)
  have hal : ad x p < 18446744073709551616 := by have := h.end63; unfold ad; omega
  have AD := hid (show ∀ W, BdAt W x t → Calls Tryz.prog 182 #[.pointer (some ⟨x.b, 0, none⟩), .int .i64 (p : Int)] W fun e w' => e = .returned (.int .u64 ((ad x p : Nat) : Int)) ∧ w' = W from fun W hW => address_any x t p hp W hW)
  obtain ⟨b, hb⟩ : ∃ b, b = isB t.m 0 (p : Int) (k : Int) := ⟨_, rfl⟩
  obtain ⟨a, ha⟩ : ∃ a, a = ad x p := ⟨_, rfl⟩
  rw [← ha] at hal AD
  rw [← hb] at IS
  rw [show freeB x t p k = (b && decide (a ∈ freeL x t k)) by unfold freeB; rw [← hb, ← ha]]
  clear h hb ha
  cases b with
  | false =>
    go_enter Tryz.func186, Tryz.ntmps186
    go_wp2_with fail
    refine IS.out.mono ?_
    rintro e w1 ⟨rfl, hk1⟩
    have K := hid hk1
    clear hk1
    go_wp2_with fail
    go_ret
    exact ⟨ret_bool (by simp), K.out⟩
  | true =>
    go_enter Tryz.func186, Tryz.ntmps186
    go_wp2_with fail
    refine IS.out.mono ?_
    rintro e w1 ⟨rfl, hk1⟩
    have K := hid hk1
    have H1 := hid (H.out.keep hk1)
    clear hk1
    go_wp2_with fail
    refine (Free_yes x t k hk _ H1.out).mono ?_
    rintro e w2 ⟨v, rfl, hL, hK, hN⟩
    have K2 := hid (none_trans K.out hK)
    have H2 := hid (H1.out.keep hK)
    have L2 := hid hL
    clear hL hK hN
    go_wp2_with fail
    refine (AD.out _ H2.out).mono ?_
    rintro e w3 ⟨rfl, hw3⟩
    rw [hw3]
    clear hw3
    go_wp2_with fail
    refine (Contains_any v (freeL x t k) a hal hfl _ L2.out.wds).mono ?_
    rintro e w3 ⟨rfl, hw3⟩
    rw [hw3]
    clear hw3
    go_wp2_with fail
    go_ret
    exact ⟨ret_bool (by simp), K2.out⟩
theorem Pull_no (x : Bx) (t : Bt) (hn : ¬ topOk x t ∨ (topOk x t ∧ freeB x t (topP x) x.o = false)) (w : World) (h : BdAt w x t) :
    Calls Tryz.prog 140 #[.pointer (some ⟨x.b, 0, none⟩)] w fun e w' => e = .returned (.int .i64 9) ∧ Kept none' w w' := by
  have H := hid h
  rcases hn with hn | ⟨hn, hl⟩
  · have TP := hid (top_no x t hn w h)
    clear h hn
    go_enter Tryz.func140, Tryz.ntmps140
    go_wp2_with fail
    refine TP.out.mono ?_
    rintro e w1 ⟨rfl, hk⟩
    have K := hid hk
    clear hk
    go_wp2_with fail
    go_ret
    exact ⟨rfl, K.out⟩
  · have TP := hid (top_yes x t hn w h)
    obtain ⟨h1, h2⟩ := topP_le h hn
    obtain ⟨p, hp⟩ : ∃ p, p = topP x := ⟨_, rfl⟩
    rw [← hp] at TP h1 h2 hl
    have FR := hid (fun W (hW : BdAt W x t) => free_any x t p x.o (by omega) (Nat.le_refl _) W hW)
    rw [hl] at FR
    clear h hn hl hp h2
    go_enter Tryz.func140, Tryz.ntmps140
    go_wp2_with fail
    refine TP.out.mono ?_
    rintro e w1 ⟨rfl, hk⟩
    have K := hid hk
    have H1 := hid (H.out.keep hk)
    clear hk
    go_wp2_with fail
    refine (greatest_any x t _ H1.out).mono ?_
    rintro e w2 ⟨rfl, hw2⟩
    rw [hw2]
    clear hw2
    go_wp2_with fail
    refine (FR.out _ H1.out).mono ?_
    rintro e w3 ⟨rfl, hk⟩
    have K3 := hid (none_trans K.out hk)
    clear hk
    go_wp2_with fail
    go_ret
    exact ⟨rfl, K3.out⟩
def pullT (x : Bx) (t : Bt) : Bt := runT (remT x t (topP x) x.o) (topP x) x.o 2
set_option maxRecDepth 4000 in
set_option maxHeartbeats 1000000 in
theorem Pull_yes (x : Bx) (t : Bt) (hn : topOk x t) (hl : freeB x t (topP x) x.o = true) (hr : remE x t (topP x) x.o = 0) (w : World) (h : BdAt w x t) :
    Calls Tryz.prog 140 #[.pointer (some ⟨x.b, 0, none⟩)] w fun e w' => e = .returned (.int .i64 0) ∧ BdAt w' x (pullT x t) ∧ Kept (bown x) w w' := by
  have H := hid h
  have ho := h.o8
  have TP := hid (top_yes x t hn w h)
  obtain ⟨h1, h2⟩ := topP_le h hn
  rw [show pullT x t = runT (remT x t (topP x) x.o) (topP x) x.o 2 from rfl]
  obtain ⟨p, hp⟩ : ∃ p, p = topP x := ⟨_, rfl⟩
  rw [← hp] at TP h1 h2 hl hr ⊢
  have FR := hid (fun W (hW : BdAt W x t) => free_any x t p x.o (by omega) (Nat.le_refl _) W hW)
  rw [hl] at FR
  have ADR := hid (show ∀ W, BdAt W x t → Calls Tryz.prog 182 #[.pointer (some ⟨x.b, 0, none⟩), .int .i64 (p : Int)] W fun e w' => e = .returned (.int .u64 ((ad x p : Nat) : Int)) ∧ w' = W from fun W hW => address_any x t p (by omega) W hW)
  have REM := hid (fun W (hW : BdAt W x t) => remB_any x t p x.o (by omega) (Nat.le_refl _) W hW)
  rw [hr] at REM
  obtain ⟨a, ha⟩ : ∃ a, a = ad x p := ⟨_, rfl⟩
  rw [← ha] at ADR REM
  have hki : (x.o : Int) < ((x.o + 1 : Nat) : Int) := by omega
  have hki2 : (x.o : Int) < (x.o : Int) + 1 := by omega
  have hk0 : (0 : Int) ≤ (x.o : Int) := by omega
  have hki3 : x.o < x.o + 1 := by omega
  have hkw : IntKind.i64.wrap (x.o : Int) = (x.o : Int) := by rw [IntKind.wrap_i64]; omega
  clear h hn hl hp h2 ha hr
  go_enter Tryz.func140, Tryz.ntmps140
  go_wp2_with fail
  refine TP.out.mono ?_
  rintro e w1 ⟨rfl, hk⟩
  have K := hid hk
  have H1 := hid (H.out.keep hk)
  clear hk
  go_wp2_with fail
  refine (greatest_any x t _ H1.out).mono ?_
  rintro e w2 ⟨rfl, hw2⟩
  rw [hw2]
  clear hw2
  go_wp2_with fail
  refine (FR.out _ H1.out).mono ?_
  rintro e w3 ⟨rfl, hk⟩
  have K3 := hid (none_trans K.out hk)
  have H3 := hid (H1.out.keep hk)
  clear hk FR TP
  have H3d := hid (H3.out.keep (Kept.refl none' w3).drew)
  have GRd := hid (greatest_any x t w3.drew H3d.out)
  have c3d : w3.drew.cell? ⟨x.b, 3, none⟩ = some (.slice (some ⟨x.l, 0, none⟩) (x.o + 1) x.c) := H3d.out.b3
  have cld := H3d.out.lc x.o (Nat.le_refl _)
  have K3d := hid (none_trans K3.out (Kept.refl none' w3).drew)
  go_wp2_with fail
  go_region_held3 (fun w' => w'.cell? ⟨x.b, 3, none⟩ = some (.slice (some ⟨x.l, 0, none⟩) (x.o + 1) x.c) ∧ w'.cell? ⟨x.l, x.o, none⟩ = some (.pointer (some ⟨x.L x.o, 0, none⟩))) (first | with_reducible exact ⟨c3d, cld⟩ | with_reducible exact ⟨c34, cl4⟩) (first | (go_at_call 187; refine GRd.out.mono ?_; rintro e w4 ⟨rfl, hw4⟩; rw [hw4]; clear hw4) | (go_at_call 182; refine (ADR.out _ H3d.out).mono ?_; rintro e w4 ⟨rfl, hw4⟩; rw [hw4]; clear hw4) | (go_at_call 188; refine (REM.out _ H3d.out).mono ?_; rintro e w4 ⟨rfl, hB, hK⟩; have H4 := hid hB; have K4 := hid (bown_trans (bown_none K3d.out) hK); have c34 := H4.out.b3; have cl4 := H4.out.lc x.o (Nat.le_refl _); clear hB hK))
  all_goals
    clear c3d cld c34 cl4 ADR REM GRd H3d H3 H1
    have H4d := hid (H4.out.keep (Kept.refl none' w4).drew)
    have GR4 := hid (greatest_any x _ w4.drew H4d.out)
    have c24 := H4d.out.b2
    have K4d := hid (bown_trans K4.out (bown_none (Kept.refl none' w4).drew))
    go_wp2_with fail
    go_region_held3 (fun w' => w'.cell? ⟨x.b, 2, none⟩ = some (.pointer (some ⟨x.m, 0, none⟩))) (first | with_reducible exact c24 | with_reducible exact c25) (first | (go_at_call 187; refine GR4.out.mono ?_; rintro e w5 ⟨rfl, hw5⟩; rw [hw5]; clear hw5) | (go_at_call 138; refine (runB_any x _ p x.o 2 _ H4d.out).mono ?_; rintro e w5 ⟨rfl, hB, hK⟩; have H5 := hid hB; have K5 := hid (bown_trans K4d.out hK); have c25 := H5.out.b2; clear hB hK))
    all_goals
      go_wp2_with fail
      go_ret
      exact ⟨rfl, H5.out, K5.out⟩
/-- The first blocks of the lists. -/
def headsL (x : Bx) (t : Bt) : List Nat := (List.range (x.o + 1)).map t.hd
theorem headsL_len (x : Bx) (t : Bt) : (headsL x t).length = x.o + 1 := by simp [headsL]
theorem block_writeB {w : World} {g : Nat} {zs : List Nat} (hg : w.heap[g]? = some (.cells (wcells zs) 27 (0, 0))) (q y : Nat) : (w.setCell ⟨g, q, none⟩ (.int .u64 (y : Int))).heap[g]? = some (.cells (wcells (zs.set q y)) 27 (0, 0)) := by
  rw [heap_set hg q (.int .u64 (y : Int))]
  simp [wcells, List.map_set]
def headsK (x : Bx) (t : Bt) (k : Nat) : List Nat := (List.range (x.o + 1)).map fun j => if j < k then t.hd j else 0
theorem headsK_set (x : Bx) (t : Bt) (k : Nat) : (headsK x t k).set k (t.hd k) = headsK x t (k + 1) := by
  apply List.ext_getElem
  · simp [headsK]
  · intro i h1 h2
    rw [List.getElem_set]
    simp only [headsK, List.getElem_map, List.getElem_range]
    by_cases e : k = i
    · subst e; rw [if_pos rfl, if_pos (by omega)]
    · rw [if_neg e]
      by_cases h : i < k
      · rw [if_pos h, if_pos (by omega)]
      · rw [if_neg h, if_neg (by omega)]
end Go.Proofs.YtgjapopddblpoaaGreatDoor
