/- pagemap: Run that is refused, Grow, Shrink. -/
import Derived.Test.YthglogiglimebaaPgK
namespace Go.Proofs.Ythglogiglimebaa
open Go.RowKit
set_option linter.unusedVariables false

/-- May it run? -/
def canRun (m : Mp) (p o k : Int) : Bool := decide ((k = 0 ∨ k = 2) ∧ 0 ≤ o ∧ o ≤ m.o) && (inR m.n p && decide (p % 2 ^ o.toNat = 0))
theorem Run_a (b : Nat) (B : Bs) (m : Mp) (p o k : Int) (w : World) (h : MapAt w b B m) (hc : ¬ ((k = 0 ∨ k = 2) ∧ 0 ≤ o ∧ o ≤ m.o)) :
    Calls Try.prog 43 #[.pointer (some ⟨b, 0, none⟩), .int .i64 p, .int .i64 o, .int .i64 k] w fun e w' => e = .returned (.int .i64 1) ∧ w' = w := by
  have c0 := h.c0
  clear h
  by_cases h0 : k = 0
  · subst h0
    by_cases h1 : o < 0
    · clear hc
      go_enter Try.func43, Try.ntmps43
      go_wp2_with fail
      go_ret
      exact ⟨rfl, rfl⟩
    · have h2 : (m.o : Int) < o := by omega
      clear hc
      go_enter Try.func43, Try.ntmps43
      go_wp2_with fail
      go_ret
      exact ⟨rfl, rfl⟩
  · by_cases h2k : k = 2
    · subst h2k
      by_cases h1 : o < 0
      · clear hc
        go_enter Try.func43, Try.ntmps43
        go_wp2_with fail
        go_ret
        exact ⟨rfl, rfl⟩
      · have h2 : (m.o : Int) < o := by omega
        clear hc
        go_enter Try.func43, Try.ntmps43
        go_wp2_with fail
        go_ret
        exact ⟨rfl, rfl⟩
    · clear hc
      go_enter Try.func43, Try.ntmps43
      go_wp2_with fail
      go_ret
      exact ⟨rfl, rfl⟩
theorem Run_b (b : Nat) (B : Bs) (m : Mp) (p : Int) (o k : Nat) (w : World) (h : MapAt w b B m) (hk : k = 0 ∨ k = 2) (ho : o ≤ m.o) (hp : inR m.n p = false) :
    Calls Try.prog 43 #[.pointer (some ⟨b, 0, none⟩), .int .i64 p, .int .i64 (o : Int), .int .i64 (k : Int)] w fun e w' => e = .returned (.int .i64 1) ∧ w' = w := by
  have c0 := h.c0
  have HM := hid h
  have HP := hid hp
  have hoi : ¬ (m.o : Int) < (o : Int) := by omega
  have ho0 : ¬ (o : Int) < 0 := by omega
  clear h hp
  rcases hk with rfl | rfl
  all_goals
    go_enter Try.func43, Try.ntmps43
    go_wp2_with fail
    refine (has_any b B m p _ HM.out).mono ?_
    rintro e w1 ⟨rfl, rfl⟩
    rw [HP.out]
    go_wp2_with fail
    go_ret
    exact ⟨rfl, rfl⟩
theorem Run_c (b : Nat) (B : Bs) (m : Mp) (p o k : Nat) (w : World) (h : MapAt w b B m) (hk : k = 0 ∨ k = 2) (ho : o ≤ m.o) (hp : p < m.n) (hm : p % 2 ^ o ≠ 0) :
    Calls Try.prog 43 #[.pointer (some ⟨b, 0, none⟩), .int .i64 (p : Int), .int .i64 (o : Int), .int .i64 (k : Int)] w fun e w' => e = .returned (.int .i64 1) ∧ w' = w := by
  have c0 := h.c0
  have HM := hid h
  have HP := hid (inR_yes hp)
  have ho8 : o ≤ 8 := by have := h.o8; omega
  have hn1 := h.n1
  have hoi : ¬ (m.o : Int) < (o : Int) := by omega
  have ho0 : ¬ (o : Int) < 0 := by omega
  obtain ⟨z, hz⟩ : ∃ z, z = 2 ^ o := ⟨_, rfl⟩
  have hzi : (2 : Int) ^ o = (z : Int) := by rw [hz]; simp
  have hz1 : 1 ≤ z := by rw [hz]; exact pw_pos o
  have hz2 : z ≤ 256 := by rw [hz]; exact Nat.pow_le_pow_right (n := 2) (by decide) ho8
  rw [← hz] at hm
  have hmi : ((p : Int) % (z : Int) == 0) = false := beq_eq_false_iff_ne.2 (by omega)
  have hmj : ((p : Int) % (z : Int) != 0) = true := by simp only [bne, hmi, Bool.not_false]
  clear h hp hz hm
  rcases hk with rfl | rfl
  all_goals
    go_enter Try.func43, Try.ntmps43
    go_wp2_with fail
    refine (has_any b B m p _ HM.out).mono ?_
    rintro e w1 ⟨rfl, rfl⟩
    rw [HP.out]
    go_wp2_with fail
    go_ret
    exact ⟨rfl, rfl⟩
def runM (m : Mp) (p o k : Int) : Mp := if canRun m p o k = true then { m with pg := runP m.pg p.toNat o.toNat k } else m
def runE (m : Mp) (p o k : Int) : Int := if canRun m p o k = true then 0 else 1
theorem Run_any (b : Nat) (B : Bs) (m : Mp) (p o k : Int) (w : World) (h : MapAt w b B m) :
    Calls Try.prog 43 #[.pointer (some ⟨b, 0, none⟩), .int .i64 p, .int .i64 o, .int .i64 k] w fun e w' => e = .returned (.int .i64 (runE m p o k)) ∧ MapAt w' b B (runM m p o k) ∧ Kept (mown b B m.o) w w' := by
  have no : ∀ {E : Ending} {w' : World}, canRun m p o k = false → E = .returned (.int .i64 1) ∧ w' = w → E = .returned (.int .i64 (runE m p o k)) ∧ MapAt w' b B (runM m p o k) ∧ Kept (mown b B m.o) w w' := by
    rintro E w' hc ⟨rfl, rfl⟩
    rw [show runE m p o k = 1 by simp [runE, hc], show runM m p o k = m by simp [runM, hc]]
    exact ⟨rfl, h, Kept.refl _ _⟩
  by_cases h1 : (k = 0 ∨ k = 2) ∧ 0 ≤ o ∧ o ≤ m.o
  · obtain ⟨o', rfl⟩ := Int.eq_ofNat_of_zero_le h1.2.1
    obtain ⟨k', rfl⟩ := Int.eq_ofNat_of_zero_le (show 0 ≤ k by omega)
    have ho : o' ≤ m.o := by omega
    have hk : k' = 0 ∨ k' = 2 := by omega
    cases h2 : inR m.n p with
    | false => exact (Run_b b B m p o' k' w h hk ho h2).mono (fun _ _ => no (by simp [canRun, h2]))
    | true =>
      obtain ⟨q, rfl, hq⟩ := inR_nat h2
      have e1 : ((q : Int) % 2 ^ (o' : Int).toNat = 0) ↔ q % 2 ^ o' = 0 := by
        have : ((q : Int) % 2 ^ (o' : Int).toNat) = ((q % 2 ^ o' : Nat) : Int) := by simp
        rw [this]; omega
      by_cases h3 : q % 2 ^ o' = 0
      · have hc : canRun m (q : Int) (o' : Int) (k' : Int) = true := by
          unfold canRun
          rw [decide_eq_true h1, h2, decide_eq_true (e1.2 h3)]; rfl
        rw [show runE m (q : Int) (o' : Int) (k' : Int) = 0 by simp [runE, hc], show runM m (q : Int) (o' : Int) (k' : Int) = { m with pg := runP m.pg q o' k' } by simp [runM, hc]]
        exact Run_ok b B m q o' k' w h hq ho h3 hk
      · exact (Run_c b B m q o' k' w h hk ho hq h3).mono (fun _ _ => no (by
          unfold canRun
          rw [show decide ((q : Int) % 2 ^ (o' : Int).toNat = 0) = false from decide_eq_false (fun e => h3 (e1.1 e))]
          simp))
  · exact (Run_a b B m p o k w h h1).mono (fun _ _ => no (by
      unfold canRun
      rw [decide_eq_false h1]; rfl))
theorem From.kept {w w1 w2 : World} {b : Nat} {B B' : Bs} {o : Nat} (k : Kept (mown b B o) w w1) (f : From w b B B' o) (k2 : Kept (mown b B' o) w1 w2) : Kept (mown b B o) w w2 :=
  k.trans k2 (fun _ _ x => x) (fun x hx e => (f x e).resolve_right (by omega))
def growM (m : Mp) : Mp := if 1024 < m.n + 2 ^ m.o then m else { resizeM m (m.n + 2 ^ m.o) with pg := runP (resizeM m (m.n + 2 ^ m.o)).pg m.n m.o 2 }
theorem Grow_full (b : Nat) (B : Bs) (m : Mp) (w : World) (h : MapAt w b B m) (hf : 1024 < m.n + 2 ^ m.o) :
    Calls Try.prog 24 #[.pointer (some ⟨b, 0, none⟩)] w fun e w' => e = .returned (.tuple #[]) ∧ w' = w := by
  obtain ⟨cq, c0, c1, c2⟩ := h.cb
  have ho8 := h.o8
  have hn1 := h.n1
  obtain ⟨z, hz⟩ : ∃ z, z = 2 ^ m.o := ⟨_, rfl⟩
  have hzi : (2 : Int) ^ m.o = (z : Int) := by rw [hz]; simp
  have hz2 : z ≤ 256 := by rw [hz]; exact Nat.pow_le_pow_right (n := 2) (by decide) ho8
  rw [← hz] at hf
  have hfi : (1024 : Int) < (m.n : Int) + z := by omega
  clear h hz
  go_enter Try.func24, Try.ntmps24
  go_wp2_with fail
  exact ⟨rfl, .tuple #[], by simp [results, Try.results24, go_sem], rfl, rfl⟩
theorem dv_add {n o : Nat} (h : ∃ r, n = r * 2 ^ o) : ∃ r, n + 2 ^ o = r * 2 ^ o := by
  obtain ⟨r, hr⟩ := h
  exact ⟨r + 1, by rw [hr, Nat.add_mul, Nat.one_mul]⟩
theorem dv_mod {n o : Nat} (h : ∃ r, n = r * 2 ^ o) : n % 2 ^ o = 0 := by
  obtain ⟨r, hr⟩ := h
  rw [hr]; exact Nat.mul_mod_left _ _
theorem Grow_ok (b : Nat) (B : Bs) (m : Mp) (w : World) (h : MapAt w b B m) (hf : ¬ 1024 < m.n + 2 ^ m.o) :
    Calls Try.prog 24 #[.pointer (some ⟨b, 0, none⟩)] w fun e w' => e = .returned (.tuple #[]) ∧ ∃ B', MapAt w' b B' (growM m) ∧ Kept (mown b B m.o) w w' ∧ From w b B B' m.o := by
  rw [show growM m = { resizeM m (m.n + 2 ^ m.o) with pg := runP (resizeM m (m.n + 2 ^ m.o)).pg m.n m.o 2 } by simp only [growM, if_neg hf]]
  obtain ⟨cq, c0, c1, c2⟩ := h.cb
  have ho8 := h.o8
  have hn1 := h.n1
  have RZ := hid (mresize_any b B m (m.n + 2 ^ m.o) (by omega) (dv_add h.dv) w h)
  have RN := hid (fun w1 B1 (h1 : MapAt w1 b B1 (resizeM m (m.n + 2 ^ m.o))) => Run_ok b B1 (resizeM m (m.n + 2 ^ m.o)) m.n m.o 2 w1 h1 (by show m.n < m.n + 2 ^ m.o; have := pw_pos m.o; omega) (Nat.le_refl _) (dv_mod h.dv) (.inr rfl))
  obtain ⟨z, hz⟩ : ∃ z, z = 2 ^ m.o := ⟨_, rfl⟩
  have hzi : (2 : Int) ^ m.o = (z : Int) := by rw [hz]; simp
  have hz2 : z ≤ 256 := by rw [hz]; exact Nat.pow_le_pow_right (n := 2) (by decide) ho8
  rw [← hz] at hf RZ RN ⊢
  have hfi : ¬ (1024 : Int) < (m.n : Int) + z := by omega
  have hcast : ((m.n + z : Nat) : Int) = (m.n : Int) + z := by omega
  rw [hcast] at RZ
  have HOM := hid (show (resizeM m (m.n + z)).o = m.o from rfl)
  generalize resizeM m (m.n + z) = m2 at *
  clear h hz hcast
  go_enter Try.func24, Try.ntmps24
  go_wp2_with fail
  refine RZ.out.mono ?_
  rintro e w1 ⟨rfl, B1, hM1, hK1, hF1⟩
  have M1 := hid hM1
  have K1 := hid hK1
  have F1 := hid hF1
  have c0 := hM1.c0
  rw [HOM.out] at c0
  clear hM1 hK1 hF1
  go_wp2_with fail
  refine (RN.out w1 B1 M1.out).mono ?_
  rintro e w2 ⟨rfl, hM2, hK2⟩
  have M2 := hid hM2
  have K2 := hid hK2
  rw [HOM.out] at K2
  clear hM2 hK2
  go_wp2_with fail
  go_end0
  exact ⟨rfl, B1, M2.out, From.kept K1.out F1.out K2.out, F1.out⟩
theorem From.refl (w : World) (b : Nat) (B : Bs) (o : Nat) : From w b B B o := fun _ h => .inl h
theorem Grow_any (b : Nat) (B : Bs) (m : Mp) (w : World) (h : MapAt w b B m) :
    Calls Try.prog 24 #[.pointer (some ⟨b, 0, none⟩)] w fun e w' => e = .returned (.tuple #[]) ∧ ∃ B', MapAt w' b B' (growM m) ∧ Kept (mown b B m.o) w w' ∧ From w b B B' m.o := by
  by_cases hf : 1024 < m.n + 2 ^ m.o
  · refine (Grow_full b B m w h hf).mono ?_
    rintro e w' ⟨rfl, rfl⟩
    rw [show growM m = m by simp only [growM, if_pos hf]]
    exact ⟨rfl, B, h, Kept.refl _ _, From.refl _ _ _ _⟩
  · exact Grow_ok b B m w h hf
end Go.Proofs.Ythglogiglimebaa
