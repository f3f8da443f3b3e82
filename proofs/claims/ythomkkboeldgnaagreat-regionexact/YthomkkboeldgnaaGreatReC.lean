import Derived.Test.YthomkkboeldgnaaGreatReB
/- RegionExact: what the live blocks say of the lists. -/
namespace Go.Proofs.YthomkkboeldgnaaGreat
open Go.RowKit
set_option linter.unusedVariables false

/-- A stretch meets no live block just if it lies in a free one. -/
theorem Sf.free_iff {x t fr ls} (s0 : Sf x t fr ls) {a j : Nat} (hj : j ≤ x.o) (ha : a % 2 ^ j = 0) (han : a + 2 ^ j ≤ t.m.n) : mtL ls a j = false ↔ ∃ q k, k ≤ x.o ∧ q ∈ fr k ∧ q ≤ a ∧ a + 2 ^ j ≤ q + 2 ^ k := by
  obtain ⟨B, s, hN, hL⟩ := s0
  constructor
  · intro h
    have h' : ¬ ∃ p k, (p, k) ∈ ls ∧ a < p + 2 ^ k ∧ p < a + 2 ^ j := by
      rw [← mtL_iff, h]
      decide
    obtain ⟨q, k, _, h1, h2, h3⟩ := s.stretch hN hj ha han (fun p k hb => by
      rcases Nat.lt_or_ge a (p + 2 ^ k) with e1 | e1
      · rcases Nat.lt_or_ge p (a + 2 ^ j) with e2 | e2
        · exact absurd ⟨p, k, (hL p k).1 hb, e1, e2⟩ h'
        · exact .inr e2
      · exact .inl e1)
    obtain ⟨h4, h5⟩ := (s.fi q k).1 h1
    exact ⟨q, k, h4, h5, h2, h3⟩
  · rintro ⟨q, k, h1, h2, h3, h4⟩
    cases h : mtL ls a j with
    | false => rfl
    | true =>
      exfalso
      obtain ⟨p, i, h5, h6, h7⟩ := mtL_iff.1 h
      rcases s.ds _ _ _ _ _ _ ((s.fi q k).2 ⟨h1, h2⟩) ((hL p i).2 h5) with ⟨e, _⟩ | e | e
      · exact absurd e (by decide)
      · omega
      · omega
/-- Each stretch of an order meets a live block just if no list from that order on holds one. -/
theorem Sf.full_iff {x t fr ls} (s0 : Sf x t fr ls) {j m : Nat} (hj : j ≤ x.o) (hm : t.m.n = m * 2 ^ j) : fullT ls j m = true ↔ ∀ a, j ≤ a → a ≤ x.o → fr a = [] := by
  have hz : 0 < 2 ^ j := Nat.pow_pos (by decide)
  rw [fullT_iff]
  constructor
  · intro h a h1 h2
    cases hf : fr a with
    | nil => rfl
    | cons p l =>
      exfalso
      have hp : p ∈ fr a := by rw [hf]; exact List.mem_cons_self ..
      have hal : p % 2 ^ a = 0 ∧ p + 2 ^ a ≤ t.m.n := by
        obtain ⟨B, s, hN, hL⟩ := s0
        obtain ⟨_, h3, h4⟩ := s.al _ _ _ ((s.fi p a).2 ⟨h2, hp⟩)
        exact ⟨h3, h4⟩
      have hpow : 2 ^ j ≤ 2 ^ a := Nat.pow_le_pow_right (by decide) h1
      have hdv : 2 ^ j ∣ p := Nat.dvd_trans (Nat.pow_dvd_pow 2 h1) (Nat.dvd_of_mod_eq_zero hal.1)
      obtain ⟨i, hi⟩ := hdv
      rw [Nat.mul_comm] at hi
      have him : i < m := by
        have h5 : i * 2 ^ j < m * 2 ^ j := by rw [← hi, ← hm]; omega
        exact Nat.lt_of_mul_lt_mul_right h5
      have h6 := h i him
      rw [← hi] at h6
      have h7 := (s0.free_iff hj (a := p) (by rw [hi]; exact Nat.mul_mod_left _ _) (by omega)).2 ⟨p, a, h2, hp, Nat.le_refl _, by omega⟩
      rw [h7] at h6
      cases h6
  · intro h i hi
    cases hmt : mtL ls (i * 2 ^ j) j with
    | true => rfl
    | false =>
      exfalso
      have h1 : (i + 1) * 2 ^ j ≤ m * 2 ^ j := Nat.mul_le_mul_right _ hi
      rw [Nat.add_mul, Nat.one_mul] at h1
      obtain ⟨q, k, h2, h3, h4, h5⟩ := (s0.free_iff hj (a := i * 2 ^ j) (Nat.mul_mod_left _ _) (by rw [hm]; exact h1)).1 hmt
      have hjk : j ≤ k := by
        rcases Nat.lt_or_ge k j with e | e
        · have : 2 ^ k < 2 ^ j := Nat.pow_lt_pow_right (by decide) e
          omega
        · exact e
      rw [h k hjk h2] at h3
      cases h3
/-- How many regions are left: those up to the topmost that a live block meets. -/
def leftL (ls : List (Nat × Nat)) (o : Nat) : Nat → Nat
  | 0 => 0
  | r + 1 => if mtL ls (r * 2 ^ o) o = true then r + 1 else leftL ls o r
theorem leftL_le (ls : List (Nat × Nat)) (o : Nat) : ∀ r, leftL ls o r ≤ r
  | 0 => Nat.le_refl _
  | r + 1 => by
    unfold leftL
    split
    · exact Nat.le_refl _
    · exact Nat.le_succ_of_le (leftL_le ls o r)
theorem trF_left (ls : List (Nat × Nat)) (o : Nat) : ∀ (r : Nat) (fr : Nat → List Nat), (∀ i, i < r → (i * 2 ^ o ∈ fr o ↔ mtL ls (i * 2 ^ o) o = false)) → (trF o r fr).1 + leftL ls o r = r
  | 0, fr, h => rfl
  | r + 1, fr, h => by
    have hz : 0 < 2 ^ o := Nat.pow_pos (by decide)
    have hr := h r (by omega)
    cases hm : mtL ls (r * 2 ^ o) o with
    | true =>
      rw [trF_no (fun e => by rw [hr.1 e] at hm; cases hm), leftL, if_pos hm, Nat.zero_add]
    | false =>
      rw [trF_yes (hr.2 hm), leftL, if_neg (by rw [hm]; decide)]
      have := trF_left ls o r (frU fr o (M.dropL (fr o) (r * 2 ^ o))) (fun i hi => by
        rw [← h i (by omega)]
        have hne : i * 2 ^ o ≠ r * 2 ^ o := fun e => by
          have := Nat.eq_of_mul_eq_mul_right hz e
          omega
        unfold frU
        rw [if_pos rfl]
        unfold M.dropL
        simp [hne])
      show (trF o r _).1 + 1 + leftL ls o r = r + 1
      omega
theorem Sf.tops {x t fr ls} (s0 : Sf x t fr ls) {r : Nat} (hr : t.m.n = r * 2 ^ x.o) : ∀ i, i < r → (i * 2 ^ x.o ∈ fr x.o ↔ mtL ls (i * 2 ^ x.o) x.o = false) := fun i hi => by
  have hz : 0 < 2 ^ x.o := Nat.pow_pos (by decide)
  have h1 : (i + 1) * 2 ^ x.o ≤ r * 2 ^ x.o := Nat.mul_le_mul_right _ hi
  rw [Nat.add_mul, Nat.one_mul] at h1
  rw [s0.free_iff (Nat.le_refl _) (Nat.mul_mod_left _ _) (by rw [hr]; exact h1)]
  constructor
  · intro h
    exact ⟨_, x.o, Nat.le_refl _, h, Nat.le_refl _, Nat.le_refl _⟩
  · rintro ⟨q, k, h2, h3, h4, h5⟩
    have hk : k = x.o := by
      rcases Nat.lt_or_ge k x.o with e | e
      · have : 2 ^ k < 2 ^ x.o := Nat.pow_lt_pow_right (by decide) e
        omega
      · omega
    subst hk
    have : q = i * 2 ^ x.o := by omega
    rw [← this]
    exact h3
end Go.Proofs.YthomkkboeldgnaaGreat
