/- bits.Next. -/
import Derived.Test.YtahdjaocfejjeaaSetD
namespace Go.Proofs.Ytahdjaocfejjeaa
open Go.RowKit
set_option linter.unusedVariables false

/-- A number other than 0 is 2^p times an odd one. -/
theorem low_form (x : Nat) (h : x ≠ 0) : ∃ p m, x = 2 ^ p * (2 * m + 1) := by
  induction x using Nat.strongRecOn with
  | _ x ih =>
    by_cases h2 : x % 2 = 1
    · exact ⟨0, x / 2, by omega⟩
    · obtain ⟨p, m, hp⟩ := ih (x / 2) (by omega) (by omega)
      refine ⟨p + 1, m, ?_⟩
      rw [Nat.pow_succ, Nat.mul_right_comm, ← hp]
      omega

theorem low_bits (p m i : Nat) : ((2 ^ p * (2 * m + 1)).testBit i && !(2 ^ p * (2 * m + 1) - 1).testBit i) = decide (i = p) := by
  have hp := Nat.two_pow_pos p
  have e1 : 2 ^ p * (2 * m + 1) = 2 ^ p * (2 * m + 1) + 0 := rfl
  have e2 : 2 ^ p * (2 * m + 1) - 1 = 2 ^ p * (2 * m) + (2 ^ p - 1) := by rw [Nat.mul_add, Nat.mul_one]; omega
  rw [e2]
  rw [Nat.testBit_two_pow_mul_add _ (by omega : 2 ^ p - 1 < 2 ^ p)]
  rw [e1, Nat.testBit_two_pow_mul_add _ hp]
  by_cases h : i < p
  · simp [h]; omega
  · simp only [h, if_false]
    by_cases e : i = p
    · subst e
      have : 2 * m % 2 = 0 := by omega
      simp [Nat.testBit_zero]
    · obtain ⟨t, ht⟩ : ∃ t, i - p = t + 1 := ⟨i - p - 1, by omega⟩
      rw [ht, Nat.testBit_succ, Nat.testBit_succ]
      have a1 : (2 * m + 1) / 2 = m := by omega
      have a2 : 2 * m / 2 = m := by omega
      rw [a1, a2]
      simp [e]

theorem low_and (p m : Nat) (h : 2 ^ p * (2 * m + 1) < 2 ^ 64) : 2 ^ p * (2 * m + 1) &&& (2 ^ 64 - 2 ^ p * (2 * m + 1)) = 2 ^ p := by
  have hp := Nat.two_pow_pos p
  have h0 : 0 < 2 ^ p * (2 * m + 1) := Nat.mul_pos hp (by omega)
  apply Nat.eq_of_testBit_eq
  intro i
  have e : 2 ^ 64 - 2 ^ p * (2 * m + 1) = 2 ^ 64 - ((2 ^ p * (2 * m + 1) - 1) + 1) := by omega
  rw [Nat.testBit_and, e, Nat.testBit_two_pow_sub_succ (by omega), Nat.testBit_two_pow]
  have := low_bits p m i
  by_cases h64 : i < 64
  · rw [decide_eq_true h64, Bool.true_and, this]
    rw [decide_eq_decide]; omega
  · have hf : (2 ^ p * (2 * m + 1)).testBit i = false := Nat.testBit_lt_two_pow (Nat.lt_of_lt_of_le h ((pow_le 64 i).2 (by omega)))
    have hpi : ¬ p = i := by
      intro e2; subst e2
      rw [hf] at this
      simp at this
    rw [hf]; simp [hpi]

/-- The least bit of x that is 1. -/
theorem low_spec (x : Nat) (h : x ≠ 0) (hx : x < 2 ^ 64) : ∃ p, p < 64 ∧ x / 2 ^ p % 2 = 1 ∧ (∀ j, j < p → x / 2 ^ j % 2 = 0) ∧ x &&& (2 ^ 64 - x) = 2 ^ p := by
  obtain ⟨p, m, rfl⟩ := low_form x h
  have hp := Nat.two_pow_pos p
  have hlt : 2 ^ p < 2 ^ 64 := Nat.lt_of_le_of_lt (Nat.le_mul_of_pos_right _ (by omega)) hx
  refine ⟨p, (pow_lt p 64).1 hlt, ?_, ?_, low_and p m hx⟩
  · rw [Nat.mul_div_cancel_left _ hp]; omega
  · intro j hj
    have : 2 ^ p = 2 ^ j * (2 * 2 ^ (p - j - 1)) := by
      rw [← Nat.mul_assoc, ← Nat.pow_succ, ← Nat.pow_add]; congr 1; omega
    rw [this, Nat.mul_assoc, Nat.mul_div_cancel_left _ (Nat.two_pow_pos j), Nat.mul_assoc]
    omega

/-- The bits from r on. -/
theorem high_bits (x r p : Nat) (hp : p < 64) : x / 2 ^ r * 2 ^ r % 2 ^ 64 / 2 ^ p % 2 = if r ≤ p then x / 2 ^ p % 2 else 0 := by
  have e : ∀ y q : Nat, y / 2 ^ q % 2 = if y.testBit q then 1 else 0 := by
    intro y q
    rw [Nat.testBit_eq_decide_div_mod_eq]
    by_cases h : y / 2 ^ q % 2 = 1
    · simp [h]
    · simp [h]; omega
  rw [e, e, Nat.testBit_mod_two_pow, ← Nat.shiftRight_eq_div_pow, ← Nat.shiftLeft_eq, Nat.testBit_shiftLeft, Nat.testBit_shiftRight]
  by_cases h : r ≤ p
  · have : r + (p - r) = p := by omega
    simp [h, hp, this]
  · simp [h]

/-- The least number of the set from k on. -/
def nxtN (n : Nat) (ws : List Nat) (k : Nat) : Int := match (List.range n).find? (fun j => decide (k ≤ j) && bit ws j) with | some j => (j : Int) | none => -1
def nxt (n : Nat) (ws : List Nat) (i : Int) : Int := nxtN n ws i.toNat

theorem nxtN_none (n : Nat) (ws : List Nat) (k : Nat) (h : ∀ j, k ≤ j → j < n → bit ws j = false) : nxtN n ws k = -1 := by
  unfold nxtN
  have : (List.range n).find? (fun j => decide (k ≤ j) && bit ws j) = none := by
    rw [List.find?_eq_none]
    intro j hj
    rw [List.mem_range] at hj
    by_cases hk : k ≤ j
    · simp [h j hk hj]
    · simp [hk]
  rw [this]

theorem nxtN_some (n : Nat) (ws : List Nat) (k j : Nat) (hj : j < n) (hk : k ≤ j) (hb : bit ws j = true) (h : ∀ i, k ≤ i → i < j → bit ws i = false) : nxtN n ws k = (j : Int) := by
  unfold nxtN
  have : (List.range n).find? (fun j => decide (k ≤ j) && bit ws j) = some j := by
    rw [List.find?_range_eq_some]
    refine ⟨by simp [hk, hb], by simpa using hj, ?_⟩
    intro i hi
    by_cases hki : k ≤ i
    · simp [h i hki hi]
    · simp [hki]
  rw [this]

theorem bit_form (ws : List Nat) (a p : Nat) (hp : p < 64) : bit ws (64 * a + p) = (ws.getD a 0 / 2 ^ p % 2 == 1) := by
  unfold bit
  have h1 : (64 * a + p) / 64 = a := by omega
  have h2 : (64 * a + p) % 64 = p := by omega
  rw [h1, h2]
theorem SetAt.bit_past {w b c n ws} (h : SetAt w b c n ws) (j : Nat) (hj : n ≤ j) : bit ws j = false := by
  unfold bit
  by_cases hl : j / 64 < ws.length
  · have h1 := h.ok (j / 64) hl
    have h2 : ws.getD (j / 64) 0 / 2 ^ (j % 64) = 0 := by
      rw [Nat.div_eq_of_lt]
      refine Nat.lt_of_lt_of_le h1 ((pow_le _ _).2 ?_)
      omega
    rw [h2]; rfl
  · have : ws.getD (j / 64) 0 = 0 := by simp [List.getD, Nat.not_lt.1 hl]
    rw [this]; simp
end Go.Proofs.Ytahdjaocfejjeaa
