/- MemHolds. -/
import Derived.Test.YthglogiglimebaaLawA
namespace Go.Proofs.Ythglogiglimebaa.M
open Go.RowKit
set_option linter.unusedVariables false

theorem upd_in (f : Nat → Nat) (o k : Nat) (g : Nat → Nat) (i : Nat) (h : o ≤ i ∧ i < o + k) : upd f o k g i = g (i - o) := by simp only [upd]; rw [if_pos h]
theorem upd_out (f : Nat → Nat) (o k : Nat) (g : Nat → Nat) (i : Nat) (h : ¬ (o ≤ i ∧ i < o + k)) : upd f o k g i = f i := by simp only [upd]; rw [if_neg h]

theorem wordTo_congr (f g : Nat → Nat) (k : Nat) (h : ∀ i, i < k → f i = g i) : wordTo f k = wordTo g k := by
  induction k with
  | zero => rfl
  | succ k ih => rw [wordTo, wordTo, ih (fun i hi => h i (by omega)), h k (by omega)]
theorem wordTo_byteOf (v k : Nat) : wordTo (byteOf v) k = v % 256 ^ k := by
  induction k with
  | zero => simp [wordTo, Nat.mod_one]
  | succ k ih => rw [wordTo, ih, byteOf, Nat.pow_succ, Nat.mod_mul, Nat.mul_comm (v / 256 ^ k % 256)]
theorem word_upd (f : Nat → Nat) (o v : Nat) (hv : v < 18446744073709551616) : word (upd f o 8 (byteOf v)) o = v := by
  unfold word
  rw [wordTo_congr _ (byteOf v) 8 (fun i hi => by rw [upd_in _ _ _ _ _ (by omega), Nat.add_sub_cancel_left]), wordTo_byteOf]
  exact Nat.mod_eq_of_lt hv

end Go.Proofs.Ythglogiglimebaa.M
