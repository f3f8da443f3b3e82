/- Contracts of the calls on numbers: bits.IsPower, Log, Count, Ceil, Down, Up, of each kind. -/
import Derived.Test.YthglogiglimebaaChecked
import Derived.Test.YthglogiglimebaaMath
import Derived.WalkKit
import Derived.WalkSpells
import Derived.WalkLawsBesides
import Derived.Outline
namespace Go.Proofs.Ythglogiglimebaa
open Go.RowKit
set_option linter.unusedVariables false

theorem hid {p : Prop} (h : p) : Hid p := h
theorem ret_int {k : IntKind} {a b : Int} (h : a = b) : Ending.returned (.int k a) = .returned (.int k b) := by rw [h]
theorem ret_bool {a b : Bool} (h : a = b) : Ending.returned (.bool a) = .returned (.bool b) := by rw [h]
theorem wrap_u8 (n : Int) : IntKind.u8.wrap n = n % 2 ^ 8 := IntKind.wrap_u8' n
theorem wrap_u16 (n : Int) : IntKind.u16.wrap n = n % 2 ^ 16 := IntKind.wrap_u16 n
theorem wrap_u32 (n : Int) : IntKind.u32.wrap n = n % 2 ^ 32 := IntKind.wrap_u32' n
theorem wrap_u64 (n : Int) : IntKind.u64.wrap n = n % 2 ^ 64 := IntKind.wrap_u64 n
theorem ret_pair {k : IntKind} {a b : Int} {p q : Bool} (h : a = b) (h2 : p = q) : Ending.returned (.tuple #[.int k a, .bool p]) = .returned (.tuple #[.int k b, .bool q]) := by rw [h, h2]
theorem isP_walk8 (x : Nat) (hx : x < 2 ^ 8) (h : x ≠ 0) : (((x : Int) != 0) && (bits BinOp.and IntKind.u8 (x : Int) ((x : Int) - 1) == 0)) = isP x := by
  have e : ((x : Int) - 1) = ((x - 1 : Nat) : Int) := by omega
  rw [e, u8_and_nat x (x - 1) (by omega) (by omega)]
  unfold isP
  by_cases h2 : x &&& (x - 1) = 0 <;> simp [h, h2]
theorem isP_walk16 (x : Nat) (hx : x < 2 ^ 16) (h : x ≠ 0) : (((x : Int) != 0) && (bits BinOp.and IntKind.u16 (x : Int) ((x : Int) - 1) == 0)) = isP x := by
  have e : ((x : Int) - 1) = ((x - 1 : Nat) : Int) := by omega
  rw [e, u16_and_nat x (x - 1) (by omega) (by omega)]
  unfold isP
  by_cases h2 : x &&& (x - 1) = 0 <;> simp [h, h2]
theorem isP_walk32 (x : Nat) (hx : x < 2 ^ 32) (h : x ≠ 0) : (((x : Int) != 0) && (bits BinOp.and IntKind.u32 (x : Int) ((x : Int) - 1) == 0)) = isP x := by
  have e : ((x : Int) - 1) = ((x - 1 : Nat) : Int) := by omega
  rw [e, u32_and_nat x (x - 1) (by omega) (by omega)]
  unfold isP
  by_cases h2 : x &&& (x - 1) = 0 <;> simp [h, h2]
theorem isP_walk64 (x : Nat) (hx : x < 2 ^ 64) (h : x ≠ 0) : (((x : Int) != 0) && (bits BinOp.and IntKind.u64 (x : Int) ((x : Int) - 1) == 0)) = isP x := by
  have e : ((x : Int) - 1) = ((x - 1 : Nat) : Int) := by omega
  rw [e, u64_and_nat x (x - 1) (by omega) (by omega)]
  unfold isP
  by_cases h2 : x &&& (x - 1) = 0 <;> simp [h, h2]

end Go.Proofs.Ythglogiglimebaa
