/- pagemap: the cells of a slab page: slab, hasCell, isLive, turned. -/
import Derived.Test.YthglogiglimebaaPgB
namespace Go.Proofs.Ythglogiglimebaa
open Go.RowKit
set_option linter.unusedVariables false

def ncell (cl : Int) : Nat := 256 / 2 ^ cl.toNat
theorem live_eq (x r : Nat) (hx : x < 18446744073709551616) : ((bits BinOp.and IntKind.u64 ((x : Int) / 2 ^ r) 1) == 1) = (x / 2 ^ r % 2 == 1) := by
  have e : ((x : Int) / 2 ^ r) = ((x / 2 ^ r : Nat) : Int) := by simp
  rw [e]
  have hd2 : x / 2 ^ r < 2 ^ 64 := Nat.lt_of_le_of_lt (Nat.div_le_self _ _) hx
  have := u64_and_nat (x / 2 ^ r) 1 (by omega) (by decide)
  rw [nat_mask1] at this
  rw [show (1 : Int) = ((1 : Nat) : Int) from rfl, this, Bool.eq_iff_iff]
  simp only [beq_iff_eq]
  omega
theorem turn_eq (x r : Nat) (hx : x < 18446744073709551616) (hr : r < 64) : bits BinOp.xor IntKind.u64 (x : Int) (2 ^ r) = ((x ^^^ 2 ^ r : Nat) : Int) := by
  have hp : 2 ^ r < 2 ^ 64 := (pow_lt r 64).2 hr
  have := bits_xor_u64_nat x (2 ^ r) hx hp
  rw [← this]; simp
theorem wrap2_pow (r : Nat) (hr : r < 64) : IntKind.u64.wrap (2 ^ r) = 2 ^ r := by
  have hp : 2 ^ r < 2 ^ 64 := (pow_lt r 64).2 hr
  rw [wrap_u64]
  have : ((2 : Int) ^ r) = ((2 ^ r : Nat) : Int) := by simp
  rw [this]
  obtain ⟨p, hp2⟩ : ∃ p, p = 2 ^ r := ⟨_, rfl⟩
  rw [← hp2] at hp ⊢
  omega
theorem turn_lt (x r : Nat) (hx : x < 18446744073709551616) (hr : r < 64) : x ^^^ 2 ^ r < 18446744073709551616 := Nat.xor_lt_two_pow (n := 64) hx ((pow_lt r 64).2 hr)

/-- The word of a page's bits in which a cell's stands; the bit; the page with it turned. -/
def wP (p : Pg) : Nat → Nat
  | 0 => p.b0
  | 1 => p.b1
  | 2 => p.b2
  | _ => p.b3
def litP (p : Pg) (c : Nat) : Bool := wP p (c / 64) / 2 ^ (c % 64) % 2 == 1
def turnP (p : Pg) (c : Nat) : Pg :=
  match c / 64 with
  | 0 => { p with b0 := p.b0 ^^^ 2 ^ (c % 64) }
  | 1 => { p with b1 := p.b1 ^^^ 2 ^ (c % 64) }
  | 2 => { p with b2 := p.b2 ^^^ 2 ^ (c % 64) }
  | _ => { p with b3 := p.b3 ^^^ 2 ^ (c % 64) }
abbrev bval (p : Pg) : Value := .agg #[.int .u64 (p.b0 : Int), .int .u64 (p.b1 : Int), .int .u64 (p.b2 : Int), .int .u64 (p.b3 : Int)]
theorem lt4 {c : Nat} (hc : c < 256) : c / 64 = 0 ∨ c / 64 = 1 ∨ c / 64 = 2 ∨ c / 64 = 3 := by omega
theorem PgOk.turn {p : Pg} (ok : PgOk p) (c : Nat) : PgOk (turnP p c) := by
  have hr : c % 64 < 64 := by omega
  unfold turnP
  split
  · exact ⟨ok.o0, ok.o8, ok.c0, ok.c7, turn_lt _ _ ok.b0 hr, ok.b1, ok.b2, ok.b3⟩
  · exact ⟨ok.o0, ok.o8, ok.c0, ok.c7, ok.b0, turn_lt _ _ ok.b1 hr, ok.b2, ok.b3⟩
  · exact ⟨ok.o0, ok.o8, ok.c0, ok.c7, ok.b0, ok.b1, turn_lt _ _ ok.b2 hr, ok.b3⟩
  · exact ⟨ok.o0, ok.o8, ok.c0, ok.c7, ok.b0, ok.b1, ok.b2, turn_lt _ _ ok.b3 hr⟩
/-- What is not its bits is as it was. -/
theorem turn_rest (p : Pg) (c : Nat) : (turnP p c).kd = p.kd ∧ (turnP p c).od = p.od ∧ (turnP p c).cl = p.cl ∧ (turnP p c).lv = p.lv ∧ (turnP p c).nx = p.nx ∧ (turnP p c).pv = p.pv ∧ (turnP p c).fs = p.fs := by
  unfold turnP
  split <;> exact ⟨rfl, rfl, rfl, rfl, rfl, rfl, rfl⟩
end Go.Proofs.Ythglogiglimebaa
