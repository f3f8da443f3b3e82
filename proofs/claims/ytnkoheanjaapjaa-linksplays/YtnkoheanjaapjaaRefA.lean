/- croftref2.May, R, New. -/
import Derived.Test.YtnkoheanjaapjaaLawA
namespace Go.Proofs.Ytnkoheanjaapjaa
open Go.RowKit
set_option linter.unusedVariables false

theorem pow_mono (j k : Nat) (h : j ≤ k) (hk : k ≤ 8) : 1 ≤ 2 ^ j ∧ 2 ^ j ≤ 256 := pow8 j (by omega)

theorem R_any (base lim : Int) (k : Nat) (hk : k ≤ 8) (w : World) :
    Calls Try.prog 41 #[.agg #[.int .u64 base, .int .i64 lim, .int .i64 (k : Int)]] w fun e w' => e = .returned (.int .u64 ((RS k : Nat) : Int)) ∧ Kept none' w w' := by
  go_enter Try.func41, Try.ntmps41
  go_wp2
  go_loop [3, 4] (fun r i => ∃ j : Nat, j ≤ k ∧ i = .int .i64 j ∧ r = .int .u64 ((4096 * 2 ^ j : Nat) : Int)) (fun _ i => k - (intOf i).toNat)
  case atStart => exact ⟨0, by omega, rfl, by simp⟩
  case round =>
    obtain ⟨j, hj, rfl, rfl⟩ := hrel
    obtain ⟨P, hP⟩ : ∃ P, P = 2 ^ j := ⟨_, rfl⟩
    have hP8 := pow8 j (by omega)
    rw [← hP] at hP8 ⊢
    obtain ⟨R, hR⟩ : ∃ R, R = 4096 * P := ⟨_, rfl⟩
    have hR1 : R ≤ 1048576 := by omega
    rw [← hR]
    by_cases hlt : j < k
    · have hN2 := hid (show 4096 * 2 ^ (j + 1) = R * 2 from by rw [hR, hP, Nat.pow_succ, Nat.mul_assoc])
      have hji : (j : Int) < (k : Int) := by omega
      clear hP hR
      go_wp2
      refine ⟨⟨j + 1, by omega, by simp, ?_⟩, by simp [intOf]; omega⟩
      rw [hN2.out]; simp
    · obtain rfl : j = k := by omega
      have E := hid (show RS j = R by rw [hR, hP]; rfl)
      clear hP hR
      go_wp2
      go_ret
      exact ⟨ret_int (by rw [E.out]), (Kept.refl _ w).alloc _⟩

theorem two_new (w : World) (A B : Obj) : ((w.alloc A).alloc B).heap[w.heap.size + 1]? = some B := by
  have := heap_new (w.alloc A) B
  rwa [World.size_alloc] at this

/-- The document's own space, as a value. -/
def refV (base R lim : Nat) (mo : Option Nat) (n cap : Nat) : Value := .agg #[.int .u64 (base : Int), .int .u64 (R : Int), .int .i64 (lim : Int), .slice (adr mo) n cap]

end Go.Proofs.Ytnkoheanjaapjaa
