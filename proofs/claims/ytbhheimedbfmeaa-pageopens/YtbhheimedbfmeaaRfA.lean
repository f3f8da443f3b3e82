/- croftref4: power, page, in, bit. -/
import Derived.Test.YtbhheimedbfmeaaPgB
namespace Go.Proofs.Ytbhheimedbfmeaa
open Go.RowKit
set_option linter.unusedVariables false

theorem power_any (n : Nat) (hn : n ≤ 9) (w : World) :
    Calls Try.prog 49 #[.int .i64 (n : Int)] w fun e w' => e = .returned (.int .i64 ((2 ^ n : Nat) : Int)) ∧ w' = w := by
  go_enter Try.func49, Try.ntmps49
  go_wp2_with fail
  go_loop [3, 4] (fun x i => ∃ k : Nat, k ≤ n ∧ i = .int .i64 k ∧ x = .int .i64 ((2 ^ k : Nat) : Int)) (fun _ i => n - (intOf i).toNat)
  case atStart => exact ⟨0, by omega, rfl, rfl⟩
  case round =>
    obtain ⟨k, hk, rfl, rfl⟩ := hrel
    have h2 : 2 ^ k ≤ 512 := Nat.le_trans (Nat.pow_le_pow_right (n := 2) (by decide) (show k ≤ 9 by omega)) (by decide)
    by_cases hlt : k < n
    · have hki : (k : Int) < (n : Int) := by omega
      have hp : 2 ^ (k + 1) = 2 ^ k * 2 := Nat.pow_succ 2 k
      have hwp : wrap64 (2 ^ k * 2) = ((2 ^ (k + 1) : Nat) : Int) := by
        rw [hp]
        have : ((2 : Int) ^ k) = ((2 ^ k : Nat) : Int) := by simp
        rw [this]
        generalize 2 ^ k = z at *
        unfold wrap64
        omega
      have HWP := hid hwp
      clear hwp hp
      go_wp2_with fail
      exact ⟨⟨k + 1, by omega, by simp, by rw [HWP.out]⟩, by simp [intOf]; omega⟩
    · obtain rfl : k = n := by omega
      go_wp2_with fail
      go_ret
      exact ⟨rfl, rfl⟩
theorem rpage_any (k o : Int) (w : World) :
    Calls Try.prog 68 #[.int .i64 k, .int .i64 o] w fun e w' => e = .returned (pval (blankP k o)) ∧ Kept none' w w' := by
  go_enter Try.func68, Try.ntmps68
  go_wp2_with fail
  exact ⟨rfl, _, by simp [results, Try.results68, go_sem, blankP], rfl, ((Kept.refl none' w).alloc _).alloc _⟩
theorem Is_any (n : Nat) (a : Option Addr) (cp : Nat) (o q : Value) (i : Int) (w : World) :
    Calls Try.prog 66 #[.agg #[o, .slice a n cp, q], .int .i64 i] w fun e w' => e = .returned (.bool (inR n i)) ∧ Kept none' w w' := by
  by_cases h0 : 0 ≤ i
  · have hd : inR n i = decide (i < (n : Int)) := by simp [inR, h0]
    rw [hd]
    go_enter Try.func66, Try.ntmps66
    go_wp2_with fail
    go_ret
    exact ⟨rfl, (Kept.refl none' w).alloc _⟩
  · have hd : inR n i = false := by simp [inR]; omega
    rw [hd]
    go_enter Try.func66, Try.ntmps66
    go_wp2_with fail
    go_ret
    exact ⟨rfl, (Kept.refl none' w).alloc _⟩
/-- The document's own pages: a row with room behind it. -/
def Rp (w : World) (g : Option Nat) (n : Nat) (pg : Nat → Pg) : Prop :=
  match g with
  | none => n = 0
  | some q => ∃ N, n ≤ N ∧ Row w q N pg
theorem Rp.has {w g n pg} (h : Rp w g n pg) (hn : 0 < n) : ∃ q N, g = some q ∧ n ≤ N ∧ Row w q N pg := by
  cases g with
  | none => have : n = 0 := h; omega
  | some q => obtain ⟨N, h1, h2⟩ := h; exact ⟨q, N, rfl, h1, h2⟩
theorem Rp.kept {w w' g n pg} {S : Nat → Prop} (h : Rp w g n pg) (k : Kept S w w') (hS : ∀ x, g = some x → ¬ S x) : Rp w' g n pg := by
  cases g with
  | none => exact h
  | some q => obtain ⟨N, h1, h2⟩ := h; exact ⟨N, h1, Row.kept h2 k (hS q rfl)⟩
abbrev rv (o : Nat) (g : Option Nat) (n cp : Nat) (q : Value) : Value := .agg #[.int .i64 (o : Int), .slice (adr g) n cp, q]
abbrev ro (o : Nat) (g : Option Nat) (n cp : Nat) (q : Value) : Obj := .cells #[.int .i64 (o : Int), .slice (adr g) n cp, q] 51
end Go.Proofs.Ytbhheimedbfmeaa
