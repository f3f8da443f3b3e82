/- croftlaw7.ints of the same numbers. -/
import Derived.Test.YtocpnddacdpnmaaGreatDoorSma
namespace Go.Proofs.YtocpnddacdpnmaaGreatDoor
open Go.RowKit
set_option linter.unusedVariables false

theorem Kept.drewK {S : Nat → Prop} {w w' : World} (k : Kept S w w') : ∀ d, Kept S w (w'.drewN d)
  | 0 => k
  | d + 1 => (Kept.drewK k d).drew
/-- Numbers that lie in a row. -/
def NumC (W : World) (b : Nat) (n : Nat) (f : Nat → Int) : Prop := ∀ j, j < n → W.cell? ⟨b, j, none⟩ = some (.int .i64 (f j))
set_option maxRecDepth 4000 in
theorem ints7 (a b : Nat) (n ca cb : Nat) (f : Nat → Int) (hn : n ≤ 2000) (W : World) (ha : NumC W a n f) (hb : NumC W b n f) :
    Calls Tryz.prog 10 #[.slice (some ⟨a, 0, none⟩) n ca, .slice (some ⟨b, 0, none⟩) n cb] W fun e w' => e = .returned (.bool true) ∧ Kept none' W w' := by
  have HA := hid ha
  have HB := hid hb
  clear ha hb
  go_enter Tryz.func10, Tryz.ntmps10
  go_wp2
  go_loopw [5] (fun i wr => ∃ k : Nat, k ≤ n ∧ i = .int .i64 k ∧ ∃ d, wr = W.drewN d) (fun i _ => n - (intOf i).toNat)
  case atStart => exact ⟨0, by omega, rfl, 0, rfl⟩
  case round =>
    obtain ⟨k, hk, rfl, d, rfl⟩ := hrel
    by_cases hlt : k < n
    · have hca := HA.out k hlt
      have hcb := HB.out k hlt
      generalize f k = v at *
      have hik : (k : Int) < (n : Int) := by omega
      clear HA HB
      go_wp2
      go_quiet (fail)
      go_wp2
      exact ⟨⟨k + 1, by omega, by simp, _, rfl⟩, by simp [intOf]; omega⟩
    · have hik : ¬ (k : Int) < (n : Int) := by omega
      have D := hid (Kept.drewK (Kept.refl none' W) d)
      clear HA HB
      go_wp2
      go_ret
      exact ⟨rfl, D.out⟩
end Go.Proofs.YtocpnddacdpnmaaGreatDoor
