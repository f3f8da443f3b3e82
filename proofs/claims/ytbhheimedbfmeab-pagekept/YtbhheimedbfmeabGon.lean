/- croftlaw4.gone. -/
import Derived.Test.YtbhheimedbfmeabPgU
namespace Go.Proofs.Ytbhheimedbfmeab
open Go.RowKit
set_option linter.unusedVariables false

def goneB (n : Nat) (pg : Nat → Pg) : Nat → Bool
  | 0 => false
  | k + 1 => goneB n pg k || (decide ((n : Int) ≤ (pg k).nx) || decide ((n : Int) ≤ (pg k).pv))
theorem goneB_mono {n : Nat} {pg : Nat → Pg} {k : Nat} (h : goneB n pg k = true) : ∀ {j : Nat}, k ≤ j → goneB n pg j = true
  | 0, hj => by
    have : k = 0 := by omega
    subst this
    exact h
  | j + 1, hj => by
    by_cases e : k = j + 1
    · subst e; exact h
    · rw [goneB, goneB_mono h (show k ≤ j by omega)]; rfl
set_option maxRecDepth 4000 in
set_option maxHeartbeats 1000000 in
theorem gone_any (g n : Nat) (pg : Nat → Pg) (hn : n ≤ 1024) (w : World) (h : Row w g n pg) :
    Calls Try.prog 10 #[.slice (some ⟨g, 0, none⟩) n n] w fun e w' => e = .returned (.bool (goneB n pg n)) ∧ Kept none' w w' := by
  have H1 := hid h
  clear h
  go_enter Try.func10, Try.ntmps10
  go_wp2_with fail
  go_loopw [3] (fun i W => ∃ k : Nat, k ≤ n ∧ i = .int .i64 k ∧ Hid (Kept none' w W ∧ goneB n pg k = false)) (fun i _ => n - (intOf i).toNat)
  case atStart => exact ⟨0, by omega, rfl, ⟨Kept.refl none' w, rfl⟩⟩
  case round =>
    obtain ⟨k, hk, rfl, hK⟩ := hrel
    by_cases hlt : k < n
    · have hki : (k : Int) < (n : Int) := by omega
      obtain ⟨d0, d1, d2, d3, d4, d5, d6, d7, d8, d9, d10⟩ := (Row.kept H1.out hK.out.1 (fun x => x)).cell k hlt
      have HST := hid (show goneB n pg (k + 1) = (goneB n pg k || (decide ((n : Int) ≤ (pg k).nx) || decide ((n : Int) ≤ (pg k).pv))) from rfl)
      rw [hK.out.2] at HST
      by_cases h1 : (n : Int) ≤ (pg k).nx
      · have hd1 : decide ((n : Int) ≤ (pg k).nx) = true := decide_eq_true h1
        have HG := hid (goneB_mono (show goneB n pg (k + 1) = true by rw [HST.out, hd1]; rfl) (show k + 1 ≤ n by omega))
        clear HST
        go_wp2_with fail
        go_ret
        exact ⟨ret_bool HG.out.symm, hK.out.1⟩
      · have hd1 : decide ((n : Int) ≤ (pg k).nx) = false := decide_eq_false h1
        by_cases h2 : (n : Int) ≤ (pg k).pv
        · have hd2 : decide ((n : Int) ≤ (pg k).pv) = true := decide_eq_true h2
          have HG := hid (goneB_mono (show goneB n pg (k + 1) = true by rw [HST.out, hd1, hd2]; rfl) (show k + 1 ≤ n by omega))
          clear HST
          go_wp2_with fail
          go_ret
          exact ⟨ret_bool HG.out.symm, hK.out.1⟩
        · have hd2 : decide ((n : Int) ≤ (pg k).pv) = false := decide_eq_false h2
          have HG := hid (show goneB n pg (k + 1) = false by rw [HST.out, hd1, hd2]; rfl)
          clear HST
          go_wp2_with fail
          exact ⟨⟨k + 1, by omega, by simp, ⟨hK.out.1, HG.out⟩⟩, by simp [intOf]; omega⟩
    · have hki : ¬ (k : Int) < (n : Int) := by omega
      have HG := hid (show goneB n pg n = false by
        have e : k = n := by omega
        rw [e] at hK
        exact hK.out.2)
      go_wp2_with fail
      go_ret
      exact ⟨ret_bool HG.out.symm, hK.out.1⟩
end Go.Proofs.Ytbhheimedbfmeab
