/- PageKnown: what Open refuses there; what Plain tells there. -/
import Derived.Test.YtbhheimedbfmeaaKs
namespace Go.Proofs.Ytbhheimedbfmeaa
open Go.RowKit
set_option linter.unusedVariables false

set_option maxRecDepth 4000 in
theorem open_k1 (a c : Addr) (w : World) :
    Calls Try.prog 22 #[.int .i64 2, .slice (some a) 3 4, .slice (some c) 2 2] w fun e w' => e = .returned (.tuple #[.pointer none, .int .i64 7]) ∧ Kept none' w w' := by
  go_enter Try.func22, Try.ntmps22
  go_wp2_with fail
  exact ⟨rfl, .tuple #[.pointer none, .int .i64 7], by simp [results, Try.results22, go_sem], rfl, Kept.refl none' _⟩
set_option maxRecDepth 4000 in
theorem open_k2 (a c : Addr) (w : World) :
    Calls Try.prog 22 #[.int .i64 1, .slice (some a) 4 4, .slice (some c) 2 2] w fun e w' => e = .returned (.tuple #[.pointer none, .int .i64 7]) ∧ Kept none' w w' := by
  go_enter Try.func22, Try.ntmps22
  go_wp2_with fail
  exact ⟨rfl, .tuple #[.pointer none, .int .i64 7], by simp [results, Try.results22, go_sem], rfl, Kept.refl none' _⟩
theorem Told.look {w W gp gq m k D} (h : Told w W gp gq m k D) (j : Nat) (hj : j < k) (x : Nat) (hx : m.wd j = [x]) : W.cell? ⟨gq, j, none⟩ = some (.slice (some ⟨D j, 0, none⟩) 1 1) ∧ W.cell? ⟨D j, 0, none⟩ = some (.int .u64 (x : Int)) := by
  obtain ⟨cs, hg, hs, hc⟩ := h.q
  have hd := h.d j hj
  rw [hx] at hd
  refine ⟨?_, ?_⟩
  · have := hc j hj
    rw [wsl, hx] at this
    simp only [World.cell?, hg]
    exact this
  · simp [World.cell?, hd, wcells]
end Go.Proofs.Ytbhheimedbfmeaa
