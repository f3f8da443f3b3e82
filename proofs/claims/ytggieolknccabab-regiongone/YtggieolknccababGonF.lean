/- RegionGone: numbers that came in. -/
import Derived.Test.YtggieolknccababGonE
import Derived.ProofKit
import Derived.OpenShut
namespace Go.Proofs.Ytggieolknccabab
open Go.ChangeShapes Go.WideShapes Go.ChangeAt Go.RowKit
set_option linter.unusedVariables false

theorem at_spot {w : World} {a : Addr} {v : Value} (h : w.cell? a = some v) : ∃ b o, a = ⟨b, o, none⟩ ∧ b < w.heap.size := by
  obtain ⟨b, o, s⟩ := a
  unfold World.cell? at h
  split at h
  · rename_i hh
    have hb := (Array.getElem?_eq_some_iff.1 hh).1
    cases s with
    | none => exact ⟨b, o, rfl, hb⟩
    | some s => simp at h
  · cases h
theorem in6_of {w : World} {x : Addr} {len : Nat} {zs : List Int} (h1 : len ≤ zs.length) (h2 : zs.length ≤ maxLen) (h4 : ∀ i, i < zs.length → w.cell? (x.add i) = some (.int .i64 (zs.getD i 0))) (h5 : ∀ n ∈ zs, (Lit.int .i64 n).wf = true) : In6 w (some x) len := by
  refine ⟨by unfold maxLen at h2; omega, ?_⟩
  by_cases h0 : len = 0
  · exact .inl h0
  · have c0 := h4 0 (by omega)
    have e0 : x.add 0 = x := by simp [Addr.add]
    rw [e0] at c0
    obtain ⟨bl, f, rfl, _⟩ := at_spot c0
    refine .inr ⟨bl, f, rfl, fun i hi => ⟨zs.getD i 0, ?_, ?_⟩⟩
    · refine bounds_i64 (h5 _ ?_)
      rw [List.getD_eq_getElem?_getD, List.getElem?_eq_getElem (by omega)]
      exact List.getElem_mem _
    · have := h4 i (by omega)
      rw [Addr.add_lit] at this
      exact this
end Go.Proofs.Ytggieolknccabab
