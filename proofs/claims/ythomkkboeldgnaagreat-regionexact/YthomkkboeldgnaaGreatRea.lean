import Derived.Test.YthomkkboeldgnaaGreatGonB
/- Lists of pairs: what RxE, RxI have of them, for texts that stand without the document's own pool. -/
namespace Go.Proofs.YthomkkboeldgnaaGreat
open Go.RowKit
set_option linter.unusedVariables false

theorem take_nextP (l : List (Nat × Nat)) {j : Nat} (hj : j < l.length) : l.take (j + 1) = l.take j ++ [l.getD j (0, 0)] := by
  rw [List.take_add_one, List.getElem?_eq_getElem hj, List.getD_eq_getElem?_getD, List.getElem?_eq_getElem hj]
  rfl
theorem getD_mem {ls : List (Nat × Nat)} {i : Nat} (h : i < ls.length) : ls.getD i (0, 0) ∈ ls := by
  rw [List.getD_eq_getElem?_getD, List.getElem?_eq_getElem h]
  exact List.getElem_mem h
theorem space_some6 {w s a base R lim n f} (h : M.SpaceAt w s a base R lim n f) (hn : 0 < n) : ∃ g, a = some g := by
  obtain ⟨cap, hb, hr⟩ := h.ex
  cases a with
  | none => exact absurd hr.1 (by omega)
  | some g => exact ⟨g, rfl⟩
end Go.Proofs.YthomkkboeldgnaaGreat
