/- MemBegins. -/
import Derived.Test.YtanfdpangcgdhabCopies
namespace Go.Proofs.Ytanfdpangcgdhab
open Go.RowKit
set_option linter.unusedVariables false

theorem Blk.congr {w h m g g'} (H : Blk w h m g) (hg : ∀ i, i < m → g i = g' i) : Blk w h m g' := by
  refine ⟨fun i hi => by rw [← hg i hi]; exact H.1 i hi, ?_⟩
  rw [H.2]
  have : told m g = told m g' := by
    unfold told
    exact List.map_congr_left (fun i hi => hg i (List.mem_range.1 hi))
  rw [this]

end Go.Proofs.Ytanfdpangcgdhab
