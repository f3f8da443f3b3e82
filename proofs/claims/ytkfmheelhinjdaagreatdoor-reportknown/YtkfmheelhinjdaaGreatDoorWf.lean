import Derived.Test.YtkfmheelhinjdaaGreatDoorWa
import Derived.Laws.Rows
set_option maxRecDepth 1000000
set_option maxHeartbeats 80000000
namespace Go.Proofs.YtkfmheelhinjdaaGreatDoor.W
open Go.RowKit
set_option linter.unusedVariables false
set_option maxHeartbeats 16000000
set_option maxRecDepth 6000
theorem JA{W:World}{s k:Nat}{c:Array Value}{t:TypeId}{fr:Nat×Nat}(h:W.heap[s]?=some (.cells c t fr))(x:Value):(W.setCell ⟨s,k,none⟩ x).heap[s]?=some (.cells (c.setIfInBounds k x) t fr):=by
 simp[World.setCell,Array.getElem?_modify,h]
end Go.Proofs.YtkfmheelhinjdaaGreatDoor.W
