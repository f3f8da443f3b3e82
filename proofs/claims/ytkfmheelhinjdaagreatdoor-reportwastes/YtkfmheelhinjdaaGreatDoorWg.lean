import Derived.Test.YtkfmheelhinjdaaGreatDoorXo
import Derived.Laws.Rows
set_option maxRecDepth 1000000
set_option maxHeartbeats 80000000
namespace Go.Proofs.YtkfmheelhinjdaaGreatDoor.W
open Go.RowKit
set_option linter.unusedVariables false
set_option maxHeartbeats 16000000
set_option maxRecDepth 6000
abbrev iH:Obj:=.cells #[.int .u64 0,.int .i64 0,.int .i64 0,.int .i64 0,.slice none 0 0,.slice none 0 0,.slice none 0 0,.slice none 0 0,.slice none 0 0] 38
theorem lC{W:World}{s k:Nat}{c:Array Value}{t:TypeId}{fr:Nat×Nat}(h:W.heap[s]?=some (.cells c t fr))(x:Value):(W.setCell ⟨s,k,none⟩ x).heap[s]?=some (.cells (c.setIfInBounds k x) t fr):=by
 simp[World.setCell,Array.getElem?_modify,h]
theorem st9{W:World}{s:Nat}(b0:W.heap[s]?=some iH)(x0 x1 x2 x3 x4 x5 x6 x7 x8:Value):(((((((((W.setCell ⟨s,0,none⟩ x0).setCell ⟨s,1,none⟩ x1).setCell ⟨s,2,none⟩ x2).setCell ⟨s,3,none⟩ x3).setCell ⟨s,4,none⟩ x4).setCell ⟨s,5,none⟩ x5).setCell ⟨s,6,none⟩ x6).setCell ⟨s,7,none⟩ x7).setCell ⟨s,8,none⟩ x8).heap[s]?=some (.cells #[x0,x1,x2,x3,x4,x5,x6,x7,x8] 38):=
 lC (lC (lC (lC (lC (lC (lC (lC (lC b0 x0) x1) x2) x3) x4) x5) x6) x7) x8
end Go.Proofs.YtkfmheelhinjdaaGreatDoor.W
