import Derived.Test.YtfmgnljlkdmndaaGreatDoorXi
import Derived.Test.YtfmgnljlkdmndaaGreatDoorZf
set_option maxRecDepth 1000000
set_option maxHeartbeats 80000000
namespace Go.Proofs.YtfmgnljlkdmndaaGreatDoor
open Go.RowKit
set_option linter.unusedVariables false
theorem zkg{a b:World}{z:Nat}{o:Obj}(k:Kt nO a b)(h:a.heap[z]?=some o):b.heap[z]?=some o:=(k.block z (lH h) (fun x=>x)).trans h
end Go.Proofs.YtfmgnljlkdmndaaGreatDoor
