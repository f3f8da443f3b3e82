import Derived.Test.YtfmgnljlkdmndaaGreatDoorXu
import Derived.Test.YtfmgnljlkdmndaaGreatDoorXx
set_option maxRecDepth 1000000
set_option maxHeartbeats 0
namespace Go.Proofs.YtfmgnljlkdmndaaGreatDoor
open Go.RowKit
set_option linter.unusedVariables false
theorem zkw{a b:Wd}{z:Nat}{o:Obj}(k:Kt nO a b)(h:a.heap[z]?=some o):b.heap[z]?=some o:=(k.block z (lH h) (fun x=>x)).trans h
end Go.Proofs.YtfmgnljlkdmndaaGreatDoor
