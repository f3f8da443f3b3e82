import Derived.Test.YtkfmheelhinjdaaGreatDoorXw
set_option maxRecDepth 1000000
set_option maxHeartbeats 80000000
namespace Go.Proofs.YtkfmheelhinjdaaGreatDoor.M
open Go.RowKit
set_option linter.unusedVariables false
end Go.Proofs.YtkfmheelhinjdaaGreatDoor.M
