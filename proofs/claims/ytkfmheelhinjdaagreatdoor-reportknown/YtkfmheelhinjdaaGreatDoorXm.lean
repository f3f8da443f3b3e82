import Derived.Test.YtkfmheelhinjdaaGreatDoorXk
import Derived.Test.YtkfmheelhinjdaaGreatDoorXz
set_option maxRecDepth 1000000
set_option maxHeartbeats 80000000
namespace Go.Proofs.YtkfmheelhinjdaaGreatDoor
open Go.RowKit
set_option linter.unusedVariables false
theorem qZ{W:World}{b:Nat}{e:TypeId}{size:Nat}{v:Value}{n:Nat}{xs:List Value}(h:W.ownsRow b e size v n xs):∃ va vc,v=.slice va n vc:=by
 rcases h.2 with ⟨h0,h1⟩|⟨g,cap,cur,h0,_⟩
 ·exact⟨none,0,by rw[h0,h1]⟩
 ·exact⟨_,_,h0⟩
theorem sI{W:World}{b:Nat}{e:TypeId}{size:Nat}{v:Value}{n:Nat}{xs:List Value}(h:W.ownsRow b e size v n xs){y:Nat}(hy:v.ownBlock=some y):∃ cs,W.heap[y]?=some (.cells cs e (0,0)):=by
 rcases h.2 with ⟨h0,_⟩|⟨g,cap,cur,h0,hb,hg,h3⟩
 ·rw[h0] at hy;simp[Value.ownBlock] at hy
 ·rw[h0] at hy;simp[Value.ownBlock] at hy;subst hy;exact⟨_,hg⟩
end Go.Proofs.YtkfmheelhinjdaaGreatDoor
namespace Go.Proofs.YtkfmheelhinjdaaGreatDoor.W
open Go.RowKit
set_option linter.unusedVariables false
set_option maxHeartbeats 8000000
set_option maxRecDepth 6000
set_option maxHeartbeats 8000000
set_option maxRecDepth 6000
set_option maxHeartbeats 8000000
set_option maxRecDepth 6000
end Go.Proofs.YtkfmheelhinjdaaGreatDoor.W
