import Derived.Test.YtkfmheelhinjdaaGreatDoorWa
set_option maxRecDepth 1000000
set_option maxHeartbeats 80000000
namespace Go.Proofs.YtkfmheelhinjdaaGreatDoor.W
open Go.RowKit
set_option linter.unusedVariables false
set_option maxHeartbeats 8000000
set_option maxRecDepth 6000
theorem r7k_good{I:Img}{a:Nat}(h1:∀ x,x<I.np/2 ^ (a+1)->aF (I.pr a) x=jQ I a x)(h2:∀ x,I.np/2 ^ (a+1)<=x->x<64*(I.pr a).length->aF (I.pr a) x=false):r7k I a=none:=by
 unfold r7k;rw[fst1_ok (fun x hx=>by rw[h1 x hx];simp)];show(if _ then _ else _)=_
 rw[if_pos];rcases xP (n:=64*(I.pr a).length) (ws:=I.pr a) (k:=I.np/2 ^ (a+1))with ⟨g1,g2⟩|⟨j,g1,g2,g3,g4,-⟩
 ·exact g1
 ·rw[h2 j g2 g3] at g4;cases g4
end Go.Proofs.YtkfmheelhinjdaaGreatDoor.W
