import Derived.Test.YtkfmheelhinjdaaGreatDoorWm
import Derived.Test.YtkfmheelhinjdaaGreatDoorWi
set_option maxRecDepth 1000000
set_option maxHeartbeats 80000000
namespace Go.Proofs.YtkfmheelhinjdaaGreatDoor.W
open Go.RowKit
set_option linter.unusedVariables false
set_option maxHeartbeats 4000000
set_option maxRecDepth 6000
theorem RBk.keepS{w W:World}{v:Value}{l:List (Nat×Nat)}{S:Nat->Prop}(h:RBk w v l)(hk:Kt S w W)(hS:∀ b,v.ownBlock=some b->¬S b):RBk W v l:=by
 obtain⟨oa,oc,rfl,h2⟩:=h;refine⟨oa,oc,rfl,?_⟩;rcases h2 with h2|⟨g,rfl,hg,hc⟩
 ·exact .inl h2
 ·have hn:=hS g rfl;exact .inr ⟨g,rfl,Nat.lt_of_lt_of_le hg hk.size,fun j hj=>⟨hk.cell hn (hc j hj).1,hk.cell hn (hc j hj).2⟩⟩
theorem GB.put{w0 W:World}{g n cap:Nat}{l:List (Nat×Nat)}(h:GB w0 W (.slice (some ⟨g,0,none⟩) n cap) l){j:Nat}(hj:j<l.length)(p s:Nat):
  GB w0 ((W.setCell ⟨g,j*2,none⟩ (.int .u64 p)).setCell ⟨g,j*2+1,none⟩ (.int .u64 s)) (.slice (some ⟨g,0,none⟩) n cap) (l.set j (p,s)):=by
 have hk:Kt (fun b=>b=g) W ((W.setCell ⟨g,j*2,none⟩ (.int .u64 p)).setCell ⟨g,j*2+1,none⟩ (.int .u64 s)):=((Kt.refl (fun b=>b=g) W).setCell (p:=⟨g,j*2,none⟩) rfl _).setCell (p:=⟨g,j*2+1,none⟩) rfl _;have hl2:=kX l;have hl3:(blV (l.set j (p,s)))=((blV l).set (j*2) (.int .u64 p)).set (j*2+1) (.int .u64 s):=by
  clear h hk hl2;induction l generalizing j with
  | nil=>simp at hj
  | cons b l ih=>
   cases j with
   | zero=>rfl
   | succ j=>
    show Value.int .u64 b.1 :: Value.int .u64 b.2 :: blV (l.set j (p,s))=_
    rw[ih (by simpa using hj),show(j+1)*2=j*2+1+1 by omega];rfl
 rcases h.own.2 with ⟨e,_⟩|⟨g',cap',cur,e,hb,hg,h1,h2,h3,h4⟩
 ·cases e
 ·have eg:g=g':=by
   injection e with e1
   injection e1 with e2
   injection e2
  have ec:n=l.length/\cap=cap':=by
   injection e with e1 e2 e3
   exact⟨e2,e3⟩
  obtain⟨ec1,ec2⟩:=ec;subst eg ec2;have hg1:=heap_set hg (j*2) (.int .u64 p);have hg2:=heap_set hg1 (j*2+1) (.int .u64 s);refine⟨⟨?_,.inr ⟨g,cap,_,?_,hb,hg2,?_,h2,?_,?_⟩⟩,fun g' cap' e=>?_,h.kp.trans hk (fun _ _ x=>x) (fun x hx e=>?_)⟩
  ·rw[kX]
  ·rw[List.length_set,ec1]
  ·rw[List.length_set];exact h1
  ·simpa using h3
  ·rw[hl3,List.length_set,<-h4];simp only[Array.toList_setIfInBounds];rw[List.take_set,List.take_set]
  ·rw[List.length_set] at e;exact h.new g' cap' (by rw[<-e,ec1])
  ·have:=h.new g cap (by rw[ec1]);omega
theorem GB.put_kept(W:World)(g j p s:Nat):Kt (fun b=>b=g) W ((W.setCell ⟨g,j*2,none⟩ (.int .u64 p)).setCell ⟨g,j*2+1,none⟩ (.int .u64 s)):=((Kt.refl (fun b=>b=g) W).setCell (p:=⟨g,j*2,none⟩) rfl _).setCell (p:=⟨g,j*2+1,none⟩) rfl _
end Go.Proofs.YtkfmheelhinjdaaGreatDoor.W
