import Derived.Test.YtkfmheelhinjdaaGreatDoorWe
set_option maxRecDepth 1000000
set_option maxHeartbeats 80000000
namespace Go.Proofs.YtkfmheelhinjdaaGreatDoor.W
open _root_.Go.Proofs.Tryz
open Go.RowKit
set_option linter.unusedVariables false
set_option maxHeartbeats 16000000
set_option maxRecDepth 6000
set_option maxHeartbeats 8000000
set_option maxRecDepth 6000
set_option maxHeartbeats 8000000
set_option maxRecDepth 6000
set_option maxHeartbeats 8000000
set_option maxRecDepth 6000
set_option maxHeartbeats 8000000
set_option maxRecDepth 6000
def RBk(w:World)(v:Value)(l:List (Nat×Nat)):Prop:=∃ oa oc,v=.slice oa l.length oc/\(l=[]\/∃ g,oa=some ⟨g,0,none⟩/\g<w.heap.size/\∀ j,j<l.length->w.cell? ⟨g,j*2,none⟩=some (.int .u64 ((l.getD j (0,0)).1:Int))/\w.cell? ⟨g,j*2+1,none⟩=some (.int .u64 ((l.getD j (0,0)).2:Int)))
theorem blV_get:∀ (l:List (Nat×Nat)) (j:Nat),j<l.length->(blV l)[j*2]?=some (.int .u64 ((l.getD j (0,0)).1:Int))/\(blV l)[j*2+1]?=some (.int .u64 ((l.getD j (0,0)).2:Int))
 | [],j,h=>by simp at h
 | b :: l,0,_=>by simp[blV]
 | b :: l,j+1,h=>by
  have:=blV_get l j (by simpa using h);rw[show(j+1)*2=j*2+1+1 by omega];simpa [blV] using this
theorem GB.rb{w0 W:World}{v:Value}{l:List (Nat×Nat)}(h:GB w0 W v l):RBk W v l:=by
 obtain⟨h1,h2⟩:=h.own;rcases h2 with ⟨rfl,h0⟩|⟨g,cap,cur,rfl,_,hg,_,_,hs,ht⟩
 ·exact⟨none,0,by rw[h0],.inl (List.eq_nil_of_length_eq_zero h0)⟩
 ·refine⟨_,_,rfl,.inr ⟨g,rfl,lH hg,fun j hj=>?_⟩⟩;obtain⟨e1,e2⟩:=blV_get l j hj;rw[<-ht,List.getElem?_take_of_lt (by omega)] at e1 e2;rw[Array.getElem?_toList] at e1 e2;exact⟨by simp[World.cell?,hg,e1],by simp[World.cell?,hg,e2]⟩
theorem RBk.keep{w W:World}{v:Value}{l:List (Nat×Nat)}(h:RBk w v l)(hk:Kt nO w W):RBk W v l:=by
 obtain⟨oa,oc,h1,h2⟩:=h;refine⟨oa,oc,h1,?_⟩;rcases h2 with h2|⟨g,e,hg,hc⟩
 ·exact .inl h2
 ·exact .inr ⟨g,e,Nat.lt_of_lt_of_le hg hk.size,fun j hj=>⟨hk.cell (fun x=>x) (hc j hj).1,hk.cell (fun x=>x) (hc j hj).2⟩⟩
set_option maxHeartbeats 8000000
set_option maxRecDepth 6000
set_option maxHeartbeats 8000000
set_option maxRecDepth 6000
theorem YP(w:World)(q:Nat):Kt nO w (w.drewN q):=(Kt.refl nO w).drewN q
set_option maxHeartbeats 8000000
set_option maxRecDepth 6000
theorem oK(v u:Value)(l:List (Nat×Nat))(w:World)(hl:l.length<=9223372036854775807)(hv:RBk w v l)(hu:RBk w u l):
  Calls prog 28 #[v,u] w fun e w'=>e=.returned (.bool true)/\Kt nO w w':=by
 have HV:=aA hv;have HU:=aA hu;obtain⟨va,vc,hv1,-⟩:=hv;obtain⟨ua,uc,hu1,-⟩:=hu;obtain⟨n,hn⟩:=xe (l.length);rw[<-hn] at hl hv1 hu1;obtain⟨P,hP⟩:∃ P:Nat->Nat,P=fun j=>(l.getD j (0,0)).1:=⟨_,rfl⟩
 obtain⟨S,hS⟩:∃ S:Nat->Nat,S=fun j=>(l.getD j (0,0)).2:=⟨_,rfl⟩
 have RW:=aA (show ∀ W,Kt nO w W->∀ j,j<n->∃ g k,va=some ⟨g,0,none⟩/\ua=some ⟨k,0,none⟩/\(W.cell? ⟨g,j*2,none⟩=some (.int .u64 (P j:Int))/\W.cell? ⟨g,j*2+1,none⟩=some (.int .u64 (S j:Int)))/\(W.cell? ⟨k,j*2,none⟩=some (.int .u64 (P j:Int))/\W.cell? ⟨k,j*2+1,none⟩=some (.int .u64 (S j:Int)))from fun W hW j hj=>by
  obtain⟨oa,oc,q1,q2⟩:=HV.out;obtain⟨ob,od,p1,p2⟩:=HU.out;rw[hv1] at q1;rw[hu1] at p1
  cases q1
  cases p1
  subst hP hS;rcases q2 with q2|⟨g,rfl,hg,hc⟩
  ·rw[hn,q2] at hj;simp at hj
  rcases p2 with p2|⟨k,rfl,hk,hd⟩
  ·rw[hn,p2] at hj;simp at hj
  exact⟨g,k,rfl,rfl,⟨hW.cell (fun x=>x) (hc j (by omega)).1,hW.cell (fun x=>x) (hc j (by omega)).2⟩,⟨hW.cell (fun x=>x) (hd j (by omega)).1,hW.cell (fun x=>x) (hd j (by omega)).2⟩⟩)
 clear hP hS HV HU hn;subst hv1 hu1;go_enter func28,ntmps28;go_wp2_with fail;go_loopw [5] (fun iv W=>∃ a:Nat,a<=n/\iv=.int .i64 a/\Hid (Kt nO w W)) (fun iv _=>n-(intOf iv).toNat)
 case atStart=>exact⟨0,Nat.zero_le _,rfl,aA (Kt.refl _ _)⟩
 case round=>
  obtain⟨a,ha,rfl,hK⟩:=hrel;by_cases hlt:a<n
  ·have hai:(a:Int)<n:=(by omega);obtain⟨g,k,rfl,rfl,⟨r0,r1⟩,⟨s0,s1⟩⟩:=RW.out wr hK.out a hlt;go_wp2_with fail;go_quiet (fail)
   go_wp2_with fail;exact⟨⟨a+1,by omega,by simp,aA (nT hK.out (YP wr nq))⟩,by simp[intOf];omega⟩
  ·have hai:¬(a:Int)<n:=(by omega);go_wp2_with fail;go_ret;exact⟨rfl,hK.out⟩
end Go.Proofs.YtkfmheelhinjdaaGreatDoor.W
