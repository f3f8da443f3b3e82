import Derived.Test.YtkfmheelhinjdaaGreatDoorWc
import Derived.Test.YtkfmheelhinjdaaGreatDoorWf
set_option maxRecDepth 1000000
set_option maxHeartbeats 80000000
namespace Go.Proofs.YtkfmheelhinjdaaGreatDoor
open _root_.Go.Proofs.Tryz
open Go.RowKit
set_option linter.unusedVariables false
abbrev qB:List (Nat×Nat):=[(0,0),(1,0),(2,1)]
structure Im4(I:W.Img):Prop where
 ck:W.chk I=(0,0)
 np:I.np=4
 ord:I.ord=1
 nm:I.nm=16384
 p0:(I.pg 0).kd=4/\(I.pg 0).cl=0/\(I.pg 0).lv=1
 p1:(I.pg 1).kd=4/\(I.pg 1).cl=1/\(I.pg 1).lv=1
 p2:(I.pg 2).kd=2/\(I.pg 2).od=1
 p3:(I.pg 3).kd=3
section
variable {w Wo:World} {hb:Nat} {v:Bool}
theorem sW{x:Bx}{S:Sb}{g k n:Nat}(h:S.fl g=List.range' 1 n):∀ j,j<=n+1->gH x S g k j=if j=0 then [] else [(aQ x g k 0,aE k)]
 | 0,_=>rfl
 | j+1,hj=>by
  have ih:=sW (x:=x) (k:=k) h j (by omega);show(if j∈S.fl g then gH x S g k j else gH x S g k j ++ [(aQ x g k j,aE k)])=_
  rw[h,ih];rcases Nat.eq_zero_or_pos j with e|e
  ·subst e;rw[if_neg (by rw[List.mem_range'_1];omega)];rfl
  ·rw[if_pos (by rw[List.mem_range'_1];omega),if_neg (by omega),if_neg (by omega)]
theorem KH.pg4(s:KH w Wo hb 16384 [] [] qB Q2 v):∃ sb lw x t fr,HW w Wo hb sb lw x t fr qB Q2 0/\x.bS=65536/\x.lim=2/\x.o=1/\t.m.n=4/\x.n=16384/\SlP Q2 0 0 (t.m.pg 0)/\SlP Q2 1 1 (t.m.pg 1)/\t.m.pg 2=aN 2 1/\t.m.pg 3=aN 3 1:=by
 obtain⟨sb,lw,x,t,fr,H,e1,e2,e3,e4,e5,f0,f1,-⟩:=s;have hn:=KH.pages H e5;obtain⟨h,o⟩:=H.so;obtain⟨B,sd,n9,hL⟩:=o.sf;have hc2:Q2.c 2=none:=rfl;have hc3:Q2.c 3=none:=rfl;have key:∀ i,i<4->Q2.c i=none->(i=2\/i=3)->t.m.pg i=aN (if i=2 then 2 else 3) 1:=fun i hi hc h23=>by
  obtain⟨g,p,k,hb',h1,h2⟩:=sd.cv i (by omega);have hg:g=2:=by
   rcases sd.tg g p k hb' with e|e|e
   ·subst e;obtain⟨q1,q2⟩:=(sd.fi p k).1 hb';rcases (show k=0\/k=1 by omega)with rfl|rfl
    ·rw[f0] at q2;cases q2
    ·rw[f1] at q2;cases q2
   ·exact e
   ·subst e;exact absurd hb' (n9 p k)
  subst hg;have hm:(p,k)∈qB:=(hL p k).1 hb';have hp:p=2/\k=1:=by
   simp only[List.mem_cons,Prod.mk.injEq,List.not_mem_nil,or_false] at hm;rcases hm with ⟨rfl,rfl⟩|⟨rfl,rfl⟩|⟨rfl,rfl⟩
   ·simp at h2;omega
   ·simp at h2;omega
   ·exact⟨rfl,rfl⟩
  obtain⟨rfl,rfl⟩:=hp;have hp:=sd.pg 2 2 1 hb' (by decide) i h1 h2;rw[o.si.eP,iI hc,Option.getD_none] at hp;rw[hp];rcases h23 with rfl|rfl <;> rfl
 exact⟨sb,lw,x,t,fr,H,e1,e2,e3,by omega,e5,(o.si.pg 0 0 rfl).2,(o.si.pg 1 1 rfl).2,key 2 (by decide) hc2 (.inl rfl),key 3 (by decide) hc3 (.inr rfl)⟩
theorem vZ:∀ l:List (Nat×Nat),blV l=W.blV l
 | []=>rfl
 | b :: l=>by
  show _ :: _ :: blV l=_ :: _ :: W.blV l
  rw[vZ l]
theorem ES{w0 U:World}{v:Value}{l:List (Nat×Nat)}(h:GB w0 U v l):W.RBk U v l:=by
 obtain⟨h1,h2⟩:=h.own;rcases h2 with ⟨rfl,h0⟩|⟨g,cap,cur,rfl,_,hg,_,_,hs,ht⟩
 ·exact⟨none,0,by rw[h0],.inl (List.eq_nil_of_length_eq_zero h0)⟩
 ·refine⟨_,_,rfl,.inr ⟨g,rfl,lH hg,fun j hj=>?_⟩⟩;obtain⟨e1,e2⟩:=W.blV_get l j hj;rw[<-vZ,<-ht,List.getElem?_take_of_lt (by omega)] at e1 e2;rw[Array.getElem?_toList] at e1 e2;exact⟨by simp[World.cell?,hg,e1],by simp[World.cell?,hg,e2]⟩
theorem KH.live(s:KH w Wo hb 16384 [] [] qB Q2 v):
  Calls prog 32 #[.pointer (some ⟨hb,0,none⟩)] Wo fun e w'=>∃ v,e=.returned v/\W.RBk w' v [(65536,16),(69632,32),(73728,8192)]/\Kt nO Wo w':=by
 obtain⟨sb,lw,x,t,fr,H,e1,e2,e3,e4,e5,p0,p1,p2,p3⟩:=s.pg4;refine(ED H).mono ?_;rintro e w' ⟨v,rfl,hv⟩;have h0:pgL x t Q2 0=[(65536,16)]:=by
  show gH x Q2 0 0 (aG 0)=_
  rw[sW (n:=255) rfl (aG 0) (by decide),if_neg (by decide)];show [(x.bS+4096*0+0*16,16)]=_
  rw[e1]
 have h1:pgL x t Q2 1=[(69632,32)]:=by
  show gH x Q2 1 1 (aG 1)=_
  rw[sW (n:=127) rfl (aG 1) (by decide),if_neg (by decide)];show [(x.bS+4096*1+0*32,32)]=_
  rw[e1]
 have h2:pgL x t Q2 2=[(73728,8192)]:=by
  show(if (t.m.pg 2).kd=2 then [(x.bS+4096*2,4096*2 ^ (t.m.pg 2).od.toNat)] else [])=_
  rw[p2,e1];rfl
 have h3:pgL x t Q2 3=[]:=by
  show(if (t.m.pg 3).kd=2 then [(x.bS+4096*3,4096*2 ^ (t.m.pg 3).od.toNat)] else [])=_
  rw[p3];rfl
 have hl:lB x t Q2 t.m.n=[(65536,16),(69632,32),(73728,8192)]:=by
  rw[e4];show(((([] ++ pgL x t Q2 0) ++ pgL x t Q2 1) ++ pgL x t Q2 2) ++ pgL x t Q2 3)=_
  rw[h0,h1,h2,h3];rfl
 rw[hl] at hv;exact⟨v,rfl,ES hv,hv.kp⟩
theorem KH.image(s:KH w Wo hb 16384 [] [] qB Q2 v):
  Calls prog 13 #[.pointer (some ⟨hb,0,none⟩)] Wo fun e w'=>∃ I V,e=.returned (W.imA I V)/\W.ImD w' I V/\Im4 I/\Kt nO Wo w':=by
 obtain⟨sb,lw,x,t,fr,H,e1,e2,e3,e4,e5,p0,p1,p2,p3⟩:=s.pg4;have may:M.mayB x.bS (x.lim:Int) (x.o:Int)=true:=by rw[e1,e2,e3];exact pW
 obtain⟨B,h0⟩:=H.st0 may;refine(NQ H may).mono ?_;rintro e w' ⟨V,rfl,hV,hk⟩;refine⟨_,V,rfl,hV,⟨h0.sound,e4,by show((x.o:Nat):Int)=1;rw[e3];rfl,e5,⟨p0.kd,p0.cl,?_⟩,⟨p1.kd,p1.cl,?_⟩,?_,?_⟩,hk⟩
 ·exact p0.lv.trans (by decide +kernel)
 ·exact p1.lv.trans (by decide +kernel)
 ·show(t.m.pg 2).kd=2/\(t.m.pg 2).od=1
  rw[p2];exact⟨rfl,rfl⟩
 ·show(t.m.pg 3).kd=3
  rw[p3];rfl
end
end Go.Proofs.YtkfmheelhinjdaaGreatDoor
