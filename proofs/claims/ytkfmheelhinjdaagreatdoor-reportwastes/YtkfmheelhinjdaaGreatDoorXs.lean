import Derived.Test.YtkfmheelhinjdaaGreatDoorXr
import Derived.Test.YtkfmheelhinjdaaGreatDoorXo
import Derived.Conc.MuLone
set_option maxRecDepth 1000000
set_option maxHeartbeats 80000000
namespace Go.Proofs.YtkfmheelhinjdaaGreatDoor
open _root_.Go.Proofs.Tryz
open Go.RowKit
set_option linter.unusedVariables false
theorem tX(x r:Nat):(x/2 ^ r%2 == 1)=x.testBit r:=by
 rw[Nat.testBit_eq_decide_div_mod_eq];rfl
theorem zj0(p:Pg)(c j:Nat)(hc:c<256)(hj:j<256):aJ (dZ p c) j=(if j=c then !aJ p c else aJ p j):=by
 have key:∀ x:Nat,∀ s r:Nat,(x ^^^ 2 ^ r).testBit s=(if s=r then !x.testBit s else x.testBit s):=fun x s r=>by
  rw[Nat.testBit_xor,Nat.testBit_two_pow];by_cases e:s=r
  ·subst e;simp
  ·have e':¬r=s:=fun h=>e h.symm
   simp[e,e']
 have two:∀ a b:Nat,a/64=b/64->(a%64=b%64↔a=b):=fun a b h=>by omega
 unfold aJ;rw[tX,tX,tX];rcases tP hc with h|h|h|h <;> rcases tP hj with g|g|g|g <;> simp only[dZ,h,g,wP] <;> first
  |(
   rw[key];by_cases e:j=c
   ·subst e;simp
   ·have e2:¬j%64=c%64:=fun e3=>e ((two j c (by omega)).1 e3)
    simp[e,e2])
  | (rw[if_neg (by omega)])
theorem VL(p:Pg)(c j:Nat)(hc:c<256)(hj:j<256):aJ (bU p c) j=(if j=c then !aJ p c else aJ p j):=by
 rw[<-zj0 p c j hc hj];unfold aJ bU;unfold wP;rfl
def aX{α : Type}(f:Nat->α)(p:Nat)(v : α):Nat->α:=fun r=>if r=p then v else f r
theorem dC{α : Type}(f:Nat->α)(p:Nat)(v : α):aX f p v p=v:=if_pos rfl
theorem dA{α : Type}(f:Nat->α){p r:Nat}(v : α)(h:r≠p):aX f p v r=f r:=if_neg h
structure SlQ(S:Sb)(p k:Nat)(q:Pg):Prop where
 kd:q.kd=4
 od:q.od=0
 cl:q.cl=(k:Int)
 lv:q.lv=((aI k-(S.fl p).length:Nat):Int)
 fs:q.fs=bD (S.fl p)
 bt:∀ i,i<256->aJ q i=decide (i<aI k/\i ∉ S.fl p)
theorem SlP.q{S p k q}(h:SlP S p k q):SlQ S p k q:=⟨h.kd,h.od,h.cl,h.lv,h.fs,h.bt⟩
theorem SlQ.p{S p k q}(h:SlQ S p k q)(n:q.nx=bC (S.pl k) p)(v:q.pv=bH (S.pl k) p):SlP S p k q:=⟨h.kd,h.od,h.cl,h.lv,n,v,h.fs,h.bt⟩
theorem EA{q q':Pg}(h0:q'.b0=q.b0)(h1:q'.b1=q.b1)(h2:q'.b2=q.b2)(h3:q'.b3=q.b3)(i:Nat):aJ q' i=aJ q i:=by
 unfold aJ;have:wP q' (i/64)=wP q (i/64):=by
  unfold wP;split <;> assumption
 rw[this]
theorem SlQ.rst{S p k q q'}(h:SlQ S p k q)(r:xM q q'):SlQ S p k q':=by
 obtain⟨a,b,rfl⟩:=r;exact⟨h.kd,h.od,h.cl,h.lv,h.fs,fun i hi=>(EA rfl rfl rfl rfl i).trans (h.bt i hi)⟩
theorem SlQ.congr{S S' p k q}(h:SlQ S p k q)(e:S'.fl p=S.fl p):SlQ S' p k q:=⟨h.kd,h.od,h.cl,by rw[e];exact h.lv,by rw[e];exact h.fs,fun i hi=>by rw[e];exact h.bt i hi⟩
theorem pX{x:Bx}{P:Nat->Option Pg}{f:Nat->Nat}{p k:Nat} : ∀ {l:List Nat},mZ x f p k l->mZ { x with P:=P } f p k l
 | [],_=>trivial
 | i :: l,h=>⟨by
   rw[h.1]
   cases l <;> rfl,pX h.2⟩
theorem CS{pg:Nat->Pg}{l:List Nat}{p r:Nat}(hd:l.Nodup)(hr:r≠p)(hl:r ∉ l):fL pg l p r=pg r:=by
 unfold fL;rw[if_neg hr,if_neg,if_neg]
 ·intro e;rcases mS l p hd with h|⟨b,h,hb,_⟩
  ·omega
  ·exact hl (by rw[show r=b by omega];exact hb)
 ·intro e;rcases nL l p hd with h|⟨b,h,hb,_⟩
  ·omega
  ·exact hl (by rw[show r=b by omega];exact hb)
theorem vP{pg:Nat->Pg}{l:List Nat}{p r:Nat}(hr:r≠p)(hl:r ∉ l):eI pg l p r=pg r:=by
 unfold eI;rw[if_neg hr,if_neg (fun e=>hl (oK e.symm))]
def aR(S:Sb)(p k:Nat)(r:List Nat):Sb:={ S with fl:=aX S.fl p r,pl:=if r=[] then aX S.pl k (M.dropL (S.pl k) p) else S.pl }
theorem zj1{S:Sb}{p k i:Nat}{r:List Nat}{q:Pg}(hk:k<8)(h:SlP S p k q)(hf:S.fl p=i :: r)(nd:(S.fl p).Nodup)(hi:i<aI k)(hl:(S.fl p).length<=aI k):
  SlQ (aR S p k r) p k { bU q i with fs:=bD r }/\({ bU q i with fs:=bD r } : Pg).nx=q.nx/\({ bU q i with fs:=bD r } : Pg).pv=q.pv:=by
 obtain⟨t1,t2,t3,t4,t5,t6,t7⟩:=wD q i;have hnb:=dQ hk;have hlit:aJ q i=false:=by
  rw[h.bt i (by omega),hf];exact decide_eq_false (fun e=>e.2 List.mem_cons_self)
 rw[hf] at nd hl;have hni:i ∉ r:=(List.nodup_cons.1 nd).1;have hfl:(aR S p k r).fl p=r:=dC _ _ _;rw[List.length_cons] at hl;refine⟨⟨t1.trans h.kd,t2.trans h.od,t3.trans h.cl,?_,by rw[hfl],fun j hj=>?_⟩,t5,t6⟩
 ·show wrap64 (if aJ q i=true then q.lv-1 else q.lv+1)=_
  rw[hlit,if_neg (by decide),h.lv,hfl,hf,List.length_cons];unfold wrap64;omega
 ·have e1:aJ { bU q i with fs:=bD r } j=aJ (bU q i) j:=EA rfl rfl rfl rfl j;rw[e1,VL q i j (by omega) hj,hfl];by_cases e:j=i
  ·rw[if_pos e,hlit];symm;exact decide_eq_true ⟨by omega,by rw[e];exact hni⟩
  ·rw[if_neg e,h.bt j hj,hf];apply decide_eq_decide.2
   rw[List.mem_cons,not_or];exact⟨fun h=>⟨h.1,h.2.2⟩,fun h=>⟨h.1,e,h.2⟩⟩
theorem zj2{m:Mp}{p i k:Nat}{r:List Nat}(hp:p<m.n)(hkd:(m.pg p).kd=4)(hcl:(m.pg p).cl=(k:Int))(hi:i<aI k)(hlit:aJ (m.pg p) i=false)(hr:∀ j∈r,j<aI k):nA m p i r={ m with pg:=aK m.pg p { bU (m.pg p) i with fs:=bD r } }:=by
 have hcn:eY (m.pg p).cl=aI k:=by rw[hcl];rfl
 unfold nA;rw[(BU hp hkd (by rw[hcn];exact hi) (by rw[hlit];rfl)).2];obtain⟨t1,t2,t3,_⟩:=wD (m.pg p) i;have e1:aK m.pg p (bU (m.pg p) i) p=bU (m.pg p) i:=if_pos rfl;rw[GO (m:={ m with pg:=aK m.pg p (bU (m.pg p) i) }) hp (by show(aK m.pg p _ p).kd=4;rw[e1];exact t1.trans hkd) (by
  rcases qU r with e|⟨j,e,hj⟩
  ·exact .inl e
  ·refine .inr ⟨j,e,?_⟩;show j<eY (aK m.pg p _ p).cl
   rw[e1,show(bU (m.pg p) i).cl=(m.pg p).cl from t3,hcn];exact hr j hj)]
 show({ m with pg:=aK (aK m.pg p (bU (m.pg p) i)) p { aK m.pg p (bU (m.pg p) i) p with fs:=bD r } } : Mp)=_
 rw[e1];refine congrArg (fun g=>({ m with pg:=g } : Mp)) (funext fun a=>?_);unfold aK;by_cases e:a=p
 ·rw[if_pos e,if_pos e]
 ·rw[if_neg e,if_neg e,if_neg e]
theorem SO.hand{w W sb lw x t fr ls S h w'}(o:SO w W sb lw x t fr ls S h){p k i:Nat}{r:List Nat}(hc:S.c p=some k)(hf:S.fl p=i :: r)(se:SE w W sb lw x t (dX t.m p i r) (fQ t.m h p k i r) w'):
  SO w w' sb lw { x with P:=jV (aR S p k r) (dX t.m p i r) } { t with m:=dX t.m p i r } fr ls (aR S p k r) (fQ t.m h p k i r):=by
 obtain⟨hk,sp⟩:=o.si.pg p k hc;obtain⟨nd,lt,lk⟩:=o.si.fl p k hc;have hlv:=o.si.lv p k hc;obtain⟨hls,hpn,_⟩:=o.mem hc;have hnb:=dQ hk;have hib:i<aI k:=lt i (by rw[hf];exact List.mem_cons_self);have hlit:aJ (t.m.pg p) i=false:=by
  rw[sp.bt i (by omega),hf];exact decide_eq_false (fun e=>e.2 List.mem_cons_self)
 have e2:=zj2 (r:=r) hpn sp.kd sp.cl hib hlit (fun j hj=>lt j (by rw[hf];exact List.mem_cons_of_mem _ hj));obtain⟨q2,q2n,q2v⟩:=zj1 hk sp hf nd hib hlv;generalize hq2:({ bU (t.m.pg p) i with fs:=bD r } : Pg)=Q2 at *;have hpl:p∈S.pl k:=(o.si.pm k hk p).2 ⟨hc,by rw[hf];exact List.cons_ne_nil _ _⟩;have hln:(S.pl k).Nodup:=o.si.pn k hk
 have pg2:∀ a c,S.c a=some c->SlQ (aR S p k r) a c (aK t.m.pg p Q2 a)/\(aK t.m.pg p Q2 a).nx=bC (S.pl c) a/\(aK t.m.pg p Q2 a).pv=bH (S.pl c) a:=fun a c ha=>by
  obtain⟨hc8,sa⟩:=o.si.pg a c ha;unfold aK;by_cases e:a=p
  ·subst e;rw[hc] at ha
   cases ha
   rw[if_pos rfl,q2n,q2v];exact⟨q2,sp.nx,sp.pv⟩
  ·rw[if_neg e];exact⟨sa.q.congr (dA _ _ e),sa.nx,sa.pv⟩
 have hout2:∀ a,S.c a=none->aK t.m.pg p Q2 a=t.m.pg a:=fun a ha=>by
  unfold aK;rw[if_neg];intro e;rw[e,hc] at ha
  cases ha
 -- the pages in the end
 obtain⟨pgF,hpgF,hF1,hF2,hF3,hF4⟩:∃ pgF:Nat->Pg,dX t.m p i r={ t.m with pg:=pgF }/\(∀ a,S.c a=none->pgF a=t.m.pg a)/\(∀ a c,S.c a=some c->SlQ (aR S p k r) a c (pgF a)/\(pgF a).nx=bC ((aR S p k r).pl c) a/\(pgF a).pv=bH ((aR S p k r).pl c) a)/\(∀ c,c<8->fQ t.m h p k i r c=bD ((aR S p k r).pl c))/\True:=by
  by_cases hr:r=[]
  ·have hU:=OS (m:={ t.m with pg:=aK t.m.pg p Q2 }) (h:=h) (c:=k) hln hpl (fun a ha=>by
    have hca:=((o.si.pm k hk a).1 ha).1;obtain⟨h1,h2,h3⟩:=pg2 a k hca;exact⟨(o.mem hca).2.1,h1.kd,h2,h3⟩)
   have ePl:(aR S p k r).pl=aX S.pl k (M.dropL (S.pl k) p):=(by unfold aR;rw[if_pos hr]);have np:NP (aK t.m.pg p Q2) S k (S.pl k):=fun a ha=>(pg2 a k ha).2
   have np2:=OO np hln hpl;refine⟨fL (aK t.m.pg p Q2) (S.pl k) p,?_,fun a ha=>?_,fun a c ha=>?_,fun c hc8=>?_,trivial⟩
   ·unfold dX;rw[if_pos hr,e2,hU.1]
   ·have hap:a≠p:=fun e=>by rw[e,hc] at ha;cases ha
    have hal:a ∉ S.pl k:=fun e=>by rw[((o.si.pm k hk a).1 e).1] at ha;cases ha
    rw[CS hln hap hal];exact hout2 a ha
   ·obtain⟨h1,h2,h3⟩:=pg2 a c ha;refine⟨h1.rst (WL _ _ _ _),?_⟩;rw[ePl];by_cases e:c=k
    ·subst e;rw[dC];exact np2 a ha
    ·rw[dA _ _ e];have hap:a≠p:=fun e3=>by rw[e3,hc] at ha;cases ha;exact e rfl
     have hal:a ∉ S.pl k:=fun e3=>by rw[((o.si.pm k hk a).1 e3).1] at ha;cases ha;exact e rfl
     rw[CS hln hap hal];exact⟨h2,h3⟩
   ·unfold fQ;rw[if_pos hr,e2,hU.2,ePl];by_cases e:c=k
    ·subst e;rw[dC,vN hln hpl];by_cases e3:bH (S.pl c) p = -1
     ·rw[if_pos e3,if_pos e3];exact if_pos rfl
     ·rw[if_neg e3,if_neg e3];exact o.hd c hc8
    ·rw[dA _ _ e];by_cases e3:bH (S.pl k) p = -1
     ·rw[if_pos e3];exact(if_neg e).trans (o.hd c hc8)
     ·rw[if_neg e3];exact o.hd c hc8
  ·have ePl:(aR S p k r).pl=S.pl:=(by unfold aR;rw[if_neg hr]);refine⟨aK t.m.pg p Q2,?_,hout2,fun a c ha=>?_,fun c hc8=>?_,trivial⟩
   ·unfold dX;rw[if_neg hr,e2]
   ·rw[ePl];exact pg2 a c ha
   ·unfold fQ;rw[if_neg hr,ePl];exact o.hd c hc8
 have hsw:=se.1;rw[hpgF] at hsw ⊢;have hfl:∀ a c,S.c a=some c->((aR S p k r).fl a=r/\a=p)\/((aR S p k r).fl a=S.fl a/\a≠p):=fun a c ha=>by
  by_cases e:a=p
  ·exact .inl ⟨by rw[e];exact dC _ _ _,e⟩
  ·exact .inr ⟨dA _ _ e,e⟩
 refine⟨hsw.reP _,o.sf.repaint S (aR S p k r) o.si.eP { t.m with pg:=pgF } rfl rfl rfl (fun a ha=>?_) (fun a c ha=>⟨(hF2 a c ha).1.kd,(o.mem ha).1⟩),o.st,o.bm,⟨rfl,fun a c ha=>⟨(o.si.pg a c ha).1,(hF2 a c ha).1.p (hF2 a c ha).2.1 (hF2 a c ha).2.2⟩,fun a c ha=>?_,fun a c ha=>?_,fun c hc8=>?_,fun c hc8 a=>?_⟩,hF3⟩
 ·have ha:S.c a=none:=ha;rw[if_pos ha];exact hF1 a ha
 ·replace ha:S.c a=some c:=ha;obtain⟨n1,n2,n3⟩:=o.si.fl a c ha;rcases hfl a c ha with ⟨e,rfl⟩|⟨e,_⟩
  ·rw[e];rw[hc] at ha
   cases ha
   rw[hf] at n1 n2 n3;exact⟨(List.nodup_cons.1 n1).2,fun j hj=>n2 j (List.mem_cons_of_mem _ hj),pX n3.2⟩
  ·rw[e];exact⟨n1,n2,pX n3⟩
 ·have hl:=o.si.lv a c ha;rcases hfl a c ha with ⟨e,rfl⟩|⟨e,_⟩
  ·rw[e];rw[hf,List.length_cons] at hl;omega
  ·rw[e];exact hl
 ·have:=o.si.pn c hc8;unfold aR;by_cases hr:r=[]
  ·rw[if_pos hr];show(aX S.pl k _ c).Nodup
   by_cases e:c=k
   ·subst e;rw[dC];exact zj8 this p
   ·rw[dA _ _ e];exact this
  ·rw[if_neg hr];exact this
 ·have hpm:=o.si.pm c hc8 a;show a∈(aR S p k r).pl c↔(S.c a=some c/\aX S.fl p r a≠[])
  by_cases hr:r=[]
  ·have ePl:(aR S p k r).pl=aX S.pl k (M.dropL (S.pl k) p):=(by unfold aR;rw[if_pos hr]);rw[ePl];by_cases ea:a=p
   ·subst ea;rw[dC];constructor
    ·intro hm;exfalso
     by_cases e:c=k
     ·subst e;rw[dC,lD] at hm;exact hm.2 rfl
     ·rw[dA _ _ e,hpm,hc] at hm
      cases hm.1
      exact e rfl
    ·exact fun hm=>absurd hr hm.2
   ·rw[dA _ _ ea];by_cases e:c=k
    ·subst e;rw[dC,lD,hpm];exact⟨fun hm=>hm.1,fun hm=>⟨hm,ea⟩⟩
    ·rw[dA _ _ e];exact hpm
  ·have ePl:(aR S p k r).pl=S.pl:=(by unfold aR;rw[if_neg hr]);rw[ePl,hpm];by_cases ea:a=p
   ·subst ea;rw[dC,hf];exact⟨fun hm=>⟨hm.1,hr⟩,fun hm=>⟨hm.1,List.cons_ne_nil _ _⟩⟩
   ·rw[dA _ _ ea]
theorem zH{x x':Bx}(h:x'.bS=x.bS)(p k n:Nat):aS x' p k n=aS x p k n:=by unfold aS;rw[h]
theorem vM{x x':Bx}{f f':Nat->Nat}{p k:Nat}(hb:x'.bS=x.bS):∀ {l:List Nat},(∀ i∈l,M.word f' (4096*p+i*aH k)=M.word f (4096*p+i*aH k))->mZ x f p k l->mZ x' f' p k l
 | [],_,_=>trivial
 | i :: l,hf,h=>⟨by
   rw[hf i List.mem_cons_self,h.1]
   cases l with
   | nil=>rfl
   | cons j l=>exact(zH hb p k j).symm,vM hb (fun j hj=>hf j (List.mem_cons_of_mem _ hj)) h.2⟩
theorem FX{f g:Nat->Nat}{o:Nat}(h:∀ i,i<8->g (o+i)=f (o+i)):M.word g o=M.word f o:=by
 unfold M.word;exact wordTo_congr _ _ 8 h
theorem SO.pool{w W W' sb lw x t fr ls S h x1 t1 fr1 ls1}(o:SO w W sb lw x t fr ls S h)(po:PO w W' lw x1 t1 fr1 ls1)(sm:Sm x x1)(bk:BK t t1 ls ls1)(sub:∀ p k,S.c p=some k->(p,0)∈ls1)(kp:Kt (aF x) W W'):SO w W' sb lw x1 t1 fr1 ls1 S h:=by
 have hpage:∀ p k,S.c p=some k->t1.m.pg p=t.m.pg p:=fun p k hp=>
  (po.sf.pslab (p:=p) (q:=t.m.pg p) (by rw[sm.P,o.si.eP];exact jS hp)).2.2.2
 refine⟨⟨po.pl,?_,o.sw.nw,o.sw.tb⟩,po.sf,po.st,po.bm,⟨?_,fun p k hp=>?_,fun p k hp=>?_,o.si.lv,o.si.pn,o.si.pm⟩,o.hd⟩
 ·rw[sm.bS];exact(kp.block _ (lH o.sw.bx) (fun e=>o.sw.nsb (.inl e))).trans o.sw.bx
 ·rw[sm.P,o.si.eP];funext p
  cases e:S.c p with
  | none=>rw[iY e,iY e]
  | some k=>rw[jS e,jS e,hpage p k e]
 ·obtain⟨h1,h2⟩:=o.si.pg p k hp;rw[hpage p k hp];exact⟨h1,h2⟩
 ·obtain⟨n1,n2,n3⟩:=o.si.fl p k hp;have hk:=(o.si.pg p k hp).1;have hnb:=dQ hk;have hz:=eH hk;refine⟨n1,n2,vM sm.bS (fun i hi=>FX fun j hj=>?_) n3⟩;have hib:=n2 i hi;have h2:(i+1)*aH k<=aI k*aH k:=Nat.mul_le_mul_right _ hib;rw[Nat.add_mul,Nat.one_mul,hnb.1] at h2;have hd:(4096*p+i*aH k+j)/4096=p:=by omega
  refine bk _ ?_ ?_
  ·rw[hd];exact⟨p,0,(o.mem hp).1,Nat.le_refl _,by omega⟩
  ·rw[hd];exact⟨p,0,sub p k hp,Nat.le_refl _,by omega⟩
theorem CQ(f:Nat->Nat)(P off z:Nat)(hz : 8<=z):∀ k i,i<k->P+k*z<18446744073709551616->M.word (kR f P off z k) (off+i*z)=P+(i+1)*z
 | 0,i,h,_=>absurd h (Nat.not_lt_zero _)
 | k+1,i,h,h64=>by
  rw[kR];by_cases e:i=k
  ·subst e;rw[M.word_upd _ _ _ h64]
  ·have hl:i<k:=(by omega);have h1:(i+1)*z<=k*z:=Nat.mul_le_mul_right _ hl;rw[Nat.add_mul,Nat.one_mul] at h1;have h2:k*z<=(k+1)*z:=Nat.mul_le_mul_right _ (by omega);rw[M.word_far _ _ _ _ (.inr (by omega))];exact CQ f P off z hz k i hl (by omega)
theorem zU(f:Nat->Nat)(P off z:Nat):∀ k j,(∀ i,i<k->¬(off+i*z<=j/\j<off+i*z+8))->kR f P off z k j=f j
 | 0,j,_=>rfl
 | k+1,j,h=>by
  rw[kR];unfold M.upd;rw[if_neg (h k (by omega))];exact zU f P off z k j (fun i hi=>h i (by omega))
theorem vA(f:Nat->Nat)(x:Bx)(p k:Nat)(hk:k<8)(j:Nat)(hj:¬(4096*p<=j/\j<4096*p+4096)):jF f (ad x p) (4096*p) (aH k) (aI k) j=f j:=by
 have hnb:=dQ hk;have hz:=eH hk;have hin:∀ i,i<aI k->i*aH k+aH k<=4096:=fun i hi=>by
  have h2:(i+1)*aH k<=aI k*aH k:=Nat.mul_le_mul_right _ hi;rw[Nat.add_mul,Nat.one_mul,hnb.1] at h2;exact h2
 unfold jF;have h1:=hin (aI k-1) (by omega);unfold M.upd;rw[if_neg (by omega)];refine zU _ _ _ _ _ _ fun i hi=>?_
 have:=hin i (by omega);omega
theorem DY(x:Bx)(f:Nat->Nat)(p k:Nat)(hk:k<8)(hb:x.bS+4096*p+4096<=9223372036854775808):∀ n a,a+n=aI k->mZ x (jF f (ad x p) (4096*p) (aH k) (aI k)) p k (List.range' a n)
 | 0,a,_=>trivial
 | n+1,a,h=>by
  have hnb:=dQ hk;have hz:=eH hk;obtain⟨M1,hM⟩:∃ M1,aI k=M1+1:=⟨aI k-1,by omega⟩;have hMz:M1*aH k+aH k=4096:=by
   have:=hnb.1;rw[hM,Nat.add_mul,Nat.one_mul] at this;exact this
  refine⟨?_,DY x f p k hk hb n (a+1) (by omega)⟩;unfold jF;rw[show aI k-1=M1 by omega]
  cases n with
  | zero=>
   have ea:a=M1:=(by omega);subst ea;rw[M.word_upd _ _ _ (by decide)];rfl
  | succ n=>
   have hl:a<M1:=(by omega);have h1:(a+1)*aH k<=M1*aH k:=Nat.mul_le_mul_right _ hl;rw[Nat.add_mul,Nat.one_mul] at h1;rw[M.word_far _ _ _ _ (.inr (by omega)),CQ _ _ _ _ (by omega) M1 a hl (by unfold ad;omega)];show _=aS x p k (a+1)
   unfold aS ad;rfl
def aW(S:Sb)(p k:Nat):Sb:=⟨aX S.c p (some k),aX S.fl p (List.range' 0 (aI k)),aX S.pl k (p :: S.pl k)⟩
def fR(m:Mp)(h:Nat->Int)(p k:Nat):Mp:=fN (fW (jM m (p:Int) (k:Int)) (p:Int) 0) h (p:Int) k
theorem YN{q:Pg}(h0:q.b0=0)(h1:q.b1=0)(h2:q.b2=0)(h3:q.b3=0)(i:Nat):aJ q i=false:=by
 unfold aJ;have:wP q (i/64)=0:=by
  unfold wP;split <;> assumption
 rw[this];simp
theorem VG{m:Mp}{h:Nat->Int}{p k:Nat}{l:List Nat}(hp:p<m.n)(hk:k<8)(hh:h k=bD l)(hl:∀ r∈l,r<m.n/\(m.pg r).kd=4/\cN m.n (m.pg r).nx=true)(hpl:p ∉ l):fR m h p k={ m with pg:=eI (aK m.pg p { dK (k:Int)with fs:=0 }) l p }:=by
 have hnb:=dQ hk;have e1:jM m (p:Int) (k:Int)={ m with pg:=aK m.pg p (dK (k:Int)) }:=by
  unfold jM;rw[if_pos ⟨dM hp,by omega,by omega⟩,Int.toNat_natCast]
 have e2:aK m.pg p (dK (k:Int)) p=dK (k:Int):=if_pos rfl;have e3:fW { m with pg:=aK m.pg p (dK (k:Int)) } (p:Int) 0={ m with pg:=aK m.pg p { dK (k:Int)with fs:=0 } }:=by
  rw[GO (m:={ m with pg:=aK m.pg p (dK (k:Int)) }) (c:=(0:Int)) hp (by show(aK m.pg p _ p).kd=4;rw[e2];rfl) (.inr ⟨0,rfl,by
   show 0<eY (aK m.pg p _ p).cl
   rw[e2];show 0<aI k
   omega⟩)]
  show({ m with pg:=aK (aK m.pg p (dK (k:Int))) p { aK m.pg p (dK (k:Int)) p with fs:=0 } } : Mp)=_
  rw[e2];refine congrArg (fun g=>({ m with pg:=g } : Mp)) (funext fun a=>?_);unfold aK;by_cases e:a=p
  ·rw[if_pos e,if_pos e]
  ·rw[if_neg e,if_neg e,if_neg e]
 unfold fR;rw[e1,e3];have e4:aK m.pg p { dK (k:Int)with fs:=0 } p={ dK (k:Int)with fs:=0 }:=if_pos rfl;exact OT (m:={ m with pg:=aK m.pg p { dK (k:Int)with fs:=0 } }) hp (by show(aK m.pg p _ p).kd=4;rw[e4];rfl) hh (fun r hr=>by
  have hrp:r≠p:=fun e=>hpl (e▸hr)
  have e5:aK m.pg p { dK (k:Int)with fs:=0 } r=m.pg r:=if_neg hrp;show r<m.n/\(aK m.pg p _ r).kd=4/\cN m.n (aK m.pg p _ r).nx=true
  rw[e5];exact hl r hr) hpl
theorem zh0{n:Nat}(h : 0<n):bD (List.range' 0 n)=0:=by
 obtain⟨m,rfl⟩:∃ m,n=m+1:=⟨n-1,by omega⟩;rfl
theorem SO.fresh{w W W' sb lw x t fr ls S h}(o:SO w W sb lw x t fr ls S h){p k:Nat}(hk:k<8)(hls:(p,0)∈ls)(hc:S.c p=none)
  (sw:SW w W' sb lw x ⟨jF t.f (ad x p) (4096*p) (aH k) (aI k),fR t.m h p k,t.hd⟩ (dB h k (p:Int))):
  SO w W' sb lw { x with P:=jV (aW S p k) (fR t.m h p k) } ⟨jF t.f (ad x p) (4096*p) (aH k) (aI k),fR t.m h p k,t.hd⟩ fr ls (aW S p k) (dB h k (p:Int)):=by
 have hnb:=dQ hk;have hz:=eH hk;have hpn:p<t.m.n:=by
  have:=(o.sf.sn.al hls).2.2;omega
 have n4:=o.po.nums.2.2.2.1;have hst:=o.st;have hpb:x.bS+4096*p+4096<=9223372036854775808:=by
  have h5:(p+1)*4096<=t.m.n*4096:=Nat.mul_le_mul_right _ hpn;omega
 have hpl:p ∉ S.pl k:=fun e=>by
  rw[((o.si.pm k hk p).1 e).1] at hc
  cases hc
 have hln:=o.si.pn k hk;have eM:=VG (m:=t.m) (h:=h) hpn hk (o.hd k hk) (fun r hr=>by
  have hcr:=((o.si.pm k hk r).1 hr).1;have sr:=(o.si.pg r k hcr).2;refine⟨(o.mem hcr).2.1,sr.kd,?_⟩;rw[sr.nx];rcases mS (S.pl k) r hln with e|⟨b,e,hb,_⟩
  ·rw[e];exact mH _
  ·rw[e];exact qB (o.mem ((o.si.pm k hk b).1 hb).1).2.1) hpl
 rw[eM] at sw ⊢;generalize hpgF:eI (aK t.m.pg p { dK (k:Int)with fs:=0 }) (S.pl k) p=pgF at *;have hne:∀ a,a≠p->(aW S p k).c a=S.c a/\(aW S p k).fl a=S.fl a:=fun a ha=>⟨dA _ _ ha,dA _ _ ha⟩
 have hcp:(aW S p k).c p=some k:=dC _ _ _;have hfp:(aW S p k).fl p=List.range' 0 (aI k):=dC _ _ _;have hup:∀ a,a≠p->aK t.m.pg p { dK (k:Int)with fs:=0 } a=t.m.pg a:=fun a ha=>if_neg ha
 have huq:aK t.m.pg p { dK (k:Int)with fs:=0 } p={ dK (k:Int)with fs:=0 }:=if_pos rfl;have F0:∀ a,S.c a=none->a≠p->pgF a=t.m.pg a:=fun a ha hap=>by
  have hal:a ∉ S.pl k:=fun e=>by
   rw[((o.si.pm k hk a).1 e).1] at ha
   cases ha
  rw[<-hpgF,vP hap hal];exact hup a hap
 have Q0:SlQ (aW S p k) p k { dK (k:Int)with fs:=0 }:=by
  refine⟨rfl,rfl,rfl,?_,?_,fun i hi=>?_⟩
  ·rw[hfp,List.length_range',Nat.sub_self];rfl
  ·rw[hfp,zh0 (by omega)]
  ·rw[YN rfl rfl rfl rfl,hfp];symm;refine decide_eq_false fun e=>e.2 (List.mem_range'_1.2 ⟨Nat.zero_le _,by omega⟩)
 have NP0:NP (aK t.m.pg p { dK (k:Int)with fs:=0 }) (aW S p k) k (S.pl k):=fun a ha=>by
  by_cases e:a=p
  ·subst e;rw[huq,vB hpl,pW hpl];exact⟨rfl,rfl⟩
  ·rw[(hne a e).1] at ha;rw[hup a e];exact⟨(o.si.pg a k ha).2.nx,(o.si.pg a k ha).2.pv⟩
 have NP1:=OQ NP0 hln hpl;have F2:∀ a c,(aW S p k).c a=some c->c<8/\SlP (aW S p k) a c (pgF a):=fun a c ha=>by
  have hq:SlQ (aW S p k) a c (aK t.m.pg p { dK (k:Int)with fs:=0 } a)/\c<8:=by
   by_cases e:a=p
   ·subst e;rw[hcp] at ha
    cases ha
    rw[huq];exact⟨Q0,hk⟩
   ·rw[(hne a e).1] at ha;rw[hup a e];exact⟨(o.si.pg a c ha).2.q.congr (hne a e).2,(o.si.pg a c ha).1⟩
  refine⟨hq.2,(hq.1.rst (by rw[<-hpgF];exact WM _ _ _ _)).p ?_ ?_⟩
  ·show(pgF a).nx=bC (aX S.pl k (p :: S.pl k) c) a
   by_cases e:c=k
   ·subst e;rw[dC,<-hpgF];exact(NP1 a ha).1
   ·have hap:a≠p:=fun e2=>by rw[e2,hcp] at ha;cases ha;exact e rfl
    rw[dA _ _ e];rw[(hne a hap).1] at ha;have hal:a ∉ S.pl k:=fun e2=>by rw[((o.si.pm k hk a).1 e2).1] at ha;cases ha;exact e rfl
    rw[<-hpgF,vP hap hal,hup a hap];exact(o.si.pg a c ha).2.nx
  ·show(pgF a).pv=bH (aX S.pl k (p :: S.pl k) c) a
   by_cases e:c=k
   ·subst e;rw[dC,<-hpgF];exact(NP1 a ha).2
   ·have hap:a≠p:=fun e2=>by rw[e2,hcp] at ha;cases ha;exact e rfl
    rw[dA _ _ e];rw[(hne a hap).1] at ha;have hal:a ∉ S.pl k:=fun e2=>by rw[((o.si.pm k hk a).1 e2).1] at ha;cases ha;exact e rfl
    rw[<-hpgF,vP hap hal,hup a hap];exact(o.si.pg a c ha).2.pv
 have sf1:=o.sf.fill (p:=p) (k:=0) hls (f':=jF t.f (ad x p) (4096*p) (aH k) (aI k)) (fun j hj=>vA t.f x p k hk j (by omega));refine⟨sw.reP _,sf1.repaint S (aW S p k) o.si.eP { t.m with pg:=pgF } rfl rfl rfl (fun a ha=>?_) (fun a c ha=>⟨(F2 a c ha).2.kd,?_⟩),o.st,o.bm,⟨rfl,F2,fun a c ha=>?_,fun a c ha=>?_,fun c hc8=>?_,fun c hc8 a=>?_⟩,fun c hc8=>?_⟩
 ·have hap:a≠p:=fun e=>by rw[e,hcp] at ha;cases ha
  rw[(hne a hap).1] at ha;rw[if_pos ha];exact F0 a ha hap
 ·by_cases e:a=p
  ·rw[e];exact hls
  ·rw[(hne a e).1] at ha;exact(o.mem ha).1
 ·by_cases e:a=p
  ·subst e;rw[hcp] at ha
   cases ha
   rw[hfp];refine⟨List.nodup_range',fun i hi=>?_,pX (DY x t.f a k hk hpb (aI k) 0 (by omega))⟩;have:=(List.mem_range'_1.1 hi).2;omega
  ·rw[(hne a e).1] at ha;rw[(hne a e).2];obtain⟨n1,n2,n3⟩:=o.si.fl a c ha;have hc8:=(o.si.pg a c ha).1;have hnb2:=dQ hc8;have hz2:=eH hc8;refine⟨n1,n2,pX (vM rfl (fun i hi=>FX fun j hj=>?_) n3)⟩;have hib:=n2 i hi;have h2:(i+1)*aH c<=aI c*aH c:=Nat.mul_le_mul_right _ hib;rw[Nat.add_mul,Nat.one_mul,hnb2.1] at h2;exact vA t.f x p k hk _ (by omega)
 ·by_cases e:a=p
  ·subst e;rw[hcp] at ha
   cases ha
   rw[hfp,List.length_range'];exact Nat.le_refl _
  ·rw[(hne a e).1] at ha;rw[(hne a e).2];exact o.si.lv a c ha
 ·show(aX S.pl k (p :: S.pl k) c).Nodup
  by_cases e:c=k
  ·subst e;rw[dC];exact List.nodup_cons.2 ⟨hpl,hln⟩
  ·rw[dA _ _ e];exact o.si.pn c hc8
 ·show a∈aX S.pl k (p :: S.pl k) c↔((aW S p k).c a=some c/\(aW S p k).fl a≠[])
  have hpm:=o.si.pm c hc8 a;by_cases ea:a=p
  ·subst ea;rw[hcp,hfp];have hrn:List.range' 0 (aI k)≠[]:=by
    intro e;have:=congrArg List.length e;rw[List.length_range',List.length_nil] at this;omega
   by_cases e:c=k
   ·subst e;rw[dC];exact⟨fun _=>⟨rfl,hrn⟩,fun _=>List.mem_cons_self⟩
   ·rw[dA _ _ e,hpm,hc];constructor
    ·rintro ⟨e2,_⟩;cases e2
    ·rintro ⟨e2,_⟩;cases e2;exact absurd rfl e
  ·rw[(hne a ea).1,(hne a ea).2];by_cases e:c=k
   ·subst e;rw[dC,List.mem_cons,hpm];exact⟨fun h=>h.resolve_left ea,fun h=>.inr h⟩
   ·rw[dA _ _ e];exact hpm
 ·show dB h k (p:Int) c=bD (aX S.pl k (p :: S.pl k) c)
  by_cases e:c=k
  ·subst e;rw[dC];exact if_pos rfl
  ·rw[dA _ _ e];exact(if_neg e).trans (o.hd c hc8)
inductive Ned(x:Bx)(t:Bt)(fr:Nat->List Nat)(d:Bool)(p:Nat)(b:Bool)(fr':Nat->List Nat):Prop where
 | here (j:Nat) (l:List Nat) (hj:j<=x.o) (hz:∀ a,a<j->fr a=[]) (hp:fr j=p :: l) (hb:b=false) (hf:fr'=cO (cF fr j (M.dropL (fr j) p)) p j 0)
 | grew (hz:∀ a,a<=x.o->fr a=[]) (hd:d=false) (hl:x.n+x.R<=x.lim*x.R) (hb:b=true) (hp:p=t.m.n) (hf:fr'=cO fr t.m.n x.o 0)
structure FrO(w W:World)(sb lw:Nat)(x:Bx)(t:Bt)(fr:Nat->List Nat)(ls:List (Nat×Nat))(S:Sb)(h:Nat->Int)(k:Nat)(d:Bool)(p:Nat)(b:Bool)(w':World):Prop where
 ex:∃ x' t' fr',Ned x t fr d p b fr'/\SO w w' sb lw x' t' fr' (ls ++ [(p,0)]) (aW S p k) (dB h k (p:Int))/\Sm x { x' with P:=x.P }/\(∀ i,Lv ls (i/4096)->t'.f i=t.f i)/\Nb W x x'/\t'.m.n=(if b=true then t.m.n + 2 ^ x.o else t.m.n)/\x'.n=(if b=true then x.n + x.R else x.n)
 hc:S.c p=none
 nl:∀ i,(p,i) ∉ ls
 kp:Kt (dD x sb) W w'
inductive FrP(w W:World)(sb lw:Nat)(x:Bx)(t:Bt)(fr:Nat->List Nat)(ls:List (Nat×Nat))(S:Sb)(h:Nat->Int)(k:Nat)(d:Bool)(e:Ending)(w':World):Prop where
 | stuck (hz:∀ a,a<=x.o->fr a=[]) (hd:d=true\/x.n=x.lim*x.R) (he:e=.returned (.tuple #[.bool false,.int .i64 2])) (kp:Kt nO W w')
 | got (p:Nat) (b:Bool) (he:e=.returned (.tuple #[.bool b,.int .i64 0])) (fo:FrO w W sb lw x t fr ls S h k d p b w')
theorem LF{w W lw x t fr ls}(po:PO w W lw x t fr ls)(d:Bool):
  Calls prog 130 #[.pointer (some ⟨lw,0,none⟩),.int .i64 0,.bool d] W fun e w'=>
   ((∀ a,a<=x.o->fr a=[])/\(d=true\/x.n=x.lim*x.R)/\e=.returned (.tuple #[.int .u64 0,.bool false,.int .i64 2])/\Kt nO W w')\/
   (∃ p b fr' x' t',e=.returned (.tuple #[.int .u64 ((ad x p:Nat):Int),.bool b,.int .i64 0])/\Ned x t fr d p b fr'/\PO w w' lw x' t' fr' (ls ++ [(p,0)])/\Sm x x'/\BK t t' ls (ls ++ [(p,0)])/\Nb W x x'/\Kt (aF x) W w'/\x.P p=none/\(∀ i,(p,i) ∉ ls)/\t'.m.n=(if b=true then t.m.n + 2 ^ x.o else t.m.n)/\x'.n=(if b=true then x.n + x.R else x.n)):=by
 refine(K.Need_any po 0 d).mono fun e w' hN=>?_
 cases hN with
 | bad hk he kp=>
  exfalso
  have:=of_decide_eq_false hk;omega
 | stuck i hk hi hz hd he kp=>
  obtain rfl:i=0:=by omega
  exact .inl ⟨fun a ha=>hz a (Nat.zero_le _) ha,hd,he,kp⟩
 | here i j p l hk hi hij hj hz hp he hs kp=>
  obtain rfl:i=0:=by omega
  obtain⟨t',h1,h2,h3⟩:=hs;refine .inr ⟨p,false,_,x,t',he,.here j l hj (fun a ha=>hz a (Nat.zero_le _) ha) hp rfl rfl,h1,Sm.refl x,h3,fun y e=>.inl e,kp,po.sf.pfree hj (by rw[hp];exact List.mem_cons_self),fun i hm=>?_,by rw[if_neg (by decide)];exact h2,by rw[if_neg (by decide)]⟩;have h0:=po.sf.apart0 hj (show p∈fr j by rw[hp];exact List.mem_cons_self) hm;have hz1 : 0<2 ^ i:=Nat.pow_pos (by decide);have hz2 : 0<2 ^ j:=Nat.pow_pos (by decide);omega
 | grew i hk hi hz hd hl he hs kp=>
  obtain rfl:i=0:=by omega
  obtain⟨x',t',h1,h2,h3,h4,h5,h6⟩:=hs;refine .inr ⟨t.m.n,true,_,x',t',he,.grew (fun a ha=>hz a (Nat.zero_le _) ha) hd hl rfl rfl rfl,h1,h2,h6,h5,kp,po.sf.pout (Nat.le_refl _),fun i hm=>?_,by rw[if_pos rfl];exact h4,by rw[if_pos rfl];exact h3⟩;have:=(po.sf.sn.al hm).2.2;have hz1 : 0<2 ^ i:=Nat.pow_pos (by decide);omega
theorem PS{w W sb lw x t fr ls S h}(o:SO w W sb lw x t fr ls S h)(k:Nat)(hk:k<8)(d:Bool):
  Calls prog 161 #[.pointer (some ⟨sb,0,none⟩),.int .i64 k,.bool d] W fun e w'=>FrP w W sb lw x t fr ls S h k d e w':=by
 have ND:=aA (LF o.po d);obtain⟨c0,c1⟩:=o.sw.c0;have HO:=aA o;clear o;go_enter func161,ntmps161;go_wp2_with fail;refine ND.out.mono ?_;rintro e w1 (⟨hz,hd,rfl,kp⟩|⟨p,b,fr1,x1,t1,rfl,hned,hpo,hsm,hbk,hnb,hk1,hPp,hnl,htn,hxn⟩)
 ·have D:=aA (show FrP w W sb lw x t fr ls S h k d (.returned (.tuple #[.bool false,.int .i64 2])) w1 from .stuck hz hd rfl kp);clear hz hd kp ND c0 c1;go_wp2_with fail;exact⟨rfl,.tuple #[.bool false,.int .i64 2],by simp[results,results161,go_sem],D.out⟩
 ·have hc:S.c p=none:=by
   cases e:S.c p with
   | none=>rfl
   | some c=>
    rw[HO.out.si.eP,jS e] at hPp
    cases hPp
  have o1:=HO.out.pool hpo hsm hbk (fun a c ha=>List.mem_append_left _ (HO.out.mem ha).1) hk1;have hls:(p,0)∈ls ++ [(p,0)]:=List.mem_append_right _ (List.mem_singleton.2 rfl);have hpn:=(o1.sf.sn.al hls).2.2;have n4:=o1.po.nums.2.2.2.1;have n2:=o1.po.nums.2.1;have hst:=o1.st;have hpb : 4096*p+4096<=x1.n:=by
   have h5:(p+1)*4096<=t1.m.n*4096:=Nat.mul_le_mul_right _ hpn;omega
  have had:ad x p=ad x1 p:=by unfold ad;rw[hsm.bS]
  rw[had];have hoff:bF x1 (ad x1 p)/4096=p:=by unfold bF ad;omega
  obtain⟨A,hA⟩:=xe (ad x1 p);have hA64:A<18446744073709551616:=by rw[hA];unfold ad;omega
  have PG:=aA (show Calls prog 193 #[.pointer (some ⟨sb,0,none⟩),.int .u64 A] w1 fun e w'=>e=.returned (.int .i64 p)/\w'=w1 from by
   have:=uC o1.sw A hA64;rw[hA,hoff] at this;rw[hA];exact this)
  have SL:=aA (OF o1.sw (p:Int) (k:Int));obtain⟨m1,hm1⟩:=xe (jM t1.m (p:Int) (k:Int));rw[<-hm1] at SL;generalize pK t1.m (p:Int) (k:Int)=se1 at *;have CH:=aA (show ∀ W',SW w W' sb lw x1 { t1 with m:=m1 } h->Calls prog 195 #[.pointer (some ⟨sb,0,none⟩),.int .u64 A,.int .i64 k] W' fun e w'=>e=.returned (.tuple #[])/\SW w w' sb lw x1 ⟨jF t1.f (ad x1 p) (4096*p) (aH k) (aI k),m1,t1.hd⟩ h/\Kt (aF x1) W' w' from fun W' s=>by
   rw[hA];exact VR s p k hk hpb)
  obtain⟨f2,hf2⟩:=xe (jF t1.f (ad x1 p) (4096*p) (aH k) (aI k));rw[<-hf2] at CH;obtain⟨m2,hm2⟩:=xe (fW m1 (p:Int) 0);have FR:=aA (show ∀ W',SW w W' sb lw x1 ⟨f2,m1,t1.hd⟩ h->Calls prog 196 #[.pointer (some ⟨x1.m,0,none⟩),.int .i64 p,.int .i64 0] W' fun e w'=>e=.returned (.int .i64 (kI m1 (p:Int) 0))/\SD w W' sb lw x1 ⟨f2,m1,t1.hd⟩ h m2 w' from fun W' s=>by
   rw[hm2];exact AC s (p:Int) 0)
  generalize kI m1 (p:Int) 0=fe1 at *;have PT:=aA (show ∀ W',SW w W' sb lw x1 ⟨f2,m2,t1.hd⟩ h->Calls prog 197 #[.pointer (some ⟨sb,0,none⟩),.int .i64 p,.int .i64 k] W' fun e w'=>e=.returned (.tuple #[])/\SE w W' sb lw x1 ⟨f2,m2,t1.hd⟩ (fN m2 h (p:Int) k) (dB h k (p:Int)) w' from fun W' s=>JT s (p:Int) k hk);have FIN:=aA (show ∀ w',SW w w' sb lw x1 ⟨f2,fN m2 h (p:Int) k,t1.hd⟩ (dB h k (p:Int))->Kt (dD x1 sb) w1 w'->FrP w W sb lw x t fr ls S h k d (.returned (.tuple #[.bool b,.int .i64 0])) w' from fun w' s kk=>by
   have e1:fN m2 h (p:Int) k=fR t1.m h p k:=(by unfold fR;rw[hm2,hm1]);rw[e1,hf2] at s;have so:=o1.fresh hk hls hc s;refine .got p b rfl ⟨⟨_,_,fr1,hned,so,⟨hsm.bS,hsm.R,hsm.lim,hsm.o,hsm.b,hsm.s,hsm.m,hsm.l,rfl⟩,fun i hi=>?_,hnb,?_,hxn⟩,hc,hnl,?_⟩
   ·have h2:t1.f i=t.f i:=hbk i hi (K.Lv.more hi);show jF t1.f (ad x1 p) (4096*p) (aH k) (aI k) i=t.f i
    rw[<-h2];refine vA t1.f x1 p k hk i (fun e=>?_);obtain⟨q,c,h3,h4,h5⟩:=hi;have hq:=hpo.sf.sn.apart (List.mem_append_left _ h3) hls;have hip:i/4096=p:=(by omega);rw[hip] at h4 h5;rcases hq with ⟨e2,e3⟩|e2|e2
    ·rw[e2] at h3;exact hnl c h3
    ·omega
    ·omega
   ·show(fR t1.m h p k).n=_
    rw[<-htn];unfold fR fN iN;rw[BS,BS];unfold fW;split <;> exact UA _ _ _
   ·refine(hk1.mono (fun _ _ e=>.inl e)).trans kk (fun _ _ e=>e) (fun y hy e=>?_);rcases e with e|e
    ·rcases hnb y e with e|e
     ·exact .inl e
     ·omega
    ·exact .inr e)
  have O1:=aA o1.sw;rw[<-hA];clear hned hpo hsm hbk hnb hk1 hPp hnl htn hxn hc o1 hls hpn n4 n2 hst hpb had hoff hA hm1 hf2 hm2 c0 c1 ND;obtain⟨c0,c1⟩:=O1.out.c0;go_wp2_with fail;refine PG.out.mono ?_;rintro e w2 ⟨rfl,h2⟩;replace h2:=h2.symm;subst h2;have MP:=aA (bZ O1.out.pl);go_wp2_with fail;refine MP.out.mono ?_;rintro e w2 ⟨rfl,h2⟩;replace h2:=h2.symm;subst h2;go_wp2_with fail;refine SL.out.mono ?_;rintro e w3 ⟨rfl,hs3,hk3⟩;have S3:=aA hs3;have K3:=aA hk3;clear hs3 hk3 c0 c1 MP;go_wp2_with fail;refine(CH.out _ S3.out).mono ?_;rintro e w4 ⟨rfl,hs4,hk4⟩;have S4:=aA hs4;have K4:=aA (K3.out.trans hk4 (fun _ _ e=>e) (fun _ _ e=>e));have MP:=aA (bZ hs4.pl);obtain⟨c0,c1⟩:=hs4.c0;clear hs4 hk4;go_wp2_with fail;refine MP.out.mono ?_;rintro e w5 ⟨rfl,h5⟩;replace h5:=h5.symm;subst h5;go_wp2_with fail;refine(FR.out _ S4.out).mono ?_;rintro e w5 ⟨rfl,hs5,hk5⟩;have S5:=aA hs5;have K5:=aA (K4.out.trans hk5 (fun _ _ e=>e) (fun _ _ e=>e));clear hs5 hk5 c0 c1;go_wp2_with fail;refine(PT.out _ S5.out).mono ?_;rintro e w6 ⟨rfl,hs6,hk6⟩;have D:=aA (FIN.out w6 hs6 ((K5.out.mono (fun _ _ e=>.inl e)).trans hk6 (fun _ _ e=>e) (fun _ _ e=>e)));clear hs6 hk6;go_wp2_with fail;exact⟨rfl,.tuple #[.bool b,.int .i64 0],by simp[results,results161,go_sem],D.out⟩
inductive TkP(w W:World)(sb lw:Nat)(x:Bx)(t:Bt)(fr:Nat->List Nat)(ls:List (Nat×Nat))(S:Sb)(h:Nat->Int)(c:Int)(d:Bool)(e:Ending)(w':World):Prop where
 | bad (hc:¬(0<=c/\c<8)) (he:e=.returned (.tuple #[.int .u64 0,.bool false,.int .i64 1])) (kp:Kt nO W w')
 | stuck (k:Nat) (hk:k<8) (hc:c=(k:Int)) (hl:S.pl k=[]) (hz:∀ a,a<=x.o->fr a=[]) (hd:d=true\/x.n=x.lim*x.R) (he:e=.returned (.tuple #[.int .u64 0,.bool false,.int .i64 2])) (kp:Kt nO W w')
 | old (k p i:Nat) (l r:List Nat) (hk:k<8) (hc:c=(k:Int)) (hl:S.pl k=p :: l) (hf:S.fl p=i :: r) (he:e=.returned (.tuple #[.int .u64 ((aS x p k i:Nat):Int),.bool false,.int .i64 0])) (so:∃ P m' h',SO w w' sb lw { x with P:=P } { t with m:=m' } fr ls (aR S p k r) h'/\m'.n=t.m.n) (kp:Kt (dD x sb) W w')
 | new (k p:Nat) (b:Bool) (hk:k<8) (hc:c=(k:Int)) (hl:S.pl k=[]) (he:e=.returned (.tuple #[.int .u64 ((aS x p k 0:Nat):Int),.bool b,.int .i64 0])) (so:∃ x' t' fr' h',Ned x t fr d p b fr'/\SO w w' sb lw x' t' fr' (ls ++ [(p,0)]) (aR (aW S p k) p k (List.range' 1 (aI k-1))) h'/\Sm x { x' with P:=x.P }/\(∀ i,Lv ls (i/4096)->t'.f i=t.f i)/\Nb W x x'/\t'.m.n=(if b=true then t.m.n + 2 ^ x.o else t.m.n)/\x'.n=(if b=true then x.n + x.R else x.n)) (hcp:S.c p=none) (nl:∀ i,(p,i) ∉ ls) (kp:Kt (dD x sb) W w')
theorem yS{w W sb lw x t fr ls S h w'}(o:SO w W sb lw x t fr ls S h){p k i:Nat}{r:List Nat}(hc:S.c p=some k)(hf:S.fl p=i :: r)(se:SE w W sb lw x t (dX t.m p i r) (fQ t.m h p k i r) w'):(dX t.m p i r).n=t.m.n:=by
 have h1:=(o.hand hc hf se).st;have h2:=o.st;have h3:(dX t.m p i r).n*4096=x.n:=h1;omega
theorem ZI{w W sb lw x t fr ls S h}(o:SO w W sb lw x t fr ls S h)(c:Int)(hc:¬(0<=c/\c<8))(d:Bool):
  Calls prog 128 #[.pointer (some ⟨sb,0,none⟩),.int .i64 c,.bool d] W fun e w'=>TkP w W sb lw x t fr ls S h c d e w':=by
 have D:=aA (show TkP w W sb lw x t fr ls S h c d (.returned (.tuple #[.int .u64 0,.bool false,.int .i64 1])) W from .bad hc rfl (Kt.refl _ _));clear o;by_cases h0:c<0
 ·clear hc;go_enter func128,ntmps128;go_wp2_with fail;exact⟨rfl,.tuple #[.int .u64 0,.bool false,.int .i64 1],by simp[results,results128,go_sem],D.out⟩
 ·have h8 : 8<=c:=by omega
  clear hc;go_enter func128,ntmps128;go_wp2_with fail;exact⟨rfl,.tuple #[.int .u64 0,.bool false,.int .i64 1],by simp[results,results128,go_sem],D.out⟩
theorem NR{w W sb lw x t fr ls S h}(o:SO w W sb lw x t fr ls S h)(k:Nat)(hk:k<8)(d:Bool):
  Calls prog 128 #[.pointer (some ⟨sb,0,none⟩),.int .i64 k,.bool d] W fun e w'=>TkP w W sb lw x t fr ls S h (k:Int) d e w':=by
 have ch:=o.sw.hd k hk;have hki:(k:Int)<8:=by omega
 have hk0:¬(k:Int)<0:=by omega
 have hk8:¬ 8<=(k:Int):=by omega
 have HO:=aA o;have HD:=o.hd k hk
 cases hl:S.pl k with
 | nil=>
  rw[hl] at HD;have hz:h k = -1:=HD;rw[hz] at ch;have FR:=aA (PS o k hk d);have HL:=aA hl;clear o HD hz hl;go_enter func128,ntmps128;go_wp2_with fail;refine FR.out.mono ?_;intro e w1 hF
  cases hF with
  | stuck hz hd he kp=>
   subst he;have D:=aA (show TkP w W sb lw x t fr ls S h (k:Int) d (.returned (.tuple #[.int .u64 0,.bool false,.int .i64 2])) w1 from .stuck k hk rfl HL.out hz hd rfl kp);clear hz hd kp FR ch;go_wp2_with fail;exact⟨rfl,.tuple #[.int .u64 0,.bool false,.int .i64 2],by simp[results,results128,go_sem],D.out⟩
  | got p b he fo=>
   subst he;obtain⟨⟨x1,t1,fr1,hned,o1,hsm,hf1,hnb,htn,hxn⟩,hc,nl,kp⟩:=fo;have hnl:=dQ hk;have hfp:(aW S p k).fl p=0 :: List.range' 1 (aI k-1):=by
    have:(aW S p k).fl p=List.range' 0 (aI k):=dC _ _ _;rw[this];obtain⟨m,hm⟩:∃ m,aI k=m+1:=⟨aI k-1,by omega⟩;rw[hm];rfl
   have hcp:(aW S p k).c p=some k:=dC _ _ _;have c1:w1.cell? ⟨sb,2+k,none⟩=some (.int .i64 p):=by
    have:=o1.sw.hd k hk;rw[show dB h k (p:Int) k=(p:Int)from if_pos rfl] at this;exact this
   have hca:aS x1 p k 0=aS x p k 0:=zH hsm.bS p k 0;have HA:=aA (show Calls prog 162 #[.pointer (some ⟨sb,0,none⟩),.int .i64 p,.int .i64 k] w1 fun e w'=>e=.returned (.tuple #[.int .u64 ((aS x p k 0:Nat):Int),.int .i64 0])/\TkP w W sb lw x t fr ls S h (k:Int) d (.returned (.tuple #[.int .u64 ((aS x p k 0:Nat):Int),.bool b,.int .i64 0])) w' from by
    refine(yY o1 p k 0 _ hcp hfp).mono ?_;rintro e w2 ⟨rfl,se⟩;refine⟨by rw[hca],.new k p b hk rfl HL.out rfl ⟨_,_,fr1,_,hned,o1.hand hcp hfp se,hsm,hf1,hnb,?_,hxn⟩ hc nl ?_⟩
    ·rw[<-htn];exact yS o1 hcp hfp se
    ·refine kp.trans se.2 (fun _ _ e=>e) (fun y hy e=>?_);rcases e with e|e
     ·rcases hnb y e with e|e
      ·exact .inl e
      ·omega
     ·exact .inr e)
   obtain⟨a,ha⟩:=xe (aS x p k 0);rw[<-ha] at HA;have hpn:(p:Int) ≠ -1:=(by omega);clear hned o1 hsm hf1 hnb htn hxn hc nl kp hnl hfp hcp hca ha FR ch;go_wp2_with fail;refine HA.out.mono ?_;rintro e w2 ⟨rfl,h2⟩;have D:=aA h2;clear h2;go_wp2_with fail;exact⟨rfl,.tuple #[.int .u64 a,.bool b,.int .i64 0],by simp[results,results128,go_sem],D.out⟩
 | cons p l=>
  rw[hl] at HD;have hz:h k=(p:Int):=HD;rw[hz] at ch;obtain⟨hc,hne⟩:=(o.si.pm k hk p).1 (by rw[hl];exact List.mem_cons_self);obtain⟨i,r,hf⟩:∃ i r,S.fl p=i :: r:=by
   cases e:S.fl p with
   | nil=>exact absurd e hne
   | cons i r=>exact⟨i,r,rfl⟩
  have HA:=aA (show Calls prog 162 #[.pointer (some ⟨sb,0,none⟩),.int .i64 p,.int .i64 k] W fun e w'=>e=.returned (.tuple #[.int .u64 ((aS x p k i:Nat):Int),.int .i64 0])/\TkP w W sb lw x t fr ls S h (k:Int) d (.returned (.tuple #[.int .u64 ((aS x p k i:Nat):Int),.bool false,.int .i64 0])) w' from by
   refine(yY o p k i r hc hf).mono ?_;rintro e w2 ⟨rfl,se⟩;exact⟨rfl,.old k p i l r hk rfl hl hf rfl ⟨_,_,_,o.hand hc hf se,yS o hc hf se⟩ se.2⟩)
  obtain⟨a,ha⟩:=xe (aS x p k i);rw[<-ha] at HA;have hpn:(p:Int) ≠ -1:=by omega
  clear o HD hz hl hc hne hf ha;go_enter func128,ntmps128;go_wp2_with fail;refine HA.out.mono ?_;rintro e w2 ⟨rfl,h2⟩;have D:=aA h2;clear h2;go_wp2_with fail;exact⟨rfl,.tuple #[.int .u64 a,.bool false,.int .i64 0],by simp[results,results128,go_sem],D.out⟩
theorem ZH{w W sb lw x t fr ls S h}(o:SO w W sb lw x t fr ls S h)(c:Int)(d:Bool):
  Calls prog 128 #[.pointer (some ⟨sb,0,none⟩),.int .i64 c,.bool d] W fun e w'=>TkP w W sb lw x t fr ls S h c d e w':=by
 by_cases hc : 0<=c/\c<8
 ·obtain⟨k,rfl⟩:∃ k:Nat,c=(k:Int):=⟨c.toNat,by omega⟩;exact NR o k (by omega) d
 ·exact ZI o c hc d
theorem SO.four{w W sb lw x t fr ls S h}(o:SO w W sb lw x t fr ls S h){g:Nat}(hg:g<t.m.n)(hk:(t.m.pg g).kd=4):∃ k,S.c g=some k:=by
 cases e:S.c g with
 | some k=>exact⟨k,rfl⟩
 | none=>
  exfalso
  obtain⟨B,s,hN,hL⟩:=o.sf;obtain⟨a,p,k,hb,h1,h2⟩:=s.cv g hg;have h9:a≠9:=fun e=>hN p k (e▸hb)
  have hp:=s.pg a p k hb h9 g h1 h2;rw[o.si.eP,iY e,Option.getD_none] at hp;rw[hp] at hk;have hk:(if g=p then (a:Int) else (a:Int)+1)=4:=hk;rcases s.tg a p k hb with rfl|rfl|rfl
  ·split at hk <;> omega
  ·split at hk <;> omega
  ·exact h9 rfl
def tQ(x:Bx)(S:Sb)(p g k i:Nat):Prop:=S.c g=some k/\i<aI k/\i ∉ S.fl g/\p=aS x g k i
theorem SO.liv_of{w W sb lw x t fr ls S h}(o:SO w W sb lw x t fr ls S h){p:Nat}(hp:p<18446744073709551616)(hl:fH x t p=true):∃ g k i,tQ x S p g k i:=by
 unfold fH jH at hl;rw[Bool.and_eq_true,Bool.and_eq_true] at hl;obtain⟨⟨h1,h2⟩,h3⟩:=hl;have h1:=of_decide_eq_true h1;have h2:=of_decide_eq_true h2;obtain⟨g,hg⟩:=xe (bF x p/4096);have hgn:g<t.m.n:=by
  refine Nat.lt_of_not_le fun hle=>?_
  unfold dH cK at h1;rw[<-hg,if_neg] at h1
  ·exact absurd h1 (by decide)
  ·intro e;obtain⟨k,e1,e2⟩:=gS e;omega
 have hQ:dH x t p=t.m.pg g:=by
  unfold dH;rw[<-hg];exact pN hgn
 rw[hQ] at h1;obtain⟨k,hc⟩:=o.four hgn h1;obtain⟨hk,sp⟩:=o.si.pg g k hc;have hnb:=dQ hk;have hz:=eH hk;have ek:(dH x t p).cl.toNat=k:=by rw[hQ,sp.cl];rfl
 rw[ek] at h2;obtain⟨i,hi⟩:=xe (bF x p%4096/aH k);have hN:fY x t p=i:=by unfold fY;rw[ek,hi]
 have him:i*aH k=bF x p%4096:=by
  have:=Nat.div_add_mod (bF x p%4096) (aH k);rw[h2,Nat.add_zero,Nat.mul_comm,<-hi] at this;exact this
 have hib:i<aI k:=by
  refine Nat.lt_of_not_le fun hle=>?_
  have:=Nat.mul_le_mul_right (aH k) hle;rw[hnb.1,him] at this;have:=Nat.mod_lt (bF x p) (show 0<4096 by decide);omega
 rw[hQ,hN,sp.bt i (by omega)] at h3;have h3:=of_decide_eq_true h3;refine⟨g,k,i,hc,hib,h3.2,?_⟩;obtain⟨_,hpn,hp1,hpb⟩:=o.mem hc;have n4:=o.po.nums.2.2.2.1;have e:aS x g k i=x.bS+4096*g+i*aH k:=rfl;rw[e,him,hg];have hd:=Nat.div_add_mod (bF x p) 4096;have ho:bF x p=(p+18446744073709551616-x.bS)%18446744073709551616:=rfl;omega
theorem SO.of_liv{w W sb lw x t fr ls S h}(o:SO w W sb lw x t fr ls S h){p g k i:Nat}(hl:tQ x S p g k i):fH x t p=true/\jH x t p=true/\bF x p/4096=g/\dH x t p=t.m.pg g/\fY x t p=i/\p<18446744073709551616:=by
 obtain⟨hc,hi,hn,rfl⟩:=hl;obtain⟨hk,sp⟩:=o.si.pg g k hc;have hnb:=dQ hk;obtain⟨_,hpn,hp1,hpb⟩:=o.mem hc;have n4:=o.po.nums.2.2.2.1;obtain⟨h1,h2,h3,h4⟩:=uT (x:=x) (t:=t) hk hi (by omega) hpn sp.kd sp.cl;refine⟨?_,h1,h2,h3,h4,(lF (x:=x) (p:=g) hk hi (by omega)).2.2⟩;unfold fH;rw[h1,h3,h4,sp.bt i (by omega),decide_eq_true ⟨hi,hn⟩];rfl
theorem gQ.tak{S:Sb}{p k i:Nat}{r:List Nat}(h:∀ a c,a≠p->S.c a=some c->(S.fl a).length<aI c)(hc:S.c p=some k)(hf:S.fl p=i :: r)(hl:(S.fl p).length<=aI k):gQ (aR S p k r):=by
 intro a c ha;replace ha:S.c a=some c:=ha;show(aX S.fl p r a).length<aI c
 by_cases e:a=p
 ·subst e;rw[hc] at ha
  cases ha
  rw[dC];rw[hf,List.length_cons] at hl;omega
 ·rw[dA _ _ e];exact h a c e ha
theorem gQ.old{w W sb lw x t fr ls S h}(o:SO w W sb lw x t fr ls S h)(v:gQ S){p k i:Nat}{l r:List Nat}(hk:k<8)(hl:S.pl k=p :: l)(hf:S.fl p=i :: r):gQ (aR S p k r):=by
 have hc:=((o.si.pm k hk p).1 (by rw[hl];exact List.mem_cons_self)).1;exact gQ.tak (fun a c _ ha=>v a c ha) hc hf (o.si.lv p k hc)
theorem gQ.new{S:Sb}(v:gQ S){p k:Nat}(hk:k<8):gQ (aR (aW S p k) p k (List.range' 1 (aI k-1))):=by
 have hnl:=dQ hk;have e:(aW S p k).fl p=List.range' 0 (aI k):=dC _ _ _;refine gQ.tak (i:=0) (fun a c ha hc=>?_) (dC _ _ _) ?_ ?_
 ·rw[show(aW S p k).c a=S.c a from dA _ _ ha] at hc;rw[show(aW S p k).fl a=S.fl a from dA _ _ ha];exact v a c hc
 ·rw[e];obtain⟨m,hm⟩:∃ m,aI k=m+1:=⟨aI k-1,by omega⟩;rw[hm];rfl
 ·rw[e,List.length_range'];exact Nat.le_refl _
theorem SO.new{w W sb lw x t}(po:PO w W lw x t (fun _=>[]) [])(sw:SW w W sb lw x t (fun _ => -1))(hP:x.P=fun _=>none):SO w W sb lw x t (fun _=>[]) [] ⟨fun _=>none,fun _=>[],fun _=>[]⟩ (fun _ => -1):=by
 refine⟨sw,po.sf,po.st,po.bm,⟨?_,fun p k h=>?_,fun p k h=>?_,fun p k h=>?_,fun k hk=>List.nodup_nil,fun k hk p=>?_⟩,fun k hk=>rfl⟩
 ·rw[hP];funext p
  exact(iY rfl).symm
 ·cases h
 ·cases h
 ·cases h
 ·constructor
  ·intro h;cases h
  ·rintro ⟨h,_⟩;cases h
theorem gQ.none:gQ ⟨fun _=>Option.none,fun _=>[],fun _=>[]⟩:=fun p k h=>by cases h
def eO(x:Bx)(ls:List (Nat×Nat))(S:Sb)(p s:Nat):Prop:=(∃ g k i,tQ x S p g k i/\s=aH k)\/(∃ q k,(q,k)∈ls/\S.c q=none/\p=ad x q/\s=4096*2 ^ k)
section
variable {w W:World} {sb lw:Nat} {x:Bx} {t:Bt} {fr:Nat->List Nat} {ls:List (Nat×Nat)} {S:Sb} {h:Nat->Int}
theorem SO.apart(o:SO w W sb lw x t fr ls S h){p k q j:Nat}(hp:(p,k)∈ls)(hq:(q,j)∈ls):(p=q/\k=j)\/p+2 ^ k<=q\/q+2 ^ j<=p:=by
 obtain⟨B,s,hN,hL⟩:=o.sf;rcases s.ds _ _ _ _ _ _ ((hL p k).2 hp) ((hL q j).2 hq)with ⟨_,e1,e2⟩|e|e
 ·exact .inl ⟨e1,e2⟩
 ·exact .inr (.inl e)
 ·exact .inr (.inr e)
theorem SO.al(o:SO w W sb lw x t fr ls S h){p k:Nat}(hp:(p,k)∈ls):k<=x.o/\p%2 ^ k=0/\p+2 ^ k<=t.m.n:=o.sf.sn.al hp
theorem SO.span(o:SO w W sb lw x t fr ls S h){p s:Nat}(hl:eO x ls S p s) : 0<s/\∃ q k,(q,k)∈ls/\ad x q<=p/\p+s<=ad x q+4096*2 ^ k:=by
 rcases hl with ⟨g,k,i,⟨h1,h2,h3,rfl⟩,rfl⟩|⟨q,k,h1,h2,rfl,rfl⟩
 ·have hk:=(o.si.pg g k h1).1;have hz:=eH hk;have hm:=o.mem h1;have n4:=o.po.nums.2.2.2.1;have hc:=lF (x:=x) (p:=g) hk h2 (by omega);refine⟨by omega,g,0,hm.1,?_,?_⟩
  ·unfold aS ad;omega
  ·unfold aS ad;rw[Nat.pow_zero];omega
 ·have : 0<2 ^ k:=Nat.pow_pos (by decide);exact⟨by omega,q,k,h1,Nat.le_refl _,Nat.le_refl _⟩
end
section
variable {w W:World} {sb lw:Nat} {x:Bx} {t:Bt} {fr:Nat->List Nat} {ls:List (Nat×Nat)} {S:Sb} {h:Nat->Int} {n:Nat}
end
theorem vE{x x':Bx}(hb:x'.bS=x.bS){ls:List (Nat×Nat)}{S:Sb}{p s:Nat} : eO x' ls S p s↔eO x ls S p s:=by
 unfold eO tQ aS ad;rw[hb]
section
variable {w W:World} {sb lw:Nat} {x:Bx} {t:Bt} {fr:Nat->List Nat} {ls:List (Nat×Nat)} {S:Sb} {h:Nat->Int} {n:Nat}
variable {w2 W2:World} {sb2 lw2:Nat} {x':Bx} {t':Bt} {fr':Nat->List Nat} {ls':List (Nat×Nat)} {S':Sb} {h':Nat->Int}
theorem SO.cell_ne(o:SO w W sb lw x t fr ls S h){g k i g' k' i':Nat}(h1:S.c g=some k)(h2:i<aI k)(h3:S.c g'=some k')(h4:i'<aI k')(e:aS x g k i=aS x g' k' i'):g=g'/\k=k'/\i=i':=by
 have hk:=(o.si.pg g k h1).1;have hk':=(o.si.pg g' k' h3).1;have hm:=o.mem h1;have hm':=o.mem h3;have n4:=o.po.nums.2.2.2.1;have hc:=lF (x:=x) (p:=g) hk h2 (by omega);have hc':=lF (x:=x) (p:=g') hk' h4 (by omega);have hz:=eH hk;have hz':=eH hk';unfold aS at e;have e1:g=g':=by omega
 subst e1;rw[h1] at h3;injection h3 with h3
 subst h3;refine⟨rfl,rfl,?_⟩;have:i*aH k=i'*aH k:=by omega
 exact Nat.eq_of_mul_eq_mul_right (by omega) this
theorem SO.free_no(o:SO w W sb lw x t fr ls S h){p k i:Nat}(hc:S.c p=some k)(hi:i∈S.fl p)(s:Nat):¬eO x ls S (aS x p k i) s:=by
 have hib:=(o.si.fl p k hc).2.1 i hi;rintro (⟨g,k',i',⟨h1,h2,h3,h4⟩,_⟩|⟨q,j,h1,h2,h3,_⟩)
 ·obtain⟨rfl,rfl,rfl⟩:=o.cell_ne hc hib h1 h2 h4;exact h3 hi
 ·have hk:=(o.si.pg p k hc).1;have hm:=o.mem hc;have n4:=o.po.nums.2.2.2.1;have hcc:=lF (x:=x) (p:=p) hk hib (by omega);have hz:=eH hk;have hzz : 0<2 ^ j:=Nat.pow_pos (by decide);unfold aS ad at h3;rcases o.apart hm.1 h1 with ⟨e,_⟩|e|e
  ·rw[<-e,hc] at h2;cases h2
  ·omega
  ·omega
theorem QB(o:SO w W sb lw x t fr ls S h){p k i:Nat}{r:List Nat}(hc:S.c p=some k)(hf:S.fl p=i :: r)(a s:Nat):eO x ls (aR S p k r) a s↔eO x ls S a s\/(a=aS x p k i/\s=aH k):=by
 obtain⟨n1,n2,_⟩:=o.si.fl p k hc;rw[hf,List.nodup_cons] at n1;have hib:=n2 i (by rw[hf];exact List.mem_cons_self);constructor
 ·rintro (⟨g,k',i',⟨h1,h2,h3,h4⟩,h5⟩|⟨q,j,h1,h2,h3,h4⟩)
  ·replace h1:S.c g=some k':=h1;replace h3:i' ∉ aX S.fl p r g:=h3;by_cases e:g=p
   ·subst e;rw[hc] at h1;injection h1 with h1
    subst h1;rw[dC] at h3;by_cases e2:i'=i
    ·subst e2;exact .inr ⟨h4,h5⟩
    ·refine .inl (.inl ⟨g,k,i',⟨hc,h2,?_,h4⟩,h5⟩);rw[hf,List.mem_cons,not_or];exact⟨e2,h3⟩
   ·rw[dA _ _ e] at h3;exact .inl (.inl ⟨g,k',i',⟨h1,h2,h3,h4⟩,h5⟩)
  ·exact .inl (.inr ⟨q,j,h1,h2,h3,h4⟩)
 ·rintro ((⟨g,k',i',⟨h1,h2,h3,h4⟩,h5⟩|⟨q,j,h1,h2,h3,h4⟩)|⟨rfl,rfl⟩)
  ·refine .inl ⟨g,k',i',⟨h1,h2,?_,h4⟩,h5⟩;show i' ∉ aX S.fl p r g
   by_cases e:g=p
   ·subst e;rw[dC];rw[hf,List.mem_cons,not_or] at h3;exact h3.2
   ·rw[dA _ _ e];exact h3
  ·exact .inr ⟨q,j,h1,h2,h3,h4⟩
  ·refine .inl ⟨p,k,i,⟨hc,hib,?_,rfl⟩,rfl⟩;show i ∉ aX S.fl p r p
   rw[dC];exact n1.1
theorem QA{p k:Nat}(hk:k<8)(hc:S.c p=none)(hn:∀ i,(p,i) ∉ ls)(a s:Nat):eO x (ls ++ [(p,0)]) (aR (aW S p k) p k (List.range' 1 (aI k-1))) a s↔eO x ls S a s\/(a=aS x p k 0/\s=aH k):=by
 have hnb:=dQ hk;constructor
 ·rintro (⟨g,k',i',⟨h1,h2,h3,h4⟩,h5⟩|⟨q,j,h1,h2,h3,h4⟩)
  ·replace h1:aX S.c p (some k) g=some k':=h1;replace h3:i' ∉ aX (aX S.fl p (List.range' 0 (aI k))) p (List.range' 1 (aI k-1)) g:=h3;by_cases e:g=p
   ·subst e;rw[dC] at h1 h3;injection h1 with h1
    subst h1;have e2:i'=0:=by
     rcases Nat.eq_zero_or_pos i' with e2|e2
     ·exact e2
     ·exact absurd (List.mem_range'_1.2 ⟨e2,by omega⟩) h3
    subst e2;exact .inr ⟨h4,h5⟩
   ·rw[dA _ _ e] at h1;rw[dA _ _ e,dA _ _ e] at h3;exact .inl (.inl ⟨g,k',i',⟨h1,h2,h3,h4⟩,h5⟩)
  ·replace h2:aX S.c p (some k) q=none:=h2;have e:q≠p:=fun e=>by rw[e,dC] at h2;cases h2
   rw[dA _ _ e] at h2;refine .inl (.inr ⟨q,j,?_,h2,h3,h4⟩);rcases List.mem_append.1 h1 with h1|h1
   ·exact h1
   ·rw[List.mem_singleton] at h1;injection h1 with h1
    exact absurd h1 e
 ·rintro ((⟨g,k',i',⟨h1,h2,h3,h4⟩,h5⟩|⟨q,j,h1,h2,h3,h4⟩)|⟨rfl,rfl⟩)
  ·have e:g≠p:=fun e=>by rw[e,hc] at h1;cases h1
   refine .inl ⟨g,k',i',⟨?_,h2,?_,h4⟩,h5⟩
   ·show aX S.c p (some k) g=some k'
    rw[dA _ _ e];exact h1
   ·show i' ∉ aX (aX S.fl p (List.range' 0 (aI k))) p (List.range' 1 (aI k-1)) g
    rw[dA _ _ e,dA _ _ e];exact h3
  ·have e:q≠p:=fun e=>hn j (e▸h1)
   refine .inr ⟨q,j,List.mem_append_left _ h1,?_,h3,h4⟩;show aX S.c p (some k) q=none
   rw[dA _ _ e];exact h2
  ·refine .inl ⟨p,k,0,⟨dC _ _ _,by omega,?_,rfl⟩,rfl⟩;show 0 ∉ aX (aX S.fl p (List.range' 0 (aI k))) p (List.range' 1 (aI k-1)) p
   rw[dC,List.mem_range'_1];omega
theorem ZN{p k:Nat}(hc:S.c p=none)(a s:Nat):eO x (ls ++ [(p,k)]) S a s↔eO x ls S a s\/(a=ad x p/\s=4096*2 ^ k):=by
 constructor
 ·rintro (h1|⟨q,j,h1,h2,h3,h4⟩)
  ·exact .inl (.inl h1)
  ·rcases List.mem_append.1 h1 with h1|h1
   ·exact .inl (.inr ⟨q,j,h1,h2,h3,h4⟩)
   ·rw[List.mem_singleton] at h1;injection h1 with e1 e2
    subst e1 e2;exact .inr ⟨h3,h4⟩
 ·rintro ((h1|⟨q,j,h1,h2,h3,h4⟩)|⟨h3,h4⟩)
  ·exact .inl h1
  ·exact .inr ⟨q,j,List.mem_append_left _ h1,h2,h3,h4⟩
  ·exact .inr ⟨p,k,List.mem_append_right _ (List.mem_singleton.2 rfl),hc,h3,h4⟩
def xO(x:Bx)(ls:List (Nat×Nat))(S:Sb)(j:Nat):Prop:=∃ p s,eO x ls S p s/\p<=x.bS+j/\x.bS+j<p+s
theorem SO.byte(o:SO w W sb lw x t fr ls S h){j:Nat}(hj:xO x ls S j):Lv ls (j/4096):=by
 obtain⟨p,s,h1,h2,h3⟩:=hj;obtain⟨_,q,k,h4,h5,h6⟩:=o.span h1;unfold ad at h5 h6;refine⟨q,k,h4,?_,?_⟩
 ·exact(Nat.le_div_iff_mul_le (by decide)).2 (by omega)
 ·exact(Nat.div_lt_iff_lt_mul (by decide)).2 (by omega)
structure Ch(x:Bx)(t:Bt)(ls:List (Nat×Nat))(S:Sb)(x':Bx)(t':Bt)(ls':List (Nat×Nat))(S':Sb):Prop where
 bS:x'.bS=x.bS
 R:x'.R=x.R
 lim:x'.lim=x.lim
 o:x'.o=x.o
 kb:∀ j,xO x ls S j->xO x' ls' S' j->t'.f j=t.f j
end
open Go.MuLone
def KW(w:World):Type:={ W:World // Kt nO w W }
def KW.v{w:World}(x:KW w):World:=x.1
theorem KW.k{w:World}(x:KW w):Kt nO w x.v:=x.2
instance (w:World):Nonempty (KW w):=⟨⟨w,Kt.refl _ _⟩⟩
theorem bT{P:Program}{id:Nat}{Q:Exit->Act->World->Prop}{a:Act}{w:World}{l:List Oper}(hm:P.follows .mixedOrders=true)(hB:Region.lexB .any l.toArray=true)
  (h:wpQuiet P l.toArray (fun w'=>∃ x:KW w,w'=x.v) (fun a'=>∀ x:KW w,Q .normal a' x.v) l a):(Code.region id l.toArray true).wp P Q a w:=by
 refine wp_region_quiet (C:=fun w'=>∃ x:KW w,w'=x.v) hm hB ⟨⟨w.drew,(Kt.refl _ w).drew⟩,rfl⟩ ?_;have e:(fun a'=>∀ w',(∃ x:KW w,w'=x.v)->Q .normal a' w')=(fun a'=>∀ x:KW w,Q .normal a' x.v):=by
  funext a'
  exact propext ⟨fun h x=>h _ ⟨x,rfl⟩,fun h w' ⟨x,hx⟩=>hx▸h x⟩
 rw[e];simpa using h
theorem Calls.kept_of{P:Program}{f:FuncId}{args:Array Value}{w:World}{x:KW w}{v:Value}
  (h:Calls P f args x.v fun e w'=>e=.returned v/\Kt nO x.v w'):Calls P f args x.v fun e w''=>e=.returned v/\∃ y:KW w,w''=y.v:=
 h.mono fun _ w1 ⟨he,hk⟩=>⟨he,⟨w1,nT x.k hk⟩,rfl⟩
abbrev muK:Go.Conc.Locks.MuLink:={ lock:=35,unlock:=36,ilock:=80,iunlock:=81,lockSlow:=123,unlockSlow:=126,disable:=119,enable:=121,acquire:=122,relMerge:=124,cas32:=120,add32:=125,tMutex:=73,tIMutex:=71,tPMutex:=136,tPIMutex:=166,tPI32:=168,tUP:=170,tNoCopy:=68,tU32:=69 }
theorem IH:Go.Conc.Locks.MuLib prog muK:=
 ⟨func35,func36,func80,func81,func119,func121,func122,func124,func120,func125,
 Tryz.underlying71,Tryz.runUnderlying71,Tryz.sizeOf71,Tryz.isAgg71,Tryz.zeroValue71,
 Tryz.underlying73,Tryz.runUnderlying73,Tryz.sizeOf73,Tryz.isAgg73,Tryz.zeroValue73,
 Tryz.underlying136,Tryz.runUnderlying136,Tryz.sizeOf136,Tryz.isAgg136,Tryz.zeroValue136,
 Tryz.underlying166,Tryz.runUnderlying166,Tryz.sizeOf166,Tryz.isAgg166,Tryz.zeroValue166,
 Tryz.underlying168,Tryz.runUnderlying168,Tryz.sizeOf168,Tryz.isAgg168,Tryz.zeroValue168,
 Tryz.underlying170,Tryz.runUnderlying170,Tryz.sizeOf170,Tryz.isAgg170,Tryz.zeroValue170,
 Tryz.underlying68,Tryz.runUnderlying68,Tryz.sizeOf68,Tryz.isAgg68,Tryz.zeroValue68,
 Tryz.underlying21,Tryz.runUnderlying21,Tryz.sizeOf21,Tryz.isAgg21,Tryz.zeroValue21,
 (by kernel_rfl)⟩
abbrev xG(s:Int)(lw sb bS lim o:Nat):Obj:=.cells #[.int .i32 s,.int .u32 0,.int .u64 bS,.int .i64 lim,.int .i64 o,.pointer (some ⟨lw,0,none⟩),.pointer (some ⟨sb,0,none⟩)] 75
structure HW(w W:World)(hb sb lw:Nat)(x:Bx)(t:Bt)(fr:Nat->List Nat)(ls:List (Nat×Nat))(S:Sb)(s:Int):Prop where
 so:∃ h,SO w W sb lw x t fr ls S h
 lv:gQ S
 bx:W.heap[hb]?=some (xG s lw sb x.bS x.lim x.o)
 nw:w.heap.size<=hb
 br:x.bS%x.R=0
theorem SO.hty{w W sb lw x t fr ls S h}(s:SO w W sb lw x t fr ls S h){y:Nat}{cs:Array Value}{z:Nat×Nat}(hy:W.heap[y]?=some (.cells cs 75 z)):¬dD x sb y:=by
 rintro (e|e)
 ·exact absurd (s.sw.pl.pty hy (.inl e)) (by unfold Go.Proofs.YtkfmheelhinjdaaGreatDoor.pty;decide)
 ·subst e;exact absurd (lA hy s.sw.bx) (by decide)
section
variable {w W W':World} {hb sb lw:Nat} {x:Bx} {t:Bt} {fr:Nat->List Nat} {ls:List (Nat×Nat)} {S:Sb} {s:Int}
theorem HW.nhb(H:HW w W hb sb lw x t fr ls S s):¬dD x sb hb:=by
 obtain⟨h,o⟩:=H.so;exact o.hty H.bx
theorem HW.po(H:HW w W hb sb lw x t fr ls S s):PO w W lw x t fr ls:=by
 obtain⟨h,o⟩:=H.so;exact o.po
theorem HW.keep(H:HW w W hb sb lw x t fr ls S s)(k:Kt nO W W'):HW w W' hb sb lw x t fr ls S s:=by
 obtain⟨h,o⟩:=H.so;exact⟨⟨h,o.keep k⟩,H.lv,(k.block _ (lH H.bx) id).trans H.bx,H.nw,H.br⟩
theorem HW.c(H:HW w W hb sb lw x t fr ls S s):W.cell? ⟨hb,0,none⟩=some (.int .i32 s)/\W.cell? ⟨hb,2,none⟩=some (.int .u64 x.bS)/\W.cell? ⟨hb,3,none⟩=some (.int .i64 x.lim)/\W.cell? ⟨hb,4,none⟩=some (.int .i64 x.o)/\W.cell? ⟨hb,5,none⟩=some (.pointer (some ⟨lw,0,none⟩))/\W.cell? ⟨hb,6,none⟩=some (.pointer (some ⟨sb,0,none⟩)):=by
 refine⟨?_,?_,?_,?_,?_,?_⟩ <;> simp[World.cell?,H.bx]
theorem HW.fz(H:HW w W hb sb lw x t fr ls S s)(j:Nat):W.frozen? ⟨hb,j,none⟩=false:=by simp[World.frozen?,H.bx]
theorem HW.call{x':Bx}{t':Bt}{fr':Nat->List Nat}{ls':List (Nat×Nat)}{S':Sb}{h':Nat->Int}(H:HW w W hb sb lw x t fr ls S s)(o:SO w W' sb lw x' t' fr' ls' S' h')(v:gQ S')(c:Ch x t ls S x' t' ls' S')(k:Kt (dD x sb) W W'):HW w W' hb sb lw x' t' fr' ls' S' s:=
 ⟨⟨h',o⟩,v,by rw[c.bS,c.lim,c.o];exact(k.block _ (lH H.bx) H.nhb).trans H.bx,H.nw,by rw[c.bS,c.R];exact H.br⟩
theorem HW.set(H:HW w W hb sb lw x t fr ls S s)(v:Int):HW w (W.setCell ⟨hb,0,none⟩ (.int .i32 v)) hb sb lw x t fr ls S v/\Kt (fun y=>y=hb) W (W.setCell ⟨hb,0,none⟩ (.int .i32 v)):=by
 have kp:Kt (fun y=>y=hb) W (W.setCell ⟨hb,0,none⟩ (.int .i32 v)):=(Kt.refl (fun y=>y=hb) W).setCell (p:=⟨hb,0,none⟩) rfl _;refine⟨⟨?_,H.lv,?_,H.nw,H.br⟩,kp⟩
 ·obtain⟨h,o⟩:=H.so;have nl:∀ {y cs e z},W.heap[y]?=some (.cells cs e z)->e≠75->y≠hb:=fun hy he e=>he (lA (e▸hy) H.bx)
  have hpty:∀ y,(aF x y\/y=x.b\/y=x.l\/y=lw)->y≠hb:=fun y hy e=>by
   subst e;exact absurd (o.sw.pl.pty H.bx hy) (by unfold Go.Proofs.YtkfmheelhinjdaaGreatDoor.pty;decide)
  refine⟨h,⟨⟨⟨(kp.block _ (lH o.sw.pl.box) (hpty _ (.inr (.inr (.inr rfl))))).trans o.sw.pl.box,o.sw.pl.bd.kept kp (fun y hy=>hpty y ?_),o.sw.pl.nw,o.sw.pl.kp.setNew (p:=⟨hb,0,none⟩) (fun e=>absurd H.nw (Nat.not_le.2 e)) _⟩,(kp.block _ (lH o.sw.bx) (nl o.sw.bx (by decide))).trans o.sw.bx,o.sw.nw,o.sw.tb⟩,o.sf,o.st,o.bm,o.si,o.hd⟩⟩;rcases hy with hy|hy|hy
  ·exact .inl hy
  ·exact .inr (.inl hy)
  ·exact .inr (.inr (.inl hy))
 ·rw[heap_set H.bx];simp
theorem HW.lock(H:HW w W hb sb lw x t fr ls S 0):
  Calls prog 35 #[.pointer (some ⟨hb,0,none⟩)] W fun e w'=>e=.returned (.tuple #[])/\w'=W.setCell ⟨hb,0,none⟩ (.int .i32 1):=lock_free IH ⟨hb,0,none⟩ W H.c.1 (H.fz 0)
theorem HW.unlock(H:HW w W hb sb lw x t fr ls S 1)(u:FrameMode):
  CallsD prog 36 #[.pointer (some ⟨hb,0,none⟩)] u W fun e u' w'=>u'=u/\(e=.returned (.tuple #[])/\w'=W.setCell ⟨hb,0,none⟩ (.int .i32 0)):=unlock_deferred IH ⟨hb,0,none⟩ u W H.c.1 (H.fz 0)
theorem HW.round{K:Nat->Prop}{w2:World}{x2:Bx}{t2:Bt}{fr2:Nat->List Nat}{ls2:List (Nat×Nat)}{S2:Sb}(H:HW w W hb sb lw x t fr ls S 0)(hK:¬K hb)(k:Kt K (W.setCell ⟨hb,0,none⟩ (.int .i32 1)) w2)(H2:HW w w2 hb sb lw x2 t2 fr2 ls2 S2 1)(e1:x2.bS=x.bS)(e2:x2.lim=x.lim)(e3:x2.o=x.o):Kt K W (w2.setCell ⟨hb,0,none⟩ (.int .i32 0)):=by
 have k1:=(H.set 1).2;refine⟨k.os.trans k1.os,k.tape.trans k1.tape,k.output.trans k1.output,?_,fun i hi hU=>?_⟩
 ·have h1:=k1.size;have h2:=k.size;simp
  omega
 ·by_cases e:i=hb
  ·subst e;rw[heap_set H2.bx,H.bx,e1,e2,e3];simp
  ·rw[Below.heap_setCell w2 ⟨hb,0,none⟩ _ i (fun e2=>e e2),k.block i (Nat.lt_of_lt_of_le hi k1.size) hU];exact k1.block i hi e
end
inductive Pk(x:Bx)(t:Bt)(fr:Nat->List Nat)(ls:List (Nat×Nat))(S:Sb)(g:Nat):Prop where
 | slab (k:Nat) (hc:S.c g=some k)
 | big (q k:Nat) (hm:(q,k)∈ls) (hc:S.c q=none) (hg:S.c g=none) (h1:q<=g) (h2:g<q+2 ^ k) (hp:t.m.pg g=aN (if g=q then 2 else 3) (k:Int))
 | free (q j:Nat) (hm:q∈fr j) (hj:j<=x.o) (hg:S.c g=none) (h1:q<=g) (h2:g<q+2 ^ j) (hp:t.m.pg g=aN (if g=q then 0 else 1) (j:Int))
section
variable {w W:World} {sb lw:Nat} {x:Bx} {t:Bt} {fr:Nat->List Nat} {ls:List (Nat×Nat)} {S:Sb} {h:Nat->Int}
theorem SO.kind(o:SO w W sb lw x t fr ls S h){g:Nat}(hg:g<t.m.n):Pk x t fr ls S g:=by
 cases e:S.c g with
 | some k=>exact .slab k e
 | none=>
  have hap:=fun {p k q j:Nat}=>o.apart (p:=p) (k:=k) (q:=q) (j:=j)
  have hme:=fun {p k:Nat}=>o.mem (p:=p) (k:=k)
  have heP:=o.si.eP;obtain⟨B,s,hN,hL⟩:=o.sf;obtain⟨a,p,k,hb,h1,h2⟩:=s.cv g hg;have h9:a≠9:=fun e=>hN p k (e▸hb)
  have hp:=s.pg a p k hb h9 g h1 h2;rw[heP,iY e,Option.getD_none] at hp;rcases s.tg a p k hb with rfl|rfl|rfl
  ·obtain⟨f1,f2⟩:=(s.fi p k).1 hb;exact .free p k f2 f1 e h1 h2 hp
  ·have hm:=(hL p k).1 hb;refine .big p k hm ?_ e h1 h2 hp
   cases e2:S.c p with
   | none=>rfl
   | some c=>
    exfalso
    have hz : 0<2 ^ k:=Nat.pow_pos (by decide);rcases hap (hme e2).1 hm with ⟨_,e3⟩|e3|e3
    ·subst e3;rw[Nat.pow_zero] at h2;obtain rfl:p=g:=(by omega);rw[e] at e2
     cases e2
    ·rw[Nat.pow_zero] at e3;omega
    ·omega
  ·exact absurd rfl h9
theorem SO.cell_liv(o:SO w W sb lw x t fr ls S h){g k i:Nat}(hc:S.c g=some k)(hi:i<aI k):fH x t (aS x g k i)=decide (i ∉ S.fl g):=by
 by_cases hf:i∈S.fl g
 ·rw[decide_eq_false (fun e=>e hf)]
  cases e:fH x t (aS x g k i)with
  | false=>rfl
  | true=>
   exfalso
   have hk:=(o.si.pg g k hc).1;have hme:=o.mem hc;have n4:=o.po.nums.2.2.2.1;obtain⟨g2,k2,i2,v1,v2,v3,v4⟩:=o.liv_of (lF (x:=x) (p:=g) hk hi (by omega)).2.2 e;obtain⟨e1,e2,e3⟩:=o.cell_ne hc hi v1 v2 v4;subst e1 e2 e3;exact v3 hf
 ·rw[decide_eq_true hf];exact(o.of_liv ⟨hc,hi,hf,rfl⟩).1
end
end Go.Proofs.YtkfmheelhinjdaaGreatDoor
