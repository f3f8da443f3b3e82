import Derived.Test.YtkfmheelhinjdaaGreatDoorXn
set_option maxRecDepth 1000000
set_option maxHeartbeats 80000000
namespace Go.Proofs.YtkfmheelhinjdaaGreatDoor
open _root_.Go.Proofs.Tryz
open Go.RowKit
set_option linter.unusedVariables false
theorem sE(x r:Nat):(x/2 ^ r%2 == 1)=x.testBit r:=by
 rw[Nat.testBit_eq_decide_div_mod_eq];rfl
theorem RE(p:Pg)(c j:Nat)(hc:c<256)(hj:j<256):aH (dS p c) j=(if j=c then !aH p c else aH p j):=by
 have key:∀ x:Nat,∀ s r:Nat,(x ^^^ 2 ^ r).testBit s=(if s=r then !x.testBit s else x.testBit s):=fun x s r=>by
  rw[Nat.testBit_xor,Nat.testBit_two_pow];by_cases e:s=r
  ·subst e;simp
  ·have e':¬r=s:=fun h=>e h.symm
   simp[e,e']
 have two:∀ a b:Nat,a/64=b/64->(a%64=b%64↔a=b):=fun a b h=>by omega
 unfold aH;rw[sE,sE,sE];rcases sA hc with h|h|h|h <;> rcases sA hj with g|g|g|g <;> simp only[dS,h,g,wP] <;> first
  |(
   rw[key];by_cases e:j=c
   ·subst e;simp
   ·have e2:¬j%64=c%64:=fun e3=>e ((two j c (by omega)).1 e3)
    simp[e,e2])
  | (rw[if_neg (by omega)])
theorem KJ(p:Pg)(c j:Nat)(hc:c<256)(hj:j<256):aH (bU p c) j=(if j=c then !aH p c else aH p j):=by
 rw[<-RE p c j hc hj];unfold aH bU;unfold wP;rfl
def aZ{α : Type}(f:Nat->α)(p:Nat)(v : α):Nat->α:=fun r=>if r=p then v else f r
theorem cV{α : Type}(f:Nat->α)(p:Nat)(v : α):aZ f p v p=v:=if_pos rfl
theorem cT{α : Type}(f:Nat->α){p r:Nat}(v : α)(h:r≠p):aZ f p v r=f r:=if_neg h
structure SlQ(S:Sb)(p k:Nat)(q:Pg):Prop where
 kd:q.kd=4
 od:q.od=0
 cl:q.cl=(k:Int)
 lv:q.lv=((aG k-(S.fl p).length:Nat):Int)
 fs:q.fs=bE (S.fl p)
 bt:∀ i,i<256->aH q i=decide (i<aG k/\i ∉ S.fl p)
theorem SlP.q{S p k q}(h:SlP S p k q):SlQ S p k q:=⟨h.kd,h.od,h.cl,h.lv,h.fs,h.bt⟩
theorem SlQ.p{S p k q}(h:SlQ S p k q)(n:q.nx=bD (S.pl k) p)(v:q.pv=bG (S.pl k) p):SlP S p k q:=⟨h.kd,h.od,h.cl,h.lv,n,v,h.fs,h.bt⟩
theorem zZ{q q':Pg}(h0:q'.b0=q.b0)(h1:q'.b1=q.b1)(h2:q'.b2=q.b2)(h3:q'.b3=q.b3)(i:Nat):aH q' i=aH q i:=by
 unfold aH;have:wP q' (i/64)=wP q (i/64):=by
  unfold wP;split <;> assumption
 rw[this]
theorem SlQ.rst{S p k q q'}(h:SlQ S p k q)(r:vM q q'):SlQ S p k q':=by
 obtain⟨a,b,rfl⟩:=r;exact⟨h.kd,h.od,h.cl,h.lv,h.fs,fun i hi=>(zZ rfl rfl rfl rfl i).trans (h.bt i hi)⟩
theorem SlQ.congr{S S' p k q}(h:SlQ S p k q)(e:S'.fl p=S.fl p):SlQ S' p k q:=⟨h.kd,h.od,h.cl,by rw[e];exact h.lv,by rw[e];exact h.fs,fun i hi=>by rw[e];exact h.bt i hi⟩
theorem oZ{x:Bx}{P:Nat->Option Pg}{f:Nat->Nat}{p k:Nat} : ∀ {l:List Nat},mA x f p k l->mA { x with P:=P } f p k l
 | [],_=>trivial
 | i :: l,h=>⟨by
   rw[h.1]
   cases l <;> rfl,oZ h.2⟩
theorem zS{pg:Nat->Pg}{l:List Nat}{p r:Nat}(hd:l.Nodup)(hr:r≠p)(hl:r ∉ l):fF pg l p r=pg r:=by
 unfold fF;rw[if_neg hr,if_neg,if_neg]
 ·intro e;rcases lR l p hd with h|⟨b,h,hb,_⟩
  ·omega
  ·exact hl (by rw[show r=b by omega];exact hb)
 ·intro e;rcases mM l p hd with h|⟨b,h,hb,_⟩
  ·omega
  ·exact hl (by rw[show r=b by omega];exact hb)
theorem uG{pg:Nat->Pg}{l:List Nat}{p r:Nat}(hr:r≠p)(hl:r ∉ l):dW pg l p r=pg r:=by
 unfold dW;rw[if_neg hr,if_neg (fun e=>hl (nK e.symm))]
def aP(S:Sb)(p k:Nat)(r:List Nat):Sb:={ S with fl:=aZ S.fl p r,pl:=if r=[] then aZ S.pl k (M.dropL (S.pl k) p) else S.pl }
theorem RD{S:Sb}{p k i:Nat}{r:List Nat}{q:Pg}(hk:k<8)(h:SlP S p k q)(hf:S.fl p=i :: r)(nd:(S.fl p).Nodup)(hi:i<aG k)(hl:(S.fl p).length<=aG k):
  SlQ (aP S p k r) p k { bU q i with fs:=bE r }/\({ bU q i with fs:=bE r } : Pg).nx=q.nx/\({ bU q i with fs:=bE r } : Pg).pv=q.pv:=by
 obtain⟨t1,t2,t3,t4,t5,t6,t7⟩:=tU q i;have hnb:=dM hk;have hlit:aH q i=false:=by
  rw[h.bt i (by omega),hf];exact decide_eq_false (fun e=>e.2 List.mem_cons_self)
 rw[hf] at nd hl;have hni:i ∉ r:=(List.nodup_cons.1 nd).1;have hfl:(aP S p k r).fl p=r:=cV _ _ _;rw[List.length_cons] at hl;refine⟨⟨t1.trans h.kd,t2.trans h.od,t3.trans h.cl,?_,by rw[hfl],fun j hj=>?_⟩,t5,t6⟩
 ·show wrap64 (if aH q i=true then q.lv-1 else q.lv+1)=_
  rw[hlit,if_neg (by decide),h.lv,hfl,hf,List.length_cons];unfold wrap64;omega
 ·have e1:aH { bU q i with fs:=bE r } j=aH (bU q i) j:=zZ rfl rfl rfl rfl j;rw[e1,KJ q i j (by omega) hj,hfl];by_cases e:j=i
  ·rw[if_pos e,hlit];symm;exact decide_eq_true ⟨by omega,by rw[e];exact hni⟩
  ·rw[if_neg e,h.bt j hj,hf];apply decide_eq_decide.2
   rw[List.mem_cons,not_or];exact⟨fun h=>⟨h.1,h.2.2⟩,fun h=>⟨h.1,e,h.2⟩⟩
theorem QZ{m:Mp}{p i k:Nat}{r:List Nat}(hp:p<m.n)(hkd:(m.pg p).kd=4)(hcl:(m.pg p).cl=(k:Int))(hi:i<aG k)(hlit:aH (m.pg p) i=false)(hr:∀ j∈r,j<aG k):mC m p i r={ m with pg:=aJ m.pg p { bU (m.pg p) i with fs:=bE r } }:=by
 have hcn:eQ (m.pg p).cl=aG k:=by rw[hcl];rfl
 unfold mC;rw[(yJ hp hkd (by rw[hcn];exact hi) (by rw[hlit];rfl)).2];obtain⟨t1,t2,t3,_⟩:=tU (m.pg p) i;have e1:aJ m.pg p (bU (m.pg p) i) p=bU (m.pg p) i:=if_pos rfl;rw[BG (m:={ m with pg:=aJ m.pg p (bU (m.pg p) i) }) hp (by show(aJ m.pg p _ p).kd=4;rw[e1];exact t1.trans hkd) (by
  rcases pC r with e|⟨j,e,hj⟩
  ·exact .inl e
  ·refine .inr ⟨j,e,?_⟩;show j<eQ (aJ m.pg p _ p).cl
   rw[e1,show(bU (m.pg p) i).cl=(m.pg p).cl from t3,hcn];exact hr j hj)]
 show({ m with pg:=aJ (aJ m.pg p (bU (m.pg p) i)) p { aJ m.pg p (bU (m.pg p) i) p with fs:=bE r } } : Mp)=_
 rw[e1];refine congrArg (fun g=>({ m with pg:=g } : Mp)) (funext fun a=>?_);unfold aJ;by_cases e:a=p
 ·rw[if_pos e,if_pos e]
 ·rw[if_neg e,if_neg e,if_neg e]
theorem SO.hand{w W sb lw x t fr ls S h w'}(o:SO w W sb lw x t fr ls S h){p k i:Nat}{r:List Nat}(hc:S.c p=some k)(hf:S.fl p=i :: r)(se:SE w W sb lw x t (dR t.m p i r) (fK t.m h p k i r) w'):
  SO w w' sb lw { x with P:=jE (aP S p k r) (dR t.m p i r) } { t with m:=dR t.m p i r } fr ls (aP S p k r) (fK t.m h p k i r):=by
 obtain⟨hk,sp⟩:=o.si.pg p k hc;obtain⟨nd,lt,lk⟩:=o.si.fl p k hc;have hlv:=o.si.lv p k hc;obtain⟨hls,hpn,_⟩:=o.mem hc;have hnb:=dM hk;have hib:i<aG k:=lt i (by rw[hf];exact List.mem_cons_self);have hlit:aH (t.m.pg p) i=false:=by
  rw[sp.bt i (by omega),hf];exact decide_eq_false (fun e=>e.2 List.mem_cons_self)
 have e2:=QZ (r:=r) hpn sp.kd sp.cl hib hlit (fun j hj=>lt j (by rw[hf];exact List.mem_cons_of_mem _ hj));obtain⟨q2,q2n,q2v⟩:=RD hk sp hf nd hib hlv;generalize hq2:({ bU (t.m.pg p) i with fs:=bE r } : Pg)=Q2 at *;have hpl:p∈S.pl k:=(o.si.pm k hk p).2 ⟨hc,by rw[hf];exact List.cons_ne_nil _ _⟩;have hln:(S.pl k).Nodup:=o.si.pn k hk
 have pg2:∀ a c,S.c a=some c->SlQ (aP S p k r) a c (aJ t.m.pg p Q2 a)/\(aJ t.m.pg p Q2 a).nx=bD (S.pl c) a/\(aJ t.m.pg p Q2 a).pv=bG (S.pl c) a:=fun a c ha=>by
  obtain⟨hc8,sa⟩:=o.si.pg a c ha;unfold aJ;by_cases e:a=p
  ·subst e;rw[hc] at ha
   cases ha
   rw[if_pos rfl,q2n,q2v];exact⟨q2,sp.nx,sp.pv⟩
  ·rw[if_neg e];exact⟨sa.q.congr (cT _ _ e),sa.nx,sa.pv⟩
 have hout2:∀ a,S.c a=none->aJ t.m.pg p Q2 a=t.m.pg a:=fun a ha=>by
  unfold aJ;rw[if_neg];intro e;rw[e,hc] at ha
  cases ha
 -- the pages in the end
 obtain⟨pgF,hpgF,hF1,hF2,hF3,hF4⟩:∃ pgF:Nat->Pg,dR t.m p i r={ t.m with pg:=pgF }/\(∀ a,S.c a=none->pgF a=t.m.pg a)/\(∀ a c,S.c a=some c->SlQ (aP S p k r) a c (pgF a)/\(pgF a).nx=bD ((aP S p k r).pl c) a/\(pgF a).pv=bG ((aP S p k r).pl c) a)/\(∀ c,c<8->fK t.m h p k i r c=bE ((aP S p k r).pl c))/\True:=by
  by_cases hr:r=[]
  ·have hU:=DN (m:={ t.m with pg:=aJ t.m.pg p Q2 }) (h:=h) (c:=k) hln hpl (fun a ha=>by
    have hca:=((o.si.pm k hk a).1 ha).1;obtain⟨h1,h2,h3⟩:=pg2 a k hca;exact⟨(o.mem hca).2.1,h1.kd,h2,h3⟩)
   have ePl:(aP S p k r).pl=aZ S.pl k (M.dropL (S.pl k) p):=(by unfold aP;rw[if_pos hr]);have np:NP (aJ t.m.pg p Q2) S k (S.pl k):=fun a ha=>(pg2 a k ha).2
   have np2:=DK np hln hpl;refine⟨fF (aJ t.m.pg p Q2) (S.pl k) p,?_,fun a ha=>?_,fun a c ha=>?_,fun c hc8=>?_,trivial⟩
   ·unfold dR;rw[if_pos hr,e2,hU.1]
   ·have hap:a≠p:=fun e=>by rw[e,hc] at ha;cases ha
    have hal:a ∉ S.pl k:=fun e=>by rw[((o.si.pm k hk a).1 e).1] at ha;cases ha
    rw[zS hln hap hal];exact hout2 a ha
   ·obtain⟨h1,h2,h3⟩:=pg2 a c ha;refine⟨h1.rst (OO _ _ _ _),?_⟩;rw[ePl];by_cases e:c=k
    ·subst e;rw[cV];exact np2 a ha
    ·rw[cT _ _ e];have hap:a≠p:=fun e3=>by rw[e3,hc] at ha;cases ha;exact e rfl
     have hal:a ∉ S.pl k:=fun e3=>by rw[((o.si.pm k hk a).1 e3).1] at ha;cases ha;exact e rfl
     rw[zS hln hap hal];exact⟨h2,h3⟩
   ·unfold fK;rw[if_pos hr,e2,hU.2,ePl];by_cases e:c=k
    ·subst e;rw[cV,uE hln hpl];by_cases e3:bG (S.pl c) p = -1
     ·rw[if_pos e3,if_pos e3];exact if_pos rfl
     ·rw[if_neg e3,if_neg e3];exact o.hd c hc8
    ·rw[cT _ _ e];by_cases e3:bG (S.pl k) p = -1
     ·rw[if_pos e3];exact(if_neg e).trans (o.hd c hc8)
     ·rw[if_neg e3];exact o.hd c hc8
  ·have ePl:(aP S p k r).pl=S.pl:=(by unfold aP;rw[if_neg hr]);refine⟨aJ t.m.pg p Q2,?_,hout2,fun a c ha=>?_,fun c hc8=>?_,trivial⟩
   ·unfold dR;rw[if_neg hr,e2]
   ·rw[ePl];exact pg2 a c ha
   ·unfold fK;rw[if_neg hr,ePl];exact o.hd c hc8
 have hsw:=se.1;rw[hpgF] at hsw ⊢;have hfl:∀ a c,S.c a=some c->((aP S p k r).fl a=r/\a=p)\/((aP S p k r).fl a=S.fl a/\a≠p):=fun a c ha=>by
  by_cases e:a=p
  ·exact .inl ⟨by rw[e];exact cV _ _ _,e⟩
  ·exact .inr ⟨cT _ _ e,e⟩
 refine⟨hsw.reP _,o.sf.repaint S (aP S p k r) o.si.eP { t.m with pg:=pgF } rfl rfl rfl (fun a ha=>?_) (fun a c ha=>⟨(hF2 a c ha).1.kd,(o.mem ha).1⟩),o.st,o.bm,⟨rfl,fun a c ha=>⟨(o.si.pg a c ha).1,(hF2 a c ha).1.p (hF2 a c ha).2.1 (hF2 a c ha).2.2⟩,fun a c ha=>?_,fun a c ha=>?_,fun c hc8=>?_,fun c hc8 a=>?_⟩,hF3⟩
 ·have ha:S.c a=none:=ha;rw[if_pos ha];exact hF1 a ha
 ·replace ha:S.c a=some c:=ha;obtain⟨n1,n2,n3⟩:=o.si.fl a c ha;rcases hfl a c ha with ⟨e,rfl⟩|⟨e,_⟩
  ·rw[e];rw[hc] at ha
   cases ha
   rw[hf] at n1 n2 n3;exact⟨(List.nodup_cons.1 n1).2,fun j hj=>n2 j (List.mem_cons_of_mem _ hj),oZ n3.2⟩
  ·rw[e];exact⟨n1,n2,oZ n3⟩
 ·have hl:=o.si.lv a c ha;rcases hfl a c ha with ⟨e,rfl⟩|⟨e,_⟩
  ·rw[e];rw[hf,List.length_cons] at hl;omega
  ·rw[e];exact hl
 ·have:=o.si.pn c hc8;unfold aP;by_cases hr:r=[]
  ·rw[if_pos hr];show(aZ S.pl k _ c).Nodup
   by_cases e:c=k
   ·subst e;rw[cV];exact QQ this p
   ·rw[cT _ _ e];exact this
  ·rw[if_neg hr];exact this
 ·have hpm:=o.si.pm c hc8 a;show a∈(aP S p k r).pl c↔(S.c a=some c/\aZ S.fl p r a≠[])
  by_cases hr:r=[]
  ·have ePl:(aP S p k r).pl=aZ S.pl k (M.dropL (S.pl k) p):=(by unfold aP;rw[if_pos hr]);rw[ePl];by_cases ea:a=p
   ·subst ea;rw[cV];constructor
    ·intro hm;exfalso
     by_cases e:c=k
     ·subst e;rw[cV,kG] at hm;exact hm.2 rfl
     ·rw[cT _ _ e,hpm,hc] at hm
      cases hm.1
      exact e rfl
    ·exact fun hm=>absurd hr hm.2
   ·rw[cT _ _ ea];by_cases e:c=k
    ·subst e;rw[cV,kG,hpm];exact⟨fun hm=>hm.1,fun hm=>⟨hm,ea⟩⟩
    ·rw[cT _ _ e];exact hpm
  ·have ePl:(aP S p k r).pl=S.pl:=(by unfold aP;rw[if_neg hr]);rw[ePl,hpm];by_cases ea:a=p
   ·subst ea;rw[cV,hf];exact⟨fun hm=>⟨hm.1,hr⟩,fun hm=>⟨hm.1,List.cons_ne_nil _ _⟩⟩
   ·rw[cT _ _ ea]
theorem wS{x x':Bx}(h:x'.bS=x.bS)(p k n:Nat):aQ x' p k n=aQ x p k n:=by unfold aQ;rw[h]
theorem uD{x x':Bx}{f f':Nat->Nat}{p k:Nat}(hb:x'.bS=x.bS):∀ {l:List Nat},(∀ i∈l,M.word f' (4096*p+i*aE k)=M.word f (4096*p+i*aE k))->mA x f p k l->mA x' f' p k l
 | [],_,_=>trivial
 | i :: l,hf,h=>⟨by
   rw[hf i List.mem_cons_self,h.1]
   cases l with
   | nil=>rfl
   | cons j l=>exact(wS hb p k j).symm,uD hb (fun j hj=>hf j (List.mem_cons_of_mem _ hj)) h.2⟩
theorem BJ{f g:Nat->Nat}{o:Nat}(h:∀ i,i<8->g (o+i)=f (o+i)):M.word g o=M.word f o:=by
 unfold M.word;exact wordTo_congr _ _ 8 h
theorem SO.pool{w W W' sb lw x t fr ls S h x1 t1 fr1 ls1}(o:SO w W sb lw x t fr ls S h)(po:PO w W' lw x1 t1 fr1 ls1)(sm:Sm x x1)(bk:BK t t1 ls ls1)(sub:∀ p k,S.c p=some k->(p,0)∈ls1)(kp:Kt (aD x) W W'):SO w W' sb lw x1 t1 fr1 ls1 S h:=by
 have hpage:∀ p k,S.c p=some k->t1.m.pg p=t.m.pg p:=fun p k hp=>
  (po.sf.pslab (p:=p) (q:=t.m.pg p) (by rw[sm.P,o.si.eP];exact jC hp)).2.2.2
 refine⟨⟨po.pl,?_,o.sw.nw,o.sw.tb⟩,po.sf,po.st,po.bm,⟨?_,fun p k hp=>?_,fun p k hp=>?_,o.si.lv,o.si.pn,o.si.pm⟩,o.hd⟩
 ·rw[sm.bS];exact(kp.block _ (lH o.sw.bx) (fun e=>o.sw.nsb (.inl e))).trans o.sw.bx
 ·rw[sm.P,o.si.eP];funext p
  cases e:S.c p with
  | none=>rw[iI e,iI e]
  | some k=>rw[jC e,jC e,hpage p k e]
 ·obtain⟨h1,h2⟩:=o.si.pg p k hp;rw[hpage p k hp];exact⟨h1,h2⟩
 ·obtain⟨n1,n2,n3⟩:=o.si.fl p k hp;have hk:=(o.si.pg p k hp).1;have hnb:=dM hk;have hz:=dV hk;refine⟨n1,n2,uD sm.bS (fun i hi=>BJ fun j hj=>?_) n3⟩;have hib:=n2 i hi;have h2:(i+1)*aE k<=aG k*aE k:=Nat.mul_le_mul_right _ hib;rw[Nat.add_mul,Nat.one_mul,hnb.1] at h2;have hd:(4096*p+i*aE k+j)/4096=p:=by omega
  refine bk _ ?_ ?_
  ·rw[hd];exact⟨p,0,(o.mem hp).1,Nat.le_refl _,by omega⟩
  ·rw[hd];exact⟨p,0,sub p k hp,Nat.le_refl _,by omega⟩
theorem yR(f:Nat->Nat)(P off z:Nat)(hz : 8<=z):∀ k i,i<k->P+k*z<18446744073709551616->M.word (jV f P off z k) (off+i*z)=P+(i+1)*z
 | 0,i,h,_=>absurd h (Nat.not_lt_zero _)
 | k+1,i,h,h64=>by
  rw[jV];by_cases e:i=k
  ·subst e;rw[M.word_upd _ _ _ h64]
  ·have hl:i<k:=(by omega);have h1:(i+1)*z<=k*z:=Nat.mul_le_mul_right _ hl;rw[Nat.add_mul,Nat.one_mul] at h1;have h2:k*z<=(k+1)*z:=Nat.mul_le_mul_right _ (by omega);rw[M.word_far _ _ _ _ (.inr (by omega))];exact yR f P off z hz k i hl (by omega)
theorem xR(f:Nat->Nat)(P off z:Nat):∀ k j,(∀ i,i<k->¬(off+i*z<=j/\j<off+i*z+8))->jV f P off z k j=f j
 | 0,j,_=>rfl
 | k+1,j,h=>by
  rw[jV];unfold M.upd;rw[if_neg (h k (by omega))];exact xR f P off z k j (fun i hi=>h i (by omega))
theorem sY(f:Nat->Nat)(x:Bx)(p k:Nat)(hk:k<8)(j:Nat)(hj:¬(4096*p<=j/\j<4096*p+4096)):iT f (ad x p) (4096*p) (aE k) (aG k) j=f j:=by
 have hnb:=dM hk;have hz:=dV hk;have hin:∀ i,i<aG k->i*aE k+aE k<=4096:=fun i hi=>by
  have h2:(i+1)*aE k<=aG k*aE k:=Nat.mul_le_mul_right _ hi;rw[Nat.add_mul,Nat.one_mul,hnb.1] at h2;exact h2
 unfold iT;have h1:=hin (aG k-1) (by omega);unfold M.upd;rw[if_neg (by omega)];refine xR _ _ _ _ _ _ fun i hi=>?_
 have:=hin i (by omega);omega
theorem zY(x:Bx)(f:Nat->Nat)(p k:Nat)(hk:k<8)(hb:x.bS+4096*p+4096<=9223372036854775808):∀ n a,a+n=aG k->mA x (iT f (ad x p) (4096*p) (aE k) (aG k)) p k (List.range' a n)
 | 0,a,_=>trivial
 | n+1,a,h=>by
  have hnb:=dM hk;have hz:=dV hk;obtain⟨M1,hM⟩:∃ M1,aG k=M1+1:=⟨aG k-1,by omega⟩;have hMz:M1*aE k+aE k=4096:=by
   have:=hnb.1;rw[hM,Nat.add_mul,Nat.one_mul] at this;exact this
  refine⟨?_,zY x f p k hk hb n (a+1) (by omega)⟩;unfold iT;rw[show aG k-1=M1 by omega]
  cases n with
  | zero=>
   have ea:a=M1:=(by omega);subst ea;rw[M.word_upd _ _ _ (by decide)];rfl
  | succ n=>
   have hl:a<M1:=(by omega);have h1:(a+1)*aE k<=M1*aE k:=Nat.mul_le_mul_right _ hl;rw[Nat.add_mul,Nat.one_mul] at h1;rw[M.word_far _ _ _ _ (.inr (by omega)),yR _ _ _ _ (by omega) M1 a hl (by unfold ad;omega)];show _=aQ x p k (a+1)
   unfold aQ ad;rfl
def aW(S:Sb)(p k:Nat):Sb:=⟨aZ S.c p (some k),aZ S.fl p (List.range' 0 (aG k)),aZ S.pl k (p :: S.pl k)⟩
def fL(m:Mp)(h:Nat->Int)(p k:Nat):Mp:=fG (fP (iX m (p:Int) (k:Int)) (p:Int) 0) h (p:Int) k
theorem QN{q:Pg}(h0:q.b0=0)(h1:q.b1=0)(h2:q.b2=0)(h3:q.b3=0)(i:Nat):aH q i=false:=by
 unfold aH;have:wP q (i/64)=0:=by
  unfold wP;split <;> assumption
 rw[this];simp
theorem NA{m:Mp}{h:Nat->Int}{p k:Nat}{l:List Nat}(hp:p<m.n)(hk:k<8)(hh:h k=bE l)(hl:∀ r∈l,r<m.n/\(m.pg r).kd=4/\cJ m.n (m.pg r).nx=true)(hpl:p ∉ l):fL m h p k={ m with pg:=dW (aJ m.pg p { dE (k:Int)with fs:=0 }) l p }:=by
 have hnb:=dM hk;have e1:iX m (p:Int) (k:Int)={ m with pg:=aJ m.pg p (dE (k:Int)) }:=by
  unfold iX;rw[if_pos ⟨dI hp,by omega,by omega⟩,Int.toNat_natCast]
 have e2:aJ m.pg p (dE (k:Int)) p=dE (k:Int):=if_pos rfl;have e3:fP { m with pg:=aJ m.pg p (dE (k:Int)) } (p:Int) 0={ m with pg:=aJ m.pg p { dE (k:Int)with fs:=0 } }:=by
  rw[BG (m:={ m with pg:=aJ m.pg p (dE (k:Int)) }) (c:=(0:Int)) hp (by show(aJ m.pg p _ p).kd=4;rw[e2];rfl) (.inr ⟨0,rfl,by
   show 0<eQ (aJ m.pg p _ p).cl
   rw[e2];show 0<aG k
   omega⟩)]
  show({ m with pg:=aJ (aJ m.pg p (dE (k:Int))) p { aJ m.pg p (dE (k:Int)) p with fs:=0 } } : Mp)=_
  rw[e2];refine congrArg (fun g=>({ m with pg:=g } : Mp)) (funext fun a=>?_);unfold aJ;by_cases e:a=p
  ·rw[if_pos e,if_pos e]
  ·rw[if_neg e,if_neg e,if_neg e]
 unfold fL;rw[e1,e3];have e4:aJ m.pg p { dE (k:Int)with fs:=0 } p={ dE (k:Int)with fs:=0 }:=if_pos rfl;exact DO (m:={ m with pg:=aJ m.pg p { dE (k:Int)with fs:=0 } }) hp (by show(aJ m.pg p _ p).kd=4;rw[e4];rfl) hh (fun r hr=>by
  have hrp:r≠p:=fun e=>hpl (e▸hr)
  have e5:aJ m.pg p { dE (k:Int)with fs:=0 } r=m.pg r:=if_neg hrp;show r<m.n/\(aJ m.pg p _ r).kd=4/\cJ m.n (aJ m.pg p _ r).nx=true
  rw[e5];exact hl r hr) hpl
theorem WP{n:Nat}(h : 0<n):bE (List.range' 0 n)=0:=by
 obtain⟨m,rfl⟩:∃ m,n=m+1:=⟨n-1,by omega⟩;rfl
theorem SO.fresh{w W W' sb lw x t fr ls S h}(o:SO w W sb lw x t fr ls S h){p k:Nat}(hk:k<8)(hls:(p,0)∈ls)(hc:S.c p=none)
  (sw:SW w W' sb lw x ⟨iT t.f (ad x p) (4096*p) (aE k) (aG k),fL t.m h p k,t.hd⟩ (cU h k (p:Int))):
  SO w W' sb lw { x with P:=jE (aW S p k) (fL t.m h p k) } ⟨iT t.f (ad x p) (4096*p) (aE k) (aG k),fL t.m h p k,t.hd⟩ fr ls (aW S p k) (cU h k (p:Int)):=by
 have hnb:=dM hk;have hz:=dV hk;have hpn:p<t.m.n:=by
  have:=(o.sf.sn.al hls).2.2;omega
 have n4:=o.po.nums.2.2.2.1;have hst:=o.st;have hpb:x.bS+4096*p+4096<=9223372036854775808:=by
  have h5:(p+1)*4096<=t.m.n*4096:=Nat.mul_le_mul_right _ hpn;omega
 have hpl:p ∉ S.pl k:=fun e=>by
  rw[((o.si.pm k hk p).1 e).1] at hc
  cases hc
 have hln:=o.si.pn k hk;have eM:=NA (m:=t.m) (h:=h) hpn hk (o.hd k hk) (fun r hr=>by
  have hcr:=((o.si.pm k hk r).1 hr).1;have sr:=(o.si.pg r k hcr).2;refine⟨(o.mem hcr).2.1,sr.kd,?_⟩;rw[sr.nx];rcases lR (S.pl k) r hln with e|⟨b,e,hb,_⟩
  ·rw[e];exact lN _
  ·rw[e];exact oN (o.mem ((o.si.pm k hk b).1 hb).1).2.1) hpl
 rw[eM] at sw ⊢;generalize hpgF:dW (aJ t.m.pg p { dE (k:Int)with fs:=0 }) (S.pl k) p=pgF at *;have hne:∀ a,a≠p->(aW S p k).c a=S.c a/\(aW S p k).fl a=S.fl a:=fun a ha=>⟨cT _ _ ha,cT _ _ ha⟩
 have hcp:(aW S p k).c p=some k:=cV _ _ _;have hfp:(aW S p k).fl p=List.range' 0 (aG k):=cV _ _ _;have hup:∀ a,a≠p->aJ t.m.pg p { dE (k:Int)with fs:=0 } a=t.m.pg a:=fun a ha=>if_neg ha
 have huq:aJ t.m.pg p { dE (k:Int)with fs:=0 } p={ dE (k:Int)with fs:=0 }:=if_pos rfl;have F0:∀ a,S.c a=none->a≠p->pgF a=t.m.pg a:=fun a ha hap=>by
  have hal:a ∉ S.pl k:=fun e=>by
   rw[((o.si.pm k hk a).1 e).1] at ha
   cases ha
  rw[<-hpgF,uG hap hal];exact hup a hap
 have Q0:SlQ (aW S p k) p k { dE (k:Int)with fs:=0 }:=by
  refine⟨rfl,rfl,rfl,?_,?_,fun i hi=>?_⟩
  ·rw[hfp,List.length_range',Nat.sub_self];rfl
  ·rw[hfp,WP (by omega)]
  ·rw[QN rfl rfl rfl rfl,hfp];symm;refine decide_eq_false fun e=>e.2 (List.mem_range'_1.2 ⟨Nat.zero_le _,by omega⟩)
 have NP0:NP (aJ t.m.pg p { dE (k:Int)with fs:=0 }) (aW S p k) k (S.pl k):=fun a ha=>by
  by_cases e:a=p
  ·subst e;rw[huq,sZ hpl,oR hpl];exact⟨rfl,rfl⟩
  ·rw[(hne a e).1] at ha;rw[hup a e];exact⟨(o.si.pg a k ha).2.nx,(o.si.pg a k ha).2.pv⟩
 have NP1:=DM NP0 hln hpl;have F2:∀ a c,(aW S p k).c a=some c->c<8/\SlP (aW S p k) a c (pgF a):=fun a c ha=>by
  have hq:SlQ (aW S p k) a c (aJ t.m.pg p { dE (k:Int)with fs:=0 } a)/\c<8:=by
   by_cases e:a=p
   ·subst e;rw[hcp] at ha
    cases ha
    rw[huq];exact⟨Q0,hk⟩
   ·rw[(hne a e).1] at ha;rw[hup a e];exact⟨(o.si.pg a c ha).2.q.congr (hne a e).2,(o.si.pg a c ha).1⟩
  refine⟨hq.2,(hq.1.rst (by rw[<-hpgF];exact OQ _ _ _ _)).p ?_ ?_⟩
  ·show(pgF a).nx=bD (aZ S.pl k (p :: S.pl k) c) a
   by_cases e:c=k
   ·subst e;rw[cV,<-hpgF];exact(NP1 a ha).1
   ·have hap:a≠p:=fun e2=>by rw[e2,hcp] at ha;cases ha;exact e rfl
    rw[cT _ _ e];rw[(hne a hap).1] at ha;have hal:a ∉ S.pl k:=fun e2=>by rw[((o.si.pm k hk a).1 e2).1] at ha;cases ha;exact e rfl
    rw[<-hpgF,uG hap hal,hup a hap];exact(o.si.pg a c ha).2.nx
  ·show(pgF a).pv=bG (aZ S.pl k (p :: S.pl k) c) a
   by_cases e:c=k
   ·subst e;rw[cV,<-hpgF];exact(NP1 a ha).2
   ·have hap:a≠p:=fun e2=>by rw[e2,hcp] at ha;cases ha;exact e rfl
    rw[cT _ _ e];rw[(hne a hap).1] at ha;have hal:a ∉ S.pl k:=fun e2=>by rw[((o.si.pm k hk a).1 e2).1] at ha;cases ha;exact e rfl
    rw[<-hpgF,uG hap hal,hup a hap];exact(o.si.pg a c ha).2.pv
 have sf1:=o.sf.fill (p:=p) (k:=0) hls (f':=iT t.f (ad x p) (4096*p) (aE k) (aG k)) (fun j hj=>sY t.f x p k hk j (by omega));refine⟨sw.reP _,sf1.repaint S (aW S p k) o.si.eP { t.m with pg:=pgF } rfl rfl rfl (fun a ha=>?_) (fun a c ha=>⟨(F2 a c ha).2.kd,?_⟩),o.st,o.bm,⟨rfl,F2,fun a c ha=>?_,fun a c ha=>?_,fun c hc8=>?_,fun c hc8 a=>?_⟩,fun c hc8=>?_⟩
 ·have hap:a≠p:=fun e=>by rw[e,hcp] at ha;cases ha
  rw[(hne a hap).1] at ha;rw[if_pos ha];exact F0 a ha hap
 ·by_cases e:a=p
  ·rw[e];exact hls
  ·rw[(hne a e).1] at ha;exact(o.mem ha).1
 ·by_cases e:a=p
  ·subst e;rw[hcp] at ha
   cases ha
   rw[hfp];refine⟨List.nodup_range',fun i hi=>?_,oZ (zY x t.f a k hk hpb (aG k) 0 (by omega))⟩;have:=(List.mem_range'_1.1 hi).2;omega
  ·rw[(hne a e).1] at ha;rw[(hne a e).2];obtain⟨n1,n2,n3⟩:=o.si.fl a c ha;have hc8:=(o.si.pg a c ha).1;have hnb2:=dM hc8;have hz2:=dV hc8;refine⟨n1,n2,oZ (uD rfl (fun i hi=>BJ fun j hj=>?_) n3)⟩;have hib:=n2 i hi;have h2:(i+1)*aE c<=aG c*aE c:=Nat.mul_le_mul_right _ hib;rw[Nat.add_mul,Nat.one_mul,hnb2.1] at h2;exact sY t.f x p k hk _ (by omega)
 ·by_cases e:a=p
  ·subst e;rw[hcp] at ha
   cases ha
   rw[hfp,List.length_range'];exact Nat.le_refl _
  ·rw[(hne a e).1] at ha;rw[(hne a e).2];exact o.si.lv a c ha
 ·show(aZ S.pl k (p :: S.pl k) c).Nodup
  by_cases e:c=k
  ·subst e;rw[cV];exact List.nodup_cons.2 ⟨hpl,hln⟩
  ·rw[cT _ _ e];exact o.si.pn c hc8
 ·show a∈aZ S.pl k (p :: S.pl k) c↔((aW S p k).c a=some c/\(aW S p k).fl a≠[])
  have hpm:=o.si.pm c hc8 a;by_cases ea:a=p
  ·subst ea;rw[hcp,hfp];have hrn:List.range' 0 (aG k)≠[]:=by
    intro e;have:=congrArg List.length e;rw[List.length_range',List.length_nil] at this;omega
   by_cases e:c=k
   ·subst e;rw[cV];exact⟨fun _=>⟨rfl,hrn⟩,fun _=>List.mem_cons_self⟩
   ·rw[cT _ _ e,hpm,hc];constructor
    ·rintro ⟨e2,_⟩;cases e2
    ·rintro ⟨e2,_⟩;cases e2;exact absurd rfl e
  ·rw[(hne a ea).1,(hne a ea).2];by_cases e:c=k
   ·subst e;rw[cV,List.mem_cons,hpm];exact⟨fun h=>h.resolve_left ea,fun h=>.inr h⟩
   ·rw[cT _ _ e];exact hpm
 ·show cU h k (p:Int) c=bE (aZ S.pl k (p :: S.pl k) c)
  by_cases e:c=k
  ·subst e;rw[cV];exact if_pos rfl
  ·rw[cT _ _ e];exact(if_neg e).trans (o.hd c hc8)
inductive Ned(x:Bx)(t:Bt)(fr:Nat->List Nat)(d:Bool)(p:Nat)(b:Bool)(fr':Nat->List Nat):Prop where
 | here (j:Nat) (l:List Nat) (hj:j<=x.o) (hz:∀ a,a<j->fr a=[]) (hp:fr j=p :: l) (hb:b=false) (hf:fr'=cK (cD fr j (M.dropL (fr j) p)) p j 0)
 | grew (hz:∀ a,a<=x.o->fr a=[]) (hd:d=false) (hl:x.n+x.R<=x.lim*x.R) (hb:b=true) (hp:p=t.m.n) (hf:fr'=cK fr t.m.n x.o 0)
structure FrO(w W:World)(sb lw:Nat)(x:Bx)(t:Bt)(fr:Nat->List Nat)(ls:List (Nat×Nat))(S:Sb)(h:Nat->Int)(k:Nat)(d:Bool)(p:Nat)(b:Bool)(w':World):Prop where
 ex:∃ x' t' fr',Ned x t fr d p b fr'/\SO w w' sb lw x' t' fr' (ls ++ [(p,0)]) (aW S p k) (cU h k (p:Int))/\Sm x { x' with P:=x.P }/\(∀ i,Lv ls (i/4096)->t'.f i=t.f i)/\Nb W x x'/\t'.m.n=(if b=true then t.m.n + 2 ^ x.o else t.m.n)/\x'.n=(if b=true then x.n + x.R else x.n)
 hc:S.c p=none
 nl:∀ i,(p,i) ∉ ls
 kp:Kt (cW x sb) W w'
inductive FrP(w W:World)(sb lw:Nat)(x:Bx)(t:Bt)(fr:Nat->List Nat)(ls:List (Nat×Nat))(S:Sb)(h:Nat->Int)(k:Nat)(d:Bool)(e:Ending)(w':World):Prop where
 | stuck (hz:∀ a,a<=x.o->fr a=[]) (hd:d=true\/x.n=x.lim*x.R) (he:e=.returned (.tuple #[.bool false,.int .i64 2])) (kp:Kt nO W w')
 | got (p:Nat) (b:Bool) (he:e=.returned (.tuple #[.bool b,.int .i64 0])) (fo:FrO w W sb lw x t fr ls S h k d p b w')
theorem GJ{w W lw x t fr ls}(po:PO w W lw x t fr ls)(d:Bool):
  Calls prog 130 #[.pointer (some ⟨lw,0,none⟩),.int .i64 0,.bool d] W fun e w'=>
   ((∀ a,a<=x.o->fr a=[])/\(d=true\/x.n=x.lim*x.R)/\e=.returned (.tuple #[.int .u64 0,.bool false,.int .i64 2])/\Kt nO W w')\/
   (∃ p b fr' x' t',e=.returned (.tuple #[.int .u64 ((ad x p:Nat):Int),.bool b,.int .i64 0])/\Ned x t fr d p b fr'/\PO w w' lw x' t' fr' (ls ++ [(p,0)])/\Sm x x'/\BK t t' ls (ls ++ [(p,0)])/\Nb W x x'/\Kt (aD x) W w'/\x.P p=none/\(∀ i,(p,i) ∉ ls)/\t'.m.n=(if b=true then t.m.n + 2 ^ x.o else t.m.n)/\x'.n=(if b=true then x.n + x.R else x.n)):=by
 refine(K.Need_any po 0 d).mono fun e w' hN=>?_
 cases hN with
 | bad hk he kp=>
  exfalso
  have:=of_decide_eq_false hk;omega
 | stuck i hk hi hz hd he kp=>
  obtain rfl:i=0:=by omega
  exact .inl ⟨fun a ha=>hz a (Nat.zero_le _) ha,hd,he,kp⟩
 | here i j p l hk hi hij hj hz hp he hs kp=>
  obtain rfl:i=0:=by omega
  obtain⟨t',h1,h2,h3⟩:=hs;refine .inr ⟨p,false,_,x,t',he,.here j l hj (fun a ha=>hz a (Nat.zero_le _) ha) hp rfl rfl,h1,Sm.refl x,h3,fun y e=>.inl e,kp,po.sf.pfree hj (by rw[hp];exact List.mem_cons_self),fun i hm=>?_,by rw[if_neg (by decide)];exact h2,by rw[if_neg (by decide)]⟩;have h0:=po.sf.apart0 hj (show p∈fr j by rw[hp];exact List.mem_cons_self) hm;have hz1 : 0<2 ^ i:=Nat.pow_pos (by decide);have hz2 : 0<2 ^ j:=Nat.pow_pos (by decide);omega
 | grew i hk hi hz hd hl he hs kp=>
  obtain rfl:i=0:=by omega
  obtain⟨x',t',h1,h2,h3,h4,h5,h6⟩:=hs;refine .inr ⟨t.m.n,true,_,x',t',he,.grew (fun a ha=>hz a (Nat.zero_le _) ha) hd hl rfl rfl rfl,h1,h2,h6,h5,kp,po.sf.pout (Nat.le_refl _),fun i hm=>?_,by rw[if_pos rfl];exact h4,by rw[if_pos rfl];exact h3⟩;have:=(po.sf.sn.al hm).2.2;have hz1 : 0<2 ^ i:=Nat.pow_pos (by decide);omega
theorem IJ{w W sb lw x t fr ls S h}(o:SO w W sb lw x t fr ls S h)(k:Nat)(hk:k<8)(d:Bool):
  Calls prog 161 #[.pointer (some ⟨sb,0,none⟩),.int .i64 k,.bool d] W fun e w'=>FrP w W sb lw x t fr ls S h k d e w':=by
 have ND:=aA (GJ o.po d);obtain⟨c0,c1⟩:=o.sw.c0;have HO:=aA o;clear o;go_enter func161,ntmps161;go_wp2_with fail;refine ND.out.mono ?_;rintro e w1 (⟨hz,hd,rfl,kp⟩|⟨p,b,fr1,x1,t1,rfl,hned,hpo,hsm,hbk,hnb,hk1,hPp,hnl,htn,hxn⟩)
 ·have D:=aA (show FrP w W sb lw x t fr ls S h k d (.returned (.tuple #[.bool false,.int .i64 2])) w1 from .stuck hz hd rfl kp);clear hz hd kp ND c0 c1;go_wp2_with fail;exact⟨rfl,.tuple #[.bool false,.int .i64 2],by simp[results,results161,go_sem],D.out⟩
 ·have hc:S.c p=none:=by
   cases e:S.c p with
   | none=>rfl
   | some c=>
    rw[HO.out.si.eP,jC e] at hPp
    cases hPp
  have o1:=HO.out.pool hpo hsm hbk (fun a c ha=>List.mem_append_left _ (HO.out.mem ha).1) hk1;have hls:(p,0)∈ls ++ [(p,0)]:=List.mem_append_right _ (List.mem_singleton.2 rfl);have hpn:=(o1.sf.sn.al hls).2.2;have n4:=o1.po.nums.2.2.2.1;have n2:=o1.po.nums.2.1;have hst:=o1.st;have hpb : 4096*p+4096<=x1.n:=by
   have h5:(p+1)*4096<=t1.m.n*4096:=Nat.mul_le_mul_right _ hpn;omega
  have had:ad x p=ad x1 p:=by unfold ad;rw[hsm.bS]
  rw[had];have hoff:bF x1 (ad x1 p)/4096=p:=by unfold bF ad;omega
  obtain⟨A,hA⟩:=xe (ad x1 p);have hA64:A<18446744073709551616:=by rw[hA];unfold ad;omega
  have PG:=aA (show Calls prog 193 #[.pointer (some ⟨sb,0,none⟩),.int .u64 A] w1 fun e w'=>e=.returned (.int .i64 p)/\w'=w1 from by
   have:=sN o1.sw A hA64;rw[hA,hoff] at this;rw[hA];exact this)
  have SL:=aA (EF o1.sw (p:Int) (k:Int));obtain⟨m1,hm1⟩:=xe (iX t1.m (p:Int) (k:Int));rw[<-hm1] at SL;generalize oD t1.m (p:Int) (k:Int)=se1 at *;have CH:=aA (show ∀ W',SW w W' sb lw x1 { t1 with m:=m1 } h->Calls prog 195 #[.pointer (some ⟨sb,0,none⟩),.int .u64 A,.int .i64 k] W' fun e w'=>e=.returned (.tuple #[])/\SW w w' sb lw x1 ⟨iT t1.f (ad x1 p) (4096*p) (aE k) (aG k),m1,t1.hd⟩ h/\Kt (aD x1) W' w' from fun W' s=>by
   rw[hA];exact OB s p k hk hpb)
  obtain⟨f2,hf2⟩:=xe (iT t1.f (ad x1 p) (4096*p) (aE k) (aG k));rw[<-hf2] at CH;obtain⟨m2,hm2⟩:=xe (fP m1 (p:Int) 0);have FR:=aA (show ∀ W',SW w W' sb lw x1 ⟨f2,m1,t1.hd⟩ h->Calls prog 196 #[.pointer (some ⟨x1.m,0,none⟩),.int .i64 p,.int .i64 0] W' fun e w'=>e=.returned (.int .i64 (jM m1 (p:Int) 0))/\SD w W' sb lw x1 ⟨f2,m1,t1.hd⟩ h m2 w' from fun W' s=>by
   rw[hm2];exact xC s (p:Int) 0)
  generalize jM m1 (p:Int) 0=fe1 at *;have PT:=aA (show ∀ W',SW w W' sb lw x1 ⟨f2,m2,t1.hd⟩ h->Calls prog 197 #[.pointer (some ⟨sb,0,none⟩),.int .i64 p,.int .i64 k] W' fun e w'=>e=.returned (.tuple #[])/\SE w W' sb lw x1 ⟨f2,m2,t1.hd⟩ (fG m2 h (p:Int) k) (cU h k (p:Int)) w' from fun W' s=>CX s (p:Int) k hk);have FIN:=aA (show ∀ w',SW w w' sb lw x1 ⟨f2,fG m2 h (p:Int) k,t1.hd⟩ (cU h k (p:Int))->Kt (cW x1 sb) w1 w'->FrP w W sb lw x t fr ls S h k d (.returned (.tuple #[.bool b,.int .i64 0])) w' from fun w' s kk=>by
   have e1:fG m2 h (p:Int) k=fL t1.m h p k:=(by unfold fL;rw[hm2,hm1]);rw[e1,hf2] at s;have so:=o1.fresh hk hls hc s;refine .got p b rfl ⟨⟨_,_,fr1,hned,so,⟨hsm.bS,hsm.R,hsm.lim,hsm.o,hsm.b,hsm.s,hsm.m,hsm.l,rfl⟩,fun i hi=>?_,hnb,?_,hxn⟩,hc,hnl,?_⟩
   ·have h2:t1.f i=t.f i:=hbk i hi (K.Lv.more hi);show iT t1.f (ad x1 p) (4096*p) (aE k) (aG k) i=t.f i
    rw[<-h2];refine sY t1.f x1 p k hk i (fun e=>?_);obtain⟨q,c,h3,h4,h5⟩:=hi;have hq:=hpo.sf.sn.apart (List.mem_append_left _ h3) hls;have hip:i/4096=p:=(by omega);rw[hip] at h4 h5;rcases hq with ⟨e2,e3⟩|e2|e2
    ·rw[e2] at h3;exact hnl c h3
    ·omega
    ·omega
   ·show(fL t1.m h p k).n=_
    rw[<-htn];unfold fL fG iA;rw[yI,yI];unfold fP;split <;> exact LP _ _ _
   ·refine(hk1.mono (fun _ _ e=>.inl e)).trans kk (fun _ _ e=>e) (fun y hy e=>?_);rcases e with e|e
    ·rcases hnb y e with e|e
     ·exact .inl e
     ·omega
    ·exact .inr e)
  have O1:=aA o1.sw;rw[<-hA];clear hned hpo hsm hbk hnb hk1 hPp hnl htn hxn hc o1 hls hpn n4 n2 hst hpb had hoff hA hm1 hf2 hm2 c0 c1 ND;obtain⟨c0,c1⟩:=O1.out.c0;go_wp2_with fail;refine PG.out.mono ?_;rintro e w2 ⟨rfl,h2⟩;replace h2:=h2.symm;subst h2;have MP:=aA (bZ O1.out.pl);go_wp2_with fail;refine MP.out.mono ?_;rintro e w2 ⟨rfl,h2⟩;replace h2:=h2.symm;subst h2;go_wp2_with fail;refine SL.out.mono ?_;rintro e w3 ⟨rfl,hs3,hk3⟩;have S3:=aA hs3;have K3:=aA hk3;clear hs3 hk3 c0 c1 MP;go_wp2_with fail;refine(CH.out _ S3.out).mono ?_;rintro e w4 ⟨rfl,hs4,hk4⟩;have S4:=aA hs4;have K4:=aA (K3.out.trans hk4 (fun _ _ e=>e) (fun _ _ e=>e));have MP:=aA (bZ hs4.pl);obtain⟨c0,c1⟩:=hs4.c0;clear hs4 hk4;go_wp2_with fail;refine MP.out.mono ?_;rintro e w5 ⟨rfl,h5⟩;replace h5:=h5.symm;subst h5;go_wp2_with fail;refine(FR.out _ S4.out).mono ?_;rintro e w5 ⟨rfl,hs5,hk5⟩;have S5:=aA hs5;have K5:=aA (K4.out.trans hk5 (fun _ _ e=>e) (fun _ _ e=>e));clear hs5 hk5 c0 c1;go_wp2_with fail;refine(PT.out _ S5.out).mono ?_;rintro e w6 ⟨rfl,hs6,hk6⟩;have D:=aA (FIN.out w6 hs6 ((K5.out.mono (fun _ _ e=>.inl e)).trans hk6 (fun _ _ e=>e) (fun _ _ e=>e)));clear hs6 hk6;go_wp2_with fail;exact⟨rfl,.tuple #[.bool b,.int .i64 0],by simp[results,results161,go_sem],D.out⟩
inductive TkP(w W:World)(sb lw:Nat)(x:Bx)(t:Bt)(fr:Nat->List Nat)(ls:List (Nat×Nat))(S:Sb)(h:Nat->Int)(c:Int)(d:Bool)(e:Ending)(w':World):Prop where
 | bad (hc:¬(0<=c/\c<8)) (he:e=.returned (.tuple #[.int .u64 0,.bool false,.int .i64 1])) (kp:Kt nO W w')
 | stuck (k:Nat) (hk:k<8) (hc:c=(k:Int)) (hl:S.pl k=[]) (hz:∀ a,a<=x.o->fr a=[]) (hd:d=true\/x.n=x.lim*x.R) (he:e=.returned (.tuple #[.int .u64 0,.bool false,.int .i64 2])) (kp:Kt nO W w')
 | old (k p i:Nat) (l r:List Nat) (hk:k<8) (hc:c=(k:Int)) (hl:S.pl k=p :: l) (hf:S.fl p=i :: r) (he:e=.returned (.tuple #[.int .u64 ((aQ x p k i:Nat):Int),.bool false,.int .i64 0])) (so:∃ P m' h',SO w w' sb lw { x with P:=P } { t with m:=m' } fr ls (aP S p k r) h'/\m'.n=t.m.n) (kp:Kt (cW x sb) W w')
 | new (k p:Nat) (b:Bool) (hk:k<8) (hc:c=(k:Int)) (hl:S.pl k=[]) (he:e=.returned (.tuple #[.int .u64 ((aQ x p k 0:Nat):Int),.bool b,.int .i64 0])) (so:∃ x' t' fr' h',Ned x t fr d p b fr'/\SO w w' sb lw x' t' fr' (ls ++ [(p,0)]) (aP (aW S p k) p k (List.range' 1 (aG k-1))) h'/\Sm x { x' with P:=x.P }/\(∀ i,Lv ls (i/4096)->t'.f i=t.f i)/\Nb W x x'/\t'.m.n=(if b=true then t.m.n + 2 ^ x.o else t.m.n)/\x'.n=(if b=true then x.n + x.R else x.n)) (hcp:S.c p=none) (nl:∀ i,(p,i) ∉ ls) (kp:Kt (cW x sb) W w')
theorem wH{w W sb lw x t fr ls S h w'}(o:SO w W sb lw x t fr ls S h){p k i:Nat}{r:List Nat}(hc:S.c p=some k)(hf:S.fl p=i :: r)(se:SE w W sb lw x t (dR t.m p i r) (fK t.m h p k i r) w'):(dR t.m p i r).n=t.m.n:=by
 have h1:=(o.hand hc hf se).st;have h2:=o.st;have h3:(dR t.m p i r).n*4096=x.n:=h1;omega
theorem UJ{w W sb lw x t fr ls S h}(o:SO w W sb lw x t fr ls S h)(c:Int)(hc:¬(0<=c/\c<8))(d:Bool):
  Calls prog 128 #[.pointer (some ⟨sb,0,none⟩),.int .i64 c,.bool d] W fun e w'=>TkP w W sb lw x t fr ls S h c d e w':=by
 have D:=aA (show TkP w W sb lw x t fr ls S h c d (.returned (.tuple #[.int .u64 0,.bool false,.int .i64 1])) W from .bad hc rfl (Kt.refl _ _));clear o;by_cases h0:c<0
 ·clear hc;go_enter func128,ntmps128;go_wp2_with fail;exact⟨rfl,.tuple #[.int .u64 0,.bool false,.int .i64 1],by simp[results,results128,go_sem],D.out⟩
 ·have h8 : 8<=c:=by omega
  clear hc;go_enter func128,ntmps128;go_wp2_with fail;exact⟨rfl,.tuple #[.int .u64 0,.bool false,.int .i64 1],by simp[results,results128,go_sem],D.out⟩
theorem DZ{w W sb lw x t fr ls S h}(o:SO w W sb lw x t fr ls S h)(k:Nat)(hk:k<8)(d:Bool):
  Calls prog 128 #[.pointer (some ⟨sb,0,none⟩),.int .i64 k,.bool d] W fun e w'=>TkP w W sb lw x t fr ls S h (k:Int) d e w':=by
 have ch:=o.sw.hd k hk;have hki:(k:Int)<8:=by omega
 have hk0:¬(k:Int)<0:=by omega
 have hk8:¬ 8<=(k:Int):=by omega
 have HO:=aA o;have HD:=o.hd k hk
 cases hl:S.pl k with
 | nil=>
  rw[hl] at HD;have hz:h k = -1:=HD;rw[hz] at ch;have FR:=aA (IJ o k hk d);have HL:=aA hl;clear o HD hz hl;go_enter func128,ntmps128;go_wp2_with fail;refine FR.out.mono ?_;intro e w1 hF
  cases hF with
  | stuck hz hd he kp=>
   subst he;have D:=aA (show TkP w W sb lw x t fr ls S h (k:Int) d (.returned (.tuple #[.int .u64 0,.bool false,.int .i64 2])) w1 from .stuck k hk rfl HL.out hz hd rfl kp);clear hz hd kp FR ch;go_wp2_with fail;exact⟨rfl,.tuple #[.int .u64 0,.bool false,.int .i64 2],by simp[results,results128,go_sem],D.out⟩
  | got p b he fo=>
   subst he;obtain⟨⟨x1,t1,fr1,hned,o1,hsm,hf1,hnb,htn,hxn⟩,hc,nl,kp⟩:=fo;have hnl:=dM hk;have hfp:(aW S p k).fl p=0 :: List.range' 1 (aG k-1):=by
    have:(aW S p k).fl p=List.range' 0 (aG k):=cV _ _ _;rw[this];obtain⟨m,hm⟩:∃ m,aG k=m+1:=⟨aG k-1,by omega⟩;rw[hm];rfl
   have hcp:(aW S p k).c p=some k:=cV _ _ _;have c1:w1.cell? ⟨sb,2+k,none⟩=some (.int .i64 p):=by
    have:=o1.sw.hd k hk;rw[show cU h k (p:Int) k=(p:Int)from if_pos rfl] at this;exact this
   have hca:aQ x1 p k 0=aQ x p k 0:=wS hsm.bS p k 0;have HA:=aA (show Calls prog 162 #[.pointer (some ⟨sb,0,none⟩),.int .i64 p,.int .i64 k] w1 fun e w'=>e=.returned (.tuple #[.int .u64 ((aQ x p k 0:Nat):Int),.int .i64 0])/\TkP w W sb lw x t fr ls S h (k:Int) d (.returned (.tuple #[.int .u64 ((aQ x p k 0:Nat):Int),.bool b,.int .i64 0])) w' from by
    refine(wJ o1 p k 0 _ hcp hfp).mono ?_;rintro e w2 ⟨rfl,se⟩;refine⟨by rw[hca],.new k p b hk rfl HL.out rfl ⟨_,_,fr1,_,hned,o1.hand hcp hfp se,hsm,hf1,hnb,?_,hxn⟩ hc nl ?_⟩
    ·rw[<-htn];exact wH o1 hcp hfp se
    ·refine kp.trans se.2 (fun _ _ e=>e) (fun y hy e=>?_);rcases e with e|e
     ·rcases hnb y e with e|e
      ·exact .inl e
      ·omega
     ·exact .inr e)
   obtain⟨a,ha⟩:=xe (aQ x p k 0);rw[<-ha] at HA;have hpn:(p:Int) ≠ -1:=(by omega);clear hned o1 hsm hf1 hnb htn hxn hc nl kp hnl hfp hcp hca ha FR ch;go_wp2_with fail;refine HA.out.mono ?_;rintro e w2 ⟨rfl,h2⟩;have D:=aA h2;clear h2;go_wp2_with fail;exact⟨rfl,.tuple #[.int .u64 a,.bool b,.int .i64 0],by simp[results,results128,go_sem],D.out⟩
 | cons p l=>
  rw[hl] at HD;have hz:h k=(p:Int):=HD;rw[hz] at ch;obtain⟨hc,hne⟩:=(o.si.pm k hk p).1 (by rw[hl];exact List.mem_cons_self);obtain⟨i,r,hf⟩:∃ i r,S.fl p=i :: r:=by
   cases e:S.fl p with
   | nil=>exact absurd e hne
   | cons i r=>exact⟨i,r,rfl⟩
  have HA:=aA (show Calls prog 162 #[.pointer (some ⟨sb,0,none⟩),.int .i64 p,.int .i64 k] W fun e w'=>e=.returned (.tuple #[.int .u64 ((aQ x p k i:Nat):Int),.int .i64 0])/\TkP w W sb lw x t fr ls S h (k:Int) d (.returned (.tuple #[.int .u64 ((aQ x p k i:Nat):Int),.bool false,.int .i64 0])) w' from by
   refine(wJ o p k i r hc hf).mono ?_;rintro e w2 ⟨rfl,se⟩;exact⟨rfl,.old k p i l r hk rfl hl hf rfl ⟨_,_,_,o.hand hc hf se,wH o hc hf se⟩ se.2⟩)
  obtain⟨a,ha⟩:=xe (aQ x p k i);rw[<-ha] at HA;have hpn:(p:Int) ≠ -1:=by omega
  clear o HD hz hl hc hne hf ha;go_enter func128,ntmps128;go_wp2_with fail;refine HA.out.mono ?_;rintro e w2 ⟨rfl,h2⟩;have D:=aA h2;clear h2;go_wp2_with fail;exact⟨rfl,.tuple #[.int .u64 a,.bool false,.int .i64 0],by simp[results,results128,go_sem],D.out⟩
theorem UI{w W sb lw x t fr ls S h}(o:SO w W sb lw x t fr ls S h)(c:Int)(d:Bool):
  Calls prog 128 #[.pointer (some ⟨sb,0,none⟩),.int .i64 c,.bool d] W fun e w'=>TkP w W sb lw x t fr ls S h c d e w':=by
 by_cases hc : 0<=c/\c<8
 ·obtain⟨k,rfl⟩:∃ k:Nat,c=(k:Int):=⟨c.toNat,by omega⟩;exact DZ o k (by omega) d
 ·exact UJ o c hc d
end Go.Proofs.YtkfmheelhinjdaaGreatDoor
