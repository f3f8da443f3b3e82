import Derived.Test.YtkfmheelhinjdaaGreatDoorXi
set_option maxRecDepth 1000000
set_option maxHeartbeats 80000000
namespace Go.Proofs.YtkfmheelhinjdaaGreatDoor
open Go.RowKit
set_option linter.unusedVariables false
structure Sd(x:Bx)(t:Bt)(fr:Nat->List Nat)(B:Nat->Nat->Nat->Prop):Prop where
 mo:t.m.o=x.o
 o8:x.o<=8
 dv:∃ r,t.m.n=r*2 ^ x.o
 nb:t.m.n*4096<=x.n
 n1:t.m.n<=1024
 b1 : 1<=x.bS
 b2:x.bS+x.n<=9223372036854775808
 tg:∀ g p k,B g p k->g=0\/g=2\/g=9
 fi:∀ p k,B 0 p k↔(k<=x.o/\p∈fr k)
 al:∀ g p k,B g p k->k<=x.o/\p%2 ^ k=0/\p+2 ^ k<=t.m.n
 ds:∀ g p k h q j,B g p k->B h q j->(g=h/\p=q/\k=j)\/p+2 ^ k<=q\/q+2 ^ j<=p
 cv:∀ i,i<t.m.n->∃ g p k,B g p k/\p<=i/\i<p+2 ^ k
 pg:∀ g p k,B g p k->g≠9->∀ i,p<=i->i<p+2 ^ k->t.m.pg i=(x.P i).getD (aN (if i=p then (g:Int) else (g:Int)+1) (k:Int))
 ch:∀ k,k<=x.o->M.Chn x.bS x.n t.f (t.hd k) ((fr k).map (ad x))
 wl:∀ k,k<x.o->(t.m.wd k).length=(t.m.n/2 ^ (k+1)+63)/64
 bt:∀ k,k<x.o->∀ i,i<t.m.n/2 ^ (k+1)->aF (t.m.wd k) i=(decide (2*i*2 ^ k∈fr k) != decide ((2*i+1)*2 ^ k∈fr k))
 nm:∀ k,k<x.o->∀ i,¬(2*i*2 ^ k∈fr k/\(2*i+1)*2 ^ k∈fr k)
 vs:∀ p q,x.P p=some q->B 2 p 0/\q.kd=4
theorem Sd.pn{x t fr B}(s:Sd x t fr B){g p k:Nat}(hb:B g p k)(h:g=2->k=0->x.P p=none):∀ i,p<=i->i<p+2 ^ k->x.P i=none:=by
 intro i h1 h2
 cases hP:x.P i with
 | none=>rfl
 | some q=>
  exfalso
  have hv:=(s.vs i q hP).1;rcases s.ds _ _ _ _ _ _ hv hb with ⟨e1,e2,e3⟩|e|e
  ·have:=h e1.symm e3.symm;rw[<-e2,hP] at this
   cases this
  ·omega
  ·omega
theorem Sd.pn9{x t fr B}(s:Sd x t fr B){g p k:Nat}(hb:B g p k)(h:g≠2):∀ i,p<=i->i<p+2 ^ k->x.P i=none:=s.pn hb (fun e=>absurd e h)
def eW(B:Nat->Nat->Nat->Prop)(g p k h:Nat):Nat->Nat->Nat->Prop:=fun a b c=>(B a b c/\¬(a=g/\b=p/\c=k))\/(a=h/\b=p/\c=k)
theorem qG{x t fr B}(s:Sd x t fr B){g p k h:Nat}(hb:B g p k):∀ a b c a' b' c',eW B g p k h a b c->eW B g p k h a' b' c'->(a=a'/\b=b'/\c=c')\/b+2 ^ c<=b'\/b'+2 ^ c'<=b:=by
 rintro a b c a' b' c' (⟨h1,h2⟩|⟨rfl,rfl,rfl⟩) (⟨h3,h4⟩|⟨rfl,rfl,rfl⟩)
 ·exact s.ds _ _ _ _ _ _ h1 h3
 ·rcases s.ds _ _ _ _ _ _ h1 hb with ⟨rfl,rfl,rfl⟩|e
  ·exact absurd ⟨rfl,rfl,rfl⟩ h2
  ·exact .inr e
 ·rcases s.ds _ _ _ _ _ _ hb h3 with ⟨rfl,rfl,rfl⟩|e
  ·exact absurd ⟨rfl,rfl,rfl⟩ h4
  ·exact .inr e
 ·exact .inl ⟨rfl,rfl,rfl⟩
theorem qF{x t fr B}(s:Sd x t fr B){g p k h:Nat}(hb:B g p k):∀ a b c,eW B g p k h a b c->c<=x.o/\b%2 ^ c=0/\b+2 ^ c<=t.m.n:=by
 rintro a b c (⟨h1,h2⟩|⟨rfl,rfl,rfl⟩)
 ·exact s.al _ _ _ h1
 ·exact s.al _ _ _ hb
theorem qE{x t fr B}(s:Sd x t fr B){g p k h:Nat}(hb:B g p k):∀ i,i<t.m.n->∃ a b c,eW B g p k h a b c/\b<=i/\i<b+2 ^ c:=by
 intro i hi;obtain⟨a,b,c,h1,h2,h3⟩:=s.cv i hi;by_cases e:a=g/\b=p/\c=k
 ·obtain⟨rfl,rfl,rfl⟩:=e;exact⟨h,b,c,.inr ⟨rfl,rfl,rfl⟩,h2,h3⟩
 ·exact⟨a,b,c,.inl ⟨h1,e⟩,h2,h3⟩
theorem Sd.die{x t fr B}(s:Sd x t fr B){p k:Nat}(hb:B 2 p k)(hv:x.P p=none):Sd x t fr (eW B 2 p k 9):=by
 refine⟨s.mo,s.o8,s.dv,s.nb,s.n1,s.b1,s.b2,?_,?_,qF s hb,qG s hb,qE s hb,?_,s.ch,s.wl,s.bt,s.nm,fun q r h=>⟨.inl ⟨(s.vs q r h).1,fun e=>by
   rw[e.2.1,hv] at h
   cases h⟩,(s.vs q r h).2⟩⟩
 ·rintro a b c (⟨h1,h2⟩|⟨rfl,rfl,rfl⟩)
  ·exact s.tg _ _ _ h1
  ·exact .inr (.inr rfl)
 ·intro q j;rw[<-s.fi q j];constructor
  ·rintro (⟨h1,h2⟩|⟨e,_⟩)
   ·exact h1
   ·omega
  ·exact fun h1=>.inl ⟨h1,fun e=>by omega⟩
 ·rintro a b c (⟨h1,h2⟩|⟨rfl,rfl,rfl⟩) h9
  ·exact s.pg _ _ _ h1 h9
  ·exact absurd rfl h9
theorem tJ{x t fr B}(s:Sd x t fr B){g p k:Nat}(hb:B g p k)(kd:Int)(hk:kd=0\/kd=2):cM t.m (p:Int) (k:Int) kd={ t.m with pg:=eV t.m.pg p k kd }:=by
 obtain⟨h1,h2,h3⟩:=s.al _ _ _ hb;have hp : 0<2 ^ k:=Nat.pow_pos (by decide);have c1:decide ((kd=0\/kd=2)/\0<=(k:Int)/\(k:Int)<=t.m.o)=true:=decide_eq_true ⟨hk,by omega,by rw[s.mo];omega⟩;have c2:aC t.m.n (p:Int)=true:=decide_eq_true ⟨by omega,by omega⟩;have c3:decide ((p:Int)%2 ^ (k:Int).toNat=0)=true:=decide_eq_true (by
  rw[Int.toNat_natCast,show(2:Int) ^ k=((2 ^ k:Nat):Int)by simp,<-Int.natCast_emod,h2];rfl)
 unfold cM;rw[show kE t.m (p:Int) (k:Int) kd=true by unfold kE;rw[c1,c2,c3];rfl,if_pos rfl];simp
theorem Sd.paint{x t fr B}(s:Sd x t fr B){p k:Nat}(hb:B 9 p k)(g:Nat)(hg:g=0\/g=2):
  ∀ a b c,eW B 9 p k g a b c->a≠9->∀ i,b<=i->i<b+2 ^ c->(cP t p k (g:Int)).m.pg i=(x.P i).getD (aN (if i=b then (a:Int) else (a:Int)+1) (c:Int)):=by
 intro a b c hr h9 i h1 h2;show(cM t.m (p:Int) (k:Int) (g:Int)).pg i=_
 rw[tJ s hb (g:Int) (by omega)];show eV t.m.pg p k (g:Int) i=_
 unfold eV;rcases hr with ⟨h3,h4⟩|⟨rfl,rfl,rfl⟩
 ·have hd:=s.ds _ _ _ _ _ _ hb h3;have hp : 0<2 ^ k:=Nat.pow_pos (by decide);rw[if_neg (by omega),if_neg (by omega)];exact s.pg _ _ _ h3 h9 i h1 h2
 ·rw[s.pn9 hb (by decide) i h1 h2,Option.getD_none];by_cases e:i=b
  ·rw[if_pos e,if_pos e]
  ·rw[if_neg e,if_neg e,if_pos ⟨by omega,h2⟩]
theorem Sd.live{x t fr B}(s:Sd x t fr B){p k:Nat}(hb:B 9 p k):Sd x (cP t p k 2) fr (eW B 9 p k 2):=by
 have hm:=tJ s hb 2 (.inr rfl);have e:cP t p k 2={ t with m:={ t.m with pg:=eV t.m.pg p k 2 } }:=by unfold cP;rw[hm]
 have pt:=s.paint hb 2 (.inr rfl);rw[show((2:Nat):Int)=2 from rfl,e] at pt;rw[e];refine⟨s.mo,s.o8,s.dv,s.nb,s.n1,s.b1,s.b2,?_,?_,qF s hb,qG s hb,qE s hb,pt,s.ch,s.wl,s.bt,s.nm,fun q r h=>⟨.inl ⟨(s.vs q r h).1,fun e=>by omega⟩,(s.vs q r h).2⟩⟩
 ·rintro a b c (⟨h1,h2⟩|⟨rfl,rfl,rfl⟩)
  ·exact s.tg _ _ _ h1
  ·exact .inr (.inl rfl)
 ·intro q j;rw[<-s.fi q j];constructor
  ·rintro (⟨h1,h2⟩|⟨e,_⟩)
   ·exact h1
   ·omega
  ·exact fun h1=>.inl ⟨h1,fun e=>by omega⟩
theorem rL{p k:Nat}(hp:p<2 ^ 62)(hk:k<=8)(hm:p%2 ^ k=0):
  (p%2 ^ (k+1)=0/\aS p k=p+2 ^ k/\cZ p k=p)\/(2 ^ k<=p/\(p-2 ^ k)%2 ^ (k+1)=0/\aS p k=p-2 ^ k/\cZ p k=p-2 ^ k):=by
 have hz : 0<2 ^ k:=Nat.pow_pos (by decide);have hz2 : 2 ^ (k+1)=2*2 ^ k:=by rw[Nat.pow_succ,Nat.mul_comm]
 obtain⟨c,hc⟩:∃ c,p=c*2 ^ k:=⟨p/2 ^ k,by have:=Nat.div_add_mod p (2 ^ k);rw[hm,Nat.add_zero,Nat.mul_comm] at this;exact this.symm⟩;have hdiv:p/2 ^ k=c:=by rw[hc,Nat.mul_div_cancel _ hz]
 have hlow:∀ i,(cZ p k).testBit i=(p.testBit i && decide (i≠k)):=fun i=>by
  have h2k : 2 ^ k<2 ^ 64:=Nat.pow_lt_pow_right (by decide) (by omega);unfold cZ;rw[show 18446744073709551615-2 ^ k=2 ^ 64-(2 ^ k+1)by omega,Nat.testBit_and,Nat.testBit_two_pow_sub_succ h2k,Nat.testBit_two_pow];by_cases e:i<64
  ·by_cases e2:k=i
   ·simp[e,e2]
   ·have e3:i≠k:=fun h=>e2 h.symm
    simp[e,e2,e3]
  ·have:p.testBit i=false:=Nat.testBit_lt_two_pow (Nat.lt_of_lt_of_le hp (Nat.pow_le_pow_right (by decide) (by omega)));rw[this];simp
 have hbk:p.testBit k=decide (c%2=1):=by rw[Nat.testBit_eq_decide_div_mod_eq,hdiv]
 rcases Nat.mod_two_eq_zero_or_one c with h0|h0
 ·left
  refine⟨?_,sH k p (by rw[hdiv];exact h0),?_⟩
  ·rw[hz2,hc,Nat.mul_comm 2,Nat.mul_comm c,Nat.mul_mod_mul_left,h0,Nat.mul_zero]
  ·apply Nat.eq_of_testBit_eq
   intro i;rw[hlow];by_cases e:i=k
   ·subst e;rw[hbk,h0];rfl
   ·simp[e]
 ·right
  obtain⟨h1,h2⟩:=PY k p (by rw[hdiv];exact h0);refine⟨h1,?_,h2,?_⟩
  ·rw[hc,show c*2 ^ k-2 ^ k=(c-1)*2 ^ k by rw[Nat.sub_mul,Nat.one_mul],hz2,Nat.mul_comm 2,Nat.mul_comm (c-1),Nat.mul_mod_mul_left,show(c-1)%2=0 by omega,Nat.mul_zero]
  ·rw[<-h2];apply Nat.eq_of_testBit_eq
   intro i;rw[hlow,Nat.testBit_xor,Nat.testBit_two_pow];by_cases e:i=k
   ·subst e;rw[hbk,h0];simp
   ·have e2:¬k=i:=fun h=>e h.symm
    simp[e,e2]
def nE(B:Nat->Nat->Nat->Prop)(p k:Nat):Nat->Nat->Nat->Prop:=fun a b c=>(B a b c/\¬(a=9/\b=p/\c=k+1))\/(a=9/\b=p/\c=k)\/(a=9/\b=p+2 ^ k/\c=k)
theorem PK{p k:Nat}(h:p%2 ^ (k+1)=0):p%2 ^ k=0/\(p+2 ^ k)%2 ^ k=0:=by
 have h1:p%2 ^ k=0:=by
  have : 2 ^ k ∣ p:=Nat.dvd_trans ⟨2,by rw[Nat.pow_succ]⟩ (Nat.dvd_of_mod_eq_zero h);exact Nat.mod_eq_zero_of_dvd this
 exact⟨h1,by rw[Nat.add_mod_right];exact h1⟩
theorem Sd.split{x t fr B}(s:Sd x t fr B){p k:Nat}(hb:B 9 p (k+1)):Sd x t fr (nE B p k):=by
 obtain⟨a1,a2,a3⟩:=s.al _ _ _ hb;have hz2 : 2 ^ (k+1)=2 ^ k+2 ^ k:=by rw[Nat.pow_succ];omega
 have hz : 0<2 ^ k:=Nat.pow_pos (by decide);obtain⟨m1,m2⟩:=PK a2;refine⟨s.mo,s.o8,s.dv,s.nb,s.n1,s.b1,s.b2,?_,?_,?_,?_,?_,?_,s.ch,s.wl,s.bt,s.nm,fun q r h=>⟨.inl ⟨(s.vs q r h).1,fun e=>by omega⟩,(s.vs q r h).2⟩⟩
 ·rintro a b c (⟨h1,h2⟩|⟨rfl,rfl,rfl⟩|⟨rfl,rfl,rfl⟩)
  ·exact s.tg _ _ _ h1
  ·exact .inr (.inr rfl)
  ·exact .inr (.inr rfl)
 ·intro q j;rw[<-s.fi q j];constructor
  ·rintro (⟨h1,h2⟩|⟨e,_⟩|⟨e,_⟩)
   ·exact h1
   ·omega
   ·omega
  ·exact fun h1=>.inl ⟨h1,fun e=>by omega⟩
 ·rintro a b c (⟨h1,h2⟩|⟨rfl,rfl,rfl⟩|⟨rfl,rfl,rfl⟩)
  ·exact s.al _ _ _ h1
  ·exact⟨by omega,m1,by omega⟩
  ·exact⟨by omega,m2,by omega⟩
 ·have key:∀ a b c,B a b c->¬(a=9/\b=p/\c=k+1)->b+2 ^ c<=p\/p+2 ^ (k+1)<=b:=fun a b c h1 h2=>by
   rcases s.ds _ _ _ _ _ _ h1 hb with e|e
   ·exact absurd e h2
   ·exact e
  rintro a b c a' b' c' (⟨h1,h2⟩|⟨rfl,rfl,rfl⟩|⟨rfl,rfl,rfl⟩) (⟨h3,h4⟩|⟨rfl,rfl,rfl⟩|⟨rfl,rfl,rfl⟩)
  ·exact s.ds _ _ _ _ _ _ h1 h3
  ·have:=key _ _ _ h1 h2;right;omega
  ·have:=key _ _ _ h1 h2;right;omega
  ·have:=key _ _ _ h3 h4;right;omega
  ·exact .inl ⟨rfl,rfl,rfl⟩
  ·right;omega
  ·have:=key _ _ _ h3 h4;right;omega
  ·right;omega
  ·exact .inl ⟨rfl,rfl,rfl⟩
 ·intro i hi;obtain⟨a,b,c,h1,h2,h3⟩:=s.cv i hi;by_cases e:a=9/\b=p/\c=k+1
  ·obtain⟨rfl,rfl,rfl⟩:=e;by_cases e2:i<b+2 ^ k
   ·exact⟨9,b,k,.inr (.inl ⟨rfl,rfl,rfl⟩),h2,e2⟩
   ·exact⟨9,b+2 ^ k,k,.inr (.inr ⟨rfl,rfl,rfl⟩),by omega,by omega⟩
  ·exact⟨a,b,c,.inl ⟨h1,e⟩,h2,h3⟩
 ·rintro a b c (⟨h1,h2⟩|⟨rfl,rfl,rfl⟩|⟨rfl,rfl,rfl⟩) h9
  ·exact s.pg _ _ _ h1 h9
  ·exact absurd rfl h9
  ·exact absurd rfl h9
def DC(B:Nat->Nat->Nat->Prop)(p k:Nat):Nat->Nat->Nat->Prop:=fun a b c=>(B a b c/\¬(a=9/\b=p/\c=k)/\¬(a=9/\b=p+2 ^ k/\c=k))\/(a=9/\b=p/\c=k+1)
theorem Sd.unite{x t fr B}(s:Sd x t fr B){p k:Nat}(hb:B 9 p k)(hc:B 9 (p+2 ^ k) k)(hm:p%2 ^ (k+1)=0)(hk:k<x.o):Sd x t fr (DC B p k):=by
 obtain⟨a1,a2,a3⟩:=s.al _ _ _ hb;obtain⟨d1,d2,d3⟩:=s.al _ _ _ hc;have hz2 : 2 ^ (k+1)=2 ^ k+2 ^ k:=by rw[Nat.pow_succ];omega
 have hz : 0<2 ^ k:=Nat.pow_pos (by decide);refine⟨s.mo,s.o8,s.dv,s.nb,s.n1,s.b1,s.b2,?_,?_,?_,?_,?_,?_,s.ch,s.wl,s.bt,s.nm,fun q r h=>⟨.inl ⟨(s.vs q r h).1,fun e=>by omega,fun e=>by omega⟩,(s.vs q r h).2⟩⟩
 ·rintro a b c (⟨h1,h2⟩|⟨rfl,rfl,rfl⟩)
  ·exact s.tg _ _ _ h1
  ·exact .inr (.inr rfl)
 ·intro q j;rw[<-s.fi q j];constructor
  ·rintro (⟨h1,h2⟩|⟨e,_⟩)
   ·exact h1
   ·omega
  ·exact fun h1=>.inl ⟨h1,fun e=>by omega,fun e=>by omega⟩
 ·rintro a b c (⟨h1,h2⟩|⟨rfl,rfl,rfl⟩)
  ·exact s.al _ _ _ h1
  ·exact⟨by omega,hm,by omega⟩
 ·have key:∀ a b c,B a b c->¬(a=9/\b=p/\c=k)/\¬(a=9/\b=p+2 ^ k/\c=k)->b+2 ^ c<=p\/p+2 ^ (k+1)<=b:=fun a b c h1 h2=>by
   have hq : 0<2 ^ c:=Nat.pow_pos (by decide);rcases s.ds _ _ _ _ _ _ h1 hb with e|e
   ·exact absurd e h2.1
   ·rcases s.ds _ _ _ _ _ _ h1 hc with e2|e2
    ·exact absurd e2 h2.2
    ·omega
  rintro a b c a' b' c' (⟨h1,h2⟩|⟨rfl,rfl,rfl⟩) (⟨h3,h4⟩|⟨rfl,rfl,rfl⟩)
  ·exact s.ds _ _ _ _ _ _ h1 h3
  ·right;exact key _ _ _ h1 h2
  ·have:=key _ _ _ h3 h4;right;omega
  ·exact .inl ⟨rfl,rfl,rfl⟩
 ·intro i hi;obtain⟨a,b,c,h1,h2,h3⟩:=s.cv i hi;by_cases e:a=9/\b=p/\c=k
  ·obtain⟨rfl,rfl,rfl⟩:=e;exact⟨9,b,c+1,.inr ⟨rfl,rfl,rfl⟩,h2,by omega⟩
  ·by_cases e2:a=9/\b=p+2 ^ k/\c=k
   ·obtain⟨rfl,rfl,rfl⟩:=e2;exact⟨9,p,c+1,.inr ⟨rfl,rfl,rfl⟩,by omega,by omega⟩
   ·exact⟨a,b,c,.inl ⟨h1,e,e2⟩,h2,h3⟩
 ·rintro a b c (⟨h1,h2⟩|⟨rfl,rfl,rfl⟩) h9
  ·exact s.pg _ _ _ h1 h9
  ·exact absurd rfl h9
theorem yK{n o a c:Nat}(hd:∃ r,n=r*2 ^ o)(ha:a<o)(hc:c<n):c/2 ^ (a+1)<n/2 ^ (a+1):=by
 obtain⟨r,hr⟩:=hd;obtain⟨d,rfl⟩:∃ d,o=(a+1)+d:=⟨o-(a+1),by omega⟩;have hn:n=r*2 ^ d*2 ^ (a+1):=by rw[hr,Nat.pow_add,Nat.mul_comm (2 ^ (a+1)),Nat.mul_assoc]
 have hpos : 0<2 ^ (a+1):=Nat.pow_pos (by decide);rw[hn,Nat.mul_div_cancel _ hpos];rw[hn] at hc;exact Nat.div_lt_of_lt_mul (by rw[Nat.mul_comm];exact hc)
theorem TG(m:Mp)(k p:Nat)(hk:¬k<m.o):eK m (k:Int) (p:Int)=m:=by
 have:dA m (k:Int) (p:Int)=false:=by
  unfold dA;rw[show aC m.o (k:Int)=false from decide_eq_false (fun e=>by omega),Bool.false_and]
 simp[eK,this]
theorem YB(m:Mp)(k p:Nat)(hk:k<m.o)(hp:p<m.n)(hlt:p/2 ^ (k+1)<m.n/2 ^ (k+1)):eK m (k:Int) (p:Int)={ m with wd:=gR m.wd k (jK (m.wd k) (p/2 ^ (k+1))) }:=by
 have h1:dA m (k:Int) (p:Int)=true:=by
  unfold dA;rw[dI hk,dI hp];rfl
 have h2:aC (m.n/2 ^ (k+1)) ((p/2 ^ (k+1):Nat):Int)=true:=dI hlt;unfold eK;rw[if_pos h1];simp only[mO,mN,Int.toNat_natCast];unfold fO;rw[if_pos h2,Int.toNat_natCast]
theorem xW{p k:Nat}(hm:p%2 ^ k=0):p=2*(p/2 ^ (k+1))*2 ^ k\/p=(2*(p/2 ^ (k+1))+1)*2 ^ k:=by
 have hz : 0<2 ^ k:=Nat.pow_pos (by decide);obtain⟨c,hc⟩:∃ c,p=c*2 ^ k:=⟨p/2 ^ k,by have:=Nat.div_add_mod p (2 ^ k);rw[hm,Nat.add_zero,Nat.mul_comm] at this;exact this.symm⟩;have hd:p/2 ^ (k+1)=c/2:=by rw[Nat.pow_succ,<-Nat.div_div_eq_div_mul,hc,Nat.mul_div_cancel _ hz]
 rw[hd];rcases Nat.mod_two_eq_zero_or_one c with h|h
 ·left;rw[show 2*(c/2)=c by omega];exact hc
 ·right;rw[show 2*(c/2)+1=c by omega];exact hc
theorem qS(i k:Nat) : 2*i*2 ^ k/2 ^ (k+1)=i/\(2*i+1)*2 ^ k/2 ^ (k+1)=i/\2*i*2 ^ k≠(2*i+1)*2 ^ k:=by
 have hz : 0<2 ^ k:=Nat.pow_pos (by decide);rw[Nat.pow_succ,<-Nat.div_div_eq_div_mul,<-Nat.div_div_eq_div_mul,Nat.mul_div_cancel _ hz,Nat.mul_div_cancel _ hz];refine⟨by omega,by omega,fun e=>?_⟩;have:=Nat.eq_of_mul_eq_mul_right hz e;omega
theorem Sd.cell{x t fr B}(s:Sd x t fr B){g p k:Nat}(hb:B g p k):M.IsCell x.bS x.n (ad x p):=by
 obtain⟨h1,h2,h3⟩:=s.al _ _ _ hb;have hz : 0<2 ^ k:=Nat.pow_pos (by decide);have:=s.nb;have:=s.b1;have:=s.b2;unfold M.IsCell ad;omega
theorem wL{x:Bx}{p q:Nat}(h:ad x p=ad x q):p=q:=by unfold ad at h;omega
theorem oL{x:Bx}{p:Nat}{l:List Nat} : ad x p∈l.map (ad x)↔p∈l:=by
 rw[List.mem_map];constructor
 ·rintro ⟨q,h1,h2⟩;rw[<-wL h2];exact h1
 ·exact fun h=>⟨p,h,rfl⟩
theorem Sd.one{x t fr B}(s:Sd x t fr B){g p k j:Nat}(hb:B g p k)(hj:j<=x.o)(hm:p∈fr j):g=0/\k=j:=by
 have hz : 0<2 ^ k:=Nat.pow_pos (by decide);have hz2 : 0<2 ^ j:=Nat.pow_pos (by decide);rcases s.ds _ _ _ _ _ _ hb ((s.fi p j).2 ⟨hj,hm⟩)with ⟨e1,_,e3⟩|e|e
 ·exact⟨e1,e3⟩
 ·omega
 ·omega
def cD(fr:Nat->List Nat)(k:Nat)(l:List Nat):Nat->List Nat:=fun j=>if j=k then l else fr j
theorem wK{x t fr B}(s:Sd x t fr B){f':Nat->Nat}{l l2:List Nat}{k hd':Nat}(hs:M.Same x.bS x.n t.f f' (l.map (ad x)))(hl:∀ j q,j≠k->j<=x.o->q∈fr j->q ∉ l)(hc:M.Chn x.bS x.n f' hd' (l2.map (ad x))):
  ∀ j,j<=x.o->M.Chn x.bS x.n f' (kL t.hd k hd' j) ((cD fr k l2 j).map (ad x)):=by
 intro j hj;unfold kL cD;by_cases e:j=k
 ·rw[if_pos e,if_pos e];exact hc
 ·rw[if_neg e,if_neg e];refine(s.ch j hj).congr (fun y hy=>?_);obtain⟨q,hq,rfl⟩:=List.mem_map.1 hy;exact hs _ (s.cell ((s.fi q j).2 ⟨hj,hq⟩)) (fun e2=>hl j q e hj hq (oL.1 e2))
theorem AH{x t fr B}(s:Sd x t fr B){g p k q:Nat}(hb:B g p k)(hq:q<t.m.n)(hqp:q/2 ^ (k+1)=p/2 ^ (k+1))(l:List Nat)(hl:∀ r,r≠p->(r∈l↔r∈fr k))(hn:p∈l↔p ∉ fr k)(m':Mp)(h1:m'.o=t.m.o)(h2:m'.n=t.m.n)(h3:m'.wd=t.m.wd):
  (eK m' (k:Int) (q:Int)).o=t.m.o/\(eK m' (k:Int) (q:Int)).n=t.m.n/\(eK m' (k:Int) (q:Int)).pg=m'.pg/\(∀ j,j<x.o->((eK m' (k:Int) (q:Int)).wd j).length=(t.m.n/2 ^ (j+1)+63)/64)/\(∀ j,j<x.o->∀ i,i<t.m.n/2 ^ (j+1)->aF ((eK m' (k:Int) (q:Int)).wd j) i=(decide (2*i*2 ^ j∈cD fr k l j) != decide ((2*i+1)*2 ^ j∈cD fr k l j))):=by
 obtain⟨a1,a2,a3⟩:=s.al _ _ _ hb;by_cases hk:k<x.o
 ·have hlt:q/2 ^ (k+1)<t.m.n/2 ^ (k+1):=yK s.dv hk hq;rw[YB m' k q (by rw[h1,s.mo];exact hk) (by rw[h2];exact hq) (by rw[h2];exact hlt),h3];refine⟨h1,h2,rfl,fun j hj=>?_,fun j hj i hi=>?_⟩
  ·show(gR t.m.wd k _ j).length=_
   unfold gR;by_cases e:j=k
   ·subst e;rw[if_pos rfl,zW];exact s.wl j hj
   ·rw[if_neg e];exact s.wl j hj
  ·show aF (gR t.m.wd k _ j) i=_
   unfold gR cD;by_cases e:j=k
   ·subst e;rw[if_pos rfl,if_pos rfl,pJ _ _ _ (by rw[s.wl j hj];omega),hqp];obtain⟨p1,p2,p3⟩:=qS i j;by_cases e2:i=p/2 ^ (j+1)
    ·rw[if_pos e2];have hbt:=s.bt j hj i hi;rw[<-e2,hbt];have hz:=xW a2;rw[<-e2] at hz;rcases hz with hz|hz
     ·have g1:(2*i*2 ^ j∈l↔2*i*2 ^ j ∉ fr j):=(by rw[<-hz];exact hn);have g2:=hl ((2*i+1)*2 ^ j) (by rw[hz];exact fun e=>p3 e.symm);by_cases c1 : 2*i*2 ^ j∈fr j <;> by_cases c2:(2*i+1)*2 ^ j∈fr j <;> simp[c1,c2,g1,g2]
     ·have g1:((2*i+1)*2 ^ j∈l↔(2*i+1)*2 ^ j ∉ fr j):=(by rw[<-hz];exact hn);have g2:=hl (2*i*2 ^ j) (by rw[hz];exact p3);by_cases c1 : 2*i*2 ^ j∈fr j <;> by_cases c2:(2*i+1)*2 ^ j∈fr j <;> simp[c1,c2,g1,g2]
    ·rw[if_neg e2,s.bt j hj i hi];have g1:=hl (2*i*2 ^ j) (fun e=>e2 (by rw[<-e,p1]));have g2:=hl ((2*i+1)*2 ^ j) (fun e=>e2 (by rw[<-e,p2]));simp[g1,g2]
   ·rw[if_neg e,if_neg e];exact s.bt j hj i hi
 ·rw[TG m' k q (by rw[h1,s.mo];exact hk)];refine⟨h1,h2,rfl,fun j hj=>by rw[h3];exact s.wl j hj,fun j hj i hi=>?_⟩;rw[h3];unfold cD;rw[if_neg (by omega)];exact s.bt j hj i hi
theorem Sd.enter{x t fr B}(s:Sd x t fr B){p k:Nat}(hb:B 9 p k)(ho:k<x.o->∀ i,i=p/2 ^ (k+1)->(p=2*i*2 ^ k->(2*i+1)*2 ^ k ∉ fr k)/\(p=(2*i+1)*2 ^ k->2*i*2 ^ k ∉ fr k)):
  gL x t p k=0/\Sd x (eH x t p k) (cD fr k (p :: fr k)) (eW B 9 p k 0):=by
 obtain⟨a1,a2,a3⟩:=s.al _ _ _ hb;have hz : 0<2 ^ k:=Nat.pow_pos (by decide);have hnp:∀ j,j<=x.o->p ∉ fr j:=fun j hj hm=>by have:=(s.one hb hj hm).1;omega
 obtain⟨c1,c2,c3⟩:=(s.ch k a1).push (ad x p) (s.cell hb) (fun e=>hnp k a1 (oL.1 e));have hE:nD x t p k=0:=c1;have hm:=tJ s hb 0 (.inl rfl);obtain⟨b1,b2,b3,b4,b5⟩:=AH s hb (q:=p) (by omega) rfl (p :: fr k) (fun r hr=>by simp[hr]) (by simp[hnp k a1]) (cM t.m (p:Int) (k:Int) 0) (wG _ _ _ _) (by rw[hm]) (by rw[hm]);have pt:=s.paint hb 0 (.inl rfl);have e:eH x t p k=⟨(M.pushR x.bS x.n t.f (t.hd k) (ad x p)).1,eK (cM t.m (p:Int) (k:Int) 0) (k:Int) (p:Int),kL t.hd k (M.pushR x.bS x.n t.f (t.hd k) (ad x p)).2.1⟩:=by unfold eH;rw[if_pos hE];rfl
 refine⟨by unfold gL;rw[if_pos hE],?_⟩;rw[e];refine⟨b1.trans s.mo,s.o8,by rw[b2];exact s.dv,by rw[b2];exact s.nb,by rw[b2];exact s.n1,s.b1,s.b2,?_,?_,fun a b c h=>by rw[b2];exact qF s hb a b c h,qG s hb,fun i hi=>qE s hb i (by rw[b2] at hi;exact hi),fun a b c h h9 i h1 h2=>?_,wK s (l:=p :: fr k) c3 (fun j q hj hjo hq hm=>?_) c2,fun j hj=>by rw[b2];exact b4 j hj,fun j hj i hi=>b5 j hj i (by rw[b2] at hi;exact hi),?_,fun q r h=>⟨.inl ⟨(s.vs q r h).1,fun e=>by omega⟩,(s.vs q r h).2⟩⟩
 ·rintro a b c (⟨h1,h2⟩|⟨rfl,rfl,rfl⟩)
  ·exact s.tg _ _ _ h1
  ·exact .inl rfl
 ·intro q j;unfold cD;constructor
  ·rintro (⟨h1,h2⟩|⟨_,rfl,rfl⟩)
   ·have:=(s.fi q j).1 h1;refine⟨this.1,?_⟩;by_cases e:j=k
    ·rw[if_pos e];subst e;exact List.mem_cons_of_mem _ this.2
    ·rw[if_neg e];exact this.2
   ·exact⟨a1,by rw[if_pos rfl];exact List.mem_cons_self⟩
  ·rintro ⟨h1,h2⟩;by_cases e:j=k
   ·rw[if_pos e] at h2;subst e;rcases List.mem_cons.1 h2 with rfl|h2
    ·exact .inr ⟨rfl,rfl,rfl⟩
    ·exact .inl ⟨(s.fi q j).2 ⟨h1,h2⟩,fun e=>by omega⟩
   ·rw[if_neg e] at h2;exact .inl ⟨(s.fi q j).2 ⟨h1,h2⟩,fun e=>by omega⟩
 ·rw[b3];exact pt a b c h h9 i h1 h2
 ·rcases List.mem_cons.1 hm with rfl|hm
  ·exact hnp j hjo hq
  ·exact hj ((s.one ((s.fi q j).2 ⟨hjo,hq⟩) a1 hm).2)
 ·intro j hj i;unfold cD;by_cases e:j=k
  ·subst e;rw[if_pos rfl];rintro ⟨m1,m2⟩;obtain⟨q1,q2,q3⟩:=qS i j;rcases List.mem_cons.1 m1 with m1|m1
   ·have:=(ho hj i (by rw[<-m1,q1])).1 m1.symm;rcases List.mem_cons.1 m2 with m2|m2
    ·exact q3 (m1.trans m2.symm)
    ·exact this m2
   ·rcases List.mem_cons.1 m2 with m2|m2
    ·exact(ho hj i (by rw[<-m2,q2])).2 m2.symm m1
    ·exact s.nm j hj i ⟨m1,m2⟩
  ·rw[if_neg e];exact s.nm j hj i
def Kp(x:Bx)(t t':Bt)(G:Nat->Prop):Prop:=∀ c,M.IsCell x.bS x.n c->G ((c-x.bS)/4096)->M.nx x.bS t'.f c=M.nx x.bS t.f c/\M.pv x.bS t'.f c=M.pv x.bS t.f c
theorem Kp.refl(x:Bx)(t:Bt)(G:Nat->Prop):Kp x t t G:=fun _ _ _=>⟨rfl,rfl⟩
theorem Kp.mono{x t t'}{G G':Nat->Prop}(h:Kp x t t' G)(hG:∀ g,G' g->G g):Kp x t t' G':=fun c h1 h2=>h c h1 (hG _ h2)
theorem Kp.trans{x t t1 t2}{G:Nat->Prop}(h1:Kp x t t1 G)(h2:Kp x t1 t2 G):Kp x t t2 G:=fun c h3 h4=>⟨(h2 c h3 h4).1.trans (h1 c h3 h4).1,(h2 c h3 h4).2.trans (h1 c h3 h4).2⟩
theorem Kp.to{x t t' t''}{G:Nat->Prop}(h:Kp x t t' G)(hf:t''.f=t'.f):Kp x t t'' G:=by
 unfold Kp;rw[hf];exact h
theorem NT(x:Bx)(q:Nat):(ad x q-x.bS)/4096=q:=by unfold ad;omega
theorem Kp.of{x:Bx}{t t':Bt}{l:List Nat}(h:M.Same x.bS x.n t.f t'.f (l.map (ad x))):Kp x t t' (fun g=>g ∉ l):=fun c h1 h2=>h c h1 (fun hm=>by
 obtain⟨q,hq,rfl⟩:=List.mem_map.1 hm;rw[NT] at h2;exact h2 hq)
theorem Sd.enterK{x t fr B}(s:Sd x t fr B){p k:Nat}(hb:B 9 p k):Kp x t (eH x t p k) (fun g=>g ∉ p :: fr k):=by
 obtain⟨a1,a2,a3⟩:=s.al _ _ _ hb;have hnp:∀ j,j<=x.o->p ∉ fr j:=fun j hj hm=>by have:=(s.one hb hj hm).1;omega
 obtain⟨c1,c2,c3⟩:=(s.ch k a1).push (ad x p) (s.cell hb) (fun e=>hnp k a1 (oL.1 e));have hE:nD x t p k=0:=c1;refine Kp.of ?_;unfold eH;rw[if_pos hE];exact c3
theorem PV(x:Bx)(l:List Nat)(p:Nat):M.dropL (l.map (ad x)) (ad x p)=(M.dropL l p).map (ad x):=by
 unfold M.dropL;rw[List.filter_map];congr 1
 apply List.filter_congr
 intro q _;show decide (ad x q≠ad x p)=decide (q≠p)
 apply decide_eq_decide.2
 exact⟨fun h e=>h (by rw[e]),fun h e=>h (wL e)⟩
theorem kG{l:List Nat}{p q:Nat} : q∈M.dropL l p↔q∈l/\q≠p:=by
 unfold M.dropL;rw[List.mem_filter];simp
theorem Sd.leave{x t fr B}(s:Sd x t fr B){p k q:Nat}(hk:k<=x.o)(hp:p∈fr k)(hq:q<t.m.n)(hqp:q/2 ^ (k+1)=p/2 ^ (k+1)):
  iO x t p k=0/\Sd x (fN (cN x t p k) (q:Int) (k:Int)) (cD fr k (M.dropL (fr k) p)) (eW B 0 p k 9):=by
 have hb:B 0 p k:=(s.fi p k).2 ⟨hk,hp⟩;obtain⟨a1,a2,a3⟩:=s.al _ _ _ hb;obtain⟨j0,hj0,ej⟩:=M.mem_getD (oL (x:=x).2 hp);obtain⟨c1,c2,c3⟩:=(s.ch k hk).remove j0 hj0;rw[ej] at c1 c2 c3;rw[PV] at c2;have hE:iO x t p k=0:=c1;obtain⟨b1,b2,b3,b4,b5⟩:=AH s hb hq hqp (M.dropL (fr k) p) (fun r hr=>by rw[kG];exact⟨fun h=>h.1,fun h=>⟨h,hr⟩⟩) (by rw[kG];exact⟨fun h=>absurd rfl h.2,fun h=>absurd hp h⟩) t.m rfl rfl rfl;refine⟨hE,?_⟩;have e:fN (cN x t p k) (q:Int) (k:Int)=⟨(M.removeR x.bS x.n t.f (t.hd k) (ad x p)).1,eK t.m (k:Int) (q:Int),kL t.hd k (M.removeR x.bS x.n t.f (t.hd k) (ad x p)).2.1⟩:=rfl;rw[e];refine⟨b1.trans s.mo,s.o8,by rw[b2];exact s.dv,by rw[b2];exact s.nb,by rw[b2];exact s.n1,s.b1,s.b2,?_,?_,fun a b c h=>by rw[b2];exact qF s hb a b c h,qG s hb,fun i hi=>qE s hb i (by rw[b2] at hi;exact hi),fun a b c h h9 i h1 h2=>?_,wK s (l:=fr k) c3 (fun j r hj hjo hr hm=>hj ((s.one ((s.fi r j).2 ⟨hjo,hr⟩) hk hm).2)) c2,fun j hj=>by rw[b2];exact b4 j hj,fun j hj i hi=>b5 j hj i (by rw[b2] at hi;exact hi),?_,fun q r h=>⟨.inl ⟨(s.vs q r h).1,fun e=>by omega⟩,(s.vs q r h).2⟩⟩
 ·rintro a b c (⟨h1,h2⟩|⟨rfl,rfl,rfl⟩)
  ·exact s.tg _ _ _ h1
  ·exact .inr (.inr rfl)
 ·intro r j;unfold cD;constructor
  ·rintro (⟨h1,h2⟩|⟨e,_⟩)
   ·have:=(s.fi r j).1 h1;refine⟨this.1,?_⟩;by_cases e:j=k
    ·rw[if_pos e,kG];subst e;exact⟨this.2,fun e=>h2 ⟨rfl,e,rfl⟩⟩
    ·rw[if_neg e];exact this.2
   ·omega
  ·rintro ⟨h1,h2⟩;by_cases e:j=k
   ·rw[if_pos e,kG] at h2;subst e;exact .inl ⟨(s.fi r j).2 ⟨h1,h2.1⟩,fun e=>h2.2 e.2.1⟩
   ·rw[if_neg e] at h2;exact .inl ⟨(s.fi r j).2 ⟨h1,h2⟩,fun e2=>e e2.2.2⟩
 ·rw[b3];rcases h with ⟨h3,h4⟩|⟨rfl,rfl,rfl⟩
  ·exact s.pg a b c h3 h9 i h1 h2
  ·exact absurd rfl h9
 ·intro j hj i;unfold cD;by_cases e:j=k
  ·subst e;rw[if_pos rfl,kG,kG];exact fun h=>s.nm j hj i ⟨h.1.1,h.2.1⟩
  ·rw[if_neg e];exact s.nm j hj i
theorem Sd.leaveK{x t fr B}(s:Sd x t fr B){p k:Nat}(hk:k<=x.o)(hp:p∈fr k):Kp x t (cN x t p k) (fun g=>g ∉ fr k):=by
 obtain⟨j0,hj0,ej⟩:=M.mem_getD (oL (x:=x).2 hp);obtain⟨c1,c2,c3⟩:=(s.ch k hk).remove j0 hj0;rw[ej] at c3;exact Kp.of c3
theorem Sd.pop{x t fr B}(s:Sd x t fr B){p k:Nat}{l:List Nat}(hk:k<=x.o)(hl:fr k=p :: l):t.hd k=ad x p/\jO x t k=0/\gU x t k=cN x t p k:=by
 have hp:p∈fr k:=by rw[hl];exact List.mem_cons_self
 have hb:B 0 p k:=(s.fi p k).2 ⟨hk,hp⟩;have hh:t.hd k=ad x p:=by rw[(s.ch k hk).head,hl];rfl
 obtain⟨r1,_⟩:=s.leave hk hp (q:=p) (by have:=(s.al _ _ _ hb).2.2;have hz : 0<2 ^ k:=Nat.pow_pos (by decide);omega) rfl;have r1:(M.removeR x.bS x.n t.f (t.hd k) (ad x p)).2.2=0:=r1;have h0:ad x p≠0:=(s.cell hb).ne0;have e:M.popR x.bS x.n t.f (t.hd k)=((M.removeR x.bS x.n t.f (t.hd k) (ad x p)).1,(M.removeR x.bS x.n t.f (t.hd k) (ad x p)).2.1,ad x p,0):=by
  unfold M.popR;rw[hh] at r1 ⊢;rw[if_neg h0,if_pos r1]
 refine⟨hh,?_,?_⟩
 ·unfold jO;rw[e]
 ·unfold gU cN;rw[e]
theorem Sd.cut{x}(p tq:Nat):∀ (d:Nat) {t fr B},Sd x t fr B->B 9 p (tq+d)->∃ t' fr' B',eC x p tq d t=(t',tq,0)/\Sd x t' fr' B'/\B' 9 p tq/\(∀ j,fr' j=if tq<=j/\j<tq+d then (p+2 ^ j) :: fr j else fr j)/\(∀ q j,B' 2 q j↔B 2 q j)/\(∀ q j,B' 9 q j↔(B 9 q j/\¬(q=p/\j=tq+d))\/(q=p/\j=tq))/\Kp x t t' (fun g=>∀ j,j<=x.o->g ∉ fr' j)
 | 0,t,fr,B,s,hb=>⟨t,fr,B,rfl,s,hb,fun j=>by rw[if_neg (by omega)],fun _ _=>Iff.rfl,fun q j=>by
   constructor
   ·intro h;by_cases e:q=p/\j=tq
    ·exact .inr e
    ·exact .inl ⟨h,e⟩
   ·rintro (h|⟨rfl,rfl⟩)
    ·exact h.1
    ·exact hb,Kp.refl _ _ _⟩
 | d+1,t,fr,B,s,hb=>by
  have s1:=s.split (k:=tq+d) hb;obtain⟨a1,a2,a3⟩:=s.al _ _ _ hb;have hz : 0<2 ^ (tq+d):=Nat.pow_pos (by decide);have hu:nE B p (tq+d) 9 (p+2 ^ (tq+d)) (tq+d):=.inr (.inr ⟨rfl,rfl,rfl⟩);have hlo:nE B p (tq+d) 9 p (tq+d):=.inr (.inl ⟨rfl,rfl,rfl⟩);have hnl:p ∉ fr (tq+d):=fun e=>by have:=(s1.one hlo (show tq+d<=x.o by have:tq+d+1<=x.o:=a1;omega) e).1;omega
  have hpm:p%2 ^ (tq+d+1)=0:=a2;obtain⟨e1,s2⟩:=s1.enter hu (fun hk i hi=>by
   have hc:p=2*(p/2 ^ (tq+d+1))*2 ^ (tq+d):=by
    have:=Nat.div_add_mod p (2 ^ (tq+d+1));rw[hpm,Nat.add_zero,Nat.pow_succ] at this;rw[Nat.mul_comm 2,Nat.mul_assoc,Nat.mul_comm 2,Nat.mul_comm,Nat.pow_succ];exact this.symm
   have hi2:i=p/2 ^ (tq+d+1):=by
    rw[hi];have hz2 : 2 ^ (tq+d+1)=2 ^ (tq+d)+2 ^ (tq+d):=(by rw[Nat.pow_succ];omega);have:=qS (p/2 ^ (tq+d+1)) (tq+d);rw[<-hc] at this;have h3:p+2 ^ (tq+d)=(2*(p/2 ^ (tq+d+1))+1)*2 ^ (tq+d):=(by rw[Nat.add_mul,Nat.one_mul,<-hc]);rw[h3];exact this.2.1
   rw[hi2,Nat.add_mul,Nat.one_mul,<-hc];exact⟨fun e=>by omega,fun _=>hnl⟩)
  have hb2:eW (nE B p (tq+d)) 9 (p+2 ^ (tq+d)) (tq+d) 0 9 p (tq+d):=.inl ⟨hlo,fun e=>by omega⟩;obtain⟨t',fr',B',f1,f2,f3,f4,f5,f6,f7⟩:=Sd.cut p tq d s2 hb2;refine⟨t',fr',B',?_,f2,f3,fun j=>?_,fun q j=>?_,fun q j=>?_,((s1.enterK hu).mono fun g hg=>?_).trans f7⟩
  ·rw[eC,if_pos e1];exact f1
  ·rw[f4];unfold cD;by_cases c1:tq<=j/\j<tq+d
   ·rw[if_pos c1,if_neg (show ¬j=tq+d by omega),if_pos ⟨c1.1,by omega⟩]
   ·rw[if_neg c1];by_cases c2:j=tq+d
    ·subst c2;rw[if_pos rfl,if_pos ⟨by omega,by omega⟩]
    ·rw[if_neg c2,if_neg (by omega)]
  ·rw[f5];unfold eW nE;constructor
   ·rintro (⟨(h|h|h),_⟩|h)
    ·exact h.1
    ·omega
    ·omega
    ·omega
   ·exact fun h=>.inl ⟨.inl ⟨h,fun e=>by omega⟩,fun e=>by omega⟩
  ·rw[f6];unfold eW nE;constructor
   ·rintro (⟨(⟨(⟨h1,h2⟩|⟨_,h3,h4⟩|⟨_,h3,h4⟩),h5⟩|h),h6⟩|h)
    ·exact .inl ⟨h1,fun e=>h2 ⟨rfl,e.1,e.2⟩⟩
    ·exact absurd ⟨h3,h4⟩ h6
    ·exact absurd ⟨rfl,h3,h4⟩ h5
    ·omega
    ·exact .inr h
   ·rintro (⟨h1,h2⟩|h)
    ·by_cases e:q=p/\j=tq+d
     ·obtain⟨rfl,rfl⟩:=e;have:=s.ds _ _ _ _ _ _ h1 hb;have hz2 : 0<2 ^ (tq+(d+1)):=Nat.pow_pos (by decide);rcases this with ⟨_,_,e⟩|e|e
      ·omega
      ·omega
      ·omega
     ·refine .inl ⟨.inl ⟨.inl ⟨h1,fun e2=>h2 ⟨e2.2.1,e2.2.2⟩⟩,fun e2=>?_⟩,e⟩;obtain⟨_,rfl,rfl⟩:=e2;have:=s.ds _ _ _ _ _ _ h1 hb;have hz2 : 2 ^ (tq+(d+1))=2 ^ (tq+d)+2 ^ (tq+d):=(by rw[<-Nat.add_assoc,Nat.pow_succ];omega);rcases this with ⟨_,e,_⟩|e|e
      ·omega
      ·omega
      ·omega
    ·exact .inr h
  ·have:=hg (tq+d) (by have:tq+d+1<=x.o:=a1;omega);rw[f4,if_neg (by omega)] at this;unfold cD at this;rw[if_pos rfl] at this;exact this
theorem Sd.head{x t fr B}(s:Sd x t fr B)(k:Nat)(hk:k<=x.o):t.hd k=0↔fr k=[]:=by
 rw[(s.ch k hk).zero];exact List.map_eq_nil_iff
theorem Sd.lt{x t fr B}(s:Sd x t fr B){g p k:Nat}(hb:B g p k):p<t.m.n/\M.In x.bS x.n (ad x p) 1:=by
 have:=(s.al _ _ _ hb).2.2;have hz : 0<2 ^ k:=Nat.pow_pos (by decide);have:=s.nb;refine⟨by omega,?_⟩;unfold M.In ad;omega
theorem Sd.take{x t fr B}(s:Sd x t fr B)(hN:∀ q i,¬B 9 q i){k j p:Nat}{l:List Nat}(hk:k<=j)(hj:j<=x.o)(hl:fr j=p :: l):
  t.hd j=ad x p/\p<t.m.n/\M.In x.bS x.n (ad x p) 1/\p%2 ^ j=0/\jO x t j=0/\iR x (fN (gU x t j) (p:Int) (j:Int)) p j k=0/\
  ∃ fr' B',Sd x (nC x t p j k) fr' B'/\(∀ q i,¬B' 9 q i)/\(∀ q i,B' 2 q i↔B 2 q i\/(q=p/\i=k))/\(∀ i,fr' i=if k<=i/\i<j then (p+2 ^ i) :: fr i else if i=j then M.dropL (fr j) p else fr i)/\Kp x t (nC x t p j k) (fun g=>(∀ i,i<=x.o->g ∉ fr i)/\∀ i,i<=x.o->g ∉ fr' i):=by
 have hp:p∈fr j:=by rw[hl];exact List.mem_cons_self
 have hb:B 0 p j:=(s.fi p j).2 ⟨hj,hp⟩;obtain⟨l1,l2⟩:=s.lt hb;obtain⟨h1,h2,h3⟩:=s.pop hj hl;obtain⟨_,s1⟩:=s.leave hj hp (q:=p) l1 rfl;have hb1:eW B 0 p j 9 9 p (k+(j-k)):=.inr ⟨rfl,rfl,by omega⟩;obtain⟨t',fr',B',f1,f2,f3,f4,f5,f6,f7⟩:=Sd.cut p k (j-k) s1 hb1;rw[<-h3] at f1;have eE:iR x (fN (gU x t j) (p:Int) (j:Int)) p j k=0:=by unfold iR;rw[f1]
 have eT:nC x t p j k=cP t' p k 2:=by unfold nC jU;rw[f1]
 refine⟨h1,l1,l2,(s.al _ _ _ hb).2.1,h2,eE,fr',eW B' 9 p k 2,by rw[eT];exact f2.live f3,fun q i=>?_,fun q i=>?_,fun i=>?_,by
  rw[eT];have k1:Kp x t (fN (cN x t p j) (p:Int) (j:Int)) (fun g=>(∀ i,i<=x.o->g ∉ fr i)/\∀ i,i<=x.o->g ∉ fr' i):=((s.leaveK hj hp).to (t'':=fN (cN x t p j) (p:Int) (j:Int)) rfl).mono fun g hg=>hg.1 j hj
  have k2:Kp x (fN (cN x t p j) (p:Int) (j:Int)) (cP t' p k 2) (fun g=>(∀ i,i<=x.o->g ∉ fr i)/\∀ i,i<=x.o->g ∉ fr' i):=(f7.to (t'':=cP t' p k 2) rfl).mono fun g hg=>hg.2
  exact k1.trans k2⟩
 ·rintro (⟨h4,h5⟩|⟨e,_⟩)
  ·rcases (f6 q i).1 h4 with ⟨h6,h7⟩|h6
   ·rcases h6 with ⟨h8,_⟩|⟨_,h9,h10⟩
    ·exact hN q i h8
    ·exact h7 ⟨h9,by omega⟩
   ·exact h5 ⟨rfl,h6.1,h6.2⟩
  ·omega
 ·constructor
  ·rintro (⟨h4,h5⟩|⟨_,h6⟩)
   ·rcases (f5 q i).1 h4 with ⟨h8,_⟩|⟨e,_⟩
    ·exact .inl h8
    ·omega
   ·exact .inr h6
  ·rintro (h4|h4)
   ·exact .inl ⟨(f5 q i).2 (.inl ⟨h4,fun e=>by omega⟩),fun e=>by omega⟩
   ·exact .inr ⟨rfl,h4⟩
 ·rw[f4];unfold cD;by_cases c1:k<=i/\i<j
  ·rw[if_pos (show k<=i/\i<k+(j-k)by omega),if_pos c1,if_neg (show ¬i=j by omega)]
  ·rw[if_neg (show ¬(k<=i/\i<k+(j-k))by omega),if_neg c1]
def cS(o:Nat):Nat->(Nat->List Nat)->Nat->Nat->(Nat->List Nat)×Nat×Nat
 | 0,fr,p,k=>(fr,p,k)
 | d+1,fr,p,k=>if k<o/\aS p k∈fr k then cS o d (cD fr k (M.dropL (fr k) (aS p k))) (cZ p k) (k+1) else (fr,p,k)
theorem Sd.alone{x t fr B}(s:Sd x t fr B){p k:Nat}(hb:B 9 p k):kC x t (p:Int) (k:Int)=decide (k<x.o/\aS p k∈fr k):=by
 obtain⟨a1,a2,a3⟩:=s.al _ _ _ hb;obtain⟨l1,_⟩:=s.lt hb;have hn:=s.n1;have hnp:p ∉ fr k:=fun e=>by have:=(s.one hb a1 e).1;omega
 unfold kC;by_cases hk:k<x.o
 ·have hlt:=yK s.dv hk l1;have h1:dA t.m (k:Int) (p:Int)=true:=by unfold dA;rw[dI (show k<t.m.o by rw[s.mo];exact hk),dI l1];rfl
  have h2:hZ t.m (k:Int) (p:Int)=aF (t.m.wd k) (p/2 ^ (k+1)):=by
   unfold hZ;rw[h1,Bool.true_and];simp only[mO,mN,Int.toNat_natCast];unfold cA;rw[dI hlt,Bool.true_and,Int.toNat_natCast]
  rw[h2,s.bt k hk _ hlt,show decide ((k:Int)<x.o)=true from decide_eq_true (by omega),Bool.true_and];have hz : 0<2 ^ k:=Nat.pow_pos (by decide);have hpr:=xW a2;obtain⟨q1,q2,q3⟩:=qS (p/2 ^ (k+1)) k;rcases rL (by omega) (by have:=s.o8;omega) a2 with ⟨e1,e2,e3⟩|⟨e0,e1,e2,e3⟩
  ·have hpa:p=2*(p/2 ^ (k+1))*2 ^ k:=by
    have:=Nat.div_add_mod p (2 ^ (k+1));rw[e1,Nat.add_zero,Nat.pow_succ] at this;rw[Nat.mul_comm 2,Nat.mul_assoc,Nat.mul_comm 2,Nat.mul_comm,Nat.pow_succ];exact this.symm
   have hob:aS p k=(2*(p/2 ^ (k+1))+1)*2 ^ k:=(by rw[e2,Nat.add_mul,Nat.one_mul,<-hpa]);rw[<-hob,<-hpa];by_cases c:aS p k∈fr k <;> simp[hnp,c,hk]
  ·rcases hpr with hpr|hpr
   ·exfalso
    have:p%2 ^ (k+1)=0:=by
     rw[hpr,Nat.pow_succ,Nat.mul_comm 2,Nat.mul_assoc,Nat.mul_comm 2];exact Nat.mul_mod_left _ _
    have h5 : 2 ^ (k+1)=2 ^ k+2 ^ k:=(by rw[Nat.pow_succ];omega);have h6:=Nat.dvd_sub (Nat.dvd_of_mod_eq_zero this) (Nat.dvd_of_mod_eq_zero e1);rw[show p-(p-2 ^ k)=2 ^ k by omega] at h6;have:=Nat.le_of_dvd hz h6;omega
   ·have hob:aS p k=2*(p/2 ^ (k+1))*2 ^ k:=by
     rw[e2];have h7:p=2*(p/2 ^ (k+1))*2 ^ k+2 ^ k:=(by rw[Nat.add_mul,Nat.one_mul] at hpr;exact hpr);omega
    rw[<-hob,<-hpr];by_cases c:aS p k∈fr k <;> simp[hnp,c,hk]
 ·rw[show decide ((k:Int)<x.o)=false from decide_eq_false (by omega),Bool.false_and];exact(decide_eq_false (fun e=>hk e.1)).symm
theorem TQ{x t fr B}(s:Sd x t fr B){p k:Nat}(hb:B 9 p k)(h:k<x.o->aS p k ∉ fr k):k<x.o->∀ i,i=p/2 ^ (k+1)->(p=2*i*2 ^ k->(2*i+1)*2 ^ k ∉ fr k)/\(p=(2*i+1)*2 ^ k->2*i*2 ^ k ∉ fr k):=by
 intro hk i hi;obtain⟨a1,a2,a3⟩:=s.al _ _ _ hb;have hn:=s.n1;have hz : 0<2 ^ k:=Nat.pow_pos (by decide);have hno:=h hk;have hz2 : 2 ^ (k+1)=2*2 ^ k:=by rw[Nat.pow_succ,Nat.mul_comm]
 constructor
 ·intro e;have hm:p%2 ^ (k+1)=0:=by
   rw[e,hz2,Nat.mul_comm 2 i,Nat.mul_assoc];exact Nat.mul_mod_left _ _
  rcases rL (by omega) (by have:=s.o8;omega) a2 with ⟨e1,e2,e3⟩|⟨e0,e1,e2,e3⟩
  ·rw[show(2*i+1)*2 ^ k=aS p k by rw[e2,Nat.add_mul,Nat.one_mul,<-e]];exact hno
  ·exfalso
   have h6:=Nat.dvd_sub (Nat.dvd_of_mod_eq_zero hm) (Nat.dvd_of_mod_eq_zero e1);rw[show p-(p-2 ^ k)=2 ^ k by omega] at h6;have:=Nat.le_of_dvd hz h6;omega
 ·intro e;have e':p=2*i*2 ^ k+2 ^ k:=by rw[Nat.add_mul,Nat.one_mul] at e;exact e
  rcases rL (by omega) (by have:=s.o8;omega) a2 with ⟨e1,e2,e3⟩|⟨e0,e1,e2,e3⟩
  ·exfalso
   have hm : 2 ^ (k+1) ∣ 2*i*2 ^ k:=⟨i,by rw[hz2,Nat.mul_comm 2 i,Nat.mul_assoc,Nat.mul_comm]⟩;have h6:=Nat.dvd_sub (Nat.dvd_of_mod_eq_zero e1) hm;rw[show p-2*i*2 ^ k=2 ^ k by omega] at h6;have:=Nat.le_of_dvd hz h6;omega
  ·rw[show 2*i*2 ^ k=aS p k by rw[e2];omega];exact hno
theorem Sd.join{x} : ∀ (d:Nat) {t fr B} {p k:Nat},Sd x t fr B->B 9 p k->(∀ q i,B 9 q i->q=p/\i=k)->d+k=x.o->
  ∃ t' B',gO x d t p k=(t',(cS x.o d fr p k).2.1,(cS x.o d fr p k).2.2)/\Sd x t' (cS x.o d fr p k).1 B'/\B' 9 (cS x.o d fr p k).2.1 (cS x.o d fr p k).2.2/\(∀ q i,B' 9 q i->q=(cS x.o d fr p k).2.1/\i=(cS x.o d fr p k).2.2)/\(∀ q i,B' 2 q i↔B 2 q i)/\((cS x.o d fr p k).2.2<x.o->aS (cS x.o d fr p k).2.1 (cS x.o d fr p k).2.2 ∉ (cS x.o d fr p k).1 (cS x.o d fr p k).2.2)/\Kp x t t' (fun g=>∀ j,j<=x.o->g ∉ fr j)
 | 0,t,fr,B,p,k,s,hb,ho,hd=>⟨t,B,rfl,s,hb,ho,fun _ _=>Iff.rfl,fun h=>by have h:k<x.o:=h;omega,Kp.refl _ _ _⟩
 | d+1,t,fr,B,p,k,s,hb,ho,hd=>by
  obtain⟨a1,a2,a3⟩:=s.al _ _ _ hb;have hal:=s.alone hb;by_cases hc:k<x.o/\aS p k∈fr k
  ·have hn:=s.n1;have hz : 0<2 ^ k:=Nat.pow_pos (by decide);have hq0:B 0 (aS p k) k:=(s.fi _ _).2 ⟨a1,hc.2⟩;obtain⟨l1,_⟩:=s.lt hb;have hz2 : 2 ^ (k+1)=2 ^ k+2 ^ k:=(by rw[Nat.pow_succ];omega);have hhv:=rL (p:=p) (by omega) (by have:=s.o8;omega) a2;have hsame:p/2 ^ (k+1)=aS p k/2 ^ (k+1):=by
    have hpz : 0<2 ^ (k+1):=Nat.pow_pos (by decide);rcases hhv with ⟨e1,e2,e3⟩|⟨e0,e1,e2,e3⟩
    ·rw[e2];have h1:=Nat.div_add_mod p (2 ^ (k+1));rw[e1,Nat.add_zero] at h1;symm;apply Nat.div_eq_of_lt_le
     ·rw[Nat.mul_comm];omega
     ·rw[Nat.add_mul,Nat.one_mul,Nat.mul_comm];omega
    ·rw[e2];have h1:=Nat.div_add_mod (p-2 ^ k) (2 ^ (k+1));rw[e1,Nat.add_zero] at h1;apply Nat.div_eq_of_lt_le
     ·rw[Nat.mul_comm];omega
     ·rw[Nat.add_mul,Nat.one_mul,Nat.mul_comm];omega
   obtain⟨r1,s1⟩:=s.leave a1 hc.2 l1 hsame;have hb1:eW B 0 (aS p k) k 9 9 p k:=.inl ⟨hb,fun e=>by omega⟩;have hb2:eW B 0 (aS p k) k 9 9 (aS p k) k:=.inr ⟨rfl,rfl,rfl⟩;have ho1:∀ q i,eW B 0 (aS p k) k 9 9 q i->(q=p/\i=k)\/(q=aS p k/\i=k):=by
    rintro q i (⟨h1,h2⟩|⟨_,h3⟩)
    ·exact .inl (ho q i h1)
    ·exact .inr h3
   have hl1:∀ q i,eW B 0 (aS p k) k 9 2 q i↔B 2 q i:=by
    intro q i;constructor
    ·rintro (⟨h1,h2⟩|⟨e,_⟩)
     ·exact h1
     ·omega
    ·exact fun h1=>.inl ⟨h1,fun e=>by omega⟩
   have hu:∃ B2,Sd x (fN (cN x t (aS p k) k) (p:Int) (k:Int)) (cD fr k (M.dropL (fr k) (aS p k))) B2/\B2 9 (cZ p k) (k+1)/\(∀ q i,B2 9 q i->q=cZ p k/\i=k+1)/\(∀ q i,B2 2 q i↔B 2 q i):=by
    have fin:∀ lo,lo%2 ^ (k+1)=0->(lo=p/\aS p k=lo+2 ^ k\/lo=aS p k/\p=lo+2 ^ k)->cZ p k=lo->∃ B2,Sd x (fN (cN x t (aS p k) k) (p:Int) (k:Int)) (cD fr k (M.dropL (fr k) (aS p k))) B2/\B2 9 (cZ p k) (k+1)/\(∀ q i,B2 9 q i->q=cZ p k/\i=k+1)/\(∀ q i,B2 2 q i↔B 2 q i):=by
     intro lo hlm hlo hll;have g1:eW B 0 (aS p k) k 9 9 lo k:=by rcases hlo with ⟨e1,e2⟩|⟨e1,e2⟩ <;> rw[e1] <;> assumption
     have g2:eW B 0 (aS p k) k 9 9 (lo+2 ^ k) k:=by rcases hlo with ⟨e1,e2⟩|⟨e1,e2⟩ <;> rw[<-e2] <;> assumption
     refine⟨_,s1.unite g1 g2 hlm hc.1,by rw[hll];exact .inr ⟨rfl,rfl,rfl⟩,?_,fun q i=>?_⟩
     ·rw[hll];rintro q i (⟨h1,h2,h3⟩|⟨_,h4⟩)
      ·exfalso
       rcases ho1 q i h1 with ⟨e1,e2⟩|⟨e1,e2⟩
       ·rcases hlo with ⟨f1,f2⟩|⟨f1,f2⟩
        ·exact h2 ⟨rfl,by omega,e2⟩
        ·exact h3 ⟨rfl,by omega,e2⟩
       ·rcases hlo with ⟨f1,f2⟩|⟨f1,f2⟩
        ·exact h3 ⟨rfl,by omega,e2⟩
        ·exact h2 ⟨rfl,by omega,e2⟩
      ·exact h4
     ·constructor
      ·rintro (⟨h1,_,_⟩|⟨e,_⟩)
       ·exact(hl1 q i).1 h1
       ·omega
      ·exact fun h1=>.inl ⟨(hl1 q i).2 h1,fun e=>by omega,fun e=>by omega⟩
    rcases hhv with ⟨e1,e2,e3⟩|⟨e0,e1,e2,e3⟩
    ·exact fin p e1 (.inl ⟨rfl,e2⟩) e3
    ·exact fin (p-2 ^ k) e1 (.inr ⟨e2.symm,by omega⟩) e3
   obtain⟨B2,u1,u2,u3,u4⟩:=hu;obtain⟨t',B',f1,f2,f3,f4,f5,f6,f7⟩:=Sd.join d u1 u2 u3 (by omega);have eF:cS x.o (d+1) fr p k=cS x.o d (cD fr k (M.dropL (fr k) (aS p k))) (cZ p k) (k+1):=(by rw[cS,if_pos hc]);rw[eF];refine⟨t',B',?_,f2,f3,f4,fun q i=>(f5 q i).trans (u4 q i),f6,(((s.leaveK a1 hc.2).to (t'':=fN (cN x t (aS p k) k) (p:Int) (k:Int)) rfl).mono fun g hg=>hg k a1).trans (f7.mono fun g hg j hj=>?_)⟩;rotate_left
   ·unfold cD;by_cases e:j=k
    ·rw[if_pos e,kG];exact fun h=>hg k a1 h.1
    ·rw[if_neg e];exact hg j hj
   rw[gO,hal,if_pos (decide_eq_true hc),if_pos r1];exact f1
  ·have eF:cS x.o (d+1) fr p k=(fr,p,k):=(by rw[cS,if_neg hc]);rw[eF];refine⟨t,B,?_,s,hb,ho,fun _ _=>Iff.rfl,fun h1 h2=>hc ⟨h1,h2⟩,Kp.refl _ _ _⟩;rw[gO,hal,if_neg (by rw[decide_eq_false hc];decide)]
theorem Sd.give{x t fr B}(s:Sd x t fr B)(hN:∀ q i,¬B 9 q i){p k:Nat}(hb:B 2 p k)(hv:x.P p=none):
  ∃ t' p' k',gO x (x.o-k) t p k=(t',p',k')/\gL x t' p' k'=0/\∃ B',Sd x (eH x t' p' k') (cD (cS x.o (x.o-k) fr p k).1 k' (p' :: (cS x.o (x.o-k) fr p k).1 k')) B'/\(∀ q i,¬B' 9 q i)/\(∀ q i,B' 2 q i↔B 2 q i/\¬(q=p/\i=k))/\p'=(cS x.o (x.o-k) fr p k).2.1/\k'=(cS x.o (x.o-k) fr p k).2.2/\Kp x t (eH x t' p' k') (fun g=>(∀ j,j<=x.o->g ∉ fr j)/\∀ j,¬B' 0 g j):=by
 have hk:=(s.al _ _ _ hb).1;have s1:=s.die hb hv;have hb1:eW B 2 p k 9 9 p k:=.inr ⟨rfl,rfl,rfl⟩;obtain⟨t',B',f1,f2,f3,f4,f5,f6,f7⟩:=Sd.join (x.o-k) s1 hb1 (by
  rintro q i (⟨h1,h2⟩|⟨_,h3⟩)
  ·exact absurd h1 (hN q i)
  ·exact h3) (by omega)
 obtain⟨g1,g2⟩:=f2.enter f3 (TQ f2 f3 f6);refine⟨t',_,_,f1,g1,_,g2,fun q i=>?_,fun q i=>?_,rfl,rfl,(f7.mono fun g hg=>hg.1).trans ((f2.enterK f3).mono fun g hg hm=>?_)⟩;rotate_left
 rotate_left
 ·have:=(g2.fi g (cS x.o (x.o-k) fr p k).2.2).2 ⟨(f2.al _ _ _ f3).1,by unfold cD;rw[if_pos rfl];exact hm⟩;exact hg.2 _ this
 ·rintro (⟨h1,h2⟩|⟨e,_⟩)
  ·have:=f4 q i h1;exact h2 ⟨rfl,this.1,this.2⟩
  ·omega
 ·constructor
  ·rintro (⟨h1,h2⟩|⟨e,_⟩)
   ·rcases (f5 q i).1 h1 with ⟨h3,h4⟩|⟨e,_⟩
    ·exact⟨h3,fun e=>h4 ⟨rfl,e.1,e.2⟩⟩
    ·omega
   ·omega
  ·rintro ⟨h1,h2⟩;exact .inl ⟨(f5 q i).2 (.inl ⟨h1,fun e=>h2 ⟨e.2.1,e.2.2⟩⟩),fun e=>by omega⟩
theorem Sd.is{x t fr B}(s:Sd x t fr B)(hN:∀ q i,¬B 9 q i)(g p k:Nat)(hg:g=0\/g=2):lD t.m (g:Int) (p:Int) (k:Int)=true↔(B g p k/\x.P p=none):=by
 constructor
 ·intro h;unfold lD at h;simp only[Bool.and_eq_true,beq_iff_eq] at h;obtain⟨⟨⟨h1,h2⟩,h3⟩,h4⟩:=h;have hpn:p<t.m.n:=by
   have : 0<=(p:Int)/\(p:Int)<t.m.n:=of_decide_eq_true h1;omega
  have ha:cF t.m (p:Int)=t.m.pg p:=by unfold cF;rw[if_pos h1,Int.toNat_natCast]
  rw[ha] at h2 h3;obtain⟨g',q,j,c1,c2,c3⟩:=s.cv p hpn;have hg':g'=0\/g'=2:=by
   rcases s.tg _ _ _ c1 with e|e|e
   ·exact .inl e
   ·exact .inr e
   ·subst e;exact absurd c1 (hN q j)
  have hpg:=s.pg _ _ _ c1 (by omega) p c2 c3;have hP:x.P p=none:=by
   cases hP:x.P p with
   | none=>rfl
   | some q0=>
    exfalso
    rw[hP,Option.getD_some] at hpg;have h4:=(s.vs p q0 hP).2;rw[hpg] at h2;omega
  refine⟨?_,hP⟩;rw[hP,Option.getD_none] at hpg;rw[hpg] at h2 h3;have h3:(j:Int)=k:=h3;have h2:(if p=q then (g':Int) else (g':Int)+1)=(g:Int):=h2;by_cases e:p=q
  ·rw[if_pos e] at h2;have e1:g'=g:=(by omega);have e2:j=k:=(by omega);rw[<-e1,<-e2,e];exact c1
  ·rw[if_neg e] at h2;omega
 ·rintro ⟨hb,hP⟩;obtain⟨a1,a2,a3⟩:=s.al _ _ _ hb;obtain⟨l1,_⟩:=s.lt hb;have hz : 0<2 ^ k:=Nat.pow_pos (by decide);have h1:aC t.m.n (p:Int)=true:=dI l1;have ha:cF t.m (p:Int)=t.m.pg p:=by unfold cF;rw[if_pos h1,Int.toNat_natCast]
  have hpg:=s.pg _ _ _ hb (by omega) p (Nat.le_refl _) (by omega);rw[if_pos rfl,hP,Option.getD_none] at hpg;have hod:(t.m.pg p).od=(k:Int):=by rw[hpg];rfl
  have hkd:(t.m.pg p).kd=(g:Int):=by rw[hpg];rfl
  have hh:kR t.m (p:Int)=p:=by
   unfold kR;rw[if_pos h1,Int.toNat_natCast,hod,Int.toNat_natCast];have:=Nat.div_add_mod p (2 ^ k);rw[a2,Nat.add_zero,Nat.mul_comm] at this;rw[this]
  unfold lD;rw[h1,ha,hod,hkd,hh];simp
theorem xH{x t fr B}(s:Sd x t fr B)(p:Nat)(hp:p<t.m.n):fU x t (ad x p)=p/\kU x t (ad x p)=true:=by
 have h1:=s.nb;have h2:=s.b2;have hoff:eX x (ad x p)=4096*p:=by unfold eX ad;omega
 have hok:kB x t (ad x p):=by unfold kB;rw[hoff];exact⟨by omega,by omega⟩
 refine⟨by unfold fU;rw[if_pos hok,hoff];omega,?_⟩;unfold kU;exact decide_eq_true ⟨hok,by unfold M.In ad;omega⟩
theorem Sd.live_iff{x t fr B}(s:Sd x t fr B)(hN:∀ q i,¬B 9 q i)(p k:Nat)(hp:p<t.m.n):kT x t (ad x p) (k:Int)=true↔(B 2 p k/\x.P p=none):=by
 obtain⟨h1,h2⟩:=xH s p hp;unfold kT;have hi:=s.is hN 2 p k (.inr rfl);rw[show((2:Nat):Int)=2 from rfl] at hi;rw[h1,h2,Bool.true_and,Bool.and_eq_true,hi];constructor
 ·exact fun h=>h.2
 ·intro hb;have:=(s.al _ _ _ hb.1).1;exact⟨decide_eq_true ⟨by omega,by omega⟩,hb⟩
theorem zG{w b c n ws}(h:SetAt w b c n ws):(∀ i,ws.getD i 0<2 ^ 64)/\∀ j,n<=j->aF ws j=false:=by
 have hl:=h.len;have h0:∀ i,ws.length<=i->ws.getD i 0=0:=fun i hi=>by simp only[List.getD];rw[List.getElem?_eq_none hi];rfl
 constructor
 ·intro i;by_cases hi:i<ws.length
  ·exact Nat.lt_of_lt_of_le (h.ok i hi) (Nat.pow_le_pow_right (by decide) (by omega))
  ·rw[h0 i (by omega)];decide
 ·intro j hj;rw[nL];by_cases hi:j/64<ws.length
  ·refine Nat.testBit_lt_two_pow (Nat.lt_of_lt_of_le (h.ok _ hi) (Nat.pow_le_pow_right (by decide) (by omega)))
  ·rw[h0 _ (by omega)];simp
theorem UB{x x':Bx}{f f':Nat->Nat}{hd n':Nat}{l:List Nat}(hc:M.Chn x.bS x.n f hd (l.map (ad x)))(hb:x'.bS=x.bS)(h63:x.bS+x'.n<=9223372036854775808)(hn:n'*4096<=x'.n)(hp:∀ p∈l,p<n')(hf:∀ i,i<n'*4096->f' i=f i):
  M.Chn x'.bS x'.n f' hd (l.map (ad x')):=by
 have hca:ad x'=ad x:=by funext p;unfold ad;rw[hb]
 rw[hca,hb];have hcell:∀ c∈l.map (ad x),M.IsCell x.bS x'.n c/\c-x.bS+16<=n'*4096:=fun c hm=>by
  obtain⟨h1,h2,h3,h4,h5⟩:=hc.cell c hm;obtain⟨p,hpl,rfl⟩:=List.mem_map.1 hm;have:=hp p hpl;unfold M.IsCell ad at *;omega
 have hcg:=hc.congr (f':=f') fun c hm=>by
  obtain⟨h1,h2⟩:=hcell c hm;obtain⟨_,_,h3,_⟩:=h1;unfold M.nx M.pv M.word;exact⟨M.wordTo_congr _ _ _ fun i hi=>hf _ (by omega),M.wordTo_congr _ _ _ fun i hi=>hf _ (by omega)⟩
 exact⟨fun c hm=>(hcell c hm).1,hcg.nodup,hcg.head,hcg.nxt,hcg.prv⟩
def mP(B:Nat->Nat->Nat->Prop)(h p k:Nat):Nat->Nat->Nat->Prop:=fun a b c=>B a b c\/(a=h/\b=p/\c=k)
theorem Sd.grow{x t fr B}(s:Sd x t fr B)(x':Bx)(hP:x'.P=x.P)(ho:x'.o=x.o)(hb:x'.bS=x.bS)(hn:(t.m.n+2 ^ x.o)*4096<=x'.n)(h63:x.bS+x'.n<=9223372036854775808)(hg:t.m.n+2 ^ x.o<=1024)(f':Nat->Nat)(hf:∀ i,i<t.m.n*4096->f' i=t.f i)
  (hz:∀ k,k<x.o->∀ i,(t.m.wd k).getD i 0<2 ^ 64) (hp:∀ k,k<x.o->∀ j,t.m.n/2 ^ (k+1)<=j->aF (t.m.wd k) j=false):
  Sd x' ⟨f',cG t.m,t.hd⟩ fr (mP B 2 t.m.n x.o):=by
 have hmo:=s.mo;obtain⟨r,hr⟩:=s.dv;have hz0 : 0<2 ^ x.o:=Nat.pow_pos (by decide);have hgm:cG t.m={ iK t.m (t.m.n+2 ^ x.o)with pg:=eV (iK t.m (t.m.n+2 ^ x.o)).pg t.m.n x.o 2 }:=by
  unfold cG;rw[hmo,if_neg (by omega)]
 have gn:(cG t.m).n=t.m.n+2 ^ x.o:=by rw[hgm];rfl
 have go:(cG t.m).o=x.o:=by rw[hgm];exact hmo
 have gw:∀ k,(cG t.m).wd k=eY (t.m.wd k) ((t.m.n+2 ^ x.o)/2 ^ (k+1)):=fun k=>by rw[hgm];rfl
 have gp:∀ i,(cG t.m).pg i=if i=t.m.n then aN 2 x.o else if t.m.n<i/\i<t.m.n+2 ^ x.o then aN (2+1) x.o else if i<t.m.n then t.m.pg i else aR:=fun i=>by rw[hgm];rfl
 have hlt:∀ k,k<=x.o->∀ p∈fr k,p<t.m.n:=fun k hk p hp=>by
  obtain⟨_,_,h3⟩:=s.al _ _ _ ((s.fi p k).2 ⟨hk,hp⟩);have : 0<2 ^ k:=Nat.pow_pos (by decide);omega
 constructor
 ·show(cG t.m).o=x'.o
  rw[go,ho]
 ·rw[ho];exact s.o8
 ·refine⟨r+1,?_⟩;show(cG t.m).n=_
  rw[gn,ho,hr,Nat.add_mul,Nat.one_mul]
 ·show(cG t.m).n*4096<=x'.n
  rw[gn];exact hn
 ·show(cG t.m).n<=1024
  rw[gn];exact hg
 ·rw[hb];exact s.b1
 ·rw[hb];exact h63
 ·rintro a b c (h|⟨rfl,rfl,rfl⟩)
  ·exact s.tg _ _ _ h
  ·exact .inr (.inl rfl)
 ·intro p k;rw[ho,<-s.fi p k];constructor
  ·rintro (h|⟨h,_⟩)
   ·exact h
   ·omega
  ·exact .inl
 ·rintro a b c h;show c<=x'.o/\b%2 ^ c=0/\b+2 ^ c<=(cG t.m).n
  rw[ho,gn];rcases h with h|⟨rfl,rfl,rfl⟩
  ·obtain⟨h1,h2,h3⟩:=s.al _ _ _ h;exact⟨h1,h2,by omega⟩
  ·exact⟨Nat.le_refl _,by rw[hr];exact Nat.mul_mod_left _ _,Nat.le_refl _⟩
 ·rintro a b c a' b' c' (h|⟨rfl,rfl,rfl⟩) (h'|⟨rfl,rfl,rfl⟩)
  ·exact s.ds _ _ _ _ _ _ h h'
  ·exact .inr (.inl (s.al _ _ _ h).2.2)
  ·exact .inr (.inr (s.al _ _ _ h').2.2)
  ·exact .inl ⟨rfl,rfl,rfl⟩
 ·intro i hi;have hi:i<(cG t.m).n:=hi;rw[gn] at hi;by_cases h:i<t.m.n
  ·obtain⟨g,p,k,h1,h2⟩:=s.cv i h;exact⟨g,p,k,.inl h1,h2⟩
  ·exact⟨2,t.m.n,x.o,.inr ⟨rfl,rfl,rfl⟩,by omega,hi⟩
 ·rintro g p k h h9 i h1 h2;show(cG t.m).pg i=_
  rw[gp,hP];rcases h with h|⟨rfl,rfl,rfl⟩
  ·have h3:=(s.al _ _ _ h).2.2;have hin:i<t.m.n:=(by omega);rw[if_neg (show ¬i=t.m.n by omega),if_neg (show ¬(t.m.n<i/\i<t.m.n+2 ^ x.o)by omega),if_pos hin];exact s.pg _ _ _ h h9 i h1 h2
  ·have hPi:x.P i=none:=by
    cases hPi:x.P i with
    | none=>rfl
    | some q0=>
     have:=(s.al _ _ _ (s.vs i q0 hPi).1).2.2;omega
   rw[hPi,Option.getD_none];by_cases e:i=t.m.n
   ·rw[if_pos e,if_pos e];rfl
   ·rw[if_neg e,if_pos (by omega),if_neg e];rfl
 ·intro k hk;rw[ho] at hk;exact UB (n':=t.m.n) (s.ch k hk) hb h63 (Nat.le_trans (Nat.mul_le_mul_right _ (Nat.le_add_right _ _)) hn) (hlt k hk) hf
 ·intro k hk;show((cG t.m).wd k).length=((cG t.m).n/2 ^ (k+1)+63)/64
  rw[gw,gn,xG]
 ·intro k hk i hi;rw[ho] at hk;have hi:i<(cG t.m).n/2 ^ (k+1):=hi;rw[gn] at hi;show aF ((cG t.m).wd k) i=_
  rw[gw,zO _ _ _ (hz k hk) hi];by_cases h:i<t.m.n/2 ^ (k+1)
  ·exact s.bt k hk i h
  ·rw[hp k hk i (by omega)];have hz1 : 0<2 ^ k:=Nat.pow_pos (by decide);have hge:t.m.n<=i*2 ^ (k+1):=by
    have hd : 2 ^ (k+1) ∣ t.m.n:=(by rw[hr];exact Nat.dvd_trans (Nat.pow_dvd_pow 2 hk) (Nat.dvd_mul_left _ _));rw[<-Nat.div_mul_cancel hd];exact Nat.mul_le_mul_right _ (by omega)
   have he : 2*i*2 ^ k=i*2 ^ (k+1):=(by rw[Nat.pow_succ,Nat.mul_comm 2 i,Nat.mul_assoc,Nat.mul_comm 2]);have h2:(2*i+1)*2 ^ k=2*i*2 ^ k+2 ^ k:=(by rw[Nat.add_mul,Nat.one_mul]);rw[decide_eq_false (fun hm=>by have:=hlt k (by omega) _ hm;omega),decide_eq_false (fun hm=>by have:=hlt k (by omega) _ hm;omega)];rfl
 ·intro k hk;rw[ho] at hk;exact s.nm k hk
 ·intro p q h;rw[hP] at h;exact⟨.inl (s.vs p q h).1,(s.vs p q h).2⟩
theorem wN(m:Mp)(p o k:Int):(cM m p o k).n=m.n:=by unfold cM;split <;> rfl
theorem xX(m:Mp)(k i:Int):(eK m k i).n=m.n:=by unfold eK;split <;> rfl
theorem tL(x:Bx)(t:Bt)(p k:Nat):(eH x t p k).m.n=t.m.n:=by
 unfold eH;split
 ·exact(xX _ _ _).trans (wN _ _ _ _)
 ·rfl
theorem wM(x:Bx)(p tq:Nat):∀ (d:Nat) (t:Bt),(eC x p tq d t).1.m.n=t.m.n
 | 0,t=>rfl
 | d+1,t=>by
  rw[eC];split
  ·exact(wM x p tq d _).trans (tL _ _ _ _)
  ·exact tL _ _ _ _
theorem JU(x:Bx)(t:Bt)(p a b:Nat):(jU x t p a b).m.n=t.m.n:=(wN _ _ _ _).trans (wM _ _ _ _ _)
theorem NV(x:Bx)(t:Bt)(q j k:Nat):(nC x t q j k).m.n=t.m.n:=(JU _ _ _ _ _).trans (xX _ _ _)
def Sn(x:Bx)(t:Bt)(L:Nat->Nat->Prop):Prop:=∃ fr B,Sd x t fr B/\(∀ q i,¬B 9 q i)/\∀ q i,B 2 q i↔L q i
theorem Sn.apart{x t L}(s:Sn x t L){p k q i:Nat}(h1:L p k)(h2:L q i):(p=q/\k=i)\/p+2 ^ k<=q\/q+2 ^ i<=p:=by
 obtain⟨fr,B,s,_,hL⟩:=s;rcases s.ds _ _ _ _ _ _ ((hL p k).2 h1) ((hL q i).2 h2)with ⟨_,e⟩|e
 ·exact .inl e
 ·exact .inr e
theorem Sn.al{x t L}(s:Sn x t L){p k:Nat}(h:L p k):k<=x.o/\p%2 ^ k=0/\p+2 ^ k<=t.m.n:=by
 obtain⟨fr,B,s,_,hL⟩:=s;exact s.al _ _ _ ((hL p k).2 h)
theorem TI(x:Bx)(t:Bt)(k:Nat):(∀ a,k<=a->a<=x.o->t.hd a=0)\/∃ j,j<=x.o/\Least x t k j:=by
 have main:∀ d,∀ a0,k<=a0->a0+d=x.o+1->(∀ a,k<=a->a<a0->t.hd a=0)->(∀ a,k<=a->a<=x.o->t.hd a=0)\/∃ j,j<=x.o/\Least x t k j:=by
  intro d;induction d with
  | zero=>exact fun a0 h1 h2 h3=>.inl fun a h4 h5=>h3 a h4 (by omega)
  | succ d ih=>
   intro a0 h1 h2 h3;by_cases e:t.hd a0=0
   ·refine ih (a0+1) (by omega) (by omega) fun a h4 h5=>?_
    by_cases ea:a=a0
    ·rw[ea];exact e
    ·exact h3 a h4 (by omega)
   ·exact .inr ⟨a0,by omega,h1,by omega,h3,fun _=>e⟩
 by_cases hk:k<=x.o
 ·exact main (x.o+1-k) k (Nat.le_refl _) (by omega) fun a h1 h2=>by omega
 ·exact .inl fun a h1 h2=>by omega
theorem Sn.live_iff{x t L}(s:Sn x t L)(p k:Nat)(hp:p<t.m.n):kT x t (ad x p) (k:Int)=true↔(L p k/\x.P p=none):=by
 obtain⟨fr,B,s,hN,hL⟩:=s;rw[s.live_iff hN p k hp,hL]
theorem Sn.n{x t L}(s:Sn x t L):t.m.n<=1024/\x.bS+x.n<=9223372036854775808/\t.m.n*4096<=x.n:=by
 obtain⟨fr,B,s,hN,hL⟩:=s;exact⟨s.n1,s.b2,s.nb⟩
end Go.Proofs.YtkfmheelhinjdaaGreatDoor
namespace Go.Proofs.YtkfmheelhinjdaaGreatDoor.W
open Go.RowKit
set_option linter.unusedVariables false
set_option maxHeartbeats 8000000
set_option maxRecDepth 6000
set_option maxHeartbeats 8000000
set_option maxRecDepth 6000
end Go.Proofs.YtkfmheelhinjdaaGreatDoor.W
