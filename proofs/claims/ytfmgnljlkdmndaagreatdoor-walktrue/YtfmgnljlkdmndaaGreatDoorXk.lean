import Derived.Test.YtfmgnljlkdmndaaGreatDoorXn
import Derived.Test.YtfmgnljlkdmndaaGreatDoorXl
set_option maxRecDepth 1000000
set_option maxHeartbeats 80000000
namespace Go.Proofs.YtfmgnljlkdmndaaGreatDoor.M
open Tryz
open Go.RowKit Go.Shelf
set_option linter.unusedVariables false
end Go.Proofs.YtfmgnljlkdmndaaGreatDoor.M
namespace Go.Proofs.YtfmgnljlkdmndaaGreatDoor
open Tryz
open Go.RowKit
set_option linter.unusedVariables false
structure Sd(x:Bx)(t:Bt)(fr:Nat->List Nat)(B:Nat->Nat->Nat->Prop):Prop where
 mo:t.m.o=x.o
 o8:x.o<=8
 dv:∃ r,t.m.n=r*2 ^ x.o
 nb:t.m.n*4096<=x.n
 n1:t.m.n<=1024
 b1 : 1<=x.bS
 b2:x.bS+x.n<=9223372036854775808
 tg:∀ g p k,B g p k->g=0\/g=2\/g=9
 fi:∀ p k,B 0 p k↔(k<=x.o/\p∈fr k)
 al:∀ g p k,B g p k->k<=x.o/\p%2 ^ k=0/\p+2 ^ k<=t.m.n
 ds:∀ g p k h q j,B g p k->B h q j->(g=h/\p=q/\k=j)\/p+2 ^ k<=q\/q+2 ^ j<=p
 cv:∀ i,i<t.m.n->∃ g p k,B g p k/\p<=i/\i<p+2 ^ k
 pg:∀ g p k,B g p k->g≠9->∀ i,p<=i->i<p+2 ^ k->t.m.pg i=(x.P i).getD (aU (if i=p then (g:Int) else (g:Int)+1) (k:Int))
 ch:∀ k,k<=x.o->M.Chn x.bS x.n t.f (t.hd k) ((fr k).map (ad x))
 wl:∀ k,k<x.o->(t.m.wd k).length=(t.m.n/2 ^ (k+1)+63)/64
 bt:∀ k,k<x.o->∀ i,i<t.m.n/2 ^ (k+1)->aE (t.m.wd k) i=(decide (2*i*2 ^ k∈fr k) != decide ((2*i+1)*2 ^ k∈fr k))
 nm:∀ k,k<x.o->∀ i,¬(2*i*2 ^ k∈fr k/\(2*i+1)*2 ^ k∈fr k)
 vs:∀ p q,x.P p=some q->B 2 p 0/\q.kd=4
theorem Sd.pn{x t fr B}(s:Sd x t fr B){g p k:Nat}(hb:B g p k)(h:g=2->k=0->x.P p=none):∀ i,p<=i->i<p+2 ^ k->x.P i=none:=by
 intro i f j
 cases hP:x.P i with
 | none=>rfl
 | some q=>
  exfalso
  have b:=(s.vs i q hP).1;rcases s.ds _ _ _ _ _ _ b hb with ⟨d,c,a⟩|e|e
  ·have:=h d.symm a.symm;rw[<-c,hP] at this
   cases this
  ·omega
  ·omega
theorem Sd.pn9{x t fr B}(s:Sd x t fr B){g p k:Nat}(hb:B g p k)(h:g≠2):∀ i,p<=i->i<p+2 ^ k->x.P i=none:=s.pn hb (fun e=>absurd e h)
def eX(B:Nat->Nat->Nat->Prop)(g p k h:Nat):Nat->Nat->Nat->Prop:=fun a b c=>(B a b c/\¬(a=g/\b=p/\c=k))\/(a=h/\b=p/\c=k)
theorem sM{x t fr B}(s:Sd x t fr B){g p k h:Nat}(hb:B g p k):∀ a b c a' d f,eX B g p k h a b c->eX B g p k h a' d f->(a=a'/\b=d/\c=f)\/b+2 ^ c<=d\/d+2 ^ f<=b:=by
 rintro a b c a' d f (⟨i,l⟩|⟨rfl,rfl,rfl⟩) (⟨j,m⟩|⟨rfl,rfl,rfl⟩)
 ·exact s.ds _ _ _ _ _ _ i j
 ·rcases s.ds _ _ _ _ _ _ i hb with ⟨rfl,rfl,rfl⟩|e
  ·exact absurd ⟨rfl,rfl,rfl⟩ l
  ·exact .inr e
 ·rcases s.ds _ _ _ _ _ _ hb j with ⟨rfl,rfl,rfl⟩|e
  ·exact absurd ⟨rfl,rfl,rfl⟩ m
  ·exact .inr e
 ·exact .inl ⟨rfl,rfl,rfl⟩
theorem sD{x t fr B}(s:Sd x t fr B){g p k h:Nat}(hb:B g p k):∀ a b c,eX B g p k h a b c->c<=x.o/\b%2 ^ c=0/\b+2 ^ c<=t.m.n:=by
 rintro a b c (⟨d,e⟩|⟨rfl,rfl,rfl⟩)
 ·exact s.al _ _ _ d
 ·exact s.al _ _ _ hb
theorem sC{x t fr B}(s:Sd x t fr B){g p k h:Nat}(hb:B g p k):∀ i,i<t.m.n->∃ a b c,eX B g p k h a b c/\b<=i/\i<b+2 ^ c:=by
 intro i hi;obtain⟨a,b,c,j,f,d⟩:=s.cv i hi;by_cases e:a=g/\b=p/\c=k
 ·obtain⟨rfl,rfl,rfl⟩:=e;exact⟨h,b,c,.inr ⟨rfl,rfl,rfl⟩,f,d⟩
 ·exact⟨a,b,c,.inl ⟨j,e⟩,f,d⟩
theorem Sd.die{x t fr B}(s:Sd x t fr B){p k:Nat}(hb:B 2 p k)(i:x.P p=none):Sd x t fr (eX B 2 p k 9):=by
 refine⟨s.mo,s.o8,s.dv,s.nb,s.n1,s.b1,s.b2,?_,?_,sD s hb,sM s hb,sC s hb,?_,s.ch,s.wl,s.bt,s.nm,fun q r h=>⟨.inl ⟨(s.vs q r h).1,fun e=>by
   rw[e.2.1,i] at h
   cases h⟩,(s.vs q r h).2⟩⟩
 ·rintro a b c (⟨d,g⟩|⟨rfl,rfl,rfl⟩)
  ·exact s.tg _ _ _ d
  ·exact .inr (.inr rfl)
 ·intro q j;rw[<-s.fi q j];constructor
  ·rintro (⟨d,g⟩|⟨e,_⟩)
   ·exact d
   ·omega
  ·exact fun d=>.inl ⟨d,fun e=>by omega⟩
 ·rintro a b c (⟨d,g⟩|⟨rfl,rfl,rfl⟩) f
  ·exact s.pg _ _ _ d f
  ·exact absurd rfl f
theorem wI{x t fr B}(s:Sd x t fr B){g p k:Nat}(hb:B g p k)(kd:Int)(a:kd=0\/kd=2):cH t.m (p:Int) (k:Int) kd={ t.m with pg:=fG t.m.pg p k kd }:=by
 obtain⟨c,b,d⟩:=s.al _ _ _ hb;have hp : 0<2 ^ k:=ap (by decide);have c1:decide ((kd=0\/kd=2)/\0<=(k:Int)/\(k:Int)<=t.m.o)=true:=af ⟨a,by omega,by rw[s.mo];omega⟩;have c2:aD t.m.n (p:Int)=true:=af ⟨by omega,by omega⟩;have c3:decide ((p:Int)%2 ^ (k:Int).toNat=0)=true:=af (by rw[aa,show(2:Int) ^ k=((2 ^ k:Nat):Int)by simp,<-Int.natCast_emod,b];rfl)
 unfold cH;rw[show jR t.m (p:Int) (k:Int) kd=true by unfold jR;rw[c1,c2,c3];rfl,ae rfl];simp
theorem Sd.paint{x t fr B}(s:Sd x t fr B){p k:Nat}(hb:B 9 p k)(g:Nat)(hg:g=0\/g=2):
  ∀ a b c,eX B 9 p k g a b c->a≠9->∀ i,b<=i->i<b+2 ^ c->(cQ t p k (g:Int)).m.pg i=(x.P i).getD (aU (if i=b then (a:Int) else (a:Int)+1) (c:Int)):=by
 intro a b c l j i f d;show(cH t.m (p:Int) (k:Int) (g:Int)).pg i=_
 rw[wI s hb (g:Int) (by omega)];show fG t.m.pg p k (g:Int) i=_
 unfold fG;rcases l with ⟨h,n⟩|⟨rfl,rfl,rfl⟩
 ·have hd:=s.ds _ _ _ _ _ _ hb h;have hp : 0<2 ^ k:=ap (by decide);rw[ac (by omega),ac (by omega)];exact s.pg _ _ _ h j i f d
 ·rw[s.pn9 hb (by decide) i f d,Option.getD_none];by_cases e:i=b
  ·rw[ae e,ae e]
  ·rw[ac e,ac e,ae ⟨by omega,d⟩]
theorem Sd.live{x t fr B}(s:Sd x t fr B){p k:Nat}(hb:B 9 p k):Sd x (cQ t p k 2) fr (eX B 9 p k 2):=by
 have f:=wI s hb 2 (.inr rfl);have e:cQ t p k 2={ t with m:={ t.m with pg:=fG t.m.pg p k 2 } }:=by unfold cQ;rw[f]
 have pt:=s.paint hb 2 (.inr rfl);rw[show((2:Nat):Int)=2 from rfl,e] at pt;rw[e];refine⟨s.mo,s.o8,s.dv,s.nb,s.n1,s.b1,s.b2,?_,?_,sD s hb,sM s hb,sC s hb,pt,s.ch,s.wl,s.bt,s.nm,fun q r h=>⟨.inl ⟨(s.vs q r h).1,fun e=>by omega⟩,(s.vs q r h).2⟩⟩
 ·rintro a b c (⟨d,g⟩|⟨rfl,rfl,rfl⟩)
  ·exact s.tg _ _ _ d
  ·exact .inr (.inl rfl)
 ·intro q j;rw[<-s.fi q j];constructor
  ·rintro (⟨d,g⟩|⟨e,_⟩)
   ·exact d
   ·omega
  ·exact fun d=>.inl ⟨d,fun e=>by omega⟩
theorem tV{p k:Nat}(hp:p<2 ^ 62)(q:k<=8)(n:p%2 ^ k=0):
  (p%2 ^ (k+1)=0/\aX p k=p+2 ^ k/\dV p k=p)\/(2 ^ k<=p/\(p-2 ^ k)%2 ^ (k+1)=0/\aX p k=p-2 ^ k/\dV p k=p-2 ^ k):=by
 have hz : 0<2 ^ k:=ap (by decide);have g : 2 ^ (k+1)=2*2 ^ k:=by rw[ci,aq]
 obtain⟨c,hc⟩:∃ c,p=c*2 ^ k:=⟨p/2 ^ k,by have:=Nat.div_add_mod p (2 ^ k);rw[n,Nat.add_zero,aq] at this;exact this.symm⟩;have a:p/2 ^ k=c:=by rw[hc,dg _ hz]
 have b:∀ i,(dV p k).testBit i=(p.testBit i && decide (i≠k)):=fun i=>by
  have j : 2 ^ k<2 ^ 64:=Nat.pow_lt_pow_right (by decide) (by omega);unfold dV;rw[show 18446744073709551615-2 ^ k=2 ^ 64-(2 ^ k+1)by omega,Nat.testBit_and,Nat.testBit_two_pow_sub_succ j,Nat.testBit_two_pow];by_cases e:i<64
  ·by_cases d:k=i
   ·simp[e,d]
   ·have o:i≠k:=fun h=>d h.symm
    simp[e,d,o]
  ·have:p.testBit i=false:=Nat.testBit_lt_two_pow (bg hp (bj (by decide) (by omega)));rw[this];simp
 have f:p.testBit k=decide (c%2=1):=by rw[Nat.testBit_eq_decide_div_mod_eq,a]
 rcases Nat.mod_two_eq_zero_or_one c with h0|h0
 ·left
  refine⟨?_,vA k p (by rw[a];exact h0),?_⟩
  ·rw[g,hc,aq 2,aq c,Nat.mul_mod_mul_left,h0,Nat.mul_zero]
  ·apply Nat.eq_of_testBit_eq
   intro i;rw[b];by_cases e:i=k
   ·subst e;rw[f,h0];rfl
   ·simp[e]
 ·right
  obtain⟨m,l⟩:=zkr k p (by rw[a];exact h0);refine⟨m,?_,l,?_⟩
  ·rw[hc,show c*2 ^ k-2 ^ k=(c-1)*2 ^ k by rw[Nat.sub_mul,aL],g,aq 2,aq (c-1),Nat.mul_mod_mul_left,show(c-1)%2=0 by omega,Nat.mul_zero]
  ·rw[<-l];apply Nat.eq_of_testBit_eq
   intro i;rw[b,Nat.testBit_xor,Nat.testBit_two_pow];by_cases e:i=k
   ·subst e;rw[f,h0];simp
   ·have d:¬k=i:=fun h=>e h.symm
    simp[e,d]
def oP(B:Nat->Nat->Nat->Prop)(p k:Nat):Nat->Nat->Nat->Prop:=fun a b c=>(B a b c/\¬(a=9/\b=p/\c=k+1))\/(a=9/\b=p/\c=k)\/(a=9/\b=p+2 ^ k/\c=k)
theorem zkk{p k:Nat}(h:p%2 ^ (k+1)=0):p%2 ^ k=0/\(p+2 ^ k)%2 ^ k=0:=by
 have a:p%2 ^ k=0:=by have : 2 ^ k ∣ p:=Nat.dvd_trans ⟨2,by rw[ci]⟩ (cz h);exact Nat.mod_eq_zero_of_dvd this
 exact⟨a,by rw[Nat.add_mod_right];exact a⟩
theorem Sd.split{x t fr B}(s:Sd x t fr B){p k:Nat}(hb:B 9 p (k+1)):Sd x t fr (oP B p k):=by
 obtain⟨D,w,z⟩:=s.al _ _ _ hb;have y : 2 ^ (k+1)=2 ^ k+2 ^ k:=by rw[ci];omega
 have hz : 0<2 ^ k:=ap (by decide);obtain⟨o,u⟩:=zkk w;refine⟨s.mo,s.o8,s.dv,s.nb,s.n1,s.b1,s.b2,?_,?_,?_,?_,?_,?_,s.ch,s.wl,s.bt,s.nm,fun q r h=>⟨.inl ⟨(s.vs q r h).1,fun e=>by omega⟩,(s.vs q r h).2⟩⟩
 ·rintro a b c (⟨d,f⟩|⟨rfl,rfl,rfl⟩|⟨rfl,rfl,rfl⟩)
  ·exact s.tg _ _ _ d
  ·exact .inr (.inr rfl)
  ·exact .inr (.inr rfl)
 ·intro q j;rw[<-s.fi q j];constructor
  ·rintro (⟨d,f⟩|⟨e,_⟩|⟨e,_⟩)
   ·exact d
   ·omega
   ·omega
  ·exact fun d=>.inl ⟨d,fun e=>by omega⟩
 ·rintro a b c (⟨d,f⟩|⟨rfl,rfl,rfl⟩|⟨rfl,rfl,rfl⟩)
  ·exact s.al _ _ _ d
  ·exact⟨by omega,o,by omega⟩
  ·exact⟨by omega,u,by omega⟩
 ·have g:∀ a b c,B a b c->¬(a=9/\b=p/\c=k+1)->b+2 ^ c<=p\/p+2 ^ (k+1)<=b:=fun a b c d f=>by
   rcases s.ds _ _ _ _ _ _ d hb with e|e
   ·exact absurd e f
   ·exact e
  rintro a b c a' A C (⟨d,f⟩|⟨rfl,rfl,rfl⟩|⟨rfl,rfl,rfl⟩) (⟨l,n⟩|⟨rfl,rfl,rfl⟩|⟨rfl,rfl,rfl⟩)
  ·exact s.ds _ _ _ _ _ _ d l
  ·have:=g _ _ _ d f;right;omega
  ·have:=g _ _ _ d f;right;omega
  ·have:=g _ _ _ l n;right;omega
  ·exact .inl ⟨rfl,rfl,rfl⟩
  ·right;omega
  ·have:=g _ _ _ l n;right;omega
  ·right;omega
  ·exact .inl ⟨rfl,rfl,rfl⟩
 ·intro i hi;obtain⟨a,b,c,d,f,l⟩:=s.cv i hi;by_cases e:a=9/\b=p/\c=k+1
  ·obtain⟨rfl,rfl,rfl⟩:=e;by_cases v:i<b+2 ^ k
   ·exact⟨9,b,k,.inr (.inl ⟨rfl,rfl,rfl⟩),f,v⟩
   ·exact⟨9,b+2 ^ k,k,.inr (.inr ⟨rfl,rfl,rfl⟩),by omega,by omega⟩
  ·exact⟨a,b,c,.inl ⟨d,e⟩,f,l⟩
 ·rintro a b c (⟨d,f⟩|⟨rfl,rfl,rfl⟩|⟨rfl,rfl,rfl⟩) m
  ·exact s.pg _ _ _ d m
  ·exact absurd rfl m
  ·exact absurd rfl m
def OH(B:Nat->Nat->Nat->Prop)(p k:Nat):Nat->Nat->Nat->Prop:=fun a b c=>(B a b c/\¬(a=9/\b=p/\c=k)/\¬(a=9/\b=p+2 ^ k/\c=k))\/(a=9/\b=p/\c=k+1)
theorem Sd.unite{x t fr B}(s:Sd x t fr B){p k:Nat}(hb:B 9 p k)(hc:B 9 (p+2 ^ k) k)(u:p%2 ^ (k+1)=0)(E:k<x.o):Sd x t fr (OH B p k):=by
 obtain⟨G,I,y⟩:=s.al _ _ _ hb;obtain⟨D,C,z⟩:=s.al _ _ _ hc;have w : 2 ^ (k+1)=2 ^ k+2 ^ k:=by rw[ci];omega
 have hz : 0<2 ^ k:=ap (by decide);refine⟨s.mo,s.o8,s.dv,s.nb,s.n1,s.b1,s.b2,?_,?_,?_,?_,?_,?_,s.ch,s.wl,s.bt,s.nm,fun q r h=>⟨.inl ⟨(s.vs q r h).1,fun e=>by omega,fun e=>by omega⟩,(s.vs q r h).2⟩⟩
 ·rintro a b c (⟨d,f⟩|⟨rfl,rfl,rfl⟩)
  ·exact s.tg _ _ _ d
  ·exact .inr (.inr rfl)
 ·intro q j;rw[<-s.fi q j];constructor
  ·rintro (⟨d,f⟩|⟨e,_⟩)
   ·exact d
   ·omega
  ·exact fun d=>.inl ⟨d,fun e=>by omega,fun e=>by omega⟩
 ·rintro a b c (⟨d,f⟩|⟨rfl,rfl,rfl⟩)
  ·exact s.al _ _ _ d
  ·exact⟨by omega,u,by omega⟩
 ·have g:∀ a b c,B a b c->¬(a=9/\b=p/\c=k)/\¬(a=9/\b=p+2 ^ k/\c=k)->b+2 ^ c<=p\/p+2 ^ (k+1)<=b:=fun a b c d f=>by
   have hq : 0<2 ^ c:=ap (by decide);rcases s.ds _ _ _ _ _ _ d hb with e|e
   ·exact absurd e f.1
   ·rcases s.ds _ _ _ _ _ _ d hc with l|l
    ·exact absurd l f.2
    ·omega
  rintro a b c a' A F (⟨d,f⟩|⟨rfl,rfl,rfl⟩) (⟨m,v⟩|⟨rfl,rfl,rfl⟩)
  ·exact s.ds _ _ _ _ _ _ d m
  ·right;exact g _ _ _ d f
  ·have:=g _ _ _ m v;right;omega
  ·exact .inl ⟨rfl,rfl,rfl⟩
 ·intro i hi;obtain⟨a,b,c,d,f,m⟩:=s.cv i hi;by_cases e:a=9/\b=p/\c=k
  ·obtain⟨rfl,rfl,rfl⟩:=e;exact⟨9,b,c+1,.inr ⟨rfl,rfl,rfl⟩,f,by omega⟩
  ·by_cases l:a=9/\b=p+2 ^ k/\c=k
   ·obtain⟨rfl,rfl,rfl⟩:=l;exact⟨9,p,c+1,.inr ⟨rfl,rfl,rfl⟩,by omega,by omega⟩
   ·exact⟨a,b,c,.inl ⟨d,e,l⟩,f,m⟩
 ·rintro a b c (⟨d,f⟩|⟨rfl,rfl,rfl⟩) n
  ·exact s.pg _ _ _ d n
  ·exact absurd rfl n
theorem GJ{n o a c:Nat}(hd:∃ r,n=r*2 ^ o)(ha:a<o)(hc:c<n):c/2 ^ (a+1)<n/2 ^ (a+1):=by
 obtain⟨r,f⟩:=hd;obtain⟨d,rfl⟩:∃ d,o=(a+1)+d:=⟨o-(a+1),by omega⟩;have e:n=r*2 ^ d*2 ^ (a+1):=by rw[f,Nat.pow_add,aq (2 ^ (a+1)),cx]
 have b : 0<2 ^ (a+1):=ap (by decide);rw[e,dg _ b];rw[e] at hc;exact Nat.div_lt_of_lt_mul (by rw[aq];exact hc)
theorem GI(m:Mp)(k p:Nat)(a:¬k<m.o):fJ m (k:Int) (p:Int)=m:=by
 have:dW m (k:Int) (p:Int)=false:=by unfold dW;rw[show aD m.o (k:Int)=false from ah (fun e=>by omega),Bool.false_and]
 simp[fJ,this]
theorem zjM(m:Mp)(k p:Nat)(c:k<m.o)(hp:p<m.n)(a:p/2 ^ (k+1)<m.n/2 ^ (k+1)):fJ m (k:Int) (p:Int)={ m with wd:=fX m.wd k (kK (m.wd k) (p/2 ^ (k+1))) }:=by
 have b:dW m (k:Int) (p:Int)=true:=by unfold dW;rw[dQ c,dQ hp];rfl
 have d:aD (m.n/2 ^ (k+1)) ((p/2 ^ (k+1):Nat):Int)=true:=dQ a;unfold fJ;rw[ae b];simp only[nY,nX,aa];unfold gI;rw[ae d,aa]
theorem DJ{p k:Nat}(a:p%2 ^ k=0):p=2*(p/2 ^ (k+1))*2 ^ k\/p=(2*(p/2 ^ (k+1))+1)*2 ^ k:=by
 have hz : 0<2 ^ k:=ap (by decide);obtain⟨c,hc⟩:∃ c,p=c*2 ^ k:=⟨p/2 ^ k,by have:=Nat.div_add_mod p (2 ^ k);rw[a,Nat.add_zero,aq] at this;exact this.symm⟩;have hd:p/2 ^ (k+1)=c/2:=by rw[ci,<-Nat.div_div_eq_div_mul,hc,dg _ hz]
 rw[hd];rcases Nat.mod_two_eq_zero_or_one c with h|h
 ·left;rw[show 2*(c/2)=c by omega];exact hc
 ·right;rw[show 2*(c/2)+1=c by omega];exact hc
theorem sQ(i k:Nat) : 2*i*2 ^ k/2 ^ (k+1)=i/\(2*i+1)*2 ^ k/2 ^ (k+1)=i/\2*i*2 ^ k≠(2*i+1)*2 ^ k:=by have hz : 0<2 ^ k:=ap (by decide);rw[ci,<-Nat.div_div_eq_div_mul,<-Nat.div_div_eq_div_mul,dg _ hz,dg _ hz];refine⟨by omega,by omega,fun e=>?_⟩;have:=Nat.eq_of_mul_eq_mul_right hz e;omega
theorem Sd.cell{x t fr B}(s:Sd x t fr B){g p k:Nat}(hb:B g p k):M.IsCell x.bS x.n (ad x p):=by obtain⟨a,c,b⟩:=s.al _ _ _ hb;have hz : 0<2 ^ k:=ap (by decide);have:=s.nb;have:=s.b1;have:=s.b2;unfold M.IsCell ad;omega
theorem AM{x:Bx}{p q:Nat}(h:ad x p=ad x q):p=q:=by unfold ad at h;omega
theorem pU{x:Bx}{p:Nat}{l:List Nat} : ad x p∈l.map (ad x)↔p∈l:=by
 rw[List.mem_map];constructor
 ·rintro ⟨q,a,b⟩;rw[<-AM b];exact a
 ·exact fun h=>⟨p,h,rfl⟩
theorem Sd.one{x t fr B}(s:Sd x t fr B){g p k j:Nat}(hb:B g p k)(c:j<=x.o)(a:p∈fr j):g=0/\k=j:=by
 have hz : 0<2 ^ k:=ap (by decide);have f : 0<2 ^ j:=ap (by decide);rcases s.ds _ _ _ _ _ _ hb ((s.fi p j).2 ⟨c,a⟩)with ⟨d,_,b⟩|e|e
 ·exact⟨d,b⟩
 ·omega
 ·omega
def cK(fr:Nat->List Nat)(k:Nat)(l:List Nat):Nat->List Nat:=fun j=>if j=k then l else fr j
theorem AJ{x t fr B}(s:Sd x t fr B){f':Nat->Nat}{l l2:List Nat}{k a:Nat}(hs:M.Same x.bS x.n t.f f' (l.map (ad x)))(hl:∀ j q,j≠k->j<=x.o->q∈fr j->q ∉ l)(hc:M.Chn x.bS x.n f' a (l2.map (ad x))):
  ∀ j,j<=x.o->M.Chn x.bS x.n f' (lO t.hd k a j) ((cK fr k l2 j).map (ad x)):=by
 intro j b;unfold lO cK;by_cases e:j=k
 ·rw[ae e,ae e];exact hc
 ·rw[ac e,ac e];refine(s.ch j b).congr (fun y hy=>?_);obtain⟨q,hq,rfl⟩:=List.mem_map.1 hy;exact hs _ (s.cell ((s.fi q j).2 ⟨b,hq⟩)) (fun c=>hl j q e b hq (pU.1 c))
theorem JV{x t fr B}(s:Sd x t fr B){g p k q:Nat}(hb:B g p k)(hq:q<t.m.n)(y:q/2 ^ (k+1)=p/2 ^ (k+1))(l:List Nat)(hl:∀ r,r≠p->(r∈l↔r∈fr k))(C:p∈l↔p ∉ fr k)(b:Mp)(h:b.o=t.m.o)(u:b.n=t.m.n)(w:b.wd=t.m.wd):
  (fJ b (k:Int) (q:Int)).o=t.m.o/\(fJ b (k:Int) (q:Int)).n=t.m.n/\(fJ b (k:Int) (q:Int)).pg=b.pg/\(∀ j,j<x.o->((fJ b (k:Int) (q:Int)).wd j).length=(t.m.n/2 ^ (j+1)+63)/64)/\(∀ j,j<x.o->∀ i,i<t.m.n/2 ^ (j+1)->aE ((fJ b (k:Int) (q:Int)).wd j) i=(decide (2*i*2 ^ j∈cK fr k l j) != decide ((2*i+1)*2 ^ j∈cK fr k l j))):=by
 obtain⟨J,G,I⟩:=s.al _ _ _ hb;by_cases z:k<x.o
 ·have v:q/2 ^ (k+1)<t.m.n/2 ^ (k+1):=GJ s.dv z hq;rw[zjM b k q (by rw[h,s.mo];exact z) (by rw[u];exact hq) (by rw[u];exact v),w];refine⟨h,u,rfl,fun j a=>?_,fun j a i hi=>?_⟩
  ·show(fX t.m.wd k _ j).length=_
   unfold fX;by_cases e:j=k
   ·subst e;rw[ae rfl,JO];exact s.wl j a
   ·rw[ac e];exact s.wl j a
  ·show aE (fX t.m.wd k _ j) i=_
   unfold fX cK;by_cases e:j=k
   ·subst e;rw[ae rfl,ae rfl,qT _ _ _ (by rw[s.wl j a];omega),y];obtain⟨F,E,D⟩:=sQ i j;by_cases c:i=p/2 ^ (j+1)
    ·rw[ae c];have A:=s.bt j a i hi;rw[<-c,A];have hz:=DJ G;rw[<-c] at hz;rcases hz with hz|hz
     ·have f:(2*i*2 ^ j∈l↔2*i*2 ^ j ∉ fr j):=(by rw[<-hz];exact C);have d:=hl ((2*i+1)*2 ^ j) (by rw[hz];exact fun e=>D e.symm);by_cases c1 : 2*i*2 ^ j∈fr j <;> by_cases c2:(2*i+1)*2 ^ j∈fr j <;> simp[c1,c2,f,d]
     ·have f:((2*i+1)*2 ^ j∈l↔(2*i+1)*2 ^ j ∉ fr j):=(by rw[<-hz];exact C);have d:=hl (2*i*2 ^ j) (by rw[hz];exact D);by_cases c1 : 2*i*2 ^ j∈fr j <;> by_cases c2:(2*i+1)*2 ^ j∈fr j <;> simp[c1,c2,f,d]
    ·rw[ac c,s.bt j a i hi];have f:=hl (2*i*2 ^ j) (fun e=>c (by rw[<-e,F]));have d:=hl ((2*i+1)*2 ^ j) (fun e=>c (by rw[<-e,E]));simp[f,d]
   ·rw[ac e,ac e];exact s.bt j a i hi
 ·rw[GI b k q (by rw[h,s.mo];exact z)];refine⟨h,u,rfl,fun j a=>by rw[w];exact s.wl j a,fun j a i hi=>?_⟩;rw[w];unfold cK;rw[ac (by omega)];exact s.bt j a i hi
theorem Sd.enter{x t fr B}(s:Sd x t fr B){p k:Nat}(hb:B 9 p k)(D:k<x.o->∀ i,i=p/2 ^ (k+1)->(p=2*i*2 ^ k->(2*i+1)*2 ^ k ∉ fr k)/\(p=(2*i+1)*2 ^ k->2*i*2 ^ k ∉ fr k)):
  iG x t p k=0/\Sd x (fF x t p k) (cK fr k (p :: fr k)) (eX B 9 p k 0):=by
 obtain⟨C,S,R⟩:=s.al _ _ _ hb;have hz : 0<2 ^ k:=ap (by decide);have z:∀ j,j<=x.o->p ∉ fr j:=fun j d y=>by have:=(s.one hb d y).1;omega
 obtain⟨c1,c2,c3⟩:=(s.ch k C).push (ad x p) (s.cell hb) (fun e=>z k C (pU.1 e));have E:oJ x t p k=0:=c1;have y:=wI s hb 0 (.inl rfl);obtain⟨b1,b2,b3,N,I⟩:=JV s hb (q:=p) (by omega) rfl (p :: fr k) (fun r L=>by simp[L]) (by simp[z k C]) (cH t.m (p:Int) (k:Int) 0) (BA _ _ _ _) (by rw[y]) (by rw[y]);have pt:=s.paint hb 0 (.inl rfl);have e:fF x t p k=⟨(M.pushR x.bS x.n t.f (t.hd k) (ad x p)).1,fJ (cH t.m (p:Int) (k:Int) 0) (k:Int) (p:Int),lO t.hd k (M.pushR x.bS x.n t.f (t.hd k) (ad x p)).2.1⟩:=by unfold fF;rw[ae E];rfl
 refine⟨by unfold iG;rw[ae E],?_⟩;rw[e];refine⟨b1.trans s.mo,s.o8,by rw[b2];exact s.dv,by rw[b2];exact s.nb,by rw[b2];exact s.n1,s.b1,s.b2,?_,?_,fun a b c h=>by rw[b2];exact sD s hb a b c h,sM s hb,fun i hi=>sC s hb i (by rw[b2] at hi;exact hi),fun a b c h G i w u=>?_,AJ s (l:=p :: fr k) c3 (fun j q d A hq y=>?_) c2,fun j d=>by rw[b2];exact N j d,fun j d i hi=>I j d i (by rw[b2] at hi;exact hi),?_,fun q r h=>⟨.inl ⟨(s.vs q r h).1,fun e=>by omega⟩,(s.vs q r h).2⟩⟩
 ·rintro a b c (⟨w,u⟩|⟨rfl,rfl,rfl⟩)
  ·exact s.tg _ _ _ w
  ·exact .inl rfl
 ·intro q j;unfold cK;constructor
  ·rintro (⟨w,u⟩|⟨_,rfl,rfl⟩)
   ·have:=(s.fi q j).1 w;refine⟨this.1,?_⟩;by_cases e:j=k
    ·rw[ae e];subst e;exact List.mem_cons_of_mem _ this.2
    ·rw[ac e];exact this.2
   ·exact⟨C,by rw[ae rfl];exact aw⟩
  ·rintro ⟨w,u⟩;by_cases e:j=k
   ·rw[ae e] at u;subst e;rcases List.mem_cons.1 u with rfl|u
    ·exact .inr ⟨rfl,rfl,rfl⟩
    ·exact .inl ⟨(s.fi q j).2 ⟨w,u⟩,fun e=>by omega⟩
   ·rw[ac e] at u;exact .inl ⟨(s.fi q j).2 ⟨w,u⟩,fun e=>by omega⟩
 ·rw[b3];exact pt a b c h G i w u
 ·rcases List.mem_cons.1 y with rfl|y
  ·exact z j A hq
  ·exact d ((s.one ((s.fi q j).2 ⟨A,hq⟩) C y).2)
 ·intro j d i;unfold cK;by_cases e:j=k
  ·subst e;rw[ae rfl];rintro ⟨v,g⟩;obtain⟨F,K,J⟩:=sQ i j;rcases List.mem_cons.1 v with v|v
   ·have:=(D d i (by rw[<-v,F])).1 v.symm;rcases List.mem_cons.1 g with g|g
    ·exact J (v.trans g.symm)
    ·exact this g
   ·rcases List.mem_cons.1 g with g|g
    ·exact(D d i (by rw[<-g,K])).2 g.symm v
    ·exact s.nm j d i ⟨v,g⟩
  ·rw[ac e];exact s.nm j d i
def Kp(x:Bx)(t t':Bt)(G:Nat->Prop):Prop:=∀ c,M.IsCell x.bS x.n c->G ((c-x.bS)/4096)->M.nx x.bS t'.f c=M.nx x.bS t.f c/\M.pv x.bS t'.f c=M.pv x.bS t.f c
theorem Kp.refl(x:Bx)(t:Bt)(G:Nat->Prop):Kp x t t G:=fun _ _ _=>⟨rfl,rfl⟩
theorem Kp.mono{x t t'}{G a:Nat->Prop}(h:Kp x t t' G)(d:∀ g,a g->G g):Kp x t t' a:=fun c b e=>h c b (d _ e)
theorem Kp.trans{x t t1 t2}{G:Nat->Prop}(d:Kp x t t1 G)(e:Kp x t1 t2 G):Kp x t t2 G:=fun c a b=>⟨(e c a b).1.trans (d c a b).1,(e c a b).2.trans (d c a b).2⟩
theorem Kp.to{x t t' t''}{G:Nat->Prop}(h:Kp x t t' G)(hf:t''.f=t'.f):Kp x t t'' G:=by unfold Kp;rw[hf];exact h
theorem VM(x:Bx)(q:Nat):(ad x q-x.bS)/4096=q:=by unfold ad;omega
theorem Kp.of{x:Bx}{t a:Bt}{l:List Nat}(h:M.Same x.bS x.n t.f a.f (l.map (ad x))):Kp x t a (fun g=>g ∉ l):=fun c e b=>h c e (fun d=>by obtain⟨q,hq,rfl⟩:=List.mem_map.1 d;rw[VM] at b;exact b hq)
theorem Sd.enterK{x t fr B}(s:Sd x t fr B){p k:Nat}(hb:B 9 p k):Kp x t (fF x t p k) (fun g=>g ∉ p :: fr k):=by
 obtain⟨b,i,h⟩:=s.al _ _ _ hb;have a:∀ j,j<=x.o->p ∉ fr j:=fun j d c=>by have:=(s.one hb d c).1;omega
 obtain⟨c1,c2,c3⟩:=(s.ch k b).push (ad x p) (s.cell hb) (fun e=>a k b (pU.1 e));have f:oJ x t p k=0:=c1;refine Kp.of ?_;unfold fF;rw[ae f];exact c3
theorem ZM(x:Bx)(l:List Nat)(p:Nat):M.dropL (l.map (ad x)) (ad x p)=(M.dropL l p).map (ad x):=by
 unfold M.dropL;rw[List.filter_map];congr 1
 apply List.filter_congr
 intro q _;show decide (ad x q≠ad x p)=decide (q≠p)
 apply decide_eq_decide.2
 exact⟨fun h e=>h (by rw[e]),fun h e=>h (AM e)⟩
theorem jT{l:List Nat}{p q:Nat} : q∈M.dropL l p↔q∈l/\q≠p:=by unfold M.dropL;rw[List.mem_filter];simp
theorem Sd.leave{x t fr B}(s:Sd x t fr B){p k q:Nat}(z:k<=x.o)(hp:p∈fr k)(hq:q<t.m.n)(w:q/2 ^ (k+1)=p/2 ^ (k+1)):
  iN x t p k=0/\Sd x (fU (cL x t p k) (q:Int) (k:Int)) (cK fr k (M.dropL (fr k) p)) (eX B 0 p k 9):=by
 have hb:B 0 p k:=(s.fi p k).2 ⟨z,hp⟩;obtain⟨R,S,N⟩:=s.al _ _ _ hb;obtain⟨F,y,D⟩:=M.mem_getD (pU (x:=x).2 hp);obtain⟨c1,c2,c3⟩:=(s.ch k z).remove F y;rw[D] at c1 c2 c3;rw[ZM] at c2;have K:iN x t p k=0:=c1;obtain⟨b1,b2,b3,L,G⟩:=JV s hb hq w (M.dropL (fr k) p) (fun r A=>by rw[jT];exact⟨fun h=>h.1,fun h=>⟨h,A⟩⟩) (by rw[jT];exact⟨fun h=>absurd rfl h.2,fun h=>absurd hp h⟩) t.m rfl rfl rfl;refine⟨K,?_⟩;have e:fU (cL x t p k) (q:Int) (k:Int)=⟨(M.removeR x.bS x.n t.f (t.hd k) (ad x p)).1,fJ t.m (k:Int) (q:Int),lO t.hd k (M.removeR x.bS x.n t.f (t.hd k) (ad x p)).2.1⟩:=rfl;rw[e];refine⟨b1.trans s.mo,s.o8,by rw[b2];exact s.dv,by rw[b2];exact s.nb,by rw[b2];exact s.n1,s.b1,s.b2,?_,?_,fun a b c h=>by rw[b2];exact sD s hb a b c h,sM s hb,fun i hi=>sC s hb i (by rw[b2] at hi;exact hi),fun a b c h C i g d=>?_,AJ s (l:=fr k) c3 (fun j r u v A J=>u ((s.one ((s.fi r j).2 ⟨v,A⟩) z J).2)) c2,fun j u=>by rw[b2];exact L j u,fun j u i hi=>G j u i (by rw[b2] at hi;exact hi),?_,fun q r h=>⟨.inl ⟨(s.vs q r h).1,fun e=>by omega⟩,(s.vs q r h).2⟩⟩
 ·rintro a b c (⟨g,d⟩|⟨rfl,rfl,rfl⟩)
  ·exact s.tg _ _ _ g
  ·exact .inr (.inr rfl)
 ·intro r j;unfold cK;constructor
  ·rintro (⟨g,d⟩|⟨e,_⟩)
   ·have:=(s.fi r j).1 g;refine⟨this.1,?_⟩;by_cases e:j=k
    ·rw[ae e,jT];subst e;exact⟨this.2,fun e=>d ⟨rfl,e,rfl⟩⟩
    ·rw[ac e];exact this.2
   ·omega
  ·rintro ⟨g,d⟩;by_cases e:j=k
   ·rw[ae e,jT] at d;subst e;exact .inl ⟨(s.fi r j).2 ⟨g,d.1⟩,fun e=>d.2 e.2.1⟩
   ·rw[ac e] at d;exact .inl ⟨(s.fi r j).2 ⟨g,d⟩,fun I=>e I.2.2⟩
 ·rw[b3];rcases h with ⟨E,T⟩|⟨rfl,rfl,rfl⟩
  ·exact s.pg a b c E C i g d
  ·exact absurd rfl C
 ·intro j u i;unfold cK;by_cases e:j=k
  ·subst e;rw[ae rfl,jT,jT];exact fun h=>s.nm j u i ⟨h.1.1,h.2.1⟩
  ·rw[ac e];exact s.nm j u i
theorem Sd.leaveK{x t fr B}(s:Sd x t fr B){p k:Nat}(d:k<=x.o)(hp:p∈fr k):Kp x t (cL x t p k) (fun g=>g ∉ fr k):=by obtain⟨b,a,c⟩:=M.mem_getD (pU (x:=x).2 hp);obtain⟨c1,c2,c3⟩:=(s.ch k d).remove b a;rw[c] at c3;exact Kp.of c3
theorem Sd.pop{x t fr B}(s:Sd x t fr B){p k:Nat}{l:List Nat}(a:k<=x.o)(hl:fr k=p :: l):t.hd k=ad x p/\kR x t k=0/\iO x t k=cL x t p k:=by
 have hp:p∈fr k:=by rw[hl];exact aw
 have hb:B 0 p k:=(s.fi p k).2 ⟨a,hp⟩;have b:t.hd k=ad x p:=by rw[(s.ch k a).head,hl];rfl
 obtain⟨r1,_⟩:=s.leave a hp (q:=p) (by have:=(s.al _ _ _ hb).2.2;have hz : 0<2 ^ k:=ap (by decide);omega) rfl;have r1:(M.removeR x.bS x.n t.f (t.hd k) (ad x p)).2.2=0:=r1;have h0:ad x p≠0:=(s.cell hb).ne0;have e:M.popR x.bS x.n t.f (t.hd k)=((M.removeR x.bS x.n t.f (t.hd k) (ad x p)).1,(M.removeR x.bS x.n t.f (t.hd k) (ad x p)).2.1,ad x p,0):=by unfold M.popR;rw[b] at r1 ⊢;rw[ac h0,ae r1]
 refine⟨b,?_,?_⟩
 ·unfold kR;rw[e]
 ·unfold iO cL;rw[e]
theorem Sd.cut{x}(p a:Nat):∀ (d:Nat) {t fr B},Sd x t fr B->B 9 p (a+d)->∃ n b c,fI x p a d t=(n,a,0)/\Sd x n b c/\c 9 p a/\(∀ j,b j=if a<=j/\j<a+d then (p+2 ^ j) :: fr j else fr j)/\(∀ q j,c 2 q j↔B 2 q j)/\(∀ q j,c 9 q j↔(B 9 q j/\¬(q=p/\j=a+d))\/(q=p/\j=a))/\Kp x t n (fun g=>∀ j,j<=x.o->g ∉ b j)
 | 0,t,fr,B,s,hb=>⟨t,fr,B,rfl,s,hb,fun j=>by rw[ac (by omega)],fun _ _=>Iff.rfl,fun q j=>by
   constructor
   ·intro h;by_cases e:q=p/\j=a
    ·exact .inr e
    ·exact .inl ⟨h,e⟩
   ·rintro (h|⟨rfl,rfl⟩)
    ·exact h.1
    ·exact hb,Kp.refl _ _ _⟩
 | d+1,t,fr,B,s,hb=>by
  have s1:=s.split (k:=a+d) hb;obtain⟨F,T,V⟩:=s.al _ _ _ hb;have hz : 0<2 ^ (a+d):=ap (by decide);have D:oP B p (a+d) 9 (p+2 ^ (a+d)) (a+d):=.inr (.inr ⟨rfl,rfl,rfl⟩);have l:oP B p (a+d) 9 p (a+d):=.inr (.inl ⟨rfl,rfl,rfl⟩);have y:p ∉ fr (a+d):=fun e=>by have:=(s1.one l (show a+d<=x.o by have:a+d+1<=x.o:=F;omega) e).1;omega
  have z:p%2 ^ (a+d+1)=0:=T;obtain⟨U,s2⟩:=s1.enter D (fun X i hi=>by
   have hc:p=2*(p/2 ^ (a+d+1))*2 ^ (a+d):=by have:=Nat.div_add_mod p (2 ^ (a+d+1));rw[z,Nat.add_zero,ci] at this;rw[aq 2,cx,aq 2,aq,ci];exact this.symm
   have w:i=p/2 ^ (a+d+1):=by rw[hi];have r : 2 ^ (a+d+1)=2 ^ (a+d)+2 ^ (a+d):=(by rw[ci];omega);have:=sQ (p/2 ^ (a+d+1)) (a+d);rw[<-hc] at this;have m:p+2 ^ (a+d)=(2*(p/2 ^ (a+d+1))+1)*2 ^ (a+d):=(by rw[av,aL,<-hc]);rw[m];exact this.2.1
   rw[w,av,aL,<-hc];exact⟨fun e=>by omega,fun _=>y⟩)
  have A:eX (oP B p (a+d)) 9 (p+2 ^ (a+d)) (a+d) 0 9 p (a+d):=.inl ⟨l,fun e=>by omega⟩;obtain⟨n,b,c,I,K,N,E,R,S,G⟩:=Sd.cut p a d s2 A;refine⟨n,b,c,?_,K,N,fun j=>?_,fun q j=>?_,fun q j=>?_,((s1.enterK D).mono fun g hg=>?_).trans G⟩
  ·rw[fI,ae U];exact I
  ·rw[E];unfold cK;by_cases c1:a<=j/\j<a+d
   ·rw[ae c1,ac (show ¬j=a+d by omega),ae ⟨c1.1,by omega⟩]
   ·rw[ac c1];by_cases c2:j=a+d
    ·subst c2;rw[ae rfl,ae ⟨by omega,by omega⟩]
    ·rw[ac c2,ac (by omega)]
  ·rw[R];unfold eX oP;constructor
   ·rintro (⟨(h|h|h),_⟩|h)
    ·exact h.1
    ·omega
    ·omega
    ·omega
   ·exact fun h=>.inl ⟨.inl ⟨h,fun e=>by omega⟩,fun e=>by omega⟩
  ·rw[S];unfold eX oP;constructor
   ·rintro (⟨(⟨(⟨f,v⟩|⟨_,m,C⟩|⟨_,m,C⟩),J⟩|h),L⟩|h)
    ·exact .inl ⟨f,fun e=>v ⟨rfl,e.1,e.2⟩⟩
    ·exact absurd ⟨m,C⟩ L
    ·exact absurd ⟨rfl,m,C⟩ J
    ·omega
    ·exact .inr h
   ·rintro (⟨f,v⟩|h)
    ·by_cases e:q=p/\j=a+d
     ·obtain⟨rfl,rfl⟩:=e;have:=s.ds _ _ _ _ _ _ f hb;have r : 0<2 ^ (a+(d+1)):=ap (by decide);rcases this with ⟨_,_,e⟩|e|e
      ·omega
      ·omega
      ·omega
     ·refine .inl ⟨.inl ⟨.inl ⟨f,fun u=>v ⟨u.2.1,u.2.2⟩⟩,fun u=>?_⟩,e⟩;obtain⟨_,rfl,rfl⟩:=u;have:=s.ds _ _ _ _ _ _ f hb;have r : 2 ^ (a+(d+1))=2 ^ (a+d)+2 ^ (a+d):=(by rw[<-Nat.add_assoc,ci];omega);rcases this with ⟨_,e,_⟩|e|e
      ·omega
      ·omega
      ·omega
    ·exact .inr h
  ·have:=hg (a+d) (by have:a+d+1<=x.o:=F;omega);rw[E,ac (by omega)] at this;unfold cK at this;rw[ae rfl] at this;exact this
theorem Sd.head{x t fr B}(s:Sd x t fr B)(k:Nat)(a:k<=x.o):t.hd k=0↔fr k=[]:=by rw[(s.ch k a).zero];exact List.map_eq_nil_iff
theorem Sd.lt{x t fr B}(s:Sd x t fr B){g p k:Nat}(hb:B g p k):p<t.m.n/\M.In x.bS x.n (ad x p) 1:=by have:=(s.al _ _ _ hb).2.2;have hz : 0<2 ^ k:=ap (by decide);have:=s.nb;refine⟨by omega,?_⟩;unfold M.In ad;omega
theorem Sd.take{x t fr B}(s:Sd x t fr B)(J:∀ q i,¬B 9 q i){k j p:Nat}{l:List Nat}(V:k<=j)(d:j<=x.o)(hl:fr j=p :: l):
  t.hd j=ad x p/\p<t.m.n/\M.In x.bS x.n (ad x p) 1/\p%2 ^ j=0/\kR x t j=0/\gH x (fU (iO x t j) (p:Int) (j:Int)) p j k=0/\
  ∃ a f,Sd x (oL x t p j k) a f/\(∀ q i,¬f 9 q i)/\(∀ q i,f 2 q i↔B 2 q i\/(q=p/\i=k))/\(∀ i,a i=if k<=i/\i<j then (p+2 ^ i) :: fr i else if i=j then M.dropL (fr j) p else fr i)/\Kp x t (oL x t p j k) (fun g=>(∀ i,i<=x.o->g ∉ fr i)/\∀ i,i<=x.o->g ∉ a i):=by
 have hp:p∈fr j:=by rw[hl];exact aw
 have hb:B 0 p j:=(s.fi p j).2 ⟨d,hp⟩;obtain⟨l1,l2⟩:=s.lt hb;obtain⟨C,D,I⟩:=s.pop d hl;obtain⟨_,s1⟩:=s.leave d hp (q:=p) l1 rfl;have v:eX B 0 p j 9 9 p (k+(j-k)):=.inr ⟨rfl,rfl,by omega⟩;obtain⟨u,a,f,h,F,R,G,y,U,A⟩:=Sd.cut p k (j-k) s1 v;rw[<-I] at h;have E:gH x (fU (iO x t j) (p:Int) (j:Int)) p j k=0:=by unfold gH;rw[h]
 have z:oL x t p j k=cQ u p k 2:=by unfold oL eG;rw[h]
 refine⟨C,l1,l2,(s.al _ _ _ hb).2.1,D,E,a,eX f 9 p k 2,by rw[z];exact F.live R,fun q i=>?_,fun q i=>?_,fun i=>?_,by
  rw[z];have K:Kp x t (fU (cL x t p j) (p:Int) (j:Int)) (fun g=>(∀ i,i<=x.o->g ∉ fr i)/\∀ i,i<=x.o->g ∉ a i):=((s.leaveK d hp).to (t'':=fU (cL x t p j) (p:Int) (j:Int)) rfl).mono fun g hg=>hg.1 j d
  have S:Kp x (fU (cL x t p j) (p:Int) (j:Int)) (cQ u p k 2) (fun g=>(∀ i,i<=x.o->g ∉ fr i)/\∀ i,i<=x.o->g ∉ a i):=(A.to (t'':=cQ u p k 2) rfl).mono fun g hg=>hg.2
  exact K.trans S⟩
 ·rintro (⟨b,w⟩|⟨e,_⟩)
  ·rcases (U q i).1 b with ⟨c,T⟩|c
   ·rcases c with ⟨r,_⟩|⟨_,L,N⟩
    ·exact J q i r
    ·exact T ⟨L,by omega⟩
   ·exact w ⟨rfl,c.1,c.2⟩
  ·omega
 ·constructor
  ·rintro (⟨b,w⟩|⟨_,c⟩)
   ·rcases (y q i).1 b with ⟨r,_⟩|⟨e,_⟩
    ·exact .inl r
    ·omega
   ·exact .inr c
  ·rintro (b|b)
   ·exact .inl ⟨(y q i).2 (.inl ⟨b,fun e=>by omega⟩),fun e=>by omega⟩
   ·exact .inr ⟨rfl,b⟩
 ·rw[G];unfold cK;by_cases c1:k<=i/\i<j
  ·rw[ae (show k<=i/\i<k+(j-k)by omega),ae c1,ac (show ¬i=j by omega)]
  ·rw[ac (show ¬(k<=i/\i<k+(j-k))by omega),ac c1]
def dR(o:Nat):Nat->(Nat->List Nat)->Nat->Nat->(Nat->List Nat)×Nat×Nat
 | 0,fr,p,k=>(fr,p,k)
 | d+1,fr,p,k=>if k<o/\aX p k∈fr k then dR o d (cK fr k (M.dropL (fr k) (aX p k))) (dV p k) (k+1) else (fr,p,k)
theorem Sd.alone{x t fr B}(s:Sd x t fr B){p k:Nat}(hb:B 9 p k):lJ x t (p:Int) (k:Int)=decide (k<x.o/\aX p k∈fr k):=by
 obtain⟨u,n,y⟩:=s.al _ _ _ hb;obtain⟨l1,_⟩:=s.lt hb;have C:=s.n1;have h:p ∉ fr k:=fun e=>by have:=(s.one hb u e).1;omega
 unfold lJ;by_cases d:k<x.o
 ·have f:=GJ s.dv d l1;have q:dW t.m (k:Int) (p:Int)=true:=by unfold dW;rw[dQ (show k<t.m.o by rw[s.mo];exact d),dQ l1];rfl
  have r:iV t.m (k:Int) (p:Int)=aE (t.m.wd k) (p/2 ^ (k+1)):=by unfold iV;rw[q,bf];simp only[nY,nX,aa];unfold cT;rw[dQ f,bf,aa]
  rw[r,s.bt k d _ f,show decide ((k:Int)<x.o)=true from af (by omega),bf];have hz : 0<2 ^ k:=ap (by decide);have a:=DJ n;obtain⟨z,E,A⟩:=sQ (p/2 ^ (k+1)) k;rcases tV (by omega) (by have:=s.o8;omega) n with ⟨j,i,v⟩|⟨D,j,i,v⟩
  ·have g:p=2*(p/2 ^ (k+1))*2 ^ k:=by
    have:=Nat.div_add_mod p (2 ^ (k+1));rw[j,Nat.add_zero,ci] at this;rw[aq 2,cx,aq 2,aq,ci];exact this.symm
   have b:aX p k=(2*(p/2 ^ (k+1))+1)*2 ^ k:=(by rw[i,av,aL,<-g]);rw[<-b,<-g];by_cases c:aX p k∈fr k <;> simp[h,c,d]
  ·rcases a with a|a
   ·exfalso
    have:p%2 ^ (k+1)=0:=by rw[a,ci,aq 2,cx,aq 2];exact Nat.mul_mod_left _ _
    have w : 2 ^ (k+1)=2 ^ k+2 ^ k:=(by rw[ci];omega);have l:=Nat.dvd_sub (cz this) (cz j);rw[show p-(p-2 ^ k)=2 ^ k by omega] at l;have:=Nat.le_of_dvd hz l;omega
   ·have b:aX p k=2*(p/2 ^ (k+1))*2 ^ k:=by
     rw[i];have F:p=2*(p/2 ^ (k+1))*2 ^ k+2 ^ k:=(by rw[av,aL] at a;exact a);omega
    rw[<-b,<-a];by_cases c:aX p k∈fr k <;> simp[h,c,d]
 ·rw[show decide ((k:Int)<x.o)=false from ah (by omega),Bool.false_and];exact(ah (fun e=>d e.1)).symm
theorem ZH{x t fr B}(s:Sd x t fr B){p k:Nat}(hb:B 9 p k)(h:k<x.o->aX p k ∉ fr k):k<x.o->∀ i,i=p/2 ^ (k+1)->(p=2*i*2 ^ k->(2*i+1)*2 ^ k ∉ fr k)/\(p=(2*i+1)*2 ^ k->2*i*2 ^ k ∉ fr k):=by
 intro m i hi;obtain⟨v,l,q⟩:=s.al _ _ _ hb;have u:=s.n1;have hz : 0<2 ^ k:=ap (by decide);have a:=h m;have f : 2 ^ (k+1)=2*2 ^ k:=by rw[ci,aq]
 constructor
 ·intro e;have g:p%2 ^ (k+1)=0:=by
   rw[e,f,aq 2 i,cx];exact Nat.mul_mod_left _ _
  rcases tV (by omega) (by have:=s.o8;omega) l with ⟨d,c,j⟩|⟨n,d,c,j⟩
  ·rw[show(2*i+1)*2 ^ k=aX p k by rw[c,av,aL,<-e]];exact a
  ·exfalso
   have b:=Nat.dvd_sub (cz g) (cz d);rw[show p-(p-2 ^ k)=2 ^ k by omega] at b;have:=Nat.le_of_dvd hz b;omega
 ·intro e;have r:p=2*i*2 ^ k+2 ^ k:=by rw[av,aL] at e;exact e
  rcases tV (by omega) (by have:=s.o8;omega) l with ⟨d,c,j⟩|⟨n,d,c,j⟩
  ·exfalso
   have g : 2 ^ (k+1) ∣ 2*i*2 ^ k:=⟨i,by rw[f,aq 2 i,cx,aq]⟩;have b:=Nat.dvd_sub (cz d) g;rw[show p-2*i*2 ^ k=2 ^ k by omega] at b;have:=Nat.le_of_dvd hz b;omega
  ·rw[show 2*i*2 ^ k=aX p k by rw[c];omega];exact a
theorem Sd.join{x} : ∀ (d:Nat) {t fr B} {p k:Nat},Sd x t fr B->B 9 p k->(∀ q i,B 9 q i->q=p/\i=k)->d+k=x.o->
  ∃ A n,gN x d t p k=(A,(dR x.o d fr p k).2.1,(dR x.o d fr p k).2.2)/\Sd x A (dR x.o d fr p k).1 n/\n 9 (dR x.o d fr p k).2.1 (dR x.o d fr p k).2.2/\(∀ q i,n 9 q i->q=(dR x.o d fr p k).2.1/\i=(dR x.o d fr p k).2.2)/\(∀ q i,n 2 q i↔B 2 q i)/\((dR x.o d fr p k).2.2<x.o->aX (dR x.o d fr p k).2.1 (dR x.o d fr p k).2.2 ∉ (dR x.o d fr p k).1 (dR x.o d fr p k).2.2)/\Kp x t A (fun g=>∀ j,j<=x.o->g ∉ fr j)
 | 0,t,fr,B,p,k,s,hb,G,hd=>⟨t,B,rfl,s,hb,G,fun _ _=>Iff.rfl,fun h=>by have h:k<x.o:=h;omega,Kp.refl _ _ _⟩
 | d+1,t,fr,B,p,k,s,hb,G,hd=>by
  obtain⟨E,a2,a3⟩:=s.al _ _ _ hb;have u:=s.alone hb;by_cases hc:k<x.o/\aX p k∈fr k
  ·have hn:=s.n1;have hz : 0<2 ^ k:=ap (by decide);have Y:B 0 (aX p k) k:=(s.fi _ _).2 ⟨E,hc.2⟩;obtain⟨l1,_⟩:=s.lt hb;have a5 : 2 ^ (k+1)=2 ^ k+2 ^ k:=(by rw[ci];omega);have v:=tV (p:=p) (by omega) (by have:=s.o8;omega) a2;have m:p/2 ^ (k+1)=aX p k/2 ^ (k+1):=by
    have T : 0<2 ^ (k+1):=ap (by decide);rcases v with ⟨c,a,F⟩|⟨X,c,a,F⟩
    ·rw[a];have b:=Nat.div_add_mod p (2 ^ (k+1));rw[c,Nat.add_zero] at b;symm;apply Nat.div_eq_of_lt_le
     ·rw[aq];omega
     ·rw[av,aL,aq];omega
    ·rw[a];have b:=Nat.div_add_mod (p-2 ^ k) (2 ^ (k+1));rw[c,Nat.add_zero] at b;apply Nat.div_eq_of_lt_le
     ·rw[aq];omega
     ·rw[av,aL,aq];omega
   obtain⟨r1,s1⟩:=s.leave E hc.2 l1 m;have a0:eX B 0 (aX p k) k 9 9 p k:=.inl ⟨hb,fun e=>by omega⟩;have a4:eX B 0 (aX p k) k 9 9 (aX p k) k:=.inr ⟨rfl,rfl,rfl⟩;have K:∀ q i,eX B 0 (aX p k) k 9 9 q i->(q=p/\i=k)\/(q=aX p k/\i=k):=by
    rintro q i (⟨b,r⟩|⟨_,I⟩)
    ·exact .inl (G q i b)
    ·exact .inr I
   have y:∀ q i,eX B 0 (aX p k) k 9 2 q i↔B 2 q i:=by
    intro q i;constructor
    ·rintro (⟨b,r⟩|⟨e,_⟩)
     ·exact b
     ·omega
    ·exact fun b=>.inl ⟨b,fun e=>by omega⟩
   have S:∃ f,Sd x (fU (cL x t (aX p k) k) (p:Int) (k:Int)) (cK fr k (M.dropL (fr k) (aX p k))) f/\f 9 (dV p k) (k+1)/\(∀ q i,f 9 q i->q=dV p k/\i=k+1)/\(∀ q i,f 2 q i↔B 2 q i):=by
    have C:∀ lo,lo%2 ^ (k+1)=0->(lo=p/\aX p k=lo+2 ^ k\/lo=aX p k/\p=lo+2 ^ k)->dV p k=lo->∃ f,Sd x (fU (cL x t (aX p k) k) (p:Int) (k:Int)) (cK fr k (M.dropL (fr k) (aX p k))) f/\f 9 (dV p k) (k+1)/\(∀ q i,f 9 q i->q=dV p k/\i=k+1)/\(∀ q i,f 2 q i↔B 2 q i):=by
     intro lo L l D;have g1:eX B 0 (aX p k) k 9 9 lo k:=by rcases l with ⟨c,a⟩|⟨c,a⟩ <;> rw[c] <;> assumption
     have V:eX B 0 (aX p k) k 9 9 (lo+2 ^ k) k:=by rcases l with ⟨c,a⟩|⟨c,a⟩ <;> rw[<-a] <;> assumption
     refine⟨_,s1.unite g1 V L hc.1,by rw[D];exact .inr ⟨rfl,rfl,rfl⟩,?_,fun q i=>?_⟩
     ·rw[D];rintro q i (⟨b,r,I⟩|⟨_,h4⟩)
      ·exfalso
       rcases K q i b with ⟨c,a⟩|⟨c,a⟩
       ·rcases l with ⟨w,z⟩|⟨w,z⟩
        ·exact r ⟨rfl,by omega,a⟩
        ·exact I ⟨rfl,by omega,a⟩
       ·rcases l with ⟨w,z⟩|⟨w,z⟩
        ·exact I ⟨rfl,by omega,a⟩
        ·exact r ⟨rfl,by omega,a⟩
      ·exact h4
     ·constructor
      ·rintro (⟨b,_,_⟩|⟨e,_⟩)
       ·exact(y q i).1 b
       ·omega
      ·exact fun b=>.inl ⟨(y q i).2 b,fun e=>by omega,fun e=>by omega⟩
    rcases v with ⟨c,a,F⟩|⟨X,c,a,F⟩
    ·exact C p c (.inl ⟨rfl,a⟩) F
    ·exact C (p-2 ^ k) c (.inr ⟨a.symm,by omega⟩) F
   obtain⟨f,u1,u2,u3,u4⟩:=S;obtain⟨A,n,w,z,Z,U,f5,f6,N⟩:=Sd.join d u1 u2 u3 (by omega);have J:dR x.o (d+1) fr p k=dR x.o d (cK fr k (M.dropL (fr k) (aX p k))) (dV p k) (k+1):=(by rw[dR,ae hc]);rw[J];refine⟨A,n,?_,z,Z,U,fun q i=>(f5 q i).trans (u4 q i),f6,(((s.leaveK E hc.2).to (t'':=fU (cL x t (aX p k) k) (p:Int) (k:Int)) rfl).mono fun g hg=>hg k E).trans (N.mono fun g hg j R=>?_)⟩;rotate_left
   ·unfold cK;by_cases e:j=k
    ·rw[ae e,jT];exact fun h=>hg k E h.1
    ·rw[ac e];exact hg j R
   rw[gN,u,ae (af hc),ae r1];exact w
  ·have J:dR x.o (d+1) fr p k=(fr,p,k):=(by rw[dR,ac hc]);rw[J];refine⟨t,B,?_,s,hb,G,fun _ _=>Iff.rfl,fun b r=>hc ⟨b,r⟩,Kp.refl _ _ _⟩;rw[gN,u,ac (by rw[ah hc];decide)]
theorem Sd.give{x t fr B}(s:Sd x t fr B)(A:∀ q i,¬B 9 q i){p k:Nat}(hb:B 2 p k)(F:x.P p=none):
  ∃ d c b,gN x (x.o-k) t p k=(d,c,b)/\iG x d c b=0/\∃ f,Sd x (fF x d c b) (cK (dR x.o (x.o-k) fr p k).1 b (c :: (dR x.o (x.o-k) fr p k).1 b)) f/\(∀ q i,¬f 9 q i)/\(∀ q i,f 2 q i↔B 2 q i/\¬(q=p/\i=k))/\c=(dR x.o (x.o-k) fr p k).2.1/\b=(dR x.o (x.o-k) fr p k).2.2/\Kp x t (fF x d c b) (fun g=>(∀ j,j<=x.o->g ∉ fr j)/\∀ j,¬f 0 g j):=by
 have I:=(s.al _ _ _ hb).1;have s1:=s.die hb F;have r:eX B 2 p k 9 9 p k:=.inr ⟨rfl,rfl,rfl⟩;obtain⟨d,f,y,l,m,z,v,E,w⟩:=Sd.join (x.o-k) s1 r (by
  rintro q i (⟨a,h⟩|⟨_,n⟩)
  ·exact absurd a (A q i)
  ·exact n) (by omega)
 obtain⟨D,u⟩:=l.enter m (ZH l m E);refine⟨d,_,_,y,D,_,u,fun q i=>?_,fun q i=>?_,rfl,rfl,(w.mono fun g hg=>hg.1).trans ((l.enterK m).mono fun g hg C=>?_)⟩;rotate_left
 rotate_left
 ·have:=(u.fi g (dR x.o (x.o-k) fr p k).2.2).2 ⟨(l.al _ _ _ m).1,by unfold cK;rw[ae rfl];exact C⟩;exact hg.2 _ this
 ·rintro (⟨a,h⟩|⟨e,_⟩)
  ·have:=z q i a;exact h ⟨rfl,this.1,this.2⟩
  ·omega
 ·constructor
  ·rintro (⟨a,h⟩|⟨e,_⟩)
   ·rcases (v q i).1 a with ⟨n,G⟩|⟨e,_⟩
    ·exact⟨n,fun e=>G ⟨rfl,e.1,e.2⟩⟩
    ·omega
   ·omega
  ·rintro ⟨a,h⟩;exact .inl ⟨(v q i).2 (.inl ⟨a,fun e=>h ⟨e.2.1,e.2.2⟩⟩),fun e=>by omega⟩
theorem Sd.shrink{x t fr B}(s:Sd x t fr B)(A:∀ q i,¬B 9 q i){p k o:Nat}(hb:B 2 p k)(G:x.P p=none)(I:o<=k):
  gH x t p k o=0/\∃ a f,Sd x (eG x t p k o) a f/\(∀ q i,¬f 9 q i)/\(∀ q i,f 2 q i↔(B 2 q i/\¬(q=p/\i=k))\/(q=p/\i=o))/\(∀ i,a i=if o<=i/\i<k then (p+2 ^ i) :: fr i else fr i)/\Kp x t (eG x t p k o) (fun g=>∀ j,j<=x.o->g ∉ a j):=by
 have s1:=s.die hb G;have r:eX B 2 p k 9 9 p (o+(k-o)):=.inr ⟨rfl,rfl,by omega⟩;obtain⟨u,a,f,l,y,D,z,v,F,w⟩:=Sd.cut p o (k-o) s1 r;refine⟨by unfold gH;rw[l],a,eX f 9 p o 2,by rw[show eG x t p k o=cQ u p o 2 by unfold eG;rw[l]];exact y.live D,fun q i=>?_,fun q i=>?_,fun i=>?_,w.to (by rw[show eG x t p k o=cQ u p o 2 by unfold eG;rw[l]];rfl)⟩
 ·rintro (⟨b,h⟩|⟨e,_⟩)
  ·rcases (F q i).1 b with ⟨d,E⟩|d
   ·rcases d with ⟨n,_⟩|⟨_,m,C⟩
    ·exact A q i n
    ·exact E ⟨m,by omega⟩
   ·exact h ⟨rfl,d.1,d.2⟩
  ·omega
 ·constructor
  ·rintro (⟨b,h⟩|⟨_,d⟩)
   ·rcases (v q i).1 b with ⟨n,m⟩|⟨e,_⟩
    ·exact .inl ⟨n,fun e=>m ⟨rfl,e.1,e.2⟩⟩
    ·omega
   ·exact .inr d
  ·rintro (⟨b,h⟩|b)
   ·exact .inl ⟨(v q i).2 (.inl ⟨b,fun e=>h ⟨e.2.1,e.2.2⟩⟩),fun e=>by omega⟩
   ·exact .inr ⟨rfl,b⟩
 ·rw[z];by_cases c:o<=i/\i<k
  ·rw[ae (show o<=i/\i<o+(k-o)by omega),ae c]
  ·rw[ac (show ¬(o<=i/\i<o+(k-o))by omega),ac c]
theorem Sd.is{x t fr B}(s:Sd x t fr B)(y:∀ q i,¬B 9 q i)(g p k:Nat)(hg:g=0\/g=2):kV t.m (g:Int) (p:Int) (k:Int)=true↔(B g p k/\x.P p=none):=by
 constructor
 ·intro h;unfold kV at h;simp only[bu,co] at h;obtain⟨⟨⟨d,b⟩,o⟩,E⟩:=h;have r:p<t.m.n:=by
   have : 0<=(p:Int)/\(p:Int)<t.m.n:=bw d;omega
  have ha:cM t.m (p:Int)=t.m.pg p:=by unfold cM;rw[ae d,aa]
  rw[ha] at b o;obtain⟨f,q,j,c1,c2,c3⟩:=s.cv p r;have w:f=0\/f=2:=by
   rcases s.tg _ _ _ c1 with e|e|e
   ·exact .inl e
   ·exact .inr e
   ·subst e;exact absurd c1 (y q j)
  have a:=s.pg _ _ _ c1 (by omega) p c2 c3;have c:x.P p=none:=by
   cases c:x.P p with
   | none=>rfl
   | some v=>
    exfalso
    rw[c,Option.getD_some] at a;have E:=(s.vs p v c).2;rw[a] at b;omega
  refine⟨?_,c⟩;rw[c,Option.getD_none] at a;rw[a] at b o;have o:(j:Int)=k:=o;have b:(if p=q then (f:Int) else (f:Int)+1)=(g:Int):=b;by_cases e:p=q
  ·rw[ae e] at b;have D:f=g:=(by omega);have A:j=k:=(by omega);rw[<-D,<-A,e];exact c1
  ·rw[ac e] at b;omega
 ·rintro ⟨hb,c⟩;obtain⟨G,C,F⟩:=s.al _ _ _ hb;obtain⟨l1,_⟩:=s.lt hb;have hz : 0<2 ^ k:=ap (by decide);have d:aD t.m.n (p:Int)=true:=dQ l1;have ha:cM t.m (p:Int)=t.m.pg p:=by unfold cM;rw[ae d,aa]
  have a:=s.pg _ _ _ hb (by omega) p (aj _) (by omega);rw[ae rfl,c,Option.getD_none] at a;have l:(t.m.pg p).od=(k:Int):=by rw[a];rfl
  have u:(t.m.pg p).kd=(g:Int):=by rw[a];rfl
  have z:kJ t.m (p:Int)=p:=by unfold kJ;rw[ae d,aa,l,aa];have:=Nat.div_add_mod p (2 ^ k);rw[C,Nat.add_zero,aq] at this;rw[this]
  unfold kV;rw[d,ha,l,u,z];simp
theorem sY{x t fr B}(s:Sd x t fr B)(p:Nat)(hp:p<t.m.n):fT x t (ad x p)=p/\lT x t (ad x p)=true:=by
 have c:=s.nb;have d:=s.b2;have a:fQ x (ad x p)=4096*p:=by unfold fQ ad;omega
 have b:lI x t (ad x p):=by unfold lI;rw[a];exact⟨by omega,by omega⟩
 refine⟨by unfold fT;rw[ae b,a];omega,?_⟩;unfold lT;exact af ⟨b,by unfold M.In ad;omega⟩
theorem Sd.live_iff{x t fr B}(s:Sd x t fr B)(b:∀ q i,¬B 9 q i)(p k:Nat)(hp:p<t.m.n):kI x t (ad x p) (k:Int)=true↔(B 2 p k/\x.P p=none):=by
 obtain⟨a,c⟩:=sY s p hp;unfold kI;have hi:=s.is b 2 p k (.inr rfl);rw[show((2:Nat):Int)=2 from rfl] at hi;rw[a,c,bf,bu,hi];constructor
 ·exact fun h=>h.2
 ·intro hb;have:=(s.al _ _ _ hb.1).1;exact⟨af ⟨by omega,by omega⟩,hb⟩
theorem Sd.freeL{x t fr B}(s:Sd x t fr B)(k:Nat)(c:k<=x.o):freeL x t k=(fr k).map (ad x):=by
 have hc:=s.ch k c;have d:=s.nb;unfold Go.Proofs.YtfmgnljlkdmndaaGreatDoor.freeL;refine hc.all _ ?_;rw[List.length_map];have b:(fr k).Nodup:=by have:=hc.nodup;rw[List.nodup_iff_pairwise_ne,List.pairwise_map] at this;exact this.imp fun h e=>h (by rw[e])
 have a:∀ p∈fr k,p<t.m.n:=fun p hp=>by obtain⟨_,_,f⟩:=s.al _ _ _ ((s.fi p k).2 ⟨c,hp⟩);have : 0<2 ^ k:=ap (by decide);omega
 have:=M.nodup_len t.m.n (fr k) b a;omega
theorem Sd.free_iff{x t fr B}(s:Sd x t fr B)(a:∀ q i,¬B 9 q i)(p k:Nat)(b:k<=x.o):mL x t p k=true↔B 0 p k:=by
 have hi:=s.is a 0 p k (.inl rfl);rw[show((0:Nat):Int)=0 from rfl] at hi;unfold mL;rw[bu,hi,s.freeL k b];constructor
 ·exact fun h=>h.1.1
 ·exact fun hb=>⟨⟨hb,s.pn9 hb (by decide) p (aj _) (by have : 0<2 ^ k:=ap (by decide);omega)⟩,af (List.mem_map.2 ⟨p,((s.fi p k).1 hb).2,rfl⟩)⟩
theorem JR{w b c n ws}(h:SetAt w b c n ws):(∀ i,ws.getD i 0<2 ^ 64)/\∀ j,n<=j->aE ws j=false:=by
 have hl:=h.len;have h0:∀ i,ws.length<=i->ws.getD i 0=0:=fun i hi=>by simp only[List.getD];rw[dh hi];rfl
 constructor
 ·intro i;by_cases hi:i<ws.length
  ·exact bg (h.ok i hi) (bj (by decide) (by omega))
  ·rw[h0 i (by omega)];decide
 ·intro j a;rw[oX];by_cases hi:j/64<ws.length
  ·refine Nat.testBit_lt_two_pow (bg (h.ok _ hi) (bj (by decide) (by omega)))
  ·rw[h0 _ (by omega)];simp
theorem IJ{x x':Bx}{f f':Nat->Nat}{hd n':Nat}{l:List Nat}(hc:M.Chn x.bS x.n f hd (l.map (ad x)))(hb:x'.bS=x.bS)(m:x.bS+x'.n<=9223372036854775808)(q:n'*4096<=x'.n)(hp:∀ p∈l,p<n')(hf:∀ i,i<n'*4096->f' i=f i):
  M.Chn x'.bS x'.n f' hd (l.map (ad x')):=by
 have g:ad x'=ad x:=by funext p;unfold ad;rw[hb]
 rw[g,hb];have a:∀ c∈l.map (ad x),M.IsCell x.bS x'.n c/\c-x.bS+16<=n'*4096:=fun c d=>by obtain⟨h,j,k,r,o⟩:=hc.cell c d;obtain⟨p,e,rfl⟩:=List.mem_map.1 d;have:=hp p e;unfold M.IsCell ad at *;omega
 have b:=hc.congr (f':=f') fun c d=>by obtain⟨h,j⟩:=a c d;obtain⟨_,_,k,_⟩:=h;unfold M.nx M.pv M.word;exact⟨M.wordTo_congr _ _ _ fun i hi=>hf _ (by omega),M.wordTo_congr _ _ _ fun i hi=>hf _ (by omega)⟩
 exact⟨fun c d=>(a c d).1,b.nodup,b.head,b.nxt,b.prv⟩
def nZ(B:Nat->Nat->Nat->Prop)(h p k:Nat):Nat->Nat->Nat->Prop:=fun a b c=>B a b c\/(a=h/\b=p/\c=k)
theorem Sd.grow{x t fr B}(s:Sd x t fr B)(x':Bx)(L:x'.P=x.P)(u:x'.o=x.o)(hb:x'.bS=x.bS)(K:(t.m.n+2 ^ x.o)*4096<=x'.n)(C:x.bS+x'.n<=9223372036854775808)(hg:t.m.n+2 ^ x.o<=1024)(f':Nat->Nat)(hf:∀ i,i<t.m.n*4096->f' i=t.f i)
  (hz:∀ k,k<x.o->∀ i,(t.m.wd k).getD i 0<2 ^ 64) (hp:∀ k,k<x.o->∀ j,t.m.n/2 ^ (k+1)<=j->aE (t.m.wd k) j=false):
  Sd x' ⟨f',dE t.m,t.hd⟩ fr (nZ B 2 t.m.n x.o):=by
 have D:=s.mo;obtain⟨r,G⟩:=s.dv;have T : 0<2 ^ x.o:=ap (by decide);have l:dE t.m={ dC t.m (t.m.n+2 ^ x.o)with pg:=fG (dC t.m (t.m.n+2 ^ x.o)).pg t.m.n x.o 2 }:=by unfold dE;rw[D,ac (by omega)]
 have y:(dE t.m).n=t.m.n+2 ^ x.o:=by rw[l];rfl
 have V:(dE t.m).o=x.o:=by rw[l];exact D
 have I:∀ k,(dE t.m).wd k=dA (t.m.wd k) ((t.m.n+2 ^ x.o)/2 ^ (k+1)):=fun k=>by rw[l];rfl
 have S:∀ i,(dE t.m).pg i=if i=t.m.n then aU 2 x.o else if t.m.n<i/\i<t.m.n+2 ^ x.o then aU (2+1) x.o else if i<t.m.n then t.m.pg i else aV:=fun i=>by rw[l];rfl
 have v:∀ k,k<=x.o->∀ p∈fr k,p<t.m.n:=fun k d p hp=>by obtain⟨_,_,J⟩:=s.al _ _ _ ((s.fi p k).2 ⟨d,hp⟩);have : 0<2 ^ k:=ap (by decide);omega
 constructor
 ·show(dE t.m).o=x'.o
  rw[V,u]
 ·rw[u];exact s.o8
 ·refine⟨r+1,?_⟩;show(dE t.m).n=_
  rw[y,u,G,av,aL]
 ·show(dE t.m).n*4096<=x'.n
  rw[y];exact K
 ·show(dE t.m).n<=1024
  rw[y];exact hg
 ·rw[hb];exact s.b1
 ·rw[hb];exact C
 ·rintro a b c (h|⟨rfl,rfl,rfl⟩)
  ·exact s.tg _ _ _ h
  ·exact .inr (.inl rfl)
 ·intro p k;rw[u,<-s.fi p k];constructor
  ·rintro (h|⟨h,_⟩)
   ·exact h
   ·omega
  ·exact .inl
 ·rintro a b c h;show c<=x'.o/\b%2 ^ c=0/\b+2 ^ c<=(dE t.m).n
  rw[u,y];rcases h with h|⟨rfl,rfl,rfl⟩
  ·obtain⟨A,z,J⟩:=s.al _ _ _ h;exact⟨A,z,by omega⟩
  ·exact⟨aj _,by rw[G];exact Nat.mul_mod_left _ _,aj _⟩
 ·rintro a b c a' Z c' (h|⟨rfl,rfl,rfl⟩) (N|⟨rfl,rfl,rfl⟩)
  ·exact s.ds _ _ _ _ _ _ h N
  ·exact .inr (.inl (s.al _ _ _ h).2.2)
  ·exact .inr (.inr (s.al _ _ _ N).2.2)
  ·exact .inl ⟨rfl,rfl,rfl⟩
 ·intro i hi;have hi:i<(dE t.m).n:=hi;rw[y] at hi;by_cases h:i<t.m.n
  ·obtain⟨g,p,k,A,z⟩:=s.cv i h;exact⟨g,p,k,.inl A,z⟩
  ·exact⟨2,t.m.n,x.o,.inr ⟨rfl,rfl,rfl⟩,by omega,hi⟩
 ·rintro g p k h U i A z;show(dE t.m).pg i=_
  rw[S,L];rcases h with h|⟨rfl,rfl,rfl⟩
  ·have J:=(s.al _ _ _ h).2.2;have E:i<t.m.n:=(by omega);rw[ac (show ¬i=t.m.n by omega),ac (show ¬(t.m.n<i/\i<t.m.n+2 ^ x.o)by omega),ae E];exact s.pg _ _ _ h U i A z
  ·have w:x.P i=none:=by
    cases w:x.P i with
    | none=>rfl
    | some R=>
     have:=(s.al _ _ _ (s.vs i R w).1).2.2;omega
   rw[w,Option.getD_none];by_cases e:i=t.m.n
   ·rw[ae e,ae e];rfl
   ·rw[ac e,ae (by omega),ac e];rfl
 ·intro k d;rw[u] at d;exact IJ (n':=t.m.n) (s.ch k d) hb C (an (ak _ (Nat.le_add_right _ _)) K) (v k d) hf
 ·intro k d;show((dE t.m).wd k).length=((dE t.m).n/2 ^ (k+1)+63)/64
  rw[I,y,sN]
 ·intro k d i hi;rw[u] at d;have hi:i<(dE t.m).n/2 ^ (k+1):=hi;rw[y] at hi;show aE ((dE t.m).wd k) i=_
  rw[I,wJ _ _ _ (hz k d) hi];by_cases h:i<t.m.n/2 ^ (k+1)
  ·exact s.bt k d i h
  ·rw[hp k d i (by omega)];have X : 0<2 ^ k:=ap (by decide);have Y:t.m.n<=i*2 ^ (k+1):=by
    have hd : 2 ^ (k+1) ∣ t.m.n:=(by rw[G];exact Nat.dvd_trans (Nat.pow_dvd_pow 2 d) (Nat.dvd_mul_left _ _));rw[<-Nat.div_mul_cancel hd];exact ak _ (by omega)
   have he : 2*i*2 ^ k=i*2 ^ (k+1):=(by rw[ci,aq 2 i,cx,aq 2]);have z:(2*i+1)*2 ^ k=2*i*2 ^ k+2 ^ k:=(by rw[av,aL]);rw[ah (fun F=>by have:=v k (by omega) _ F;omega),ah (fun F=>by have:=v k (by omega) _ F;omega)];rfl
 ·intro k d;rw[u] at d;exact s.nm k d
 ·intro p q h;rw[L] at h;exact⟨.inl (s.vs p q h).1,(s.vs p q h).2⟩
def pN(B:Nat->Nat->Nat->Prop)(h p k:Nat):Nat->Nat->Nat->Prop:=fun a b c=>B a b c/\¬(a=h/\b=p/\c=k)
theorem Sd.drop{x t fr B}(s:Sd x t fr B)(c:Nat)(hc:t.m.n=c+2 ^ x.o)(hl:B 2 c x.o)(R:x.P c=none)(x':Bx)(I:x'.P=x.P)(v:x'.o=x.o)(hb:x'.bS=x.bS)(F:c*4096<=x'.n)(y:x.bS+x'.n<=9223372036854775808)(f':Nat->Nat)(hf:∀ i,i<c*4096->f' i=t.f i)
  (hz:∀ k,k<x.o->∀ i,(t.m.wd k).getD i 0<2 ^ 64):
  Sd x' ⟨f',dC t.m c,t.hd⟩ fr (pN B 2 c x.o):=by
 have D:=s.mo;obtain⟨r,L⟩:=s.dv;have J : 0<2 ^ x.o:=ap (by decide);have j:∀ g p k,pN B 2 c x.o g p k->p+2 ^ k<=c:=fun g p k ⟨u,w⟩=>by
  have N : 0<2 ^ k:=ap (by decide);have:=(s.al _ _ _ u).2.2;rcases s.ds _ _ _ _ _ _ u hl with e|e|e
  ·exact absurd e w
  ·exact e
  ·omega
 have G:∀ p k,B 0 p k->pN B 2 c x.o 0 p k:=fun p k h=>⟨h,fun e=>by omega⟩
 have z:∀ k,k<=x.o->∀ p∈fr k,p<c:=fun k l p hp=>by have:=j _ _ _ (G p k ((s.fi p k).2 ⟨l,hp⟩));have : 0<2 ^ k:=ap (by decide);omega
 have T : 1<=r:=by
  rcases Nat.eq_zero_or_pos r with e|e
  ·rw[e,Nat.zero_mul] at L;omega
  ·exact e
 have E:c=(r-1)*2 ^ x.o:=by
  have:r*2 ^ x.o=(r-1)*2 ^ x.o+2 ^ x.o:=by rw[show r=(r-1)+1 by omega,av,aL];rfl
  omega
 constructor
 ·show t.m.o=x'.o
  rw[v,D]
 ·rw[v];exact s.o8
 ·exact⟨r-1,by rw[v];exact E⟩
 ·exact F
 ·show c<=1024
  have:=s.n1;omega
 ·rw[hb];exact s.b1
 ·rw[hb];exact y
 ·exact fun a b d h=>s.tg _ _ _ h.1
 ·intro p k;rw[v,<-s.fi p k];exact⟨fun h=>h.1,G p k⟩
 ·intro a b d h;obtain⟨u,w,C⟩:=s.al _ _ _ h.1;exact⟨by rw[v];exact u,w,j _ _ _ h⟩
 ·exact fun a b d a' V U h S=>s.ds _ _ _ _ _ _ h.1 S.1
 ·intro i hi;have hi:i<c:=hi;obtain⟨g,p,k,u,w,C⟩:=s.cv i (by omega);exact⟨g,p,k,⟨u,fun e=>by omega⟩,w,C⟩
 ·intro g p k h K i u w;have C:=j _ _ _ h;have A:i<t.m.n:=by omega
  show(if i<t.m.n then t.m.pg i else aV)=_
  rw[ae A,I];exact s.pg _ _ _ h.1 K i u w
 ·intro k l;rw[v] at l;exact IJ (n':=c) (s.ch k l) hb y F (z k l) hf
 ·intro k l;exact sN _ _
 ·intro k l i hi;rw[v] at l;have hi:i<c/2 ^ (k+1):=hi;show aE (dA (t.m.wd k) (c/2 ^ (k+1))) i=_
  rw[wJ _ _ _ (hz k l) hi];exact s.bt k l i (bg hi (Nat.div_le_div_right (by omega)))
 ·intro k l;rw[v] at l;exact s.nm k l
 ·intro p q h;rw[I] at h;refine⟨⟨(s.vs p q h).1,fun e=>?_⟩,(s.vs p q h).2⟩;rw[e.2.1,R] at h
  cases h
theorem uV(m:Mp)(p o k:Int):(cH m p o k).n=m.n:=by unfold cH;split <;> rfl
theorem vJ(m:Mp)(k i:Int):(fJ m k i).n=m.n:=by unfold fJ;split <;> rfl
theorem tI(x:Bx)(t:Bt)(p k:Nat):(fF x t p k).m.n=t.m.n:=by
 unfold fF;split
 ·exact(vJ _ _ _).trans (uV _ _ _ _)
 ·rfl
theorem AY(x:Bx)(p a:Nat):∀ (d:Nat) (t:Bt),(fI x p a d t).1.m.n=t.m.n
 | 0,t=>rfl
 | d+1,t=>by
  rw[fI];split
  ·exact(AY x p a d _).trans (tI _ _ _ _)
  ·exact tI _ _ _ _
theorem AX(x:Bx)(t:Bt)(p a b:Nat):(eG x t p a b).m.n=t.m.n:=(uV _ _ _ _).trans (AY _ _ _ _ _)
theorem UY(x:Bx)(t:Bt)(q j k:Nat):(oL x t q j k).m.n=t.m.n:=(AX _ _ _ _ _).trans (vJ _ _ _)
theorem DB(x:Bx):∀ (d:Nat) (t:Bt) (p k:Nat),(gN x d t p k).1.m.n=t.m.n
 | 0,t,p,k=>rfl
 | d+1,t,p,k=>by
  rw[gN];split
  ·split
   ·exact(DB x d _ _ _).trans (vJ _ _ _)
   ·rfl
  ·rfl
def Sn(x:Bx)(t:Bt)(L:Nat->Nat->Prop):Prop:=∃ fr B,Sd x t fr B/\(∀ q i,¬B 9 q i)/\∀ q i,B 2 q i↔L q i
theorem Sn.apart{x t L}(s:Sn x t L){p k q i:Nat}(a:L p k)(b:L q i):(p=q/\k=i)\/p+2 ^ k<=q\/q+2 ^ i<=p:=by
 obtain⟨fr,B,s,_,hL⟩:=s;rcases s.ds _ _ _ _ _ _ ((hL p k).2 a) ((hL q i).2 b)with ⟨_,e⟩|e
 ·exact .inl e
 ·exact .inr e
theorem Sn.al{x t L}(s:Sn x t L){p k:Nat}(h:L p k):k<=x.o/\p%2 ^ k=0/\p+2 ^ k<=t.m.n:=by obtain⟨fr,B,s,_,hL⟩:=s;exact s.al _ _ _ ((hL p k).2 h)
theorem ZO(x:Bx)(t:Bt)(k:Nat):(∀ a,k<=a->a<=x.o->t.hd a=0)\/∃ j,j<=x.o/\Least x t k j:=by
 have c:∀ d,∀ b,k<=b->b+d=x.o+1->(∀ a,k<=a->a<b->t.hd a=0)->(∀ a,k<=a->a<=x.o->t.hd a=0)\/∃ j,j<=x.o/\Least x t k j:=by
  intro d;induction d with
  | zero=>exact fun b f h g=>.inl fun a i l=>g a i (by omega)
  | succ d m=>
   intro b f h g;by_cases e:t.hd b=0
   ·refine m (b+1) (by omega) (by omega) fun a i l=>?_
    by_cases ea:a=b
    ·rw[ea];exact e
    ·exact g a i (by omega)
   ·exact .inr ⟨b,by omega,f,by omega,g,fun _=>e⟩
 by_cases n:k<=x.o
 ·exact c (x.o+1-k) k (aj _) (by omega) fun a f h=>by omega
 ·exact .inl fun a f h=>by omega
theorem Sn.live_iff{x t L}(s:Sn x t L)(p k:Nat)(hp:p<t.m.n):kI x t (ad x p) (k:Int)=true↔(L p k/\x.P p=none):=by obtain⟨fr,B,s,a,hL⟩:=s;rw[s.live_iff a p k hp,hL]
theorem Sn.n{x t L}(s:Sn x t L):t.m.n<=1024/\x.bS+x.n<=9223372036854775808/\t.m.n*4096<=x.n:=by obtain⟨fr,B,s,a,hL⟩:=s;exact⟨s.n1,s.b2,s.nb⟩
end Go.Proofs.YtfmgnljlkdmndaaGreatDoor
namespace Go.Proofs.YtfmgnljlkdmndaaGreatDoor.W
open Tryz
open Go.RowKit
set_option linter.unusedVariables false
theorem nP:(prog.info? 5).map (fun i=>(i.zero,i.size,i.bytes))=some (some (.int .u8 0),1,1):=by kernel_rfl
def zb(n:Nat):Array Value:=madeCells (Value.int .u8 0).cells (n*1)
theorem tW(w:World):(Instr.makeSlice 34 (.int .i64 8192) (.int .i64 8192)).run prog w=.ok (.slice (some ⟨w.heap.size,0,none⟩) 8192 8192) (w.alloc (.cells (zb 8192) 5)):=by obtain⟨i,hi,a,b,c⟩:=info_parts nP;have:=run_make (P:=prog) w 34 5 i (.int .u8 0) Tryz.underlying34 hi a .i64 .i64 8192 8192 (by omega) (by omega) (by rw[c];omega) (by omega);rw[b] at this;exact this
theorem BI(n i:Nat)(h:i<n):(zb n)[i]?=some (.int .u8 0):=by unfold zb madeCells;simp[Value.cells,h,Nat.mod_one]
section
variable {P:Program} {ops:Array Oper} {md:Region.Mode} {Q:Exit->Act->World->Prop}
theorem wpOp_of_list{i:Nat}{o:Oper}{K:Act->World->Prop}{a:Act}{w:World}(g:ops[i]?=some o)(h:wpList P ops (Exit.then K Q) [o] a w):wpOp P ops Q i K a w:=by
 unfold wpOp;simp only[g];unfold wpList at h;split
 ·rename_i hw;simp only[hw,if_true] at h;rcases h with h|⟨c,b,e,f⟩
  ·refine .inl ?_;unfold Oper.wp at *;generalize (execOp a.eval o).run P w=r at *
   cases r with
   | ok n d=>cases n <;> simp only[Oper.upon] at h ⊢ <;> exact h
   | halt x d=>cases x <;> simp only[Oper.upon] at h ⊢ <;> exact h
  ·exact .inr ⟨c,b,e,f⟩
 ·rename_i hw;simp only[hw] at h;exact h
def oK(ls:Array Bool):Nat:=ls.toList.countP (fun b=>!b)
theorem IW{ls:Array Bool}{i:Nat}(h:ls.getD i true=false):oK (ls.setIfInBounds i true)+1=oK ls:=by
 unfold oK;rcases Nat.lt_or_ge i ls.size with hl|hl
 ·have a:ls[i]=false:=by simpa [hl] using h
  obtain⟨l⟩:=ls;simp only[List.setIfInBounds_toArray,List.getElem_toArray] at *;clear h;induction l generalizing i with
  | nil=>simp at hl
  | cons x l b=>
   cases i with
   | zero=>
    simp only[List.getElem_cons_zero] at a;subst a;simp
   | succ i=>
    simp only[List.set_cons_succ,List.countP_cons];have:=b (i:=i) (by simpa using hl) (by simpa using a);omega
 ·simp[Array.getElem?_eq_none hl] at h
theorem KQ{ls:Array Bool}(h:oK ls=0):Region.ready md ops ls=[]:=by rw[List.eq_nil_iff_forall_not_mem];intro i hi;have a:=IW (mem_ready.1 hi).1;omega
theorem IT{I:Array Bool->Act->World->Prop}(hs:∀ ls a w i,I ls a w->i∈Region.ready md ops ls->wpOp P ops Q i (I (ls.setIfInBounds i true)) a w)
  (he:∀ ls a w,I ls a w->Region.ready md ops ls=[]->Q .normal a w):∀ (n:Nat) (ls:Array Bool) (a:Act) (w:World),oK ls<=n->I ls a w->wpAny P md ops Q n ls a w
 | 0,ls,a,w,c,h=>⟨KQ (by omega),he _ _ _ h (KQ (by omega))⟩
 | n+1,ls,a,w,c,h=>⟨he _ _ _ h,fun i hi=>wpOp_mono (fun a' d b=>IT hs he n _ a' d (by have:=IW (mem_ready.1 hi).1;omega) b) (hs _ _ _ _ h hi)⟩
end
theorem wp_region_inv{P:Program}{id:Nat}{Q:Exit->Act->World->Prop}{a:Act}{w:World}{ops:Array Oper}(b:P.follows .mixedOrders=true)(I:Array Bool->Act->World->Prop)
  (h0:I (Array.replicate ops.size false) a w.drew)
  (hs:∀ ls a w i,I ls a w->i∈Region.ready .any ops ls->wpOp P ops Q i (I (ls.setIfInBounds i true)) a w)
  (he:∀ ls a w,I ls a w->Region.ready .any ops ls=[]->Q .normal a w):(Code.region id ops true).wp P Q a w:=
 wp_region_any b (IT hs he _ _ _ _ (by unfold oK;refine an List.countP_le_length ?_;simp) h0)
theorem CG(p:Pg)(k o:Int):pgE p (aU k o)=(decide (p.kd=k) && (decide (p.od=o) && jV p)):=by obtain⟨kd,od,cl,lv,nx,pv,fs,b0,b1,b2,b3⟩:=p;unfold pgE jV aU;rw[<-Bool.decide_and,<-Bool.decide_and,decide_eq_decide,Pg.mk.injEq]
theorem ok8_eq{I:Img}{k r:Nat}(hS:Sn9 I k r)(j:Nat):ok8 I j=refL (decP I) 0 (fun i=>M.word I.mem (4096*i)) (fun i=>M.word I.mem (4096*i+8)) (fun i=>isF (I.pg i) (j:Int)) (pgL I fun p=>isF p (j:Int)).length (I.hd.getD j 0) 0:=by
 unfold ok8;refine DA (cod:=fun i=>I.bS+4096*i) (fun i=>by have:=hS.b0;omega) (fun i j h=>by omega) (fun p i h=>(decP_lt hS h).2.1) ?_ (pgL I fun p=>isF p (j:Int)) (pgL_nodup _ _) (fun p i h=>?_) _ (pgL I fun p=>isF p (j:Int)) [] _ _ rfl (pgL_nodup _ _) List.nodup_nil (fun i=>by simp) (fun i _ h=>by cases h) trivial rfl
 ·unfold decP;rw[ac (by have:=hS.b0;omega)]
 ·rw[pgL_mem];exact⟨fun x=>x.2,fun x=>⟨(decP_lt hS h).1,x⟩⟩
theorem QR(p:Pg)(hp:PgIn p):aZ (wsP p)=aH (aE (wsP p)) 256:=by
 refine uB (wsP p) (fun i=>?_) 4;match i with
 | 0=>exact hp.b0
 | 1=>exact hp.b1
 | 2=>exact hp.b2
 | 3=>exact hp.b3
 | i+4=>simp[List.getD]
theorem ok5_iff(p:Pg)(hp:PgIn p)(c:Nat)(hc:p.cl=(c:Int))(f:p.kd=4):ok5 p=true↔(0<p.lv/\p.lv=(aH (aE (wsP p)) 256:Int))/\∀ j,celN9 c<=j->j<256->aE (wsP p) j=false:=by
 unfold ok5;rw[hc,aa,QR p hp,af f,Bool.not_true,Bool.false_or,bu,bu,bW,bW,bW];refine and_congr_right fun _=>?_
 rcases nxtN_of (n:=256) (ws:=wsP p) (k:=celN9 c)with ⟨a,b⟩|⟨j,a,b,e,d,g⟩
 ·exact⟨fun _=>b,fun _=>a⟩
 ·rw[a];refine⟨fun h=>by omega,fun h=>?_⟩;rw[h j b e] at d
  cases d
theorem cntB_cut(f:Nat->Bool)(n:Nat):∀ d,(∀ j,n<=j->j<n+d->f j=false)->aH f (n+d)=aH f n
 | 0,_=>rfl
 | d+1,h=>by rw[<-Nat.add_assoc,lM f _ (h (n+d) (by omega) (by omega))];exact cntB_cut f n d (fun j a b=>h j a (by omega))
theorem DZ(c:Nat)(h:c<=7):celN9 c<=256/\1<=celN9 c:=by
 match c,h with
 | 0,_=>decide
 | 1,_=>decide
 | 2,_=>decide
 | 3,_=>decide
 | 4,_=>decide
 | 5,_=>decide
 | 6,_=>decide
 | 7,_=>decide
theorem ok5_lv{p:Pg}(hp:PgIn p){c:Nat}(hc:p.cl=(c:Int))(d:c<=7)(i:p.kd=4)(h:ok5 p=true):∃ l:Nat,p.lv=(l:Int)/\1<=l/\l<=celN9 c/\l=aH (aE (wsP p)) (celN9 c):=by
 rw[ok5_iff p hp c hc i] at h;obtain⟨⟨k,g⟩,f⟩:=h;have m:=DZ c d;have e:aH (aE (wsP p)) 256=aH (aE (wsP p)) (celN9 c):=by have:=cntB_cut (aE (wsP p)) (celN9 c) (256-celN9 c) (fun j a b=>f j a (by omega));rwa [show celN9 c+(256-celN9 c)=256 by omega] at this
 have:=sZ (aE (wsP p)) (celN9 c);exact⟨aH (aE (wsP p)) 256,g,by omega,by omega,e⟩
theorem frL_len(p:Pg)(n:Nat):(frL p n).length+aH (aE (wsP p)) n=n:=by
 induction n with
 | zero=>rfl
 | succ n a=>
  unfold frL at a ⊢;rw[List.range_succ,List.filter_append,List.length_append]
  cases h:aE (wsP p) n with
  | true=>rw[mB _ _ h];simp[h];omega
  | false=>rw[lM _ _ h];simp[h];omega
theorem ok10_eq(I:Img)(j:Nat):ok10 I j=refL (dec10 I) (-1) (fun i=>(I.pg i).nx) (fun i=>(I.pg i).pv) (fun i=>prS (j:Int) (I.pg i)) (pgL I (prS (j:Int))).length (I.pt.getD j 0) (-1):=by unfold ok10;refine DA (cod:=fun i=>(i:Int)) (fun i=>by omega) (fun i j h=>by omega) (fun p i h=>(dec10_i h).2.1) rfl (pgL I (prS (j:Int))) (pgL_nodup _ _) (fun p i h=>?_) _ (pgL I (prS (j:Int))) [] _ _ rfl (pgL_nodup _ _) List.nodup_nil (fun i=>by simp) (fun i _ h=>by cases h) trivial rfl;rw[pgL_mem];exact⟨fun x=>x.2,fun x=>⟨(dec10_i h).1,x⟩⟩
theorem DY(I:Img)(S:Pg->Bool):∀ n,((List.range n).filter fun i=>S (I.pg i)).length=aH (fun i=>S (I.pg i)) n
 | 0=>rfl
 | n+1=>by
  rw[List.range_succ,List.filter_append,List.length_append,DY I S n]
  cases h:S (I.pg n)with
  | true=>rw[mB (fun i=>S (I.pg i)) n h];simp[h]
  | false=>rw[lM (fun i=>S (I.pg i)) n h];simp[h]
theorem DX(I:Img)(S:Pg->Bool):(pgL I S).length=aH (fun i=>S (I.pg i)) I.np:=DY I S I.np
end Go.Proofs.YtfmgnljlkdmndaaGreatDoor.W
