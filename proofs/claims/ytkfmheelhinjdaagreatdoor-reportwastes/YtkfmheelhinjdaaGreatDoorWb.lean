import Derived.Test.YtkfmheelhinjdaaGreatDoorXr
import Derived.Test.YtkfmheelhinjdaaGreatDoorWd
set_option maxRecDepth 1000000
set_option maxHeartbeats 80000000
namespace Go.Proofs.YtkfmheelhinjdaaGreatDoor.W
open _root_.Go.Proofs.Tryz
open Go.RowKit
set_option linter.unusedVariables false
set_option maxHeartbeats 8000000
set_option maxRecDepth 6000
theorem OU{p:Pg}{o:Int}(h:isF p o=true):p.kd=0/\p.od=o:=by
 simpa [isF] using h
theorem QQ{I:Img}{k a i:Nat}(hi:i<k)(h1:a%(2*2 ^ i)=0)(h2:isF (I.pg a) (i:Int)=true)(h3:isF (I.pg (a+2 ^ i)) (i:Int)=true):ok6 I k a=false:=by
 obtain⟨-,e⟩:=OU h2;unfold ok6;rw[e,Int.toNat_natCast,h2,h3,decide_eq_true (show(i:Int)<k by omega),decide_eq_true h1];rfl
theorem WN{I:Img}{k r a:Nat}(hS:Sn9 I k r)(ha:a<I.np)(h:∀ i,i<k->a%(2*2 ^ i)=0->isF (I.pg a) (i:Int)=true->isF (I.pg (a+2 ^ i)) (i:Int)=false):ok6 I k a=true:=by
 obtain⟨kd,o,c,l,-,-,e3,e4,-⟩:=hS.pg a ha;unfold ok6;rw[e3,Int.toNat_natCast];by_cases h1:isF (I.pg a) (o:Int)=true
 ·by_cases h2:o<k
  ·by_cases h3:a%(2*2 ^ o)=0
   ·rw[h o h2 h3 h1];simp
   ·rw[decide_eq_false h3];simp
  ·rw[decide_eq_false (show ¬(o:Int)<k by omega)];simp
 ·rw[Bool.not_eq_true] at h1;rw[h1];simp
theorem QP(I:Img)(V:ImV)(k r:Nat)(hS:Sn9 I k r)(w:World)(hI:ImD w I V):
  Calls prog 105 #[imA I V] w fun e w'=>e=.returned (.int .i64 (eB (fst1 I.np (ok6 I k))))/\Kt nO w w':=by
 obtain⟨⟨ma,mc,hm⟩,⟨pa,pc,hp⟩,⟨ra,rc,hr⟩,⟨ha,hc,hh⟩,⟨ta,tc,ht⟩,-⟩:=hI.sl;obtain⟨vm,vp,vr,vh,vt⟩:=V;dsimp only at hm hp hr hh ht;subst hm hp hr hh ht;have IM0:=aA (show ImAt (w.alloc (aE I _)) w.heap.size I _ from⟨nH _ _,hI.keep ((Kt.refl _ w).alloc _)⟩);have K0:=aA (show Kt nO w (w.alloc (aE I _))from(Kt.refl _ w).alloc (aE I ⟨.slice ma I.nm mc,.slice pa I.np pc,.slice ra I.no rc,.slice ha I.hd.length hc,.slice ta I.pt.length tc⟩));obtain⟨c0,c1,c2,c3,c4,c5,c6,c7,c8⟩:=IM0.out.cells;have HS:=aA hS;have OP:=aA (fun g o hg W hI=>tT I ⟨.slice ma I.nm mc,.slice pa I.np pc,.slice ra I.no rc,.slice ha I.hd.length hc,.slice ta I.pt.length tc⟩ g o hg W hI);have PW:=aA (fun j hj W=>mL j hj W);obtain⟨rr,hrr⟩:=xe (eB (fst1 I.np (ok6 I k)));rw[<-hrr];have BAD:=aA (show ∀ a,a<I.np->(∀ j,j<a->ok6 I k j=true)->ok6 I k a=false->rr=(a:Int)from fun a h1 h2 h3=>by rw[hrr,fK h1 h2 h3];rfl);have GOOD:=aA (show(∀ j,j<I.np->ok6 I k j=true)->rr = -1 from fun h=>by rw[hrr,fst1_ok h];rfl);have HNP:=aA hS.np1;have HK8:=aA hS.k8;have HO:=aA hS.ord;clear hI hrr hS;go_enter func105,ntmps105;go_wp2_with fail;clear c0 c1 c2 c3 c4 c5 c6 c7 c8;generalize w.heap.size=ib at *;generalize w.alloc (aE I ⟨.slice ma I.nm mc,.slice pa I.np pc,.slice ra I.no rc,.slice ha I.hd.length hc,.slice ta I.pt.length tc⟩)=W0 at *;go_loopw [3] (fun iv W=>∃ a:Nat,a<=I.np/\iv=.int .i64 a/\Hid (Kt nO W0 W/\∀ j,j<a->ok6 I k j=true)) (fun iv _=>I.np-(intOf iv).toNat)
 case atStart=>exact⟨0,Nat.zero_le _,rfl,aA ⟨Kt.refl _ _,fun j hj=>by omega⟩⟩
 case round=>
  obtain⟨a,ha',rfl,hG⟩:=hrel;have IMa:=aA (IM0.out.keep hG.out.1);obtain⟨c0,c1,c2,c3,c4,c5,c6,c7,c8⟩:=IMa.out.cells;dsimp only at c5;by_cases hlt:a<I.np
  ·have hai:(a:Int)<I.np:=(by omega);have HLT:=aA hlt;have PREV:=aA hG.out.2;have KA:=aA hG.out.1;clear hlt ha' hG;go_wp2_with fail;clear c0 c1 c2 c3 c4 c5 c6 c7 c8;obtain⟨wq,hwq⟩:∃ W,W=wr:=⟨_,rfl⟩;rw[<-hwq] at KA IMa;rw[<-hwq];clear hwq;go_loopw [4] (fun iv W=>∃ j:Nat,j<=k/\iv=.int .i64 j/\Hid (Kt nO wq W/\∀ i,i<j->a%(2*2 ^ i)=0->isF (I.pg a) (i:Int)=true->isF (I.pg (a+2 ^ i)) (i:Int)=false)) (fun iv _=>k-(intOf iv).toNat)
   case atStart=>exact⟨0,Nat.zero_le _,rfl,aA ⟨Kt.refl _ _,fun i hi=>by omega⟩⟩
   case round=>
    obtain⟨j,hj,rfl,hJ⟩:=hrel;have IMb:=aA (IMa.out.keep hJ.out.1);obtain⟨c0,c1,c2,c3,c4,c5,c6,c7,c8⟩:=IMb.out.cells;by_cases hjk:j<k
    ·have hji:(j:Int)<I.ord:=(by rw[HO.out];omega);have HJK:=aA hjk;have INV:=aA hJ.out.2;have KJ:=aA hJ.out.1;clear hjk hj hJ;go_wp2_with fail;refine(PW.out j (by have:=HK8.out;have:=HJK.out;omega) _).mono ?_;rintro e w1 ⟨rfl,rfl⟩;obtain⟨P,hP⟩:=xe (2 ^ j);rw[<-hP];have hP1 : 1<=P:=(by rw[hP];exact Nat.two_pow_pos j);have hP2:P<=512:=(by rw[hP];exact mG j (by have:=HK8.out;have:=HJK.out;omega));have HPE:=aA hP;have m1:wrap64 (2*(P:Int))=((2*P:Nat):Int):=(by rw[wrap64];omega);have FIT:=aA (show a%(2*P)=0->a+P<I.np from fun h=>by
      have h2 : 2*P=2 ^ (j+1):=(by rw[hP,Nat.pow_succ,Nat.mul_comm]);have:=mul_fits (HS.out.dvd (j+1) (by have:=HJK.out;omega)) (by rw[<-h2];exact h) HLT.out;omega)
     obtain⟨Q,hQ⟩:=xe (2*P);rw[<-hQ] at m1 FIT;have hQ0:¬(Q:Int)=0:=(by omega);have hQ1:((Q:Int) == 0)=false:=(by rw[beq_eq_false_iff_ne];omega);have hQm:¬(Q:Int) = -1:=(by omega);obtain⟨m,hm⟩:=xe (a%Q);have r1:(a:Int)%(Q:Int)=m:=(by rw[hm];rfl);have r2:(a:Int).tmod (Q:Int)=m:=(by rw[Int.tmod_eq_emod_of_nonneg (by omega)];exact r1);have ADD:=aA (show a+P<=5000 by have:=HLT.out;have:=HNP.out;omega);have HM:=aA hm;have HQ:=aA hQ;clear hP hQ hm hP1 hP2;have NEXT:=aA (show(a%(2*2 ^ j)=0->isF (I.pg a) (j:Int)=true->isF (I.pg (a+2 ^ j)) (j:Int)=false)->∀ i,i<j+1->a%(2*2 ^ i)=0->isF (I.pg a) (i:Int)=true->isF (I.pg (a+2 ^ i)) (i:Int)=false from fun h i hi=>by
      by_cases e:i=j
      ·subst e;exact h
      ·exact INV.out i (by omega))
     have ME:=aA (show a%(2*2 ^ j)=m by rw[HM.out,HQ.out,HPE.out]);have hw:wrap64 ((j:Int)+1)=((j+1:Nat):Int):=(by have:=HK8.out;have:=HJK.out;rw[wrap64];omega);have HW:=aA hw;clear hw;by_cases h0:m=0
     case neg=>
      have q0:((m:Int) == 0)=false:=(by rw[beq_eq_false_iff_ne];omega);have N1:=aA (NEXT.out (fun h=>absurd (ME.out.symm.trans h) h0));clear h0;go_wp2_with fail;rw[HW.out];exact⟨⟨j+1,by have:=HJK.out;omega,rfl,aA ⟨KJ.out,N1.out⟩⟩,by have:=HJK.out;simp only[intOf,Int.toNat_natCast];omega⟩
     have q0:((m:Int) == 0)=true:=(by rw[beq_iff_eq];omega);have H0:=aA h0;clear h0;obtain⟨b1,hb1⟩:∃ b,b=isF (I.pg a) (j:Int):=⟨_,rfl⟩;have HB1:=aA hb1;clear hb1;go_wp2_with fail;refine(OP.out a (j:Int) HLT.out _ IMb.out.d).mono ?_;rintro e w2 ⟨rfl,k2⟩;rw[<-HB1.out];have IM2:=aA (IMb.out.keep k2);have K2:=aA (nT KJ.out k2);clear k2 c0 c1 c2 c3 c4 c5 c6 c7 c8
     cases b1 with
     | false=>
      have N1:=aA (NEXT.out (fun _ h=>by rw[<-HB1.out] at h;cases h));go_wp2_with fail;rw[HW.out];exact⟨⟨j+1,by have:=HJK.out;omega,rfl,aA ⟨K2.out,N1.out⟩⟩,by have:=HJK.out;simp only[intOf,Int.toNat_natCast];omega⟩
     | true=>
      obtain⟨c0,c1,c2,c3,c4,c5,c6,c7,c8⟩:=IM2.out.cells;obtain⟨g,hg⟩:=xe (a+P);have a1:wrap64 ((a:Int)+(P:Int))=(g:Int):=(by have:=ADD.out;rw[wrap64];omega);have HGE:=aA hg;have HGL:=aA (show g<I.np by rw[hg];exact FIT.out (by rw[<-HM.out];exact H0.out));obtain⟨b2,hb2⟩:∃ b,b=isF (I.pg g) (j:Int):=⟨_,rfl⟩;have HB2:=aA hb2;clear hb2 hg;go_wp2_with fail;refine(OP.out g (j:Int) HGL.out _ IM2.out.d).mono ?_;rintro e w3 ⟨rfl,k3⟩;rw[<-HB2.out];have K3:=aA (nT K2.out k3);clear k3 c0 c1 c2 c3 c4 c5 c6 c7 c8
      cases b2 with
      | false=>
       have N1:=aA (NEXT.out (fun _ _=>by rw[<-HPE.out,<-HGE.out];exact HB2.out.symm));go_wp2_with fail;rw[HW.out];exact⟨⟨j+1,by have:=HJK.out;omega,rfl,aA ⟨K3.out,N1.out⟩⟩,by have:=HJK.out;simp only[intOf,Int.toNat_natCast];omega⟩
      | true=>
       have er:=BAD.out a HLT.out PREV.out (QQ HJK.out (ME.out.trans H0.out) HB1.out.symm (by rw[<-HPE.out,<-HGE.out];exact HB2.out.symm));subst er;go_wp2_with fail;go_ret;exact⟨rfl,nT K0.out (nT KA.out K3.out)⟩
    ·have hji:¬(j:Int)<I.ord:=(by rw[HO.out];omega);have eo:=WN HS.out HLT.out (fun i hi=>hJ.out.2 i (by omega));have KE:=aA (nT KA.out hJ.out.1);have EO:=aA eo;clear hJ eo;go_wp2_with fail;have hw:wrap64 ((a:Int)+1)=((a+1:Nat):Int):=(by have:=HNP.out;have:=HLT.out;rw[wrap64];omega);go_round
     case rel=>exact⟨a+1,by have:=HLT.out;omega,by rw[hw],aA ⟨KE.out,fun i hi=>by
      by_cases e:i=a
      ·rw[e];exact EO.out
      ·exact PREV.out i (by omega)⟩⟩
     case measure=>rw[hw];have:=HLT.out;simp only[intOf,Int.toNat_natCast];omega
  ·have hai:¬(a:Int)<I.np:=(by omega);have er:=GOOD.out (fun j hj=>hG.out.2 j (by omega));subst er;go_wp2_with fail;go_ret;exact⟨rfl,nT K0.out hG.out.1⟩
end Go.Proofs.YtkfmheelhinjdaaGreatDoor.W
namespace Go.Proofs.YtkfmheelhinjdaaGreatDoor
open _root_.Go.Proofs.Tryz
open Go.RowKit
set_option linter.unusedVariables false
def bJ(x:Bx)(t:Bt)(S:Sb)(L:Nat):W.Img:=⟨x.bS,(L:Int),(x.o:Int),((t.m.n/2 ^ x.o:Nat):Int),x.n,t.f,t.m.n,t.m.pg,x.o,t.m.wd,(List.range (x.o+1)).map t.hd,(List.range 8).map fun k=>bD (S.pl k)⟩
structure St0(x:Bx)(t:Bt)(fr:Nat->List Nat)(B:Nat->Nat->Nat->Prop)(S:Sb)(L:Nat):Prop where
 sd:Sd x t fr B
 n9:∀ q i,¬B 9 q i
 st:t.m.n*4096=x.n
 si:SI x t S
 lv:gQ S
 may:M.mayB x.bS (L:Int) (x.o:Int)=true
 le:t.m.n/2 ^ x.o<=L
 hz:∀ k,k<x.o->∀ j,t.m.n/2 ^ (k+1)<=j->aC (t.m.wd k) j=false
 pin:∀ i,i<t.m.n->W.PgIn (t.m.pg i)
section
variable {x:Bx} {t:Bt} {fr:Nat->List Nat} {B:Nat->Nat->Nat->Prop} {S:Sb} {L:Nat}
theorem St0.tag(h:St0 x t fr B S L){g p k:Nat}(hb:B g p k):(g=0\/g=2)/\g≠9:=by
 rcases h.sd.tg g p k hb with e|e|e
 ·exact⟨.inl e,by omega⟩
 ·exact⟨.inr e,by omega⟩
 ·subst e;exact absurd hb (h.n9 p k)
theorem St0.page(h:St0 x t fr B S L){i:Nat}(hi:i<t.m.n):(∃ k,S.c i=some k/\k<8/\SlP S i k (t.m.pg i)/\B 2 i 0)\/(S.c i=none/\∃ g p k,B g p k/\p<=i/\i<p+2 ^ k/\(g=0\/g=2)/\t.m.pg i=aN (if i=p then (g:Int) else (g:Int)+1) (k:Int)):=by
 cases e:S.c i with
 | some k=>
  obtain⟨h1,h2⟩:=h.si.pg i k e;exact .inl ⟨k,rfl,h1,h2,(h.sd.vs i (t.m.pg i) (by rw[h.si.eP];exact jS e)).1⟩
 | none=>
  obtain⟨g,p,k,hb,h1,h2⟩:=h.sd.cv i hi;have hp:=h.sd.pg g p k hb (h.tag hb).2 i h1 h2;rw[h.si.eP,iY e,Option.getD_none] at hp;exact .inr ⟨rfl,g,p,k,hb,h1,h2,(h.tag hb).1,hp⟩
theorem St0.first(h:St0 x t fr B S L){g i k:Nat}(hb:B g i k)(hc:S.c i=none):t.m.pg i=aN (g:Int) (k:Int):=by
 have hp:=h.sd.pg g i k hb (h.tag hb).2 i (Nat.le_refl _) (by have:=Nat.two_pow_pos k;omega);rwa [h.si.eP,iY hc,Option.getD_none,if_pos rfl] at hp
theorem St0.slabB(h:St0 x t fr B S L){i k:Nat}(hc:S.c i=some k):B 2 i 0:=(h.sd.vs i (t.m.pg i) (by rw[h.si.eP];exact jS hc)).1
theorem St0.one(h:St0 x t fr B S L){g i k g' k':Nat}(h1:B g i k)(h2:B g' i k'):g=g'/\k=k':=by
 rcases h.sd.ds _ _ _ _ _ _ h1 h2 with ⟨e1,-,e2⟩|e|e
 ·exact⟨e1,e2⟩
 ·have:=Nat.two_pow_pos k;omega
 ·have:=Nat.two_pow_pos k';omega
theorem St0.isF_iff(h:St0 x t fr B S L){i j:Nat}(hi:i<t.m.n):W.isF (t.m.pg i) (j:Int)=true↔B 0 i j:=by
 constructor
 ·intro hf;unfold W.isF at hf;rw[Bool.and_eq_true,decide_eq_true_eq,decide_eq_true_eq] at hf;rcases h.page hi with ⟨k,h1,h2,h3,h4⟩|⟨h1,g,p,k,hb,h2,h3,h4,h5⟩
  ·rw[h3.kd] at hf;omega
  ·rw[h5] at hf;obtain⟨f1,f2⟩:=hf;have f1:(if i=p then (g:Int) else (g:Int)+1)=0:=f1;have f2:(k:Int)=j:=f2;by_cases e:i=p
   ·rw[if_pos e] at f1;have e1:g=0:=(by omega);have e2:k=j:=(by omega);rw[e,<-e2,<-e1];exact hb
   ·rw[if_neg e] at f1;omega
 ·intro hb;have hc:S.c i=none:=by
   cases e:S.c i with
   | none=>rfl
   | some k=>have:=(h.one hb (h.slabB e)).1;omega
  rw[h.first hb hc];simp[W.isF,aN]
theorem St0.isF_mem(h:St0 x t fr B S L){i j:Nat}(hi:i<t.m.n)(hj:j<=x.o):W.isF (t.m.pg i) (j:Int)=decide (i∈fr j):=by
 rw[Bool.eq_iff_iff,h.isF_iff hi,h.sd.fi,decide_eq_true_eq];exact⟨fun e=>e.2,fun e=>⟨hj,e⟩⟩
theorem St0.np(h:St0 x t fr B S L):t.m.n/2 ^ x.o*2 ^ x.o=t.m.n:=by
 obtain⟨r,hr⟩:=h.sd.dv;rw[hr,Nat.mul_div_cancel _ (Nat.two_pow_pos _)]
theorem St0.rl0(h:St0 x t fr B S L):W.rl (bJ x t S L) 0=none:=by
 show(if _ then _ else _)=_
 exact if_pos h.may
theorem St0.rl1(h:St0 x t fr B S L):W.rl (bJ x t S L) 1=none:=by
 show W.r2 (bJ x t S L) (x.o:Int).toNat=none
 rw[Int.toNat_natCast];unfold W.r2;have e1:(bJ x t S L).reg.toNat*2 ^ x.o=t.m.n:=by
  show((t.m.n/2 ^ x.o:Nat):Int).toNat*2 ^ x.o=_
  rw[Int.toNat_natCast];exact h.np
 have e2:W.wiB (bJ x t S L).reg 0 (bJ x t S L).lim=true:=by
  unfold W.wiB;have hq:=h.le;show decide ((0:Int)<=((t.m.n/2 ^ x.o:Nat):Int)/\((t.m.n/2 ^ x.o:Nat):Int)<=(L:Int))=true
  generalize t.m.n/2 ^ x.o=q at hq;exact decide_eq_true ⟨by omega,by omega⟩
 rw[e1,if_neg (by rw[e2];simp),if_neg (not_not_intro (show(bJ x t S L).nm=t.m.n*4096 from h.st.symm)),if_neg (not_not_intro (show(bJ x t S L).np=t.m.n from rfl)),if_neg (not_not_intro (show(bJ x t S L).no=x.o from rfl)),if_neg,if_neg (not_not_intro (show(bJ x t S L).hd.length=x.o+1 by simp[bJ])),if_neg (not_not_intro (show(bJ x t S L).pt.length=8 by simp[bJ]))];exact not_not_intro (W.fst1_ok fun j hj=>decide_eq_true (h.sd.wl j hj))
theorem St0.rl2(h:St0 x t fr B S L):W.rl (bJ x t S L) 2=none:=by
 refine W.fst1_ok fun i hi=>?_
 have hi:i<t.m.n:=hi;show W.rngB (x.o:Int) (t.m.n:Int) (t.m.pg i)=true
 have n1:=h.sd.n1;simp only[W.rngB,W.wiB,Bool.and_eq_true,decide_eq_true_eq];rcases h.page hi with ⟨k,h1,h2,h3,h4⟩|⟨h1,g,p,k,hb,h2,h3,h4,h5⟩
 ·have hn:=dQ h2;have hm:∀ r,r∈S.pl k->r<t.m.n:=fun r hr=>by
   have:=h.sd.al _ _ _ (h.slabB ((h.si.pm k h2 r).1 hr).1);simp at this;omega
  have hf:(-1:Int)<=bD (S.fl i)/\bD (S.fl i)<=255:=by
   rcases qU (S.fl i)with e|⟨r,e,hr⟩
   ·omega
   ·have:=(h.si.fl i k h1).2.1 r hr;omega
  have hx:(-1:Int)<=bC (S.pl k) i/\bC (S.pl k) i<=(t.m.n:Int)-1:=by
   rcases mS (S.pl k) i (h.si.pn k h2)with e|⟨r,e,hr,-⟩
   ·omega
   ·have:=hm r hr;omega
  have hy:(-1:Int)<=bH (S.pl k) i/\bH (S.pl k) i<=(t.m.n:Int)-1:=by
   rcases nL (S.pl k) i (h.si.pn k h2)with e|⟨r,e,hr,-⟩
   ·omega
   ·have:=hm r hr;omega
  rw[h3.kd,h3.od,h3.cl,h3.lv,h3.nx,h3.pv,h3.fs];refine⟨?_,?_,?_,?_,hx,hy,hf⟩ <;> omega
 ·have hk:=(h.sd.al _ _ _ hb).1;rw[h5];simp only[aN];refine⟨?_,?_,?_,?_,?_,?_,?_⟩ <;> (try split) <;> omega
theorem St0.starts(h:St0 x t fr B S L){a:Nat}(ha:a<t.m.n)(hs:a=0\/∃ g p k,B g p k/\p+2 ^ k=a):∃ g k,B g a k:=by
 obtain⟨g,p,k,hb,h1,h2⟩:=h.sd.cv a ha;by_cases e:p=a
 ·exact⟨g,k,by rw[<-e];exact hb⟩
 rcases hs with e0|⟨g',p',k',hb',e'⟩
 ·omega
 ·exfalso
  rcases h.sd.ds _ _ _ _ _ _ hb hb' with ⟨-,e1,e2⟩|e1|e1
  ·rw[e1,e2] at h2;omega
  ·have:=Nat.two_pow_pos k';omega
  ·omega
theorem St0.r4(h:St0 x t fr B S L):∀ m a,t.m.n-a<m->(a=t.m.n\/∃ g k,B g a k)->W.r4F (bJ x t S L) m a=none
 | 0,a,hm,_=>by omega
 | m+1,a,hm,hs=>by
  by_cases e:a=t.m.n
  ·subst e;exact W.r4F_end
  rcases hs with e'|⟨g,k,hb⟩
  ·exact absurd e' e
  have hal:=h.sd.al _ _ _ hb;have hp:=Nat.two_pow_pos k;have ha:a<t.m.n:=by omega
  have next:a+2 ^ k=t.m.n\/∃ g' k',B g' (a+2 ^ k) k':=by
   by_cases e2:a+2 ^ k=t.m.n
   ·exact .inl e2
   ·exact .inr (h.starts (by omega) (.inr ⟨g,a,k,hb,rfl⟩))
  cases hc:S.c a with
  | some c=>
   obtain⟨-,h3⟩:=h.si.pg a c hc;obtain⟨-,e0⟩:=h.one hb (h.slabB hc);subst e0;have hd:W.hdOk ((bJ x t S L).pg a) a=true:=by
    show W.hdOk (t.m.pg a) a=true
    unfold W.hdOk;rw[if_pos h3.kd,h3.od];rfl
   rw[W.r4F_ok (o:=0) ha (by show(t.m.pg a).od=_;rw[h3.od];rfl) hd (fun x hx=>by simp at hx)];exact h.r4 m (a+2 ^ 0) (by omega) next
  | none=>
   have hf:=h.first hb hc
   have hd:W.hdOk ((bJ x t S L).pg a) a=true:=by
    show W.hdOk (t.m.pg a) a=true
    rw[hf];unfold W.hdOk;have hg:=(h.tag hb).1;rw[if_neg (by show ¬(g:Int)=4;omega),if_pos (by show(g:Int)=0\/(g:Int)=2;omega)];show(decide (a%2 ^ (k:Int).toNat=0) && W.pgE (aN (g:Int) (k:Int)) (aN (g:Int) (k:Int)))=true
    rw[Int.toNat_natCast,decide_eq_true hal.2.1,Bool.true_and];exact decide_eq_true rfl
   rw[W.r4F_ok (o:=k) ha (by show(t.m.pg a).od=_;rw[hf];rfl) hd]
   ·exact h.r4 m (a+2 ^ k) (by omega) next
   ·intro y hy;show W.rsOk (t.m.pg a) (t.m.pg (a+1+y))=true
    have hn:S.c (a+1+y)=none:=by
     cases e3:S.c (a+1+y)with
     | none=>rfl
     | some c=>
      rcases h.sd.ds _ _ _ _ _ _ hb (h.slabB e3)with ⟨-,e1,-⟩|e1|e1
      ·omega
      ·omega
      ·simp at e1;omega
    have hq:=h.sd.pg g a k hb (h.tag hb).2 (a+1+y) (by omega) (by omega);rw[h.si.eP,iY hn,Option.getD_none,if_neg (by omega)] at hq;rw[hq,hf];show W.pgE (aN ((g:Int)+1) (k:Int)) (aN ((g:Int)+1) (k:Int))=true
    simp[W.pgE]
theorem St0.rl3(h:St0 x t fr B S L):W.rl (bJ x t S L) 3=none:=by
 show W.r4F (bJ x t S L) (t.m.n+1) 0=none
 refine h.r4 _ 0 (by omega) ?_;by_cases e:t.m.n=0
 ·exact .inl e.symm
 ·exact .inr (h.starts (by omega) (.inl rfl))
theorem St0.rl5(h:St0 x t fr B S L):W.rl (bJ x t S L) 5=none:=by
 show W.fst1 t.m.n (W.ok6 (bJ x t S L) (x.o:Int).toNat)=none
 rw[Int.toNat_natCast];refine W.fst1_ok fun a ha=>?_
 unfold W.ok6;show(!(W.isF (t.m.pg a) (t.m.pg a).od && decide ((t.m.pg a).od<(x.o:Int)) && decide (a%(2*2 ^ (t.m.pg a).od.toNat)=0)) || !W.isF (t.m.pg (a+2 ^ (t.m.pg a).od.toNat)) (t.m.pg a).od)=true
 cases hf:W.isF (t.m.pg a) (t.m.pg a).od with
 | false=>rfl
 | true=>
  have:∃ j:Nat,(t.m.pg a).od=(j:Int):=by
   rcases h.page ha with ⟨k,h1,h2,h3,h4⟩|⟨h1,g,p,k,hb,h2,h3,h4,h5⟩
   ·exact⟨0,h3.od⟩
   ·exact⟨k,by rw[h5];rfl⟩
  obtain⟨j,hj⟩:=this;rw[hj] at hf ⊢;rw[Int.toNat_natCast];have hb:=(h.isF_iff ha).1 hf;obtain⟨hjo,hfr⟩:=(h.sd.fi _ _).1 hb;by_cases hjk:j<x.o
  ·by_cases hal:a%(2*2 ^ j)=0
   ·rw[decide_eq_true (show(j:Int)<x.o by omega),decide_eq_true hal];obtain⟨i,hi⟩:=Nat.dvd_of_mod_eq_zero hal;have hfit:a+2 ^ j<t.m.n:=by
     have hd : 2*2 ^ j ∣ t.m.n:=by
      rw[<-h.np,show 2*2 ^ j=2 ^ (j+1)by rw[Nat.pow_succ,Nat.mul_comm]];exact Nat.dvd_trans (Nat.pow_dvd_pow 2 hjk) (Nat.dvd_mul_left _ _)
     have:=W.mul_fits hd hal ha;have:=Nat.two_pow_pos j;omega
    rw[h.isF_mem hfit hjo,decide_eq_false]
    ·rfl
    ·intro hm;refine h.sd.nm j hjk i ⟨?_,?_⟩
     ·rw[show 2*i*2 ^ j=a by rw[hi,Nat.mul_right_comm]];exact hfr
     ·rw[show(2*i+1)*2 ^ j=a+2 ^ j by rw[Nat.add_mul,Nat.one_mul,hi,Nat.mul_right_comm]];exact hm
   ·rw[decide_eq_false hal];simp
  ·rw[decide_eq_false (show ¬(j:Int)<x.o by omega)];simp
theorem St0.rl6(h:St0 x t fr B S L):W.rl (bJ x t S L) 6=none:=by
 show W.fstO x.o (W.r7k (bJ x t S L))=none
 refine W.fstO_ok fun a ha=>W.r7k_good (fun i hi=>?_) (fun i hi _=>h.hz a ha i hi)
 have hi:i<t.m.n/2 ^ (a+1):=hi;show aC (t.m.wd a) i=(W.isF (t.m.pg (i*2 ^ (a+1))) (a:Int) != W.isF (t.m.pg (i*2 ^ (a+1)+2 ^ a)) (a:Int))
 have hl:=W.half_lt hi;have hp:=Nat.two_pow_pos a;rw[h.sd.bt a ha i hi,h.isF_mem (by omega) (by omega),h.isF_mem hl (by omega)];rw[show i*2 ^ (a+1)=2*i*2 ^ a by rw[Nat.pow_succ,Nat.mul_comm 2 i,Nat.mul_assoc,Nat.mul_comm 2],show(2*i+1)*2 ^ a=2*i*2 ^ a+2 ^ a by rw[Nat.add_mul,Nat.one_mul]]
end
theorem VO(p:Pg){i:Nat}(hi:i<256):aC (W.wsP p) i=aJ p i:=by
 unfold aC aJ;have:(W.wsP p).getD (i/64) 0=wP p (i/64):=by
  obtain⟨q,hq⟩:=xe (i/64);rw[<-hq];match q,(show q<4 by omega)with
  | 0,_=>rfl
  | 1,_=>rfl
  | 2,_=>rfl
  | 3,_=>rfl
  | _+4,h=>omega
 rw[this]
theorem VN(l:List Nat):∀ n,l.Nodup->(∀ i∈l,i<n)->aD (fun i=>decide (i ∉ l)) n+l.length=n:=by
 intro n hd hl;have key:∀ n,aD (fun i=>decide (i ∉ l)) n+((List.range n).filter fun i=>decide (i∈l)).length=n:=by
  intro n;induction n with
  | zero=>rfl
  | succ n ih=>
   rw[List.range_succ,List.filter_append,List.length_append];by_cases h:n∈l
   ·have e1 : [n].filter (fun i=>decide (i∈l))=[n]:=(by simp[h]);rw[kL _ _ (decide_eq_false (not_not_intro h)),e1,<-Nat.add_assoc,ih];rfl
   ·have e1 : [n].filter (fun i=>decide (i∈l))=[]:=(by simp[h]);rw[lI _ _ (decide_eq_true h),e1,List.length_nil];omega
 have hp:((List.range n).filter fun i=>decide (i∈l)).length=l.length:=by
  refine List.Perm.length_eq ((List.perm_ext_iff_of_nodup (List.nodup_range.filter _) hd).2 fun i=>?_);simp only[List.mem_filter,List.mem_range,decide_eq_true_eq];exact⟨fun h=>h.2,fun h=>⟨hl i h,h⟩⟩
 have:=key n;omega
section
variable {x:Bx} {t:Bt} {fr:Nat->List Nat} {B:Nat->Nat->Nat->Prop} {S:Sb} {L:Nat}
theorem St0.bits(h:St0 x t fr B S L){i k:Nat}(hc:S.c i=some k)(j:Nat)(hj:j<256):aC (W.wsP (t.m.pg i)) j=decide (j<aI k/\j ∉ S.fl i):=by
 rw[VO _ hj];exact(h.si.pg i k hc).2.bt j hj
theorem St0.cnt(h:St0 x t fr B S L){i k:Nat}(hc:S.c i=some k):aD (aC (W.wsP (t.m.pg i))) 256=aI k-(S.fl i).length:=by
 obtain⟨hk,-⟩:=h.si.pg i k hc;have hn:=dQ hk;have e:=VN (S.fl i) (aI k) (h.si.fl i k hc).1 (h.si.fl i k hc).2.1;have e2:aD (aC (W.wsP (t.m.pg i))) (aI k+(256-aI k))=aD (aC (W.wsP (t.m.pg i))) (aI k):=W.cntB_cut _ _ _ fun j h1 h2=>by
  rw[h.bits hc j (by omega),decide_eq_false];omega
 rw[show aI k+(256-aI k)=256 by omega] at e2;rw[e2,tD _ (fun i'=>decide (i' ∉ S.fl i)) (aI k) fun j hj=>by rw[h.bits hc j (by omega)];simp[hj]];omega
theorem St0.rule5(h:St0 x t fr B S L){i:Nat}(hi:i<t.m.n):W.ok5 (t.m.pg i)=true:=by
 rcases h.page hi with ⟨k,h1,h2,h3,h4⟩|⟨h1,g,p,k,hb,h2,h3,h4,h5⟩
 ·rw[W.ok5_iff (t.m.pg i) (h.pin i hi) k h3.cl h3.kd,h3.lv,h.cnt h1];have:=h.lv i k h1;refine⟨⟨by omega,rfl⟩,fun j h6 h7=>?_⟩;rw[h.bits h1 j h7,decide_eq_false];have:aI k<=j:=h6;omega
 ·unfold W.ok5;rw[h5,decide_eq_false]
  ·rfl
  ·show ¬(if i=p then (g:Int) else (g:Int)+1)=4
   split <;> omega
theorem St0.rl4(h:St0 x t fr B S L):W.rl (bJ x t S L) 4=none:=W.fst1_ok fun i hi=>h.rule5 hi
theorem St0.sn9(h:St0 x t fr B S L):∃ r,W.Sn9 (bJ x t S L) x.o r:=by
 have:=W.sn9_of h.rl0 h.rl1 h.rl2;rwa [show(bJ x t S L).ord.toNat=x.o from Int.toNat_natCast _] at this
theorem St0.rl10(h:St0 x t fr B S L):W.rl (bJ x t S L) 10=none:=by
 refine W.fst1_ok fun i hi=>?_
 have hi:i<t.m.n:=hi;unfold W.ok11;show(!(decide ((t.m.pg i).kd=4) && decide ((t.m.pg i).lv=(W.celN9 (t.m.pg i).cl.toNat:Int))) || (decide ((t.m.pg i).nx = -1) && decide ((t.m.pg i).pv = -1)))=true
 rcases h.page hi with ⟨k,h1,h2,h3,h4⟩|⟨h1,g,p,k,hb,h2,h3,h4,h5⟩
 ·by_cases e:S.fl i=[]
  ·have hn:i ∉ S.pl k:=fun hm=>((h.si.pm k h2 i).1 hm).2 e
   rw[h3.nx,h3.pv,vB hn,pW hn];simp
  ·have hl : 0<(S.fl i).length:=List.length_pos_iff.2 e;have hle:=h.si.lv i k h1;have hn:=dQ h2;rw[h3.lv,h3.cl,Int.toNat_natCast,decide_eq_false (show ¬((aI k-(S.fl i).length:Nat):Int)=((W.celN9 k:Nat):Int)from fun e=>by
    have e:aI k-(S.fl i).length=aI k:=Int.ofNat.inj e;omega)]
   simp
 ·rw[h5,decide_eq_false]
  ·rfl
  ·show ¬(if i=p then (g:Int) else (g:Int)+1)=4
   split <;> omega
theorem zig{α : Type}[DecidableEq α]{dec : α->Option Nat}{nil : α}{nxt bk:Nat->α}{S:Nat->Bool}{n i:Nat}{p b : α}(h:dec p=some i):W.refL dec nil nxt bk S (n+1) p b=(S i && (decide (bk i=b) && W.refL dec nil nxt bk S n (nxt i) p)):=by rw[W.refL,h]
theorem wB{α : Type}[DecidableEq α]{dec : α->Option Nat}{nil : α}{nxt bk:Nat->α}{P:Nat->Bool}(cod:Nat->α)(xs:List Nat)(hdec:∀ i∈xs,dec (cod i)=some i)(hP:∀ i∈xs,P i=true)
  (hn:∀ j,j<xs.length->nxt (xs.getD j 0)=if j+1<xs.length then cod (xs.getD (j+1) 0) else nil) (hb:∀ j,j<xs.length->bk (xs.getD j 0)=if j=0 then nil else cod (xs.getD (j-1) 0)):
  ∀ d j,j+d=xs.length->W.refL dec nil nxt bk P d (if j<xs.length then cod (xs.getD j 0) else nil) (if j=0 then nil else cod (xs.getD (j-1) 0))=true
 | 0,j,hj=>by
  rw[if_neg (by omega)];exact decide_eq_true rfl
 | d+1,j,hj=>by
  have hm:xs.getD j 0∈xs:=by
   rw[List.getD_eq_getElem?_getD,List.getElem?_eq_getElem (by omega)];exact List.getElem_mem _
  rw[if_pos (by omega),zig (hdec _ hm),hP _ hm,hb j (by omega),decide_eq_true rfl,hn j (by omega),Bool.true_and,Bool.true_and];have:=wB cod xs hdec hP hn hb d (j+1) (by omega);rwa [if_neg (by omega:¬j+1=0),Nat.add_sub_cancel] at this
theorem zX{I:W.Img}{P:Pg->Bool}{xs:List Nat}(hd:xs.Nodup)(h:∀ i,i∈xs↔i<I.np/\P (I.pg i)=true):(W.pgL I P).length=xs.length:=
 List.Perm.length_eq ((List.perm_ext_iff_of_nodup (W.pgL_nodup I P) hd).2 fun i=>by rw[W.pgL_mem];exact(h i).symm)
theorem qV(f:Nat->Nat)(l:List Nat)(j:Nat)(hj:j<l.length):(l.map f).getD j 0=f (l.getD j 0):=by
 simp[List.getElem?_eq_getElem hj]
theorem St0.rl7(h:St0 x t fr B S L):W.rl (bJ x t S L) 7=none:=by
 show W.fst1 ((x.o:Int).toNat+1) (W.ok8 (bJ x t S L))=none
 rw[Int.toNat_natCast];refine W.fst1_ok fun k hk=>?_
 obtain⟨r,hS⟩:=h.sn9;have hk:k<=x.o:=by omega
 have hc:=h.sd.ch k hk;have hlt:∀ i∈fr k,i<t.m.n:=fun i hi=>by
  have:=h.sd.al _ _ _ ((h.sd.fi i k).2 ⟨hk,hi⟩);have:=Nat.two_pow_pos k;omega
 have hmem:∀ i,i∈fr k↔i<t.m.n/\W.isF (t.m.pg i) (k:Int)=true:=fun i=>by
  constructor
  ·intro hi;exact⟨hlt i hi,by rw[h.isF_mem (hlt i hi) hk];exact decide_eq_true hi⟩
  ·rintro ⟨h1,h2⟩;rw[h.isF_mem h1 hk] at h2;exact of_decide_eq_true h2
 have hnd:(fr k).Nodup:=(List.pairwise_map.1 hc.nodup).imp fun hne e=>hne (by rw[e])
 rw[W.ok8_eq hS,zX (I:=bJ x t S L) (P:=fun p=>W.isF p (k:Int)) hnd hmem];have hln:((fr k).map (ad x)).length=(fr k).length:=List.length_map _;have key:=wB (dec:=W.decP (bJ x t S L)) (nil:=0) (nxt:=fun i=>M.word t.f (4096*i)) (bk:=fun i=>M.word t.f (4096*i+8)) (P:=fun i=>W.isF (t.m.pg i) (k:Int)) (ad x) (fr k) ?_ ?_ ?_ ?_ (fr k).length 0 (by omega)
 ·rw[if_pos rfl] at key;show W.refL _ 0 _ _ _ _ (((List.range (x.o+1)).map t.hd).getD k 0) 0=true
  have hh:((List.range (x.o+1)).map t.hd).getD k 0=t.hd k:=by
   simp[show k<x.o+1 by omega]
  rw[hh,hc.head];by_cases e : 0<(fr k).length
  ·rw[if_pos e] at key;rw[qV _ _ 0 e];exact key
  ·rw[if_neg e] at key;have:fr k=[]:=List.eq_nil_of_length_eq_zero (by omega);rw[this] at key ⊢;exact key
 ·intro i hi;have hl:=hlt i hi;have hst:=h.st;unfold W.decP;show(if x.bS<=ad x i/\ad x i-x.bS<x.n/\(ad x i-x.bS)%4096=0 then some ((ad x i-x.bS)/4096) else none)=some i
  unfold ad;rw[if_pos ⟨by omega,by omega,by omega⟩];congr 1
  omega
 ·intro i hi;exact((hmem i).1 hi).2
 ·intro j hj;have:=hc.nxt j (by rw[hln];exact hj);rw[qV _ _ j hj] at this;unfold M.nx ad at this;rw[Nat.add_sub_cancel_left] at this;rw[this];by_cases e:j+1<(fr k).length
  ·rw[if_pos e];exact qV _ _ _ e
  ·rw[if_neg e,List.getD_eq_getElem?_getD,List.getElem?_eq_none (by rw[List.length_map];omega)];rfl
 ·intro j hj;have:=hc.prv j (by rw[hln];exact hj);rw[qV _ _ j hj] at this;unfold M.pv ad at this;rw[show x.bS+4096*(fr k).getD j 0+8-x.bS=4096*(fr k).getD j 0+8 by omega] at this;rw[this];by_cases e:j=0
  ·rw[if_pos e,if_pos e]
  ·rw[if_neg e,if_neg e];exact qV _ _ _ (by omega)
end
theorem yH:∀ (l:List Nat),l.Nodup->∀ j,j<l.length->bC l (l.getD j 0)=if j+1<l.length then ((l.getD (j+1) 0:Nat):Int) else -1
 | [],_,j,hj=>by simp at hj
 | a :: l,hd,0,_=>by
  show(if a=a then bD l else _)=_
  rw[if_pos rfl]
  cases l with
  | nil=>rfl
  | cons b l=>rw[if_pos (by simp)];rfl
 | a :: l,hd,j+1,hj=>by
  rw[List.nodup_cons] at hd;have hj:j<l.length:=by simpa using hj
  have hm:l.getD j 0∈l:=by rw[List.getD_eq_getElem?_getD,List.getElem?_eq_getElem hj];exact List.getElem_mem _
  show(if a=l.getD j 0 then bD l else bC l (l.getD j 0))=if j+1+1<l.length+1 then ((l.getD (j+1) 0:Nat):Int) else -1
  rw[if_neg (fun e=>hd.1 (by rw[e];exact hm)),yH l hd.2 j hj];by_cases e:j+1<l.length
  ·rw[if_pos e,if_pos (by omega)]
  ·rw[if_neg e,if_neg (by omega)]
theorem yG:∀ (l:List Nat),l.Nodup->∀ j,j<l.length->bH l (l.getD j 0)=if j=0 then -1 else ((l.getD (j-1) 0:Nat):Int)
 | [],_,j,hj=>by simp at hj
 | a :: l,hd,0,_=>by
  rw[List.nodup_cons] at hd;show(if bD l=(a:Int) then (a:Int) else bH l a)=_
  rw[if_neg (fun e=>hd.1 (oK e)),if_pos rfl];exact pW hd.1
 | a :: l,hd,j+1,hj=>by
  rw[List.nodup_cons] at hd;have hj:j<l.length:=by simpa using hj
  show(if bD l=((l.getD j 0:Nat):Int) then (a:Int) else bH l (l.getD j 0))=_
  rw[if_neg (by omega:¬j+1=0),Nat.add_sub_cancel]
  cases j with
  | zero=>
   cases l with
   | nil=>simp at hj
   | cons b l=>exact if_pos rfl
  | succ j=>
   rw[if_neg,yG l hd.2 (j+1) hj,if_neg (by omega),Nat.add_sub_cancel]
   ·rfl
   ·intro e
    cases l with
    | nil=>simp at hj
    | cons b l=>
     have e:(b:Int)=((l.getD j 0:Nat):Int):=e;have hd2:=(List.nodup_cons.1 hd.2).1;have hj:j<l.length:=(by simpa using hj);apply hd2
     rw[show b=l.getD j 0 by omega,List.getD_eq_getElem?_getD,List.getElem?_eq_getElem hj];exact List.getElem_mem _
def xP(nx:Nat->Option Int):List Nat->Prop
 | []=>True
 | i :: r=>nx i=some (bD r)/\xP nx r
theorem FJ{nx:Nat->Option Int} : ∀ (fl l:List Nat),l.Nodup->fl.Nodup->(∀ i,i∈l↔i∈fl)->xP nx fl->W.prg9 nx (l.length+1) l (bD fl)=true
 | [],l,_,_,hm,_=>by
  have:l=[]:=List.eq_nil_iff_forall_not_mem.2 fun i hi=>by simpa using (hm i).1 hi
  subst this;exact W.prg9_end
 | i :: r,l,hd,hf,hm,hl=>by
  rw[List.nodup_cons] at hf;have hi:i∈l:=(hm i).2 List.mem_cons_self;show W.prg9 nx (l.length+1) l (i:Int)=true
  rw[W.prg9_yes hi hl.1];refine FJ r (l.erase i) (hd.erase i) hf.2 (fun j=>?_) hl.2;rw[hd.mem_erase_iff,hm j,List.mem_cons];constructor
  ·rintro ⟨h1,h2|h2⟩
   ·exact absurd h2 h1
   ·exact h2
  ·intro h2;exact⟨fun e=>hf.1 (by rw[<-e];exact h2),.inr h2⟩
section
variable {x:Bx} {t:Bt} {fr:Nat->List Nat} {B:Nat->Nat->Nat->Prop} {S:Sb} {L:Nat}
theorem St0.rl9(h:St0 x t fr B S L):W.rl (bJ x t S L) 9=none:=by
 refine W.fst1_ok fun k hk=>?_
 have hnd:=h.si.pn k hk;have hmem:∀ i,i∈S.pl k↔i<t.m.n/\W.prS (k:Int) (t.m.pg i)=true:=fun i=>by
  rw[h.si.pm k hk i];unfold W.prS;constructor
  ·rintro ⟨h1,h2⟩;obtain⟨-,h3⟩:=h.si.pg i k h1;have:=h.sd.al _ _ _ (h.slabB h1);have hl : 0<(S.fl i).length:=List.length_pos_iff.2 h2;have hle:=h.si.lv i k h1;refine⟨by simp at this;omega,?_⟩;rw[h3.kd,h3.cl,h3.lv,Int.toNat_natCast,decide_eq_false (show ¬((aI k-(S.fl i).length:Nat):Int)=((W.celN9 k:Nat):Int)from fun e=>by
    have e:aI k-(S.fl i).length=aI k:=Int.ofNat.inj e;have hn:=dQ hk;omega)]
   simp
  ·rintro ⟨hi,hp⟩;simp only[Bool.and_eq_true,decide_eq_true_eq,Bool.not_eq_true'] at hp;obtain⟨p1,p2,p3⟩:=hp;rcases h.page hi with ⟨c,h1,h2,h3,h4⟩|⟨h1,g,p,k',hb,h2,h3,h4,h5⟩
   ·rw[h3.cl] at p2;have:c=k:=by omega
    subst this;refine⟨h1,fun e=>?_⟩;rw[h3.lv,h3.cl,e,Int.toNat_natCast] at p3;exact of_decide_eq_false p3 rfl
   ·rw[h5] at p1;have p1:(if i=p then (g:Int) else (g:Int)+1)=4:=p1;split at p1 <;> omega
 rw[W.ok10_eq,zX (I:=bJ x t S L) (P:=W.prS (k:Int)) hnd hmem];have hpg:∀ j,j<(S.pl k).length->SlP S ((S.pl k).getD j 0) k (t.m.pg ((S.pl k).getD j 0)):=fun j hj=>by
  have hm:(S.pl k).getD j 0∈S.pl k:=by rw[List.getD_eq_getElem?_getD,List.getElem?_eq_getElem hj];exact List.getElem_mem _
  exact(h.si.pg _ k ((h.si.pm k hk _).1 hm).1).2
 have key:=wB (dec:=W.dec10 (bJ x t S L)) (nil:=(-1:Int)) (nxt:=fun i=>(t.m.pg i).nx) (bk:=fun i=>(t.m.pg i).pv) (P:=fun i=>W.prS (k:Int) (t.m.pg i)) (fun i=>(i:Int)) (S.pl k) ?_ ?_ ?_ ?_ (S.pl k).length 0 (by omega)
 ·rw[if_pos rfl] at key;show W.refL _ (-1) _ _ _ _ (((List.range 8).map fun k=>bD (S.pl k)).getD k 0) (-1)=true
  have hh:((List.range 8).map fun k=>bD (S.pl k)).getD k 0=bD (S.pl k):=by
   simp[hk]
  rw[hh];have e3:bD (S.pl k)=if 0<(S.pl k).length then (((S.pl k).getD 0 0:Nat):Int) else -1:=by
   cases S.pl k with
   | nil=>rfl
   | cons a l=>rw[if_pos (by simp)];rfl
  rw[e3];exact key
 ·intro i hi;unfold W.dec10;have hl:=((hmem i).1 hi).1;show(if 0<=(i:Int)/\(i:Int)<t.m.n then some (i:Int).toNat else none)=some i
  rw[if_pos ⟨by omega,by omega⟩,Int.toNat_natCast]
 ·intro i hi;exact((hmem i).1 hi).2
 ·intro j hj;show(t.m.pg ((S.pl k).getD j 0)).nx=_
  rw[(hpg j hj).nx];exact yH _ hnd j hj
 ·intro j hj;show(t.m.pg ((S.pl k).getD j 0)).pv=_
  rw[(hpg j hj).pv];exact yG _ hnd j hj
theorem St0.lp9(h:St0 x t fr B S L){g k:Nat}(hk:k<8):∀ l:List Nat,(∀ i∈l,i<aI k)->mZ x t.f g k l->xP (W.nx9 (bJ x t S L) g k) l
 | [],_,_=>trivial
 | i :: r,hl,hn=>by
  refine⟨?_,h.lp9 hk r (fun j hj=>hl j (List.mem_cons_of_mem _ hj)) hn.2⟩;have e:=hn.1;have hb:=h.sd.b1;have hc:=dQ hk;unfold W.nx9;show(if M.word t.f (4096*g+i*aH k)=0 then some (-1) else if x.bS+g*4096<=M.word t.f (4096*g+i*aH k)/\M.word t.f (4096*g+i*aH k)-(x.bS+g*4096)<4096/\(M.word t.f (4096*g+i*aH k)-(x.bS+g*4096))%aH k=0 then some (((M.word t.f (4096*g+i*aH k)-(x.bS+g*4096))/aH k:Nat):Int) else none)=some (bD r)
  rw[e]
  cases r with
  | nil=>exact if_pos rfl
  | cons j r'=>
   have hj:=hl j (by simp);have hm:(j+1)*aH k<=aI k*aH k:=Nat.mul_le_mul_right _ hj;rw[hc.1,Nat.add_mul,Nat.one_mul] at hm;have hs : 0<aH k:=Nat.mul_pos (by decide) (Nat.two_pow_pos k);show(if aS x g k j=0 then _ else if x.bS+g*4096<=aS x g k j/\aS x g k j-(x.bS+g*4096)<4096/\(aS x g k j-(x.bS+g*4096))%aH k=0 then some (((aS x g k j-(x.bS+g*4096))/aH k:Nat):Int) else none)=some (j:Int)
   have e2:aS x g k j-(x.bS+g*4096)=j*aH k:=(by unfold aS;omega);have e3:x.bS+g*4096<=aS x g k j:=(by unfold aS;omega);rw[e2,if_neg (by omega),if_pos ⟨e3,by omega,Nat.mul_mod_left _ _⟩,Nat.mul_div_cancel _ hs]
theorem St0.rl8(h:St0 x t fr B S L):W.rl (bJ x t S L) 8=none:=by
 refine W.fst1_ok fun i hi=>?_
 have hi:i<t.m.n:=hi;unfold W.ok9;rcases h.page hi with ⟨k,h1,h2,h3,h4⟩|⟨h1,g,p,k,hb,h2,h3,h4,h5⟩
 ·show(!decide ((t.m.pg i).kd=4) || W.ok9c (bJ x t S L) i (t.m.pg i).cl.toNat)=true
  rw[h3.cl,Int.toNat_natCast];have:W.ok9c (bJ x t S L) i k=true:=by
   unfold W.ok9c;show W.prg9 (W.nx9 (bJ x t S L) i k) ((W.frL (t.m.pg i) (aI k)).length+1) (W.frL (t.m.pg i) (aI k)) (t.m.pg i).fs=true
   rw[h3.fs];obtain⟨f1,f2,f3⟩:=h.si.fl i k h1;have hn:=dQ h2;refine FJ (S.fl i) _ (List.nodup_range.filter _) f1 (fun j=>?_) (h.lp9 h2 _ f2 f3);simp only[W.frL,List.mem_filter,List.mem_range,Bool.not_eq_true'];constructor
   ·rintro ⟨g1,g2⟩;rw[h.bits h1 j (by omega)] at g2;exact Decidable.not_not.1 fun hne=>of_decide_eq_false g2 ⟨g1,hne⟩
   ·intro hj;refine⟨f2 j hj,?_⟩;rw[h.bits h1 j (by have:=f2 j hj;omega)];exact decide_eq_false fun e=>e.2 hj
  rw[this];simp
 ·show(!decide ((t.m.pg i).kd=4) || _)=true
  rw[h5,decide_eq_false]
  ·rfl
  ·show ¬(if i=p then (g:Int) else (g:Int)+1)=4
   split <;> omega
theorem St0.sound(h:St0 x t fr B S L):W.chk (bJ x t S L)=(0,0):=by
 refine W.chk_ok fun a ha=>?_
 match a,ha with
 | 0,_=>exact h.rl0
 | 1,_=>exact h.rl1
 | 2,_=>exact h.rl2
 | 3,_=>exact h.rl3
 | 4,_=>exact h.rl4
 | 5,_=>exact h.rl5
 | 6,_=>exact h.rl6
 | 7,_=>exact h.rl7
 | 8,_=>exact h.rl8
 | 9,_=>exact h.rl9
 | 10,_=>exact h.rl10
end
section
variable {α : Type} [DecidableEq α] {dec : α->Option Nat} {nil : α} {nxt bk:Nat->α}
end
section
variable {I:W.Img} {k r:Nat} (hS:W.Sn9 I k r) (h4:W.rl I 3=none)
include hS h4
omit hS in
end
end Go.Proofs.YtkfmheelhinjdaaGreatDoor
namespace Go.Proofs.YtkfmheelhinjdaaGreatDoor.W
open _root_.Go.Proofs.Tryz
open Go.RowKit
set_option linter.unusedVariables false
set_option maxHeartbeats 8000000
set_option maxRecDepth 6000
theorem qY{w w':World}(h:M.Kt M.nO w w'):Kt nO w w':=⟨h.os,h.tape,h.output,h.size,h.block⟩
theorem ZU(I:Img)(V:ImV)(k L:Nat)(hk:k<=8)(hL:L<=64)(hko:I.ord=(k:Int))(hlo:I.lim=(L:Int))(w:World)(hI:ImD w I V):
  Calls prog 101 #[imA I V] w fun e w'=>e=.returned (.int .i64 (eB (r2 I k)))/\Kt nO w w':=by
 have hrg:=hI.reg;have HHD:=aA hI.hds.1;obtain⟨-,-,-,-,-,bm,bp,br,bt⟩:=hI.sl;obtain⟨⟨ma,mc,hm⟩,⟨pa,pc,hp⟩,⟨ra,rc,hr⟩,⟨ha,hc,hh⟩,⟨ta,tc,ht⟩,-⟩:=hI.sl;obtain⟨vm,vp,vr,vh,vt⟩:=V;dsimp only at hm hp hr hh ht;subst hm hp hr hh ht;have IM0:=aA (show ImAt (w.alloc (aE I _)) w.heap.size I _ from⟨nH _ _,hI.keep ((Kt.refl _ w).alloc _)⟩);have K0:=aA (show Kt nO w (w.alloc (aE I _))from(Kt.refl _ w).alloc (aE I ⟨.slice ma I.nm mc,.slice pa I.np pc,.slice ra I.no rc,.slice ha I.hd.length hc,.slice ta I.pt.length tc⟩));obtain⟨c0,c1,c2,c3,c4,c5,c6,c7,c8⟩:=IM0.out.cells;have L0:=aA (show LnI w ((w.alloc (aE I ⟨.slice ma I.nm mc,.slice pa I.np pc,.slice ra I.no rc,.slice ha I.hd.length hc,.slice ta I.pt.length tc⟩)).alloc (.cells #[.int .u64 I.bS,.int .i64 I.lim,.int .i64 I.ord] 29 (0,0))) w.heap.size (w.heap.size+1) I ⟨.slice ma I.nm mc,.slice pa I.np pc,.slice ra I.no rc,.slice ha I.hd.length hc,.slice ta I.pt.length tc⟩from⟨IM0.out.keep ((Kt.refl _ _).alloc _),by have:=nH (w.alloc (aE I ⟨.slice ma I.nm mc,.slice pa I.np pc,.slice ra I.no rc,.slice ha I.hd.length hc,.slice ta I.pt.length tc⟩)) (.cells #[.int .u64 I.bS,.int .i64 I.lim,.int .i64 I.ord] 29 (0,0));rwa [World.size_alloc] at this,K0.out.alloc _⟩);obtain⟨rr,hrr⟩:=xe (eB (r2 I k));rw[<-hrr];have RR:=aA hrr;have HKO:=aA hko;have HLO:=aA hlo;have HP8:=aA (M.pow8 k hk);have BM:=aA bm;have BP:=aA bp;have BR:=aA br;have HRG:=aA hrg;clear hI hrr hko hlo IM0 K0 bm bp br hrg;go_enter func101,ntmps101;go_upto_region 2 with fail;refine jQ (P:=fun W=>Code.wp prog _ _ _ W) _ ?_;intro W0 hW;rw[<-hW] at L0;clear hW c0 c1 c2 c3 c4 c5 c6 c7 c8;generalize w.heap.size+1=g at *;generalize w.heap.size=ib at *;obtain⟨c0,c1,c2,c3,c4,c5,c6,c7,c8⟩:=L0.out.im.cells;have q1:W0.cell? ⟨g,1,none⟩=some (.int .i64 I.lim):=by simp[World.cell?,L0.out.cf]
 rw[HLO.out] at q1;have IN:=aA (fun W=>II I.reg 0 (L:Int) W);have hw0:wiB I.reg 0 I.lim=wiB I.reg 0 (L:Int):=by rw[HLO.out]
 obtain⟨b0,hb0⟩:∃ b,b=wiB I.reg 0 (L:Int):=⟨_,rfl⟩;rw[<-hb0] at IN hw0;go_wp2_with fail;refine(IN.out _).mono ?_;rintro e w1 ⟨rfl,rfl⟩;clear c0 c1 c2 c3 c4 c5 c6 c7 c8 q1
 cases b0 with
 | false=>
  have er:rr=0:=by rw[RR.out,r2,hw0,if_pos rfl];rfl
  subst er;clear hb0 hw0;go_wp2_with fail;go_ret;exact⟨rfl,L0.out.k⟩
 | true=>
  have hreg : 0<=I.reg/\I.reg<=(L:Int):=by unfold wiB at hb0;exact of_decide_eq_true hb0.symm
  obtain⟨r,hr⟩:=Int.eq_ofNat_of_zero_le hreg.1;have HR:=aA hr;have hrl:r<=64:=by omega
  obtain⟨n,hn⟩:=xe (r*2 ^ k);have hn1:n<=16384:=by
   rw[hn];exact Nat.le_trans (Nat.mul_le_mul hrl HP8.out.2) (by decide)
  obtain⟨P,hP⟩:=xe (2 ^ k);obtain⟨R,hRR⟩:=xe (M.RS k);have hRP:R=4096*P:=by rw[hRR,M.RS,hP]
  have hrP:r*P=n:=by rw[hP,hn]
  obtain⟨z,hz⟩:=xe (n*4096);have hm1:IntKind.u64.wrap ((r:Int)*(R:Int))=(z:Int):=by
   have e3:r*R=z:=(by rw[hz,<-hrP,hRP,Nat.mul_assoc,Nat.mul_comm P]);have e2:(r:Int)*(R:Int)=z:=(by rw[<-e3,Int.natCast_mul]);rw[e2,wrap_u64];omega
  have hm2:IntKind.i64.wrap ((r:Int)*(P:Int))=(n:Int):=by
   have e2:(r:Int)*(P:Int)=n:=(by rw[<-hrP,Int.natCast_mul]);rw[e2,IntKind.wrap_i64];omega
  have hm3:wrap64 ((r:Int)*(P:Int))=(n:Int):=by
   have e2:(r:Int)*(P:Int)=n:=(by rw[<-hrP,Int.natCast_mul]);rw[e2,wrap64];omega
  have HN:=aA (show I.reg.toNat*2 ^ k=n by rw[hr,Int.toNat_natCast,hn]);have HR2:=aA (show r2 I k=(if I.nm≠n*4096 then some 1 else if I.np≠n then some 2 else if I.no≠k then some 3 else if fst1 I.no (fun j=>decide ((I.pr j).length=eA I.np j))≠none then some 3 else if I.hd.length≠k+1 then some 4 else if I.pt.length≠8 then some 5 else none)by unfold r2;rw[if_neg (by rw[hw0];simp),HN.out]);have RC:=aA (fun W=>(M.R_any (I.bS:Int) (L:Int) k hk W).mono (fun e w' (h:e=.returned (.int .u64 ((M.RS k:Nat):Int))/\M.Kt M.nO W w')=>(⟨h.1,qY h.2⟩:e=.returned (.int .u64 ((M.RS k:Nat):Int))/\Kt nO W w')));rw[<-hRR] at RC;have PW:=aA (fun W=>mL k (by omega) W);rw[<-hP] at PW;have f1:IntKind.u64.wrap (I.nm:Int)=I.nm:=by have:=BM.out;rw[wrap_u64];omega
  have f2:IntKind.u64.wrap (r:Int)=r:=by rw[wrap_u64];omega
  have HZ:=aA hz;have HN1:=aA hn1;clear hb0 hw0 hreg hr hn hP hRR hRP hrP hz hn1;obtain⟨c0,c1,c2,c3,c4,c5,c6,c7,c8⟩:=L0.out.im.all;obtain⟨q1,q2⟩:=L0.out.all;have q0:∀ x:KW w1,x.v.cell? ⟨g,0,none⟩=some (.int .u64 I.bS):=fun x=>by simp[World.cell?,(L0.out.keep x.k).cf]
  rw[HLO.out] at q1;rw[HKO.out] at q2;rw[HR.out] at c3;dsimp only at c4 c5 c6 c7 c8;by_cases h1:I.nm=z
  case neg=>
   have g1:((I.nm:Int) != (z:Int))=true:=(by rw[bne_iff_ne];omega);have er:rr=1:=(by rw[RR.out,HR2.out,<-HZ.out,if_pos h1];rfl);clear h1;subst er;go_wp2_with fail;refine bT (by kernel_rfl) (by kernel_rfl) ?_;repeat (go_big_quiet_step (first|(go_at_call 145;exact Calls.kept_of (RC.out _))))
   refine wpQuiet_nil ?_;intro x;have KX:=aA (nT L0.out.k x.k);clear c0 c1 c2 c3 c4 c5 c6 c7 c8 q0 q1 q2;generalize x.v=W1 at *;go_wp2_with fail;go_ret;exact⟨rfl,KX.out⟩
  have g1:((I.nm:Int) != (z:Int))=false:=by rw[bne_eq_false_iff_eq];omega
  have E1:=aA (show I.nm=n*4096 from h1.trans HZ.out);clear h1;go_wp2_with fail;refine bT (by kernel_rfl) (by kernel_rfl) ?_;repeat (go_big_quiet_step (first|(go_at_call 145;exact Calls.kept_of (RC.out _))))
  refine wpQuiet_nil ?_;intro x;have L1:=aA (L0.out.keep x.k);clear c0 c1 c2 c3 c4 c5 c6 c7 c8 q0 q1 q2 L0 hm1 f1 f2 g1;generalize x.v=W1 at *;obtain⟨c0,c1,c2,c3,c4,c5,c6,c7,c8⟩:=L1.out.im.all;obtain⟨q1,q2⟩:=L1.out.all;rw[HLO.out] at q1;rw[HKO.out] at q2;rw[HR.out] at c3;dsimp only at c4 c5 c6 c7 c8;by_cases h1:I.np=n
  case neg=>
   have g1:((I.np:Int) != (n:Int))=true:=(by rw[bne_iff_ne];omega);have er:rr=2:=(by rw[RR.out,HR2.out,if_neg (not_not_intro E1.out),if_pos h1];rfl);clear h1;subst er;go_wp2_with fail;refine bT (by kernel_rfl) (by kernel_rfl) ?_;repeat (go_big_quiet_step (first|(go_at_call 99;exact Calls.kept_of ((PW.out _).mono fun _ _ ⟨h1,h2⟩=>⟨h1,h2▸Kt.refl _ _⟩))))
   refine wpQuiet_nil ?_;intro x;have KX:=aA (nT L1.out.k x.k);clear c0 c1 c2 c3 c4 c5 c6 c7 c8 q1 q2;generalize x.v=W1 at *;go_wp2_with fail;go_ret;exact⟨rfl,KX.out⟩
  have g1:((I.np:Int) != (n:Int))=false:=by rw[bne_eq_false_iff_eq];omega
  have E2:=aA h1;clear h1;go_wp2_with fail;refine bT (by kernel_rfl) (by kernel_rfl) ?_;repeat (go_big_quiet_step (first|(go_at_call 99;exact Calls.kept_of ((PW.out _).mono fun _ _ ⟨h1,h2⟩=>⟨h1,h2▸Kt.refl _ _⟩))))
  refine wpQuiet_nil ?_;intro x;have L2:=aA (L1.out.keep x.k);clear c0 c1 c2 c3 c4 c5 c6 c7 c8 q1 q2 L1 hm2 hm3 g1;generalize x.v=W2 at *;obtain⟨c0,c1,c2,c3,c4,c5,c6,c7,c8⟩:=L2.out.im.cells;have q2:W2.cell? ⟨g,2,none⟩=some (.int .i64 I.ord):=by simp[World.cell?,L2.out.cf]
  rw[HKO.out] at q2;dsimp only at c4 c5 c6 c7 c8;by_cases h1:I.no=k
  case neg=>
   have g1:((I.no:Int) != (k:Int))=true:=(by rw[bne_iff_ne];omega);have er:rr=3:=(by rw[RR.out,HR2.out,if_neg (not_not_intro E1.out),if_neg (not_not_intro E2.out),if_pos h1];rfl);clear h1;subst er;go_wp2_with fail;go_ret;exact⟨rfl,L2.out.k⟩
  have g1:((I.no:Int) != (k:Int))=false:=by rw[bne_eq_false_iff_eq];omega
  have E3:=aA h1;clear h1;go_wp2_with fail;clear c0 c1 c2 c3 c4 c5 c6 c7 c8 q2 g1;go_loopw [4] (fun iv W=>∃ j:Nat,j<=k/\iv=.int .i64 j/\Hid (LnI w W ib g I ⟨.slice ma I.nm mc,.slice pa I.np pc,.slice ra I.no rc,.slice ha I.hd.length hc,.slice ta I.pt.length tc⟩/\∀ x,x<j->decide ((I.pr x).length=eA I.np x)=true)) (fun iv _=>k-(intOf iv).toNat)
  case atStart=>exact⟨0,Nat.zero_le _,rfl,aA ⟨L2.out,fun x hx=>by omega⟩⟩
  case round=>
   clear L2;obtain⟨j,hj,rfl,hR⟩:=hrel;have L3:=aA hR.out.1;have PREV:=aA hR.out.2;clear hR;obtain⟨c0,c1,c2,c3,c4,c5,c6,c7,c8⟩:=L3.out.im.cells;have q2:wr.cell? ⟨g,2,none⟩=some (.int .i64 I.ord):=(by simp[World.cell?,L3.out.cf]);rw[HKO.out] at q2;dsimp only at c4 c5 c6 c7 c8;by_cases hlt:j<k
   ·have hji:(j:Int)<k:=(by omega);have HJ:=aA hlt;have HJ2:=aA (show j+1<=k from hlt);have HW:=aA (show wrap64 ((j:Int)+1)=((j+1:Nat):Int)by rw[wrap64];omega);clear hlt hj;obtain⟨Q,hQ⟩:=xe (2 ^ (j+1));have PJ:=aA (fun W=>mL (j+1) (by have:=HJ.out;omega) W);rw[<-hQ] at PJ;have hQ1 : 1<=Q:=(by rw[hQ];exact Nat.two_pow_pos _);have hQ2:Q<=512:=(by rw[hQ];exact mG _ (by have:=HJ.out;omega));obtain⟨pn,hpn⟩:=xe (I.np/Q);have PN:=aA (show(pn+63)/64=eA I.np j by rw[eA,hpn,hQ]);have hpnl:pn<=16384:=(by have:=HN1.out;rw[hpn,E2.out];exact Nat.le_trans (Nat.div_le_self _ _) this);have s1:IntKind.i64.wrap ((j:Int)+1)=((j+1:Nat):Int):=(by have:=HJ.out;rw[IntKind.wrap_i64];omega);have s2:(I.np:Int).tdiv (Q:Int)=pn:=(by rw[hpn];rfl);have s3:(I.np:Int)/(Q:Int)=pn:=(by rw[hpn];simp);have s4:IntKind.i64.wrap (pn:Int)=pn:=(by rw[IntKind.wrap_i64];omega);have s5:¬(Q:Int)=0:=(by omega);have s6:((Q:Int) == 0)=false:=(by rw[beq_eq_false_iff_ne];omega);have s7:¬(Q:Int) = -1:=(by omega);obtain⟨j1,hj1⟩:=xe (j+1);rw[<-hj1] at s1 PJ;clear hQ hpn hj1;go_wp2_with fail;clear c0 c1 c2 c3 c4 c5 c6 c7 c8 q2;obtain⟨c0,c1,c2,c3,c4,c5,c6,c7,c8⟩:=L3.out.im.all;dsimp only at c4 c5 c6 c7 c8;refine bT (by kernel_rfl) (by kernel_rfl) ?_;repeat (go_big_quiet_step (first|(go_at_call 99;exact Calls.kept_of ((PJ.out _).mono fun _ _ ⟨h1,h2⟩=>⟨h1,h2▸Kt.refl _ _⟩))))
    refine wpQuiet_nil ?_;intro x;have L4:=aA (L3.out.keep x.k);clear c0 c1 c2 c3 c4 c5 c6 c7 c8 s1 s2 s3 s4 s5 s6 s7 L3;generalize x.v=W4 at *;obtain⟨c0,c1,c2,c3,c4,c5,c6,c7,c8⟩:=L4.out.im.cells;dsimp only at c4 c5 c6 c7 c8;obtain⟨ws,_,ra',rc',hrv,hr3⟩:=L4.out.im.d.prs;injection hrv with e1 e2 e3
    subst e1;have hjno:j<I.no:=(by rw[E3.out];exact HJ.out);rcases hr3 with hr3|⟨bl,o,rfl,_,hcc⟩
    ·omega
    obtain⟨d0,hz,za,zc,hzv,_⟩:=hcc j hjno;rw[hzv] at d0;have hjn:(j:Int)<I.no:=(by omega);obtain⟨zl,hzl⟩:=xe ((I.pr j).length);rw[<-hzl] at d0;obtain⟨q,hq⟩:=xe (eA I.np j);have t1:((pn:Int)+63)/64=(q:Int):=(by rw[hq,<-PN.out];omega);have HQ:=aA hq;have HZL:=aA hzl;clear hcc hz hzv hzl hq e2 e3 hjno;by_cases h4:zl=q
    case neg=>
     have g4:((zl:Int) != (q:Int))=true:=(by rw[bne_iff_ne];omega);have er:rr=3:=by
      rw[RR.out,HR2.out,if_neg (not_not_intro E1.out),if_neg (not_not_intro E2.out),if_neg (not_not_intro E3.out),if_pos]
      ·rfl
      ·rw[fK (i:=j) (by rw[E3.out];exact HJ.out) PREV.out (decide_eq_false (by rw[<-HZL.out,<-HQ.out];exact h4))];exact Option.some_ne_none _
     clear h4;subst er;go_wp2_with fail;go_ret;exact⟨rfl,L4.out.k⟩
    have g4:((zl:Int) != (q:Int))=false:=(by rw[bne_eq_false_iff_eq];omega);have NEXT:=aA (show ∀ x,x<j+1->decide ((I.pr x).length=eA I.np x)=true from fun x hx=>by
     by_cases e:x=j
     ·rw[e,<-HZL.out,<-HQ.out];exact decide_eq_true h4
     ·exact PREV.out x (by omega))
    clear h4;go_wp2_with fail;go_round
    case rel=>exact⟨j+1,HJ2.out,by first|rw[HW.out]|go_num,aA ⟨L4.out,NEXT.out⟩⟩
    case measure=>first|(rw[HW.out];have:=HJ.out;simp only[intOf,Int.toNat_natCast];omega)|(have:=HJ.out;simp[intOf];omega)
   ·have hji:¬(j:Int)<k:=(by omega);have hjk:j=k:=(by omega);have E4:=aA (show ¬fst1 I.no (fun j=>decide ((I.pr j).length=eA I.np j))≠none from fun h=>h (fst1_ok (fun x hx=>PREV.out x (by rw[hjk,<-E3.out];exact hx))));clear hlt hj hjk;by_cases h5:I.hd.length=k+1
    case neg=>
     have g5:((I.hd.length:Int) != (k:Int)+1)=true:=(by rw[bne_iff_ne];omega);have er:rr=4:=(by rw[RR.out,HR2.out,if_neg (not_not_intro E1.out),if_neg (not_not_intro E2.out),if_neg (not_not_intro E3.out),if_neg E4.out,if_pos h5];rfl);clear h5;subst er;go_wp2_with fail;go_ret;exact⟨rfl,L3.out.k⟩
    have g5:((I.hd.length:Int) != (k:Int)+1)=false:=(by rw[bne_eq_false_iff_eq];omega);have E5:=aA h5;clear h5;by_cases h6:I.pt.length=8
    case neg=>
     have g6:((I.pt.length:Int) != 8)=true:=(by rw[bne_iff_ne];omega);have er:rr=5:=(by rw[RR.out,HR2.out,if_neg (not_not_intro E1.out),if_neg (not_not_intro E2.out),if_neg (not_not_intro E3.out),if_neg E4.out,if_neg (not_not_intro E5.out),if_pos h6];rfl);clear h6;subst er;go_wp2_with fail;go_ret;exact⟨rfl,L3.out.k⟩
    have g6:((I.pt.length:Int) != 8)=false:=(by rw[bne_eq_false_iff_eq];omega);have er:rr = -1:=(by rw[RR.out,HR2.out,if_neg (not_not_intro E1.out),if_neg (not_not_intro E2.out),if_neg (not_not_intro E3.out),if_neg E4.out,if_neg (not_not_intro E5.out),if_neg (not_not_intro h6)];rfl);clear h6;subst er;go_wp2_with fail;go_ret;exact⟨rfl,L3.out.k⟩
end Go.Proofs.YtkfmheelhinjdaaGreatDoor.W
