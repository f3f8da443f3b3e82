import Derived.Test.YtkfmheelhinjdaaGreatDoorWi
set_option maxRecDepth 1000000
set_option maxHeartbeats 80000000
namespace Go.Proofs.YtkfmheelhinjdaaGreatDoor.W
open Tryz
open Go.RowKit
set_option linter.unusedVariables false
set_option maxHeartbeats 8000000
set_option maxRecDepth 6000
theorem KR{p:Pg}{o:Int}(h:isF p o=true):p.kd=0/\p.od=o:=by
 simpa [isF] using h
theorem MD{I:Img}{k a i:Nat}(hi:i<k)(h1:a%(2*2 ^ i)=0)(h2:isF (I.pg a) (i:Int)=true)(h3:isF (I.pg (a+2 ^ i)) (i:Int)=true):ok6 I k a=false:=by
 obtain⟨-,e⟩:=KR h2;unfold ok6;rw[e,Int.toNat_natCast,h2,h3,decide_eq_true (show(i:Int)<k by omega),decide_eq_true h1];rfl
theorem WE{I:Img}{k r a:Nat}(hS:Sn9 I k r)(ha:a<I.np)(h:∀ i,i<k->a%(2*2 ^ i)=0->isF (I.pg a) (i:Int)=true->isF (I.pg (a+2 ^ i)) (i:Int)=false):ok6 I k a=true:=by
 obtain⟨kd,o,c,l,-,-,e3,e4,-⟩:=hS.pg a ha;unfold ok6;rw[e3,Int.toNat_natCast];by_cases h1:isF (I.pg a) (o:Int)=true
 ·by_cases h2:o<k
  ·by_cases h3:a%(2*2 ^ o)=0
   ·rw[h o h2 h3 h1];simp
   ·rw[decide_eq_false h3];simp
  ·rw[decide_eq_false (show ¬(o:Int)<k by omega)];simp
 ·rw[Bool.not_eq_true] at h1;rw[h1];simp
theorem MB(I:Img)(V:ImV)(k r:Nat)(hS:Sn9 I k r)(w:World)(hI:ImD w I V):
  Calls prog 105 #[imA I V] w fun e w'=>e=.returned (.int .i64 (dY (fst1 I.np (ok6 I k))))/\Kt nO w w':=by
 obtain⟨⟨ma,mc,hm⟩,⟨pa,pc,hp⟩,⟨ra,rc,hr⟩,⟨ha,hc,hh⟩,⟨ta,tc,ht⟩,-⟩:=hI.sl;obtain⟨vm,vp,vr,vh,vt⟩:=V;dsimp only at hm hp hr hh ht;subst hm hp hr hh ht;have IM0:=aA (show ImAt (w.alloc (aE I _)) w.heap.size I _ from⟨nH _ _,hI.keep ((Kt.refl _ w).alloc _)⟩);have K0:=aA (show Kt nO w (w.alloc (aE I _))from(Kt.refl _ w).alloc (aE I ⟨.slice ma I.nm mc,.slice pa I.np pc,.slice ra I.no rc,.slice ha I.hd.length hc,.slice ta I.pt.length tc⟩));obtain⟨c0,c1,c2,c3,c4,c5,c6,c7,c8⟩:=IM0.out.cells;have HS:=aA hS;have OP:=aA (fun g o hg W hI=>tA I ⟨.slice ma I.nm mc,.slice pa I.np pc,.slice ra I.no rc,.slice ha I.hd.length hc,.slice ta I.pt.length tc⟩ g o hg W hI);have PW:=aA (fun j hj W=>mR j hj W);obtain⟨rr,hrr⟩:=xe (dY (fst1 I.np (ok6 I k)));rw[<-hrr];have BAD:=aA (show ∀ a,a<I.np->(∀ j,j<a->ok6 I k j=true)->ok6 I k a=false->rr=(a:Int)from fun a h1 h2 h3=>by rw[hrr,fG h1 h2 h3];rfl);have GOOD:=aA (show(∀ j,j<I.np->ok6 I k j=true)->rr = -1 from fun h=>by rw[hrr,fst1_ok h];rfl);have HNP:=aA hS.np1;have HK8:=aA hS.k8;have HO:=aA hS.ord;clear hI hrr hS;go_enter func105,ntmps105;go_wp2_with fail;clear c0 c1 c2 c3 c4 c5 c6 c7 c8;generalize w.heap.size=ib at *;generalize w.alloc (aE I ⟨.slice ma I.nm mc,.slice pa I.np pc,.slice ra I.no rc,.slice ha I.hd.length hc,.slice ta I.pt.length tc⟩)=W0 at *;go_loopw [3] (fun iv W=>∃ a:Nat,a<=I.np/\iv=.int .i64 a/\Hid (Kt nO W0 W/\∀ j,j<a->ok6 I k j=true)) (fun iv _=>I.np-(intOf iv).toNat)
 case atStart=>exact⟨0,Nat.zero_le _,rfl,aA ⟨Kt.refl _ _,fun j hj=>by omega⟩⟩
 case round=>
  obtain⟨a,ha',rfl,hG⟩:=hrel;have IMa:=aA (IM0.out.keep hG.out.1);obtain⟨c0,c1,c2,c3,c4,c5,c6,c7,c8⟩:=IMa.out.cells;dsimp only at c5;by_cases hlt:a<I.np
  ·have hai:(a:Int)<I.np:=(by omega);have HLT:=aA hlt;have PREV:=aA hG.out.2;have KA:=aA hG.out.1;clear hlt ha' hG;go_wp2_with fail;clear c0 c1 c2 c3 c4 c5 c6 c7 c8;obtain⟨wq,hwq⟩:∃ W,W=wr:=⟨_,rfl⟩;rw[<-hwq] at KA IMa;rw[<-hwq];clear hwq;go_loopw [4] (fun iv W=>∃ j:Nat,j<=k/\iv=.int .i64 j/\Hid (Kt nO wq W/\∀ i,i<j->a%(2*2 ^ i)=0->isF (I.pg a) (i:Int)=true->isF (I.pg (a+2 ^ i)) (i:Int)=false)) (fun iv _=>k-(intOf iv).toNat)
   case atStart=>exact⟨0,Nat.zero_le _,rfl,aA ⟨Kt.refl _ _,fun i hi=>by omega⟩⟩
   case round=>
    obtain⟨j,hj,rfl,hJ⟩:=hrel;have IMb:=aA (IMa.out.keep hJ.out.1);obtain⟨c0,c1,c2,c3,c4,c5,c6,c7,c8⟩:=IMb.out.cells;by_cases hjk:j<k
    ·have hji:(j:Int)<I.ord:=(by rw[HO.out];omega);have HJK:=aA hjk;have INV:=aA hJ.out.2;have KJ:=aA hJ.out.1;clear hjk hj hJ;go_wp2_with fail;refine(PW.out j (by have:=HK8.out;have:=HJK.out;omega) _).mono ?_;rintro e w1 ⟨rfl,rfl⟩;obtain⟨P,hP⟩:=xe (2 ^ j);rw[<-hP];have hP1 : 1<=P:=(by rw[hP];exact Nat.two_pow_pos j);have hP2:P<=512:=(by rw[hP];exact mK j (by have:=HK8.out;have:=HJK.out;omega));have HPE:=aA hP;have m1:wrap64 (2*(P:Int))=((2*P:Nat):Int):=(by rw[wrap64];omega);have FIT:=aA (show a%(2*P)=0->a+P<I.np from fun h=>by
      have h2 : 2*P=2 ^ (j+1):=(by rw[hP,Nat.pow_succ,Nat.mul_comm]);have:=mul_fits (HS.out.dvd (j+1) (by have:=HJK.out;omega)) (by rw[<-h2];exact h) HLT.out;omega)
     obtain⟨Q,hQ⟩:=xe (2*P);rw[<-hQ] at m1 FIT;have hQ0:¬(Q:Int)=0:=(by omega);have hQ1:((Q:Int) == 0)=false:=(by rw[beq_eq_false_iff_ne];omega);have hQm:¬(Q:Int) = -1:=(by omega);obtain⟨m,hm⟩:=xe (a%Q);have r1:(a:Int)%(Q:Int)=m:=(by rw[hm];rfl);have r2:(a:Int).tmod (Q:Int)=m:=(by rw[Int.tmod_eq_emod_of_nonneg (by omega)];exact r1);have ADD:=aA (show a+P<=5000 by have:=HLT.out;have:=HNP.out;omega);have HM:=aA hm;have HQ:=aA hQ;clear hP hQ hm hP1 hP2;have NEXT:=aA (show(a%(2*2 ^ j)=0->isF (I.pg a) (j:Int)=true->isF (I.pg (a+2 ^ j)) (j:Int)=false)->∀ i,i<j+1->a%(2*2 ^ i)=0->isF (I.pg a) (i:Int)=true->isF (I.pg (a+2 ^ i)) (i:Int)=false from fun h i hi=>by
      by_cases e:i=j
      ·subst e;exact h
      ·exact INV.out i (by omega))
     have ME:=aA (show a%(2*2 ^ j)=m by rw[HM.out,HQ.out,HPE.out]);have hw:wrap64 ((j:Int)+1)=((j+1:Nat):Int):=(by have:=HK8.out;have:=HJK.out;rw[wrap64];omega);have HW:=aA hw;clear hw;by_cases h0:m=0
     case neg=>
      have q0:((m:Int) == 0)=false:=(by rw[beq_eq_false_iff_ne];omega);have N1:=aA (NEXT.out (fun h=>absurd (ME.out.symm.trans h) h0));clear h0;go_wp2_with fail;rw[HW.out];exact⟨⟨j+1,by have:=HJK.out;omega,rfl,aA ⟨KJ.out,N1.out⟩⟩,by have:=HJK.out;simp only[intOf,Int.toNat_natCast];omega⟩
     have q0:((m:Int) == 0)=true:=(by rw[beq_iff_eq];omega);have H0:=aA h0;clear h0;obtain⟨b1,hb1⟩:∃ b,b=isF (I.pg a) (j:Int):=⟨_,rfl⟩;have HB1:=aA hb1;clear hb1;go_wp2_with fail;refine(OP.out a (j:Int) HLT.out _ IMb.out.d).mono ?_;rintro e w2 ⟨rfl,k2⟩;rw[<-HB1.out];have IM2:=aA (IMb.out.keep k2);have K2:=aA (nT KJ.out k2);clear k2 c0 c1 c2 c3 c4 c5 c6 c7 c8
     cases b1 with
     | false=>
      have N1:=aA (NEXT.out (fun _ h=>by rw[<-HB1.out] at h;cases h));go_wp2_with fail;rw[HW.out];exact⟨⟨j+1,by have:=HJK.out;omega,rfl,aA ⟨K2.out,N1.out⟩⟩,by have:=HJK.out;simp only[intOf,Int.toNat_natCast];omega⟩
     | true=>
      obtain⟨c0,c1,c2,c3,c4,c5,c6,c7,c8⟩:=IM2.out.cells;obtain⟨g,hg⟩:=xe (a+P);have a1:wrap64 ((a:Int)+(P:Int))=(g:Int):=(by have:=ADD.out;rw[wrap64];omega);have HGE:=aA hg;have HGL:=aA (show g<I.np by rw[hg];exact FIT.out (by rw[<-HM.out];exact H0.out));obtain⟨b2,hb2⟩:∃ b,b=isF (I.pg g) (j:Int):=⟨_,rfl⟩;have HB2:=aA hb2;clear hb2 hg;go_wp2_with fail;refine(OP.out g (j:Int) HGL.out _ IM2.out.d).mono ?_;rintro e w3 ⟨rfl,k3⟩;rw[<-HB2.out];have K3:=aA (nT K2.out k3);clear k3 c0 c1 c2 c3 c4 c5 c6 c7 c8
      cases b2 with
      | false=>
       have N1:=aA (NEXT.out (fun _ _=>by rw[<-HPE.out,<-HGE.out];exact HB2.out.symm));go_wp2_with fail;rw[HW.out];exact⟨⟨j+1,by have:=HJK.out;omega,rfl,aA ⟨K3.out,N1.out⟩⟩,by have:=HJK.out;simp only[intOf,Int.toNat_natCast];omega⟩
      | true=>
       have er:=BAD.out a HLT.out PREV.out (MD HJK.out (ME.out.trans H0.out) HB1.out.symm (by rw[<-HPE.out,<-HGE.out];exact HB2.out.symm));subst er;go_wp2_with fail;go_ret;exact⟨rfl,nT K0.out (nT KA.out K3.out)⟩
    ·have hji:¬(j:Int)<I.ord:=(by rw[HO.out];omega);have eo:=WE HS.out HLT.out (fun i hi=>hJ.out.2 i (by omega));have KE:=aA (nT KA.out hJ.out.1);have EO:=aA eo;clear hJ eo;go_wp2_with fail;have hw:wrap64 ((a:Int)+1)=((a+1:Nat):Int):=(by have:=HNP.out;have:=HLT.out;rw[wrap64];omega);go_round
     case rel=>exact⟨a+1,by have:=HLT.out;omega,by rw[hw],aA ⟨KE.out,fun i hi=>by
      by_cases e:i=a
      ·rw[e];exact EO.out
      ·exact PREV.out i (by omega)⟩⟩
     case measure=>rw[hw];have:=HLT.out;simp only[intOf,Int.toNat_natCast];omega
  ·have hai:¬(a:Int)<I.np:=(by omega);have er:=GOOD.out (fun j hj=>hG.out.2 j (by omega));subst er;go_wp2_with fail;go_ret;exact⟨rfl,nT K0.out hG.out.1⟩
set_option maxHeartbeats 8000000
set_option maxRecDepth 6000
theorem IK(I:Img)(V:ImV)(k r:Nat)(hS:Sn9 I k r)(w:World)(hI:ImD w I V):
  Calls prog 104 #[imA I V] w fun e w'=>e=.returned (.int .i64 (dY (fst1 I.np fun i=>ok5 (I.pg i))))/\Kt nO w w':=by
 obtain⟨⟨ma,mc,hm⟩,⟨pa,pc,hp⟩,⟨ra,rc,hr⟩,⟨ha,hc,hh⟩,⟨ta,tc,ht⟩,-⟩:=hI.sl;obtain⟨vm,vp,vr,vh,vt⟩:=V;dsimp only at hm hp hr hh ht;subst hm hp hr hh ht;have IM0:=aA (show ImAt (w.alloc (aE I _)) w.heap.size I _ from⟨nH _ _,hI.keep ((Kt.refl _ w).alloc _)⟩);have K0:=aA (show Kt nO w (w.alloc (aE I _))from(Kt.refl _ w).alloc (aE I ⟨.slice ma I.nm mc,.slice pa I.np pc,.slice ra I.no rc,.slice ha I.hd.length hc,.slice ta I.pt.length tc⟩));obtain⟨c0,c1,c2,c3,c4,c5,c6,c7,c8⟩:=IM0.out.cells;obtain⟨ok,hok⟩:=xe (fun i=>ok5 (I.pg i));rw[<-hok];have OKE:=aA (show ∀ i,ok i=ok5 (I.pg i)from fun i=>by rw[hok]);have HNP:=aA hS.np1;have HS:=aA hS;obtain⟨rr,hrr⟩:=xe (dY (fst1 I.np ok));rw[<-hrr];have BAD:=aA (show ∀ a,a<I.np->(∀ j,j<a->ok j=true)->ok a=false->rr=(a:Int)from fun a h1 h2 h3=>by rw[hrr,fG h1 h2 h3];rfl);have GOOD:=aA (show(∀ j,j<I.np->ok j=true)->rr = -1 from fun h=>by rw[hrr,fst1_ok h];rfl);clear hI hok hrr hS;go_enter func104,ntmps104;go_wp2_with fail;clear c0 c1 c2 c3 c4 c5 c6 c7 c8;generalize w.heap.size=ib at *;generalize w.alloc (aE I ⟨.slice ma I.nm mc,.slice pa I.np pc,.slice ra I.no rc,.slice ha I.hd.length hc,.slice ta I.pt.length tc⟩)=W0 at *;go_loopw [3] (fun iv W=>∃ a:Nat,a<=I.np/\iv=.int .i64 a/\Hid (Kt nO W0 W/\∀ j,j<a->ok j=true)) (fun iv _=>I.np-(intOf iv).toNat)
 case atStart=>exact⟨0,Nat.zero_le _,rfl,aA ⟨Kt.refl _ _,fun j hj=>by omega⟩⟩
 case round=>
  obtain⟨a,ha',rfl,hG⟩:=hrel;have IMa:=aA (IM0.out.keep hG.out.1);obtain⟨c0,c1,c2,c3,c4,c5,c6,c7,c8⟩:=IMa.out.cells;dsimp only at c5;by_cases hlt:a<I.np
  ·have hai:(a:Int)<I.np:=(by omega);obtain⟨bl,oo,oc,hv,hpi,hpc⟩:=IMa.out.page a hlt;injection hv with e1 e2 e3
   subst e1;clear e2 e3;obtain⟨d0,d1,d2,d3,d4,d5,d6,d7,d8,d9,d10⟩:=hpc.c;have OKA:=aA (OKE.out a);obtain⟨kd,od,cc,ll,-,-,-,-,y5,y6,-⟩:=HS.out.pg a hlt;have CE:=aA (fun W=>rC (I.pg a) cc y5 y6 W);have HA9:=aA (fun c hc W=>qR (I.pg a) hpi c hc W);have OIF:=aA (fun h4=>ok5_iff (I.pg a) hpi cc y5 h4);have BADA:=aA (BAD.out a hlt hG.out.2);have NEXT:=aA (show ok a=true->∀ j,j<a+1->ok j=true from fun eo j hj=>by
    by_cases e:j=a
    ·rw[e];exact eo
    ·exact hG.out.2 j (by omega))
   have HLT:=aA hlt;have KG:=aA hG.out.1;obtain⟨B,hB⟩:=xe (aD (wsP (I.pg a)));have BE:=aA (show ∀ j,B j=aD (wsP (I.pg a)) j from fun j=>by rw[hB]);rw[<-hB] at OIF;have HA8:=aA (show ∀ c:Nat,c<256->∀ W,Calls prog 143 #[dS (I.pg a),.int .i64 c] W fun e w'=>e=.returned (.bool (B c))/\Kt nO W w' from fun c hc W=>by rw[BE.out];exact HA9.out c hc W);clear BE;clear HA9;generalize I.pg a=p at *;generalize celN9 cc=cn at *;clear hpc hpi hlt ha' hG hB y5 y6;go_upto_region 5 with fail;refine jS (P:=fun W=>Code.wp prog _ _ _ W) _ ?_;intro W1 hW;have k1:Kt nO wr W1:=(by subst hW;exact(Kt.refl _ wr).alloc _);have X1:=aA (show W1.heap[wr.heap.size]?=some (aQ p)by subst hW;exact nH _ _);have KE:=aA (nT KG.out k1);generalize wr.heap.size=pb at *;clear hW k1 c0 c1 c2 c3 c4 c5 c6 c7 c8 d0 d1 d2 d3 d4 d5 d6 d7 d8 d9 d10 IMa KG;obtain⟨e0,e1,e2,e3,e4,e5,e6,e7,e8,e9,e10⟩:=cF X1.out;have HW:=aA (show wrap64 ((a:Int)+1)=((a+1:Nat):Int)by have:=HNP.out;have:=HLT.out;rw[wrap64];omega);by_cases h1:p.kd=4
   case neg=>
    have q1:(p.kd != 4)=true:=(by rw[bne_iff_ne];exact h1);have eo:ok a=true:=(by rw[OKA.out];unfold ok5;rw[decide_eq_false h1];rfl);have EO:=aA (NEXT.out eo);clear h1 eo;go_wp2_with fail;exact⟨⟨a+1,by have:=HLT.out;omega,by first|go_num|rw[HW.out],aA ⟨KE.out,EO.out⟩⟩,by have:=HLT.out;have:=HNP.out;first|(simp[intOf];omega)|(rw[HW.out];simp only[intOf,Int.toNat_natCast];omega)⟩
   have q1:(p.kd != 4)=false:=(by rw[bne_eq_false_iff_eq];exact h1);have OI:=aA (OIF.out h1);clear h1 OIF;go_wp2_with fail;clear e0 e1 e2 e3 e4 e5 e6 e7 e8 e9 e10 q1;go_loopw [5,6] (fun cv kv W=>∃ m:Nat,m<=256/\kv=.int .i64 m/\cv=.int .i64 (aF B m:Int)/\Hid (Kt nO W1 W/\∀ j,cn<=j->j<m->B j=false)) (fun _ kv _=>256-(intOf kv).toNat)
   case atStart=>exact⟨0,Nat.zero_le _,rfl,rfl,aA ⟨Kt.refl _ _,fun j h1 h2=>by omega⟩⟩
   case round=>
    obtain⟨m,hm,rfl,rfl,hJ⟩:=hrel;have KJ:=aA hJ.out.1;have INV:=aA hJ.out.2;obtain⟨C,hC⟩:=xe (aF B m);have hCm:C<=256:=(by rw[hC];exact Nat.le_trans (rK _ _) hm);have HCE:=aA hC;rw[<-hC];clear hC hJ;have X2:=aA ((KJ.out.block _ (lH X1.out) (fun y=>y)).trans X1.out);obtain⟨e0,e1,e2,e3,e4,e5,e6,e7,e8,e9,e10⟩:=cF X2.out;by_cases hlt:m<256
    ·have hmi:(m:Int)<256:=(by omega);have HM:=aA hlt;have HW2:=aA (show wrap64 ((m:Int)+1)=((m+1:Nat):Int)by rw[wrap64];omega);have HC1:=aA (show C<=256 from hCm);have HW3:=aA (show wrap64 ((C:Int)+1)=((C+1:Nat):Int)by rw[wrap64];omega);obtain⟨b,hb⟩:=xe (B m);have HA:=aA (fun W=>HA8.out m hlt W);rw[<-hb] at HA;have HB:=aA hb;clear hb hlt;go_wp2_with fail;refine(HA.out _).mono ?_;rintro e w1 ⟨rfl,k1⟩;have KJ1:=aA (nT KJ.out k1);clear k1 e0 e1 e2 e3 e4 e5 e6 e7 e8 e9 e10
     cases b with
     | false=>
      have C1:=aA (show aF B (m+1)=C by rw[kL _ _ HB.out.symm];exact HCE.out.symm);have IN1:=aA (show ∀ j,cn<=j->j<m+1->B j=false from fun j h1 h2=>by
       by_cases e:j=m
       ·rw[e];exact HB.out.symm
       ·exact INV.out j h1 (by omega))
      go_wp2_with fail;exact⟨⟨m+1,HM.out,by first|go_num|rw[HW2.out],by rw[C1.out],aA ⟨KJ1.out,IN1.out⟩⟩,by have:=HM.out;first|(simp[intOf];omega)|(rw[HW2.out];simp only[intOf,Int.toNat_natCast];omega)⟩
     | true=>
      have X3:=aA ((KJ1.out.block _ (lH X1.out) (fun y=>y)).trans X1.out);obtain⟨e0,e1,e2,e3,e4,e5,e6,e7,e8,e9,e10⟩:=cF X3.out;go_wp2_with fail;refine(CE.out _).mono ?_;rintro e w2 ⟨rfl,k2⟩;have KJ2:=aA (nT KJ1.out k2);clear k2 e0 e1 e2 e3 e4 e5 e6 e7 e8 e9 e10;by_cases hcm:cn<=m
      ·have q2:(cn:Int)<=m:=(by omega);have er:=BADA.out (by
        rw[OKA.out]
        cases h:ok5 p with
        | false=>rfl
        | true=>have:=(OI.out.1 h).2 m hcm HM.out;rw[<-HB.out] at this;cases this)
       clear hcm;subst er;go_wp2_with fail;go_ret;exact⟨rfl,nT K0.out (nT KE.out KJ2.out)⟩
      ·have q2:¬(cn:Int)<=m:=(by omega);have C1:=aA (show aF B (m+1)=C+1 by rw[lE _ _ HB.out.symm,HCE.out]);have IN1:=aA (show ∀ j,cn<=j->j<m+1->B j=false from fun j h1 h2=>INV.out j h1 (by omega));clear hcm;go_wp2_with fail;exact⟨⟨m+1,HM.out,by first|go_num|rw[HW2.out],by rw[C1.out];first|go_num|rw[HW3.out],aA ⟨KJ2.out,IN1.out⟩⟩,by have:=HM.out;first|(simp[intOf];omega)|(rw[HW2.out];simp only[intOf,Int.toNat_natCast];omega)⟩
    ·have hmi:¬(m:Int)<256:=(by omega);have HCC:=aA (show C=aF B 256 by rw[HCE.out,show m=256 by omega]);have IN2:=aA (show ∀ j,cn<=j->j<256->B j=false from fun j h1 h2=>INV.out j h1 (by omega));have KEJ:=aA (nT KE.out KJ.out);by_cases h0:C=0
     ·have q2:((C:Int) == 0)=true:=(by rw[beq_iff_eq];omega);have er:=BADA.out (by
       rw[OKA.out]
       cases h:ok5 p with
       | false=>rfl
       | true=>have:=(OI.out.1 h).1;rw[<-HCC.out] at this;omega)
      clear h0;subst er;go_wp2_with fail;go_ret;exact⟨rfl,nT K0.out KEJ.out⟩
     have q2:((C:Int) == 0)=false:=(by rw[beq_eq_false_iff_ne];omega);by_cases h2:(C:Int)=p.lv
     case neg=>
      have q3:((C:Int) != p.lv)=true:=(by rw[bne_iff_ne];exact h2);have er:=BADA.out (by
       rw[OKA.out]
       cases h:ok5 p with
       | false=>rfl
       | true=>have:=(OI.out.1 h).1.2;rw[<-HCC.out] at this;exact absurd this.symm h2)
      clear h2 h0;subst er;go_wp2_with fail;go_ret;exact⟨rfl,nT K0.out KEJ.out⟩
     have q3:((C:Int) != p.lv)=false:=(by rw[bne_eq_false_iff_eq];exact h2);have EO:=aA (NEXT.out (by rw[OKA.out];exact OI.out.2 ⟨⟨by omega,by rw[<-HCC.out];exact h2.symm⟩,IN2.out⟩));clear h2 h0;go_wp2_with fail;go_round
     case rel=>exact⟨a+1,by have:=HLT.out;omega,by first|go_num|rw[HW.out],aA ⟨KEJ.out,EO.out⟩⟩
     case measure=>have:=HLT.out;have:=HNP.out;first|(simp[intOf];omega)|(rw[HW.out];simp only[intOf,Int.toNat_natCast];omega)
  ·have hai:¬(a:Int)<I.np:=(by omega);have er:=GOOD.out (fun j hj=>hG.out.2 j (by omega));subst er;go_wp2_with fail;go_ret;exact⟨rfl,nT K0.out hG.out.1⟩
end Go.Proofs.YtkfmheelhinjdaaGreatDoor.W
