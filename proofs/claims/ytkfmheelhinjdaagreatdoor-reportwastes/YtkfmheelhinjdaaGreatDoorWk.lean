import Derived.Test.YtkfmheelhinjdaaGreatDoorXo
set_option maxRecDepth 1000000
set_option maxHeartbeats 80000000
namespace Go.Proofs.YtkfmheelhinjdaaGreatDoor.W
open _root_.Go.Proofs.Tryz
open Go.RowKit
set_option linter.unusedVariables false
set_option maxHeartbeats 8000000
set_option maxRecDepth 6000
theorem LD{p:Pg}{a:Nat}(h1:¬p.kd=4)(h2:¬p.kd=0)(h3:¬p.kd=2):hdOk p a=false:=by simp[hdOk,h1,h2,h3]
theorem OC{p:Pg}{a o:Nat}(h:p.kd=0\/p.kd=2)(e:p.od=(o:Int)):hdOk p a=(decide (a%2 ^ o=0) && jU p):=by
 unfold hdOk;rw[if_neg (by omega),if_pos h,yU,e,Int.toNat_natCast];simp
theorem OB{p:Pg}{a:Nat}(h:p.kd=4):hdOk p a=decide (p.od=0):=by unfold hdOk;rw[if_pos h]
theorem LC(p q:Pg):rsOk p q=(decide (q.kd=p.kd+1) && (decide (q.od=p.od) && jU q)):=yU _ _ _
theorem LA(I:Img)(V:ImV)(k r:Nat)(hS:Sn9 I k r)(w:World)(hI:ImD w I V):
  Calls prog 103 #[imA I V] w fun e w'=>e=.returned (.int .i64 (eB (r4 I)))/\Kt nO w w':=by
 obtain⟨⟨ma,mc,hm⟩,⟨pa,pc,hp⟩,⟨ra,rc,hr⟩,⟨ha,hc,hh⟩,⟨ta,tc,ht⟩,-⟩:=hI.sl;obtain⟨vm,vp,vr,vh,vt⟩:=V;dsimp only at hm hp hr hh ht;subst hm hp hr hh ht;have IM0:=aA (show ImAt (w.alloc (aE I _)) w.heap.size I _ from⟨nH _ _,hI.keep ((Kt.refl _ w).alloc _)⟩);have K0:=aA (show Kt nO w (w.alloc (aE I _))from(Kt.refl _ w).alloc (aE I ⟨.slice ma I.nm mc,.slice pa I.np pc,.slice ra I.no rc,.slice ha I.hd.length hc,.slice ta I.pt.length tc⟩));obtain⟨c0,c1,c2,c3,c4,c5,c6,c7,c8⟩:=IM0.out.cells;have HS:=aA hS;have HNP:=aA hS.np1;obtain⟨rr,hrr⟩:=xe (eB (r4 I));rw[<-hrr];have RR:=aA hrr;clear hI hrr hS;go_enter func103,ntmps103;go_wp2_with fail;clear c0 c1 c2 c3 c4 c5 c6 c7 c8;generalize w.heap.size=ib at *;generalize w.alloc (aE I ⟨.slice ma I.nm mc,.slice pa I.np pc,.slice ra I.no rc,.slice ha I.hd.length hc,.slice ta I.pt.length tc⟩)=W0 at *;go_loopw [3] (fun iv W=>∃ a:Nat,a<=I.np/\iv=.int .i64 a/\Hid (Kt nO W0 W/\∃ m,I.np-a<m/\r4 I=r4F I m a)) (fun iv _=>I.np-(intOf iv).toNat)
 case atStart=>exact⟨0,Nat.zero_le _,rfl,aA ⟨Kt.refl _ _,I.np+1,by omega,rfl⟩⟩
 case round=>
  obtain⟨a,ha',rfl,hG⟩:=hrel;have IMa:=aA (IM0.out.keep hG.out.1);obtain⟨c0,c1,c2,c3,c4,c5,c6,c7,c8⟩:=IMa.out.cells;dsimp only at c5;by_cases hlt:a<I.np
  ·have hai:(a:Int)<I.np:=(by omega);obtain⟨bl,oo,oc,hv,-,hpc⟩:=IMa.out.page a hlt;injection hv with e1 e2 e3
   subst e1;clear e2 e3;obtain⟨d0,d1,d2,d3,d4,d5,d6,d7,d8,d9,d10⟩:=hpc.c;obtain⟨kd,od,cc,ll,y1,y2,y3,y4,-⟩:=HS.out.pg a hlt;obtain⟨kG,m,hm1,hm2⟩:=hG.out;obtain⟨m,rfl⟩:∃ m',m=m'+1:=⟨m-1,by omega⟩;have hk8:=HS.out.k8;have FB:=aA (show hdOk (I.pg a) a=false->rr=(a:Int)from fun h=>by rw[RR.out,hm2,zT hlt h];rfl);have FR:=aA (show ∀ j,hdOk (I.pg a) a=true->j<2 ^ od-1->(∀ x,x<j->rsOk (I.pg a) (I.pg (a+1+x))=true)->rsOk (I.pg a) (I.pg (a+1+j))=false->rr=((a+1+j:Nat):Int)from fun j h1 h2 h3 h4=>by rw[RR.out,hm2,CO hlt y3 h1 h2 h3 h4];rfl);have FO:=aA (show hdOk (I.pg a) a=true->(∀ x,x<2 ^ od-1->rsOk (I.pg a) (I.pg (a+1+x))=true)->∃ m',I.np-(a+2 ^ od)<m'/\r4 I=r4F I m' (a+2 ^ od)from fun h1 h2=>⟨m,by have:=Nat.two_pow_pos od;omega,by rw[hm2,r4F_ok hlt y3 h1 h2]⟩);have PW:=aA (fun W=>mL od (by omega) W);have HD2:=aA (show(I.pg a).kd=0\/(I.pg a).kd=2->hdOk (I.pg a) a=(decide (a%2 ^ od=0) && jU (I.pg a))from fun h=>OC h y3);have HD4:=aA (show(I.pg a).kd=4->hdOk (I.pg a) a=decide ((I.pg a).od=0)from OB);have HDN:=aA (show ¬(I.pg a).kd=4->¬(I.pg a).kd=0->¬(I.pg a).kd=2->hdOk (I.pg a) a=false from LD);have RSE:=aA (show ∀ q,rsOk (I.pg a) q=(decide (q.kd=(I.pg a).kd+1) && (decide (q.od=(I.pg a).od) && jU q))from fun q=>LC _ q);have PL:=aA (fun W=>rO (I.pg a) W);have FIT:=aA (show a%2 ^ od=0->a+2 ^ od<=I.np from fun h=>mul_fits (HS.out.dvd od y4) h hlt);have FIT4:=aA (show od=0->a+2 ^ od<=I.np from fun h=>by rw[h];exact hlt);obtain⟨pl,hpl⟩:∃ b,b=jU (I.pg a):=⟨_,rfl⟩;rw[<-hpl] at HD2 PL;obtain⟨P,hP⟩:=xe (2 ^ od);rw[<-hP] at FR FO PW HD2 FIT FIT4;have hP1 : 1<=P:=(by rw[hP];exact Nat.two_pow_pos od);have hP2:P<=512:=(by rw[hP];exact mG od (by omega));have hkb:(I.pg a).kd<=4/\0<=(I.pg a).kd:=(by rw[y1];omega);obtain⟨hd,hhd⟩:∃ b,b=hdOk (I.pg a) a:=⟨_,rfl⟩;rw[<-hhd] at FB FR FO HD2 HD4 HDN;generalize I.pg a=p at *;have HLT:=aA hlt;have KG:=aA kG;clear hpl hhd hP hpc hlt ha' hG hm2 hm1 kG y1 y2 y4 hk8;obtain⟨pkd,pod,pcl,plv,pnx,ppv,pfs,pb0,pb1,pb2,pb3⟩:=p;dsimp only at hkb d0 d1 d2 d3 d4 d5 d6 d7 d8 d9 d10 HD4 HDN RSE PL y3;subst y3;go_upto_region 4 with fail;refine jQ (P:=fun W=>Code.wp prog _ _ _ W) _ ?_;intro W1 hW;have k1:Kt nO wr W1:=(by subst hW;exact(Kt.refl _ wr).alloc _);have X1:=aA (show W1.heap[wr.heap.size]?=some (aO ⟨pkd,od,pcl,plv,pnx,ppv,pfs,pb0,pb1,pb2,pb3⟩)by subst hW;exact nH _ _);have IM1:=aA (IMa.out.keep k1);have KE:=aA (nT KG.out k1);generalize wr.heap.size=pb at *;clear hW k1 c0 c1 c2 c3 c4 c5 c6 c7 c8 d0 d1 d2 d3 d4 d5 d6 d7 d8 d9 d10 IMa;obtain⟨e0,e1,e2,e3,e4,e5,e6,e7,e8,e9,e10⟩:=cA X1.out;dsimp only at e0 e1 e2 e3 e4 e5 e6 e7 e8 e9 e10;have hP0:¬(P:Int)=0:=(by omega);have hP3:((P:Int) == 0)=false:=(by rw[beq_eq_false_iff_ne];exact hP0);have hPm:¬(P:Int) = -1:=(by omega);obtain⟨mo,hmo⟩:∃ m,m=a%P:=⟨_,rfl⟩;rw[<-hmo] at HD2 FIT;have r1:(a:Int)%(P:Int)=mo:=(by rw[hmo];rfl);have r2:(a:Int).tmod (P:Int)=mo:=(by rw[Int.tmod_eq_emod_of_nonneg (by omega)];exact r1);clear hmo;go_wp2_with fail;refine(PW.out _).mono ?_;rintro e w1 ⟨rfl,rfl⟩;by_cases k4:pkd=4
   ·have q1:(pkd == 4)=true:=(by rw[beq_iff_eq];exact k4);have q2:(pkd != 4)=false:=(by rw[bne_eq_false_iff_eq];exact k4);by_cases o0:od=0
    case neg=>
     have q3:((od:Int) != 0)=true:=(by rw[bne_iff_ne];omega);have er:=FB.out ((HD4.out k4).trans (decide_eq_false (by omega)));clear k4 o0;subst er;go_wp2_with fail;go_ret;exact⟨rfl,nT K0.out KE.out⟩
    have q3:((od:Int) != 0)=false:=(by rw[bne_eq_false_iff_eq];omega);have HH:=aA ((HD4.out k4).trans (decide_eq_true (by omega)));have FF:=aA (FIT4.out o0);clear k4 o0;go_wp2_with fail;go_loopw [6] (fun iv W=>∃ j:Nat,1<=j/\j<=P/\iv=.int .i64 j/\Hid (Kt nO w1 W/\∀ x,x+1<j->rsOk ⟨pkd,od,pcl,plv,pnx,ppv,pfs,pb0,pb1,pb2,pb3⟩ (I.pg (a+1+x))=true)) (fun iv _=>P-(intOf iv).toNat)
    case atStart=>exact⟨1,Nat.le_refl _,hP1,rfl,aA ⟨Kt.refl _ _,fun x hx=>by omega⟩⟩
    case round=>
     obtain⟨j,hj1,hj2,rfl,hJ⟩:=hrel;have KJ:=aA hJ.out.1;have INV:=aA hJ.out.2;have IMj:=aA (IM1.out.keep KJ.out);have Xj:=aA ((KJ.out.block _ (lH X1.out) (fun y=>y)).trans X1.out);clear hJ;by_cases hjp:j<P
     ·have hji:(j:Int)<P:=(by omega);obtain⟨g,hg⟩:=xe (a+j);have hgl:g<I.np:=(by have:=FF.out;omega);have hgi:(g:Int)<I.np:=(by omega);have gs:wrap64 ((a:Int)+(j:Int))=(g:Int):=(by have:=HNP.out;rw[wrap64];omega);have RSG:=aA (RSE.out (I.pg g));have PLg:=aA (fun W=>rO (I.pg g) W);have FRj:=aA (show rsOk ⟨pkd,od,pcl,plv,pnx,ppv,pfs,pb0,pb1,pb2,pb3⟩ (I.pg g)=false->rr=(g:Int)from fun h=>by
       rw[FR.out (j-1) HH.out (by omega) (fun x hx=>INV.out x (by omega)) (by rw[show a+1+(j-1)=g by omega];exact h),show a+1+(j-1)=g by omega])
      have NEXT:=aA (show rsOk ⟨pkd,od,pcl,plv,pnx,ppv,pfs,pb0,pb1,pb2,pb3⟩ (I.pg g)=true->∀ x,x+1<j+1->rsOk ⟨pkd,od,pcl,plv,pnx,ppv,pfs,pb0,pb1,pb2,pb3⟩ (I.pg (a+1+x))=true from fun h x hx=>by
       by_cases e:x+1=j
       ·rw[show a+1+x=g by omega];exact h
       ·exact INV.out x (by omega))
      have JL:=aA (show j+1<=P/\j<P from⟨hjp,hjp⟩);obtain⟨c0,c1,c2,c3,c4,c5,c6,c7,c8⟩:=IMj.out.cells;dsimp only at c5;obtain⟨bl,oo,oc,hv,-,hpc⟩:=IMj.out.page g hgl;injection hv with e1 e2 e3
      injection e1 with e4
      injection e4 with e5 e6
      subst e5 e6;clear e2 e3;obtain⟨d0,d1,d2,d3,d4,d5,d6,d7,d8,d9,d10⟩:=hpc.c;obtain⟨qb,hqb⟩:∃ b,b=jU (I.pg g):=⟨_,rfl⟩;rw[<-hqb] at RSG PLg;generalize I.pg g=q at *;clear hqb hg hjp hj2 hgl hpc e0 e1 e2 e3 e4 e5 e6 e7 e8 e9 e10;obtain⟨qkd,qod,qcl,qlv,qnx,qpv,qfs,qb0,qb1,qb2,qb3⟩:=q;dsimp only at d0 d1 d2 d3 d4 d5 d6 d7 d8 d9 d10 RSG PLg;go_upto_region 11 with fail;refine jQ (P:=fun W=>Code.wp prog _ _ _ W) _ ?_;intro W3 hW;have k3:Kt nO wr W3:=(by subst hW;exact(Kt.refl _ wr).alloc _);have X3:W3.heap[wr.heap.size]?=some (aO ⟨qkd,qod,qcl,qlv,qnx,qpv,qfs,qb0,qb1,qb2,qb3⟩):=(by subst hW;exact nH _ _);have KK3:=aA (nT KJ.out k3);obtain⟨e0,e1,-,-,-,-,-,-,-,-,-⟩:=cA ((k3.block _ (lH Xj.out) (fun y=>y)).trans Xj.out);obtain⟨f0,f1,f2,f3,f4,f5,f6,f7,f8,f9,f10⟩:=cA X3;dsimp only at e0 e1 f0 f1 f2 f3 f4 f5 f6 f7 f8 f9 f10;generalize wr.heap.size=qbx at *;clear hW k3 X3 c0 c1 c2 c3 c4 c5 c6 c7 c8 d0 d1 d2 d3 d4 d5 d6 d7 d8 d9 d10 IMj Xj;by_cases h1:qkd=pkd+1
      case neg=>
       have s1:(qkd != pkd+1)=true:=(by rw[bne_iff_ne];exact h1);have er:=FRj.out (by rw[RSG.out,decide_eq_false h1];rfl);clear h1;subst er;go_wp2_with fail;go_ret;refine⟨?_,nT K0.out (nT KE.out KK3.out)⟩;first|rfl|exact congrArg (fun z=>Ending.returned (.int .i64 z)) gs
      have s1:(qkd != pkd+1)=false:=(by rw[bne_eq_false_iff_eq];exact h1);have H1:=aA h1;clear h1;by_cases h2:qod=(od:Int)
      case neg=>
       have s2:(qod != (od:Int))=true:=(by rw[bne_iff_ne];exact h2);have er:=FRj.out (by rw[RSG.out,decide_eq_false h2];simp);clear h2;subst er;go_wp2_with fail;go_ret;refine⟨?_,nT K0.out (nT KE.out KK3.out)⟩;first|rfl|exact congrArg (fun z=>Ending.returned (.int .i64 z)) gs
      have s2:(qod != (od:Int))=false:=(by rw[bne_eq_false_iff_eq];exact h2);have RSH:=aA (RSG.out.trans (by rw[decide_eq_true H1.out,decide_eq_true h2,Bool.true_and,Bool.true_and]));clear h2;go_wp2_with fail;refine(PLg.out _).mono ?_;rintro e w5 ⟨rfl,k5⟩;have KK5:=aA (nT KK3.out k5);clear k5 e0 e1 f0 f1 f2 f3 f4 f5 f6 f7 f8 f9 f10
      cases qb with
      | false=>
       have er:=FRj.out RSH.out;subst er;go_wp2_with fail;go_ret;refine⟨?_,nT K0.out (nT KE.out KK5.out)⟩;first|rfl|exact congrArg (fun z=>Ending.returned (.int .i64 z)) gs
      | true=>
       have N1:=aA (NEXT.out RSH.out);have HW:=aA (show wrap64 ((j:Int)+1)=((j+1:Nat):Int)by have:=JL.out;rw[wrap64];omega);go_wp2_with fail;exact⟨⟨j+1,by omega,JL.out.1,by first|go_num|rw[HW.out],aA ⟨KK5.out,N1.out⟩⟩,by have:=JL.out;first|(simp[intOf];omega)|(rw[HW.out];simp only[intOf,Int.toNat_natCast];omega)⟩
     ·have hji:¬(j:Int)<P:=(by omega);have hw:wrap64 ((a:Int)+(P:Int))=((a+P:Nat):Int):=(by have:=HNP.out;have:=HLT.out;rw[wrap64];omega);have FO2:=aA (FO.out HH.out (fun x hx=>INV.out x (by omega)));have HWW:=aA hw;clear hw;go_wp2_with fail;go_round
      case rel=>exact⟨a+P,FF.out,by rw[HWW.out],aA ⟨nT KE.out KJ.out,FO2.out⟩⟩
      case measure=>rw[HWW.out];have:=HLT.out;have:=hP1;simp only[intOf,Int.toNat_natCast];omega
   have q1:(pkd == 4)=false:=(by rw[beq_eq_false_iff_ne];exact k4);have q2:(pkd != 4)=true:=(by rw[bne_iff_ne];exact k4);have Q1:=aA k4;clear k4;by_cases k0:pkd=0
   ·have q3:(pkd != 0)=false:=(by rw[bne_eq_false_iff_eq];exact k0);have HDC:=aA (HD2.out (.inl k0));clear k0;by_cases m0:mo=0
    case neg=>
     have q5:((mo:Int) != 0)=true:=(by rw[bne_iff_ne];omega);have er:=FB.out (HDC.out.trans (by rw[decide_eq_false m0];rfl));clear m0;subst er;go_wp2_with fail;go_ret;exact⟨rfl,nT K0.out KE.out⟩
    have q5:((mo:Int) != 0)=false:=(by rw[bne_eq_false_iff_eq];omega);have HDD:=aA (HDC.out.trans (by rw[decide_eq_true m0,Bool.true_and]));have FF:=aA (FIT.out m0);clear m0;go_wp2_with fail;refine(PL.out _).mono ?_;rintro e w2 ⟨rfl,k2⟩;have IM2:=aA (IM1.out.keep k2);have X2:=aA ((k2.block _ (lH X1.out) (fun y=>y)).trans X1.out);have KE2:=aA (nT KE.out k2);clear k2 e0 e1 e2 e3 e4 e5 e6 e7 e8 e9 e10;obtain⟨e0,e1,e2,e3,e4,e5,e6,e7,e8,e9,e10⟩:=cA X2.out;dsimp only at e0 e1 e2 e3 e4 e5 e6 e7 e8 e9 e10;have HH:=HDD;clear HDD HDC
    cases pl with
    | false=>
     have er:=FB.out HH.out;subst er;go_wp2_with fail;go_ret;exact⟨rfl,nT K0.out KE2.out⟩
    | true=>
     go_wp2_with fail;go_loopw [6] (fun iv W=>∃ j:Nat,1<=j/\j<=P/\iv=.int .i64 j/\Hid (Kt nO w2 W/\∀ x,x+1<j->rsOk ⟨pkd,od,pcl,plv,pnx,ppv,pfs,pb0,pb1,pb2,pb3⟩ (I.pg (a+1+x))=true)) (fun iv _=>P-(intOf iv).toNat)
     case atStart=>exact⟨1,Nat.le_refl _,hP1,rfl,aA ⟨Kt.refl _ _,fun x hx=>by omega⟩⟩
     case round=>
      obtain⟨j,hj1,hj2,rfl,hJ⟩:=hrel;have KJ:=aA hJ.out.1;have INV:=aA hJ.out.2;have IMj:=aA (IM2.out.keep KJ.out);have Xj:=aA ((KJ.out.block _ (lH X2.out) (fun y=>y)).trans X2.out);clear hJ;by_cases hjp:j<P
      ·have hji:(j:Int)<P:=(by omega);obtain⟨g,hg⟩:=xe (a+j);have hgl:g<I.np:=(by have:=FF.out;omega);have hgi:(g:Int)<I.np:=(by omega);have gs:wrap64 ((a:Int)+(j:Int))=(g:Int):=(by have:=HNP.out;rw[wrap64];omega);have RSG:=aA (RSE.out (I.pg g));have PLg:=aA (fun W=>rO (I.pg g) W);have FRj:=aA (show rsOk ⟨pkd,od,pcl,plv,pnx,ppv,pfs,pb0,pb1,pb2,pb3⟩ (I.pg g)=false->rr=(g:Int)from fun h=>by
        rw[FR.out (j-1) HH.out (by omega) (fun x hx=>INV.out x (by omega)) (by rw[show a+1+(j-1)=g by omega];exact h),show a+1+(j-1)=g by omega])
       have NEXT:=aA (show rsOk ⟨pkd,od,pcl,plv,pnx,ppv,pfs,pb0,pb1,pb2,pb3⟩ (I.pg g)=true->∀ x,x+1<j+1->rsOk ⟨pkd,od,pcl,plv,pnx,ppv,pfs,pb0,pb1,pb2,pb3⟩ (I.pg (a+1+x))=true from fun h x hx=>by
        by_cases e:x+1=j
        ·rw[show a+1+x=g by omega];exact h
        ·exact INV.out x (by omega))
       have JL:=aA (show j+1<=P/\j<P from⟨hjp,hjp⟩);obtain⟨c0,c1,c2,c3,c4,c5,c6,c7,c8⟩:=IMj.out.cells;dsimp only at c5;obtain⟨bl,oo,oc,hv,-,hpc⟩:=IMj.out.page g hgl;injection hv with e1 e2 e3
       injection e1 with e4
       injection e4 with e5 e6
       subst e5 e6;clear e2 e3;obtain⟨d0,d1,d2,d3,d4,d5,d6,d7,d8,d9,d10⟩:=hpc.c;obtain⟨qb,hqb⟩:∃ b,b=jU (I.pg g):=⟨_,rfl⟩;rw[<-hqb] at RSG PLg;generalize I.pg g=q at *;clear hqb hg hjp hj2 hgl hpc e0 e1 e2 e3 e4 e5 e6 e7 e8 e9 e10;obtain⟨qkd,qod,qcl,qlv,qnx,qpv,qfs,qb0,qb1,qb2,qb3⟩:=q;dsimp only at d0 d1 d2 d3 d4 d5 d6 d7 d8 d9 d10 RSG PLg;go_upto_region 11 with fail;refine jQ (P:=fun W=>Code.wp prog _ _ _ W) _ ?_;intro W3 hW;have k3:Kt nO wr W3:=(by subst hW;exact(Kt.refl _ wr).alloc _);have X3:W3.heap[wr.heap.size]?=some (aO ⟨qkd,qod,qcl,qlv,qnx,qpv,qfs,qb0,qb1,qb2,qb3⟩):=(by subst hW;exact nH _ _);have KK3:=aA (nT KJ.out k3);obtain⟨e0,e1,-,-,-,-,-,-,-,-,-⟩:=cA ((k3.block _ (lH Xj.out) (fun y=>y)).trans Xj.out);obtain⟨f0,f1,f2,f3,f4,f5,f6,f7,f8,f9,f10⟩:=cA X3;dsimp only at e0 e1 f0 f1 f2 f3 f4 f5 f6 f7 f8 f9 f10;generalize wr.heap.size=qbx at *;clear hW k3 X3 c0 c1 c2 c3 c4 c5 c6 c7 c8 d0 d1 d2 d3 d4 d5 d6 d7 d8 d9 d10 IMj Xj;by_cases h1:qkd=pkd+1
       case neg=>
        have s1:(qkd != pkd+1)=true:=(by rw[bne_iff_ne];exact h1);have er:=FRj.out (by rw[RSG.out,decide_eq_false h1];rfl);clear h1;subst er;go_wp2_with fail;go_ret;refine⟨?_,nT K0.out (nT KE2.out KK3.out)⟩;first|rfl|exact congrArg (fun z=>Ending.returned (.int .i64 z)) gs
       have s1:(qkd != pkd+1)=false:=(by rw[bne_eq_false_iff_eq];exact h1);have H1:=aA h1;clear h1;by_cases h2:qod=(od:Int)
       case neg=>
        have s2:(qod != (od:Int))=true:=(by rw[bne_iff_ne];exact h2);have er:=FRj.out (by rw[RSG.out,decide_eq_false h2];simp);clear h2;subst er;go_wp2_with fail;go_ret;refine⟨?_,nT K0.out (nT KE2.out KK3.out)⟩;first|rfl|exact congrArg (fun z=>Ending.returned (.int .i64 z)) gs
       have s2:(qod != (od:Int))=false:=(by rw[bne_eq_false_iff_eq];exact h2);have RSH:=aA (RSG.out.trans (by rw[decide_eq_true H1.out,decide_eq_true h2,Bool.true_and,Bool.true_and]));clear h2;go_wp2_with fail;refine(PLg.out _).mono ?_;rintro e w5 ⟨rfl,k5⟩;have KK5:=aA (nT KK3.out k5);clear k5 e0 e1 f0 f1 f2 f3 f4 f5 f6 f7 f8 f9 f10
       cases qb with
       | false=>
        have er:=FRj.out RSH.out;subst er;go_wp2_with fail;go_ret;refine⟨?_,nT K0.out (nT KE2.out KK5.out)⟩;first|rfl|exact congrArg (fun z=>Ending.returned (.int .i64 z)) gs
       | true=>
        have N1:=aA (NEXT.out RSH.out);have HW:=aA (show wrap64 ((j:Int)+1)=((j+1:Nat):Int)by have:=JL.out;rw[wrap64];omega);go_wp2_with fail;exact⟨⟨j+1,by omega,JL.out.1,by first|go_num|rw[HW.out],aA ⟨KK5.out,N1.out⟩⟩,by have:=JL.out;first|(simp[intOf];omega)|(rw[HW.out];simp only[intOf,Int.toNat_natCast];omega)⟩
      ·have hji:¬(j:Int)<P:=(by omega);have hw:wrap64 ((a:Int)+(P:Int))=((a+P:Nat):Int):=(by have:=HNP.out;have:=HLT.out;rw[wrap64];omega);have FO2:=aA (FO.out HH.out (fun x hx=>INV.out x (by omega)));have HWW:=aA hw;clear hw;go_wp2_with fail;go_round
       case rel=>exact⟨a+P,FF.out,by rw[HWW.out],aA ⟨nT KE2.out KJ.out,FO2.out⟩⟩
       case measure=>rw[HWW.out];have:=HLT.out;have:=hP1;simp only[intOf,Int.toNat_natCast];omega
   have q3:(pkd != 0)=true:=(by rw[bne_iff_ne];exact k0);have Q3:=aA k0;clear k0;by_cases k2:pkd=2
   ·have q4:(pkd != 2)=false:=(by rw[bne_eq_false_iff_eq];exact k2);have HDC:=aA (HD2.out (.inr k2));clear k2;by_cases m0:mo=0
    case neg=>
     have q5:((mo:Int) != 0)=true:=(by rw[bne_iff_ne];omega);have er:=FB.out (HDC.out.trans (by rw[decide_eq_false m0];rfl));clear m0;subst er;go_wp2_with fail;go_ret;exact⟨rfl,nT K0.out KE.out⟩
    have q5:((mo:Int) != 0)=false:=(by rw[bne_eq_false_iff_eq];omega);have HDD:=aA (HDC.out.trans (by rw[decide_eq_true m0,Bool.true_and]));have FF:=aA (FIT.out m0);clear m0;go_wp2_with fail;refine(PL.out _).mono ?_;rintro e w2 ⟨rfl,k2⟩;have IM2:=aA (IM1.out.keep k2);have X2:=aA ((k2.block _ (lH X1.out) (fun y=>y)).trans X1.out);have KE2:=aA (nT KE.out k2);clear k2 e0 e1 e2 e3 e4 e5 e6 e7 e8 e9 e10;obtain⟨e0,e1,e2,e3,e4,e5,e6,e7,e8,e9,e10⟩:=cA X2.out;dsimp only at e0 e1 e2 e3 e4 e5 e6 e7 e8 e9 e10;have HH:=HDD;clear HDD HDC
    cases pl with
    | false=>
     have er:=FB.out HH.out;subst er;go_wp2_with fail;go_ret;exact⟨rfl,nT K0.out KE2.out⟩
    | true=>
     go_wp2_with fail;go_loopw [6] (fun iv W=>∃ j:Nat,1<=j/\j<=P/\iv=.int .i64 j/\Hid (Kt nO w2 W/\∀ x,x+1<j->rsOk ⟨pkd,od,pcl,plv,pnx,ppv,pfs,pb0,pb1,pb2,pb3⟩ (I.pg (a+1+x))=true)) (fun iv _=>P-(intOf iv).toNat)
     case atStart=>exact⟨1,Nat.le_refl _,hP1,rfl,aA ⟨Kt.refl _ _,fun x hx=>by omega⟩⟩
     case round=>
      obtain⟨j,hj1,hj2,rfl,hJ⟩:=hrel;have KJ:=aA hJ.out.1;have INV:=aA hJ.out.2;have IMj:=aA (IM2.out.keep KJ.out);have Xj:=aA ((KJ.out.block _ (lH X2.out) (fun y=>y)).trans X2.out);clear hJ;by_cases hjp:j<P
      ·have hji:(j:Int)<P:=(by omega);obtain⟨g,hg⟩:=xe (a+j);have hgl:g<I.np:=(by have:=FF.out;omega);have hgi:(g:Int)<I.np:=(by omega);have gs:wrap64 ((a:Int)+(j:Int))=(g:Int):=(by have:=HNP.out;rw[wrap64];omega);have RSG:=aA (RSE.out (I.pg g));have PLg:=aA (fun W=>rO (I.pg g) W);have FRj:=aA (show rsOk ⟨pkd,od,pcl,plv,pnx,ppv,pfs,pb0,pb1,pb2,pb3⟩ (I.pg g)=false->rr=(g:Int)from fun h=>by
        rw[FR.out (j-1) HH.out (by omega) (fun x hx=>INV.out x (by omega)) (by rw[show a+1+(j-1)=g by omega];exact h),show a+1+(j-1)=g by omega])
       have NEXT:=aA (show rsOk ⟨pkd,od,pcl,plv,pnx,ppv,pfs,pb0,pb1,pb2,pb3⟩ (I.pg g)=true->∀ x,x+1<j+1->rsOk ⟨pkd,od,pcl,plv,pnx,ppv,pfs,pb0,pb1,pb2,pb3⟩ (I.pg (a+1+x))=true from fun h x hx=>by
        by_cases e:x+1=j
        ·rw[show a+1+x=g by omega];exact h
        ·exact INV.out x (by omega))
       have JL:=aA (show j+1<=P/\j<P from⟨hjp,hjp⟩);obtain⟨c0,c1,c2,c3,c4,c5,c6,c7,c8⟩:=IMj.out.cells;dsimp only at c5;obtain⟨bl,oo,oc,hv,-,hpc⟩:=IMj.out.page g hgl;injection hv with e1 e2 e3
       injection e1 with e4
       injection e4 with e5 e6
       subst e5 e6;clear e2 e3;obtain⟨d0,d1,d2,d3,d4,d5,d6,d7,d8,d9,d10⟩:=hpc.c;obtain⟨qb,hqb⟩:∃ b,b=jU (I.pg g):=⟨_,rfl⟩;rw[<-hqb] at RSG PLg;generalize I.pg g=q at *;clear hqb hg hjp hj2 hgl hpc e0 e1 e2 e3 e4 e5 e6 e7 e8 e9 e10;obtain⟨qkd,qod,qcl,qlv,qnx,qpv,qfs,qb0,qb1,qb2,qb3⟩:=q;dsimp only at d0 d1 d2 d3 d4 d5 d6 d7 d8 d9 d10 RSG PLg;go_upto_region 11 with fail;refine jQ (P:=fun W=>Code.wp prog _ _ _ W) _ ?_;intro W3 hW;have k3:Kt nO wr W3:=(by subst hW;exact(Kt.refl _ wr).alloc _);have X3:W3.heap[wr.heap.size]?=some (aO ⟨qkd,qod,qcl,qlv,qnx,qpv,qfs,qb0,qb1,qb2,qb3⟩):=(by subst hW;exact nH _ _);have KK3:=aA (nT KJ.out k3);obtain⟨e0,e1,-,-,-,-,-,-,-,-,-⟩:=cA ((k3.block _ (lH Xj.out) (fun y=>y)).trans Xj.out);obtain⟨f0,f1,f2,f3,f4,f5,f6,f7,f8,f9,f10⟩:=cA X3;dsimp only at e0 e1 f0 f1 f2 f3 f4 f5 f6 f7 f8 f9 f10;generalize wr.heap.size=qbx at *;clear hW k3 X3 c0 c1 c2 c3 c4 c5 c6 c7 c8 d0 d1 d2 d3 d4 d5 d6 d7 d8 d9 d10 IMj Xj;by_cases h1:qkd=pkd+1
       case neg=>
        have s1:(qkd != pkd+1)=true:=(by rw[bne_iff_ne];exact h1);have er:=FRj.out (by rw[RSG.out,decide_eq_false h1];rfl);clear h1;subst er;go_wp2_with fail;go_ret;refine⟨?_,nT K0.out (nT KE2.out KK3.out)⟩;first|rfl|exact congrArg (fun z=>Ending.returned (.int .i64 z)) gs
       have s1:(qkd != pkd+1)=false:=(by rw[bne_eq_false_iff_eq];exact h1);have H1:=aA h1;clear h1;by_cases h2:qod=(od:Int)
       case neg=>
        have s2:(qod != (od:Int))=true:=(by rw[bne_iff_ne];exact h2);have er:=FRj.out (by rw[RSG.out,decide_eq_false h2];simp);clear h2;subst er;go_wp2_with fail;go_ret;refine⟨?_,nT K0.out (nT KE2.out KK3.out)⟩;first|rfl|exact congrArg (fun z=>Ending.returned (.int .i64 z)) gs
       have s2:(qod != (od:Int))=false:=(by rw[bne_eq_false_iff_eq];exact h2);have RSH:=aA (RSG.out.trans (by rw[decide_eq_true H1.out,decide_eq_true h2,Bool.true_and,Bool.true_and]));clear h2;go_wp2_with fail;refine(PLg.out _).mono ?_;rintro e w5 ⟨rfl,k5⟩;have KK5:=aA (nT KK3.out k5);clear k5 e0 e1 f0 f1 f2 f3 f4 f5 f6 f7 f8 f9 f10
       cases qb with
       | false=>
        have er:=FRj.out RSH.out;subst er;go_wp2_with fail;go_ret;refine⟨?_,nT K0.out (nT KE2.out KK5.out)⟩;first|rfl|exact congrArg (fun z=>Ending.returned (.int .i64 z)) gs
       | true=>
        have N1:=aA (NEXT.out RSH.out);have HW:=aA (show wrap64 ((j:Int)+1)=((j+1:Nat):Int)by have:=JL.out;rw[wrap64];omega);go_wp2_with fail;exact⟨⟨j+1,by omega,JL.out.1,by first|go_num|rw[HW.out],aA ⟨KK5.out,N1.out⟩⟩,by have:=JL.out;first|(simp[intOf];omega)|(rw[HW.out];simp only[intOf,Int.toNat_natCast];omega)⟩
      ·have hji:¬(j:Int)<P:=(by omega);have hw:wrap64 ((a:Int)+(P:Int))=((a+P:Nat):Int):=(by have:=HNP.out;have:=HLT.out;rw[wrap64];omega);have FO2:=aA (FO.out HH.out (fun x hx=>INV.out x (by omega)));have HWW:=aA hw;clear hw;go_wp2_with fail;go_round
       case rel=>exact⟨a+P,FF.out,by rw[HWW.out],aA ⟨nT KE2.out KJ.out,FO2.out⟩⟩
       case measure=>rw[HWW.out];have:=HLT.out;have:=hP1;simp only[intOf,Int.toNat_natCast];omega
   have q4:(pkd != 2)=true:=(by rw[bne_iff_ne];exact k2);have er:=FB.out (HDN.out Q1.out Q3.out k2);clear k2;subst er;go_wp2_with fail;go_ret;exact⟨rfl,nT K0.out KE.out⟩
  ·have hai:¬(a:Int)<I.np:=(by omega);have er:rr = -1:=by
    obtain⟨-,m,hm1,hm2⟩:=hG.out;obtain⟨m,rfl⟩:∃ m',m=m'+1:=⟨m-1,by omega⟩;rw[RR.out,hm2,show a=I.np by omega,r4F_end];rfl
   subst er;go_wp2_with fail;go_ret;exact⟨rfl,nT K0.out hG.out.1⟩
end Go.Proofs.YtkfmheelhinjdaaGreatDoor.W
