import Derived.Test.YtfmgnljlkdmndaaGreatDoorWa
set_option maxRecDepth 1000000
set_option maxHeartbeats 80000000
namespace Go.Proofs.YtfmgnljlkdmndaaGreatDoor.W
open Tryz
open Go.RowKit
set_option linter.unusedVariables false
theorem OX{p:Pg}{a:Nat}(b:¬p.kd=4)(d:¬p.kd=0)(c:¬p.kd=2):hdOk p a=false:=by simp[hdOk,b,d,c]
theorem SU{p:Pg}{a o:Nat}(h:p.kd=0\/p.kd=2)(e:p.od=(o:Int)):hdOk p a=(decide (a%2 ^ o=0) && jV p):=by unfold hdOk;rw[ac (by omega),ae h,CG,e,aa];simp
theorem SQ{p:Pg}{a:Nat}(h:p.kd=4):hdOk p a=decide (p.od=0):=by unfold hdOk;rw[ae h]
theorem OU(p q:Pg):rsOk p q=(decide (q.kd=p.kd+1) && (decide (q.od=p.od) && jV q)):=CG _ _ _
theorem OT(I:Img)(V:ImV)(k r:Nat)(hS:Sn9 I k r)(w:World)(hI:ImD w I V):
  Calls prog 80 #[imA I V] w fun e w'=>e=.returned (.int .i64 (fE (r4 I)))/\Kt nO w w':=by
 obtain⟨⟨ma,mc,hm⟩,⟨pa,pc,hp⟩,⟨ra,rc,hr⟩,⟨ha,hc,hh⟩,⟨ta,tc,ht⟩,-⟩:=hI.sl;obtain⟨vm,vp,vr,vh,vt⟩:=V;dsimp only at hm hp hr hh ht;subst hm hp hr hh ht;have i4:=aA (show ImAt (w.alloc (aQ I _)) w.heap.size I _ from⟨nH _ _,hI.keep ((Kt.refl _ w).alloc _)⟩);have K0:=aA (show Kt nO w (w.alloc (aQ I _))from(Kt.refl _ w).alloc (aQ I ⟨.slice ma I.nm mc,.slice pa I.np pc,.slice ra I.no rc,.slice ha I.hd.length hc,.slice ta I.pt.length tc⟩));obtain⟨c0,c1,c2,c3,c4,c5,c6,c7,c8⟩:=i4.o.cells;have HS:=aA hS;have b0:=aA hS.np1;obtain⟨rr,h6⟩:=xe (fE (r4 I));rw[<-h6];have RR:=aA h6;clear hI h6 hS;go_enter func80,ntmps80;go_wp2_with fail;clear c0 c1 c2 c3 c4 c5 c6 c7 c8;generalize w.heap.size=ib at *;generalize w.alloc (aQ I ⟨.slice ma I.nm mc,.slice pa I.np pc,.slice ra I.no rc,.slice ha I.hd.length hc,.slice ta I.pt.length tc⟩)=W0 at *;go_loopw [3] (fun iv W=>∃ a:Nat,a<=I.np/\iv=.int .i64 a/\Hd (Kt nO W0 W/\∃ m,I.np-a<m/\r4 I=r4F I m a)) (fun iv _=>I.np-(intOf iv).toNat)
 case atStart=>exact⟨0,az _,rfl,aA ⟨Kt.refl _ _,I.np+1,by omega,rfl⟩⟩
 case round=>
  obtain⟨a,i8,rfl,hG⟩:=hrel;have g5:=aA (i4.o.keep hG.o.1);obtain⟨c0,c1,c2,c3,c4,c5,c6,c7,c8⟩:=g5.o.cells;dsimp only at c5;by_cases Y:a<I.np
  ·have i9:(a:Int)<I.np:=(by omega);obtain⟨bl,oo,oc,hv,-,L⟩:=g5.o.page a Y;injection hv with A e2 e3
   subst A;clear e2 e3;obtain⟨d0,d1,d2,d3,d4,d5,d6,d7,d8,d9,R⟩:=L.c;obtain⟨kd,od,cc,ll,y1,y2,y3,y4,-⟩:=HS.o.pg a Y;obtain⟨kG,m,i3,a9⟩:=hG.o;obtain⟨m,rfl⟩:∃ m',m=m'+1:=⟨m-1,by omega⟩;have i6:=HS.o.k8;have FB:=aA (show hdOk (I.pg a) a=false->rr=(a:Int)from fun h=>by rw[RR.o,a9,DH Y h];rfl);have FR:=aA (show ∀ j,hdOk (I.pg a) a=true->j<2 ^ od-1->(∀ x,x<j->rsOk (I.pg a) (I.pg (a+1+x))=true)->rsOk (I.pg a) (I.pg (a+1+j))=false->rr=((a+1+j:Nat):Int)from fun j G F h3 h4=>by rw[RR.o,a9,GC Y y3 G F h3 h4];rfl);have FO:=aA (show hdOk (I.pg a) a=true->(∀ x,x<2 ^ od-1->rsOk (I.pg a) (I.pg (a+1+x))=true)->∃ m',I.np-(a+2 ^ od)<m'/\r4 I=r4F I m' (a+2 ^ od)from fun G F=>⟨m,by have:=ax od;omega,by rw[a9,r4F_ok Y y3 G F]⟩);have PW:=aA (fun W=>nG od (by omega) W);have b2:=aA (show(I.pg a).kd=0\/(I.pg a).kd=2->hdOk (I.pg a) a=(decide (a%2 ^ od=0) && jV (I.pg a))from fun h=>SU h y3);have g6:=aA (show(I.pg a).kd=4->hdOk (I.pg a) a=decide ((I.pg a).od=0)from SQ);have h8:=aA (show ¬(I.pg a).kd=4->¬(I.pg a).kd=0->¬(I.pg a).kd=2->hdOk (I.pg a) a=false from OX);have g7:=aA (show ∀ q,rsOk (I.pg a) q=(decide (q.kd=(I.pg a).kd+1) && (decide (q.od=(I.pg a).od) && jV q))from fun q=>OU _ q);have PL:=aA (fun W=>sJ (I.pg a) W);have g8:=aA (show a%2 ^ od=0->a+2 ^ od<=I.np from fun h=>mul_fits (HS.o.dvd od y4) h Y);have g9:=aA (show od=0->a+2 ^ od<=I.np from fun h=>by rw[h];exact Y);obtain⟨pl,i0⟩:∃ b,b=jV (I.pg a):=⟨_,rfl⟩;rw[<-i0] at b2 PL;obtain⟨P,hP⟩:=xe (2 ^ od);rw[<-hP] at FR FO PW b2 g8 g9;have a8 : 1<=P:=(by rw[hP];exact ax od);have j2:P<=512:=(by rw[hP];exact nF od (by omega));have hkb:(I.pg a).kd<=4/\0<=(I.pg a).kd:=(by rw[y1];omega);obtain⟨hd,i2⟩:∃ b,b=hdOk (I.pg a) a:=⟨_,rfl⟩;rw[<-i2] at FB FR FO b2 g6 h8;generalize I.pg a=p at *;have b1:=aA Y;have KG:=aA kG;clear i0 i2 hP L Y i8 hG a9 i3 kG y1 y2 y4 i6;obtain⟨d,j0,s,t,v,C,E,B,o,u,D⟩:=p;dsimp only at hkb d0 d1 d2 d3 d4 d5 d6 d7 d8 d9 R g6 h8 g7 PL y3;subst y3;go_upto_region 4 with fail;refine kP (P:=fun W=>Code.wp prog _ _ _ W) _ ?_;intro W1 hW;have k1:Kt nO wr W1:=(by subst hW;exact(Kt.refl _ wr).alloc _);have X1:=aA (show W1.heap[wr.heap.size]?=some (aW ⟨d,od,s,t,v,C,E,B,o,u,D⟩)by subst hW;exact nH _ _);have h0:=aA (g5.o.keep k1);have KE:=aA (nT KG.o k1);generalize wr.heap.size=pb at *;clear hW k1 c0 c1 c2 c3 c4 c5 c6 c7 c8 d0 d1 d2 d3 d4 d5 d6 d7 d8 d9 R g5;obtain⟨Z,A,e2,e3,e4,e5,e6,e7,e8,e9,X⟩:=dJ X1.o;dsimp only at Z A e2 e3 e4 e5 e6 e7 e8 e9 X;have i7:¬(P:Int)=0:=(by omega);have j3:((P:Int) == 0)=false:=(by rw[ag];exact i7);have j1:¬(P:Int) = -1:=(by omega);obtain⟨mo,h7⟩:∃ m,m=a%P:=⟨_,rfl⟩;rw[<-h7] at b2 g8;have r1:(a:Int)%(P:Int)=mo:=(by rw[h7];rfl);have r2:(a:Int).tmod (P:Int)=mo:=(by rw[Int.tmod_eq_emod_of_nonneg (by omega)];exact r1);clear h7;go_wp2_with fail;refine(PW.o _).mono ?_;rintro e w1 ⟨rfl,rfl⟩;by_cases k4:d=4
   ·have q1:(d == 4)=true:=(by rw[co];exact k4);have q2:(d != 4)=false:=(by rw[ay];exact k4);by_cases o0:od=0
    case neg=>
     have q3:((od:Int) != 0)=true:=(by rw[cu];omega);have i:=FB.o ((g6.o k4).trans (ah (by omega)));clear k4 o0;subst i;go_wp2_with fail;go_ret;exact⟨rfl,nT K0.o KE.o⟩
    have q3:((od:Int) != 0)=false:=(by rw[ay];omega);have HH:=aA ((g6.o k4).trans (af (by omega)));have FF:=aA (g9.o o0);clear k4 o0;go_wp2_with fail;go_loopw [6] (fun iv W=>∃ j:Nat,1<=j/\j<=P/\iv=.int .i64 j/\Hd (Kt nO w1 W/\∀ x,x+1<j->rsOk ⟨d,od,s,t,v,C,E,B,o,u,D⟩ (I.pg (a+1+x))=true)) (fun iv _=>P-(intOf iv).toNat)
    case atStart=>exact⟨1,aj _,a8,rfl,aA ⟨Kt.refl _ _,fun x hx=>by omega⟩⟩
    case round=>
     obtain⟨j,i5,g0,rfl,hJ⟩:=hrel;have KJ:=aA hJ.o.1;have U:=aA hJ.o.2;have N:=aA (h0.o.keep KJ.o);have Xj:=aA ((KJ.o.block _ (lH X1.o) (fun y=>y)).trans X1.o);clear hJ;by_cases S:j<P
     ·have b9:(j:Int)<P:=(by omega);obtain⟨g,hg⟩:=xe (a+j);have a2:g<I.np:=(by have:=FF.o;omega);have i1:(g:Int)<I.np:=(by omega);have gs:wrap64 ((a:Int)+(j:Int))=(g:Int):=(by have:=b0.o;rw[wrap64];omega);have f:=aA (g7.o (I.pg g));have K:=aA (fun W=>sJ (I.pg g) W);have Q:=aA (show rsOk ⟨d,od,s,t,v,C,E,B,o,u,D⟩ (I.pg g)=false->rr=(g:Int)from fun h=>by
       rw[FR.o (j-1) HH.o (by omega) (fun x hx=>U.o x (by omega)) (by rw[show a+1+(j-1)=g by omega];exact h),show a+1+(j-1)=g by omega])
      have a6:=aA (show rsOk ⟨d,od,s,t,v,C,E,B,o,u,D⟩ (I.pg g)=true->∀ x,x+1<j+1->rsOk ⟨d,od,s,t,v,C,E,B,o,u,D⟩ (I.pg (a+1+x))=true from fun h x hx=>by
       by_cases e:x+1=j
       ·rw[show a+1+x=g by omega];exact h
       ·exact U.o x (by omega))
      have JL:=aA (show j+1<=P/\j<P from⟨S,S⟩);obtain⟨c0,c1,c2,c3,c4,c5,c6,c7,c8⟩:=N.o.cells;dsimp only at c5;obtain⟨bl,oo,oc,hv,-,L⟩:=N.o.page g a2;injection hv with A e2 e3
      injection A with e4
      injection e4 with e5 e6
      subst e5 e6;clear e2 e3;obtain⟨d0,d1,d2,d3,d4,d5,d6,d7,d8,d9,R⟩:=L.c;obtain⟨qb,a5⟩:∃ b,b=jV (I.pg g):=⟨_,rfl⟩;rw[<-a5] at f K;generalize I.pg g=q at *;clear a5 hg S g0 a2 L Z A e2 e3 e4 e5 e6 e7 e8 e9 X;obtain⟨n,l,b4,g4,b6,g3,c9,g2,b5,b3,g1⟩:=q;dsimp only at d0 d1 d2 d3 d4 d5 d6 d7 d8 d9 R f K;go_upto_region 11 with fail;refine kP (P:=fun W=>Code.wp prog _ _ _ W) _ ?_;intro W3 hW;have k3:Kt nO wr W3:=(by subst hW;exact(Kt.refl _ wr).alloc _);have X3:W3.heap[wr.heap.size]?=some (aW ⟨n,l,b4,g4,b6,g3,c9,g2,b5,b3,g1⟩):=(by subst hW;exact nH _ _);have J:=aA (nT KJ.o k3);obtain⟨Z,A,-,-,-,-,-,-,-,-,-⟩:=dJ ((k3.block _ (lH Xj.o) (fun y=>y)).trans Xj.o);obtain⟨f0,f1,f2,f3,f4,f5,f6,f7,f8,f9,a3⟩:=dJ X3;dsimp only at Z A f0 f1 f2 f3 f4 f5 f6 f7 f8 f9 a3;generalize wr.heap.size=h9 at *;clear hW k3 X3 c0 c1 c2 c3 c4 c5 c6 c7 c8 d0 d1 d2 d3 d4 d5 d6 d7 d8 d9 R N Xj;by_cases G:n=d+1
      case neg=>
       have s1:(n != d+1)=true:=(by rw[cu];exact G);have i:=Q.o (by rw[f.o,ah G];rfl);clear G;subst i;go_wp2_with fail;go_ret;refine⟨?_,nT K0.o (nT KE.o J.o)⟩;first|rfl|exact congrArg (fun z=>Ending.returned (.int .i64 z)) gs
      have s1:(n != d+1)=false:=(by rw[ay];exact G);have H1:=aA G;clear G;by_cases F:l=(od:Int)
      case neg=>
       have s2:(l != (od:Int))=true:=(by rw[cu];exact F);have i:=Q.o (by rw[f.o,ah F];simp);clear F;subst i;go_wp2_with fail;go_ret;refine⟨?_,nT K0.o (nT KE.o J.o)⟩;first|rfl|exact congrArg (fun z=>Ending.returned (.int .i64 z)) gs
      have s2:(l != (od:Int))=false:=(by rw[ay];exact F);have a0:=aA (f.o.trans (by rw[af H1.o,af F,bf,bf]));clear F;go_wp2_with fail;refine(K.o _).mono ?_;rintro e w5 ⟨rfl,k5⟩;have a4:=aA (nT J.o k5);clear k5 Z A f0 f1 f2 f3 f4 f5 f6 f7 f8 f9 a3
      cases qb with
      | false=>
       have i:=Q.o a0.o;subst i;go_wp2_with fail;go_ret;refine⟨?_,nT K0.o (nT KE.o a4.o)⟩;first|rfl|exact congrArg (fun z=>Ending.returned (.int .i64 z)) gs
      | true=>
       have N1:=aA (a6.o a0.o);have HW:=aA (show wrap64 ((j:Int)+1)=((j+1:Nat):Int)by have:=JL.o;rw[wrap64];omega);go_wp2_with fail;exact⟨⟨j+1,by omega,JL.o.1,by first|go_num|rw[HW.o],aA ⟨a4.o,N1.o⟩⟩,by have:=JL.o;first|(simp[intOf];omega)|(rw[HW.o];simp only[intOf,aa];omega)⟩
     ·have b9:¬(j:Int)<P:=(by omega);have hw:wrap64 ((a:Int)+(P:Int))=((a+P:Nat):Int):=(by have:=b0.o;have:=b1.o;rw[wrap64];omega);have b7:=aA (FO.o HH.o (fun x hx=>U.o x (by omega)));have a1:=aA hw;clear hw;go_wp2_with fail;go_round
      case rel=>exact⟨a+P,FF.o,by rw[a1.o],aA ⟨nT KE.o KJ.o,b7.o⟩⟩
      case measure=>rw[a1.o];have:=b1.o;have:=a8;simp only[intOf,aa];omega
   have q1:(d == 4)=false:=(by rw[ag];exact k4);have q2:(d != 4)=true:=(by rw[cu];exact k4);have Q1:=aA k4;clear k4;by_cases k0:d=0
   ·have q3:(d != 0)=false:=(by rw[ay];exact k0);have a7:=aA (b2.o (.inl k0));clear k0;by_cases m0:mo=0
    case neg=>
     have q5:((mo:Int) != 0)=true:=(by rw[cu];omega);have i:=FB.o (a7.o.trans (by rw[ah m0];rfl));clear m0;subst i;go_wp2_with fail;go_ret;exact⟨rfl,nT K0.o KE.o⟩
    have q5:((mo:Int) != 0)=false:=(by rw[ay];omega);have b8:=aA (a7.o.trans (by rw[af m0,bf]));have FF:=aA (g8.o m0);clear m0;go_wp2_with fail;refine(PL.o _).mono ?_;rintro e w2 ⟨rfl,k2⟩;have h5:=aA (h0.o.keep k2);have X2:=aA ((k2.block _ (lH X1.o) (fun y=>y)).trans X1.o);have T:=aA (nT KE.o k2);clear k2 Z A e2 e3 e4 e5 e6 e7 e8 e9 X;obtain⟨Z,A,e2,e3,e4,e5,e6,e7,e8,e9,X⟩:=dJ X2.o;dsimp only at Z A e2 e3 e4 e5 e6 e7 e8 e9 X;have HH:=b8;clear b8 a7
    cases pl with
    | false=>
     have i:=FB.o HH.o;subst i;go_wp2_with fail;go_ret;exact⟨rfl,nT K0.o T.o⟩
    | true=>
     go_wp2_with fail;go_loopw [6] (fun iv W=>∃ j:Nat,1<=j/\j<=P/\iv=.int .i64 j/\Hd (Kt nO w2 W/\∀ x,x+1<j->rsOk ⟨d,od,s,t,v,C,E,B,o,u,D⟩ (I.pg (a+1+x))=true)) (fun iv _=>P-(intOf iv).toNat)
     case atStart=>exact⟨1,aj _,a8,rfl,aA ⟨Kt.refl _ _,fun x hx=>by omega⟩⟩
     case round=>
      obtain⟨j,i5,g0,rfl,hJ⟩:=hrel;have KJ:=aA hJ.o.1;have U:=aA hJ.o.2;have N:=aA (h5.o.keep KJ.o);have Xj:=aA ((KJ.o.block _ (lH X2.o) (fun y=>y)).trans X2.o);clear hJ;by_cases S:j<P
      ·have b9:(j:Int)<P:=(by omega);obtain⟨g,hg⟩:=xe (a+j);have a2:g<I.np:=(by have:=FF.o;omega);have i1:(g:Int)<I.np:=(by omega);have gs:wrap64 ((a:Int)+(j:Int))=(g:Int):=(by have:=b0.o;rw[wrap64];omega);have f:=aA (g7.o (I.pg g));have K:=aA (fun W=>sJ (I.pg g) W);have Q:=aA (show rsOk ⟨d,od,s,t,v,C,E,B,o,u,D⟩ (I.pg g)=false->rr=(g:Int)from fun h=>by
        rw[FR.o (j-1) HH.o (by omega) (fun x hx=>U.o x (by omega)) (by rw[show a+1+(j-1)=g by omega];exact h),show a+1+(j-1)=g by omega])
       have a6:=aA (show rsOk ⟨d,od,s,t,v,C,E,B,o,u,D⟩ (I.pg g)=true->∀ x,x+1<j+1->rsOk ⟨d,od,s,t,v,C,E,B,o,u,D⟩ (I.pg (a+1+x))=true from fun h x hx=>by
        by_cases e:x+1=j
        ·rw[show a+1+x=g by omega];exact h
        ·exact U.o x (by omega))
       have JL:=aA (show j+1<=P/\j<P from⟨S,S⟩);obtain⟨c0,c1,c2,c3,c4,c5,c6,c7,c8⟩:=N.o.cells;dsimp only at c5;obtain⟨bl,oo,oc,hv,-,L⟩:=N.o.page g a2;injection hv with A e2 e3
       injection A with e4
       injection e4 with e5 e6
       subst e5 e6;clear e2 e3;obtain⟨d0,d1,d2,d3,d4,d5,d6,d7,d8,d9,R⟩:=L.c;obtain⟨qb,a5⟩:∃ b,b=jV (I.pg g):=⟨_,rfl⟩;rw[<-a5] at f K;generalize I.pg g=q at *;clear a5 hg S g0 a2 L Z A e2 e3 e4 e5 e6 e7 e8 e9 X;obtain⟨n,l,b4,g4,b6,g3,c9,g2,b5,b3,g1⟩:=q;dsimp only at d0 d1 d2 d3 d4 d5 d6 d7 d8 d9 R f K;go_upto_region 11 with fail;refine kP (P:=fun W=>Code.wp prog _ _ _ W) _ ?_;intro W3 hW;have k3:Kt nO wr W3:=(by subst hW;exact(Kt.refl _ wr).alloc _);have X3:W3.heap[wr.heap.size]?=some (aW ⟨n,l,b4,g4,b6,g3,c9,g2,b5,b3,g1⟩):=(by subst hW;exact nH _ _);have J:=aA (nT KJ.o k3);obtain⟨Z,A,-,-,-,-,-,-,-,-,-⟩:=dJ ((k3.block _ (lH Xj.o) (fun y=>y)).trans Xj.o);obtain⟨f0,f1,f2,f3,f4,f5,f6,f7,f8,f9,a3⟩:=dJ X3;dsimp only at Z A f0 f1 f2 f3 f4 f5 f6 f7 f8 f9 a3;generalize wr.heap.size=h9 at *;clear hW k3 X3 c0 c1 c2 c3 c4 c5 c6 c7 c8 d0 d1 d2 d3 d4 d5 d6 d7 d8 d9 R N Xj;by_cases G:n=d+1
       case neg=>
        have s1:(n != d+1)=true:=(by rw[cu];exact G);have i:=Q.o (by rw[f.o,ah G];rfl);clear G;subst i;go_wp2_with fail;go_ret;refine⟨?_,nT K0.o (nT T.o J.o)⟩;first|rfl|exact congrArg (fun z=>Ending.returned (.int .i64 z)) gs
       have s1:(n != d+1)=false:=(by rw[ay];exact G);have H1:=aA G;clear G;by_cases F:l=(od:Int)
       case neg=>
        have s2:(l != (od:Int))=true:=(by rw[cu];exact F);have i:=Q.o (by rw[f.o,ah F];simp);clear F;subst i;go_wp2_with fail;go_ret;refine⟨?_,nT K0.o (nT T.o J.o)⟩;first|rfl|exact congrArg (fun z=>Ending.returned (.int .i64 z)) gs
       have s2:(l != (od:Int))=false:=(by rw[ay];exact F);have a0:=aA (f.o.trans (by rw[af H1.o,af F,bf,bf]));clear F;go_wp2_with fail;refine(K.o _).mono ?_;rintro e w5 ⟨rfl,k5⟩;have a4:=aA (nT J.o k5);clear k5 Z A f0 f1 f2 f3 f4 f5 f6 f7 f8 f9 a3
       cases qb with
       | false=>
        have i:=Q.o a0.o;subst i;go_wp2_with fail;go_ret;refine⟨?_,nT K0.o (nT T.o a4.o)⟩;first|rfl|exact congrArg (fun z=>Ending.returned (.int .i64 z)) gs
       | true=>
        have N1:=aA (a6.o a0.o);have HW:=aA (show wrap64 ((j:Int)+1)=((j+1:Nat):Int)by have:=JL.o;rw[wrap64];omega);go_wp2_with fail;exact⟨⟨j+1,by omega,JL.o.1,by first|go_num|rw[HW.o],aA ⟨a4.o,N1.o⟩⟩,by have:=JL.o;first|(simp[intOf];omega)|(rw[HW.o];simp only[intOf,aa];omega)⟩
      ·have b9:¬(j:Int)<P:=(by omega);have hw:wrap64 ((a:Int)+(P:Int))=((a+P:Nat):Int):=(by have:=b0.o;have:=b1.o;rw[wrap64];omega);have b7:=aA (FO.o HH.o (fun x hx=>U.o x (by omega)));have a1:=aA hw;clear hw;go_wp2_with fail;go_round
       case rel=>exact⟨a+P,FF.o,by rw[a1.o],aA ⟨nT T.o KJ.o,b7.o⟩⟩
       case measure=>rw[a1.o];have:=b1.o;have:=a8;simp only[intOf,aa];omega
   have q3:(d != 0)=true:=(by rw[cu];exact k0);have Q3:=aA k0;clear k0;by_cases k2:d=2
   ·have q4:(d != 2)=false:=(by rw[ay];exact k2);have a7:=aA (b2.o (.inr k2));clear k2;by_cases m0:mo=0
    case neg=>
     have q5:((mo:Int) != 0)=true:=(by rw[cu];omega);have i:=FB.o (a7.o.trans (by rw[ah m0];rfl));clear m0;subst i;go_wp2_with fail;go_ret;exact⟨rfl,nT K0.o KE.o⟩
    have q5:((mo:Int) != 0)=false:=(by rw[ay];omega);have b8:=aA (a7.o.trans (by rw[af m0,bf]));have FF:=aA (g8.o m0);clear m0;go_wp2_with fail;refine(PL.o _).mono ?_;rintro e w2 ⟨rfl,k2⟩;have h5:=aA (h0.o.keep k2);have X2:=aA ((k2.block _ (lH X1.o) (fun y=>y)).trans X1.o);have T:=aA (nT KE.o k2);clear k2 Z A e2 e3 e4 e5 e6 e7 e8 e9 X;obtain⟨Z,A,e2,e3,e4,e5,e6,e7,e8,e9,X⟩:=dJ X2.o;dsimp only at Z A e2 e3 e4 e5 e6 e7 e8 e9 X;have HH:=b8;clear b8 a7
    cases pl with
    | false=>
     have i:=FB.o HH.o;subst i;go_wp2_with fail;go_ret;exact⟨rfl,nT K0.o T.o⟩
    | true=>
     go_wp2_with fail;go_loopw [6] (fun iv W=>∃ j:Nat,1<=j/\j<=P/\iv=.int .i64 j/\Hd (Kt nO w2 W/\∀ x,x+1<j->rsOk ⟨d,od,s,t,v,C,E,B,o,u,D⟩ (I.pg (a+1+x))=true)) (fun iv _=>P-(intOf iv).toNat)
     case atStart=>exact⟨1,aj _,a8,rfl,aA ⟨Kt.refl _ _,fun x hx=>by omega⟩⟩
     case round=>
      obtain⟨j,i5,g0,rfl,hJ⟩:=hrel;have KJ:=aA hJ.o.1;have U:=aA hJ.o.2;have N:=aA (h5.o.keep KJ.o);have Xj:=aA ((KJ.o.block _ (lH X2.o) (fun y=>y)).trans X2.o);clear hJ;by_cases S:j<P
      ·have b9:(j:Int)<P:=(by omega);obtain⟨g,hg⟩:=xe (a+j);have a2:g<I.np:=(by have:=FF.o;omega);have i1:(g:Int)<I.np:=(by omega);have gs:wrap64 ((a:Int)+(j:Int))=(g:Int):=(by have:=b0.o;rw[wrap64];omega);have f:=aA (g7.o (I.pg g));have K:=aA (fun W=>sJ (I.pg g) W);have Q:=aA (show rsOk ⟨d,od,s,t,v,C,E,B,o,u,D⟩ (I.pg g)=false->rr=(g:Int)from fun h=>by
        rw[FR.o (j-1) HH.o (by omega) (fun x hx=>U.o x (by omega)) (by rw[show a+1+(j-1)=g by omega];exact h),show a+1+(j-1)=g by omega])
       have a6:=aA (show rsOk ⟨d,od,s,t,v,C,E,B,o,u,D⟩ (I.pg g)=true->∀ x,x+1<j+1->rsOk ⟨d,od,s,t,v,C,E,B,o,u,D⟩ (I.pg (a+1+x))=true from fun h x hx=>by
        by_cases e:x+1=j
        ·rw[show a+1+x=g by omega];exact h
        ·exact U.o x (by omega))
       have JL:=aA (show j+1<=P/\j<P from⟨S,S⟩);obtain⟨c0,c1,c2,c3,c4,c5,c6,c7,c8⟩:=N.o.cells;dsimp only at c5;obtain⟨bl,oo,oc,hv,-,L⟩:=N.o.page g a2;injection hv with A e2 e3
       injection A with e4
       injection e4 with e5 e6
       subst e5 e6;clear e2 e3;obtain⟨d0,d1,d2,d3,d4,d5,d6,d7,d8,d9,R⟩:=L.c;obtain⟨qb,a5⟩:∃ b,b=jV (I.pg g):=⟨_,rfl⟩;rw[<-a5] at f K;generalize I.pg g=q at *;clear a5 hg S g0 a2 L Z A e2 e3 e4 e5 e6 e7 e8 e9 X;obtain⟨n,l,b4,g4,b6,g3,c9,g2,b5,b3,g1⟩:=q;dsimp only at d0 d1 d2 d3 d4 d5 d6 d7 d8 d9 R f K;go_upto_region 11 with fail;refine kP (P:=fun W=>Code.wp prog _ _ _ W) _ ?_;intro W3 hW;have k3:Kt nO wr W3:=(by subst hW;exact(Kt.refl _ wr).alloc _);have X3:W3.heap[wr.heap.size]?=some (aW ⟨n,l,b4,g4,b6,g3,c9,g2,b5,b3,g1⟩):=(by subst hW;exact nH _ _);have J:=aA (nT KJ.o k3);obtain⟨Z,A,-,-,-,-,-,-,-,-,-⟩:=dJ ((k3.block _ (lH Xj.o) (fun y=>y)).trans Xj.o);obtain⟨f0,f1,f2,f3,f4,f5,f6,f7,f8,f9,a3⟩:=dJ X3;dsimp only at Z A f0 f1 f2 f3 f4 f5 f6 f7 f8 f9 a3;generalize wr.heap.size=h9 at *;clear hW k3 X3 c0 c1 c2 c3 c4 c5 c6 c7 c8 d0 d1 d2 d3 d4 d5 d6 d7 d8 d9 R N Xj;by_cases G:n=d+1
       case neg=>
        have s1:(n != d+1)=true:=(by rw[cu];exact G);have i:=Q.o (by rw[f.o,ah G];rfl);clear G;subst i;go_wp2_with fail;go_ret;refine⟨?_,nT K0.o (nT T.o J.o)⟩;first|rfl|exact congrArg (fun z=>Ending.returned (.int .i64 z)) gs
       have s1:(n != d+1)=false:=(by rw[ay];exact G);have H1:=aA G;clear G;by_cases F:l=(od:Int)
       case neg=>
        have s2:(l != (od:Int))=true:=(by rw[cu];exact F);have i:=Q.o (by rw[f.o,ah F];simp);clear F;subst i;go_wp2_with fail;go_ret;refine⟨?_,nT K0.o (nT T.o J.o)⟩;first|rfl|exact congrArg (fun z=>Ending.returned (.int .i64 z)) gs
       have s2:(l != (od:Int))=false:=(by rw[ay];exact F);have a0:=aA (f.o.trans (by rw[af H1.o,af F,bf,bf]));clear F;go_wp2_with fail;refine(K.o _).mono ?_;rintro e w5 ⟨rfl,k5⟩;have a4:=aA (nT J.o k5);clear k5 Z A f0 f1 f2 f3 f4 f5 f6 f7 f8 f9 a3
       cases qb with
       | false=>
        have i:=Q.o a0.o;subst i;go_wp2_with fail;go_ret;refine⟨?_,nT K0.o (nT T.o a4.o)⟩;first|rfl|exact congrArg (fun z=>Ending.returned (.int .i64 z)) gs
       | true=>
        have N1:=aA (a6.o a0.o);have HW:=aA (show wrap64 ((j:Int)+1)=((j+1:Nat):Int)by have:=JL.o;rw[wrap64];omega);go_wp2_with fail;exact⟨⟨j+1,by omega,JL.o.1,by first|go_num|rw[HW.o],aA ⟨a4.o,N1.o⟩⟩,by have:=JL.o;first|(simp[intOf];omega)|(rw[HW.o];simp only[intOf,aa];omega)⟩
      ·have b9:¬(j:Int)<P:=(by omega);have hw:wrap64 ((a:Int)+(P:Int))=((a+P:Nat):Int):=(by have:=b0.o;have:=b1.o;rw[wrap64];omega);have b7:=aA (FO.o HH.o (fun x hx=>U.o x (by omega)));have a1:=aA hw;clear hw;go_wp2_with fail;go_round
       case rel=>exact⟨a+P,FF.o,by rw[a1.o],aA ⟨nT T.o KJ.o,b7.o⟩⟩
       case measure=>rw[a1.o];have:=b1.o;have:=a8;simp only[intOf,aa];omega
   have q4:(d != 2)=true:=(by rw[cu];exact k2);have i:=FB.o (h8.o Q1.o Q3.o k2);clear k2;subst i;go_wp2_with fail;go_ret;exact⟨rfl,nT K0.o KE.o⟩
  ·have i9:¬(a:Int)<I.np:=(by omega);have i:rr = -1:=by
    obtain⟨-,m,i3,a9⟩:=hG.o;obtain⟨m,rfl⟩:∃ m',m=m'+1:=⟨m-1,by omega⟩;rw[RR.o,a9,show a=I.np by omega,r4F_end];rfl
   subst i;go_wp2_with fail;go_ret;exact⟨rfl,nT K0.o hG.o.1⟩
end Go.Proofs.YtfmgnljlkdmndaaGreatDoor.W
