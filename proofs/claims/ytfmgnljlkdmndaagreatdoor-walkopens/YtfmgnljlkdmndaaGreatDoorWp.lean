import Derived.Test.YtfmgnljlkdmndaaGreatDoorXg
set_option maxRecDepth 1000000
set_option maxHeartbeats 0
namespace Go.Proofs.YtfmgnljlkdmndaaGreatDoor
namespace W
open Tryz RowKit
set_option linter.unusedVariables false
theorem OT{p:Pg}{a:Nat}(b:¬p.kd=4)(d:¬p.kd=0)(c:¬p.kd=2):hdOk p a=false:=by simp[hdOk,b,d,c]
theorem QG{p:Pg}{a o:Nat}(h:p.kd=0\/p.kd=2)(e:p.od=(o:Int)):hdOk p a=(decide (a%2 ^ o=0) && jU p):=by unfold hdOk;rw[ac (by omega),ae h,BH,e,aa];simp
theorem QE{p:Pg}{a:Nat}(h:p.kd=4):hdOk p a=decide (p.od=0):=by unfold hdOk;rw[ae h]
theorem OS(p q:Pg):rsOk p q=(decide (q.kd=p.kd+1) && (decide (q.od=p.od) && jU q)):=BH _ _ _
theorem OQ(I:Img)(V:ImV)(k r:Nat)(hS:Sn9 I k r)(w:Wd)(hI:ImD w I V):Calls prog 80 #[imA I V] w fun e w'=>e=.returned (.int .i64 (fA (r4 I)))/\Kt nO w w':=by
 obtain⟨⟨ma,mc,hm⟩,⟨pa,pc,hp⟩,⟨ra,rc,hr⟩,⟨ha,hc,hh⟩,⟨ta,tc,ht⟩,-⟩:=hI.sl;obtain⟨vm,vp,vr,vh,vt⟩:=V;dsimp only at hm hp hr hh ht;subst hm hp hr hh ht;have i0:=aA (show ImAt (w.alloc (imO I _)) w.heap.size I _ from⟨nH _ _,hI.dk ((Kt.refl _ w).alloc _)⟩);have K0:=aA (show Kt nO w (w.alloc (imO I _))from(Kt.refl _ w).alloc (imO I ⟨.slice ma I.nm mc,.slice pa I.np pc,.slice ra I.no rc,.slice ha I.hd.length hc,.slice ta I.pt.length tc⟩));obtain⟨c0,c1,c2,c3,c4,c5,c6,c7,c8⟩:=i0.o.cells;have HS:=aA hS;have b0:=aA hS.gj;obtain⟨rr,h5⟩:=xe (fA (r4 I));rw[<-h5];have RR:=aA h5;clear hI h5 hS;go_enter func80,ntmps80;go_wp2_with fail;clear c0 c1 c2 c3 c4 c5 c6 c7 c8;generalize w.heap.size=ib at *;generalize w.alloc (imO I ⟨.slice ma I.nm mc,.slice pa I.np pc,.slice ra I.no rc,.slice ha I.hd.length hc,.slice ta I.pt.length tc⟩)=W0 at *;go_loopw [3] (fun iv W=>∃ a:Nat,a<=I.np/\iv=.int .i64 a/\Hd (Kt nO W0 W/\∃ m,I.np-a<m/\r4 I=r4F I m a)) (fun iv _=>I.np-(intOf iv).toNat)
 case atStart=>exact⟨0,az _,rfl,aA ⟨Kt.refl _ _,I.np+1,by omega,rfl⟩⟩
 case round=>
  obtain⟨a,i7,rfl,hG⟩:=hrel;have g8:=aA (i0.o.dk hG.o.1);obtain⟨c0,c1,c2,c3,c4,c5,c6,c7,c8⟩:=g8.o.cells;dsimp only at c5;by_cases Z:a<I.np
  ·have i8:(a:Int)<I.np:=(by omega);obtain⟨bl,oo,oc,hv,-,N⟩:=g8.o.ew a Z;injection hv with u e2 e3
   subst u;clear e2 e3;obtain⟨d0,d1,d2,d3,d4,d5,d6,d7,d8,d9,S⟩:=N.c;obtain⟨kd,od,cc,ll,y1,y2,y3,y4,-⟩:=HS.o.pg a Z;obtain⟨kG,m,i4,a8⟩:=hG.o;obtain⟨m,rfl⟩:∃ m',m=m'+1:=⟨m-1,by omega⟩;have i9:=HS.o.k8;have FB:=aA (show hdOk (I.pg a) a=false->rr=(a:Int)from fun h=>by rw[RR.o,a8,DR Z h];rfl);have FR:=aA (show ∀ j,hdOk (I.pg a) a=true->j<2 ^ od-1->(∀ x,x<j->rsOk (I.pg a) (I.pg (a+1+x))=true)->rsOk (I.pg a) (I.pg (a+1+j))=false->rr=((a+1+j:Nat):Int)from fun j G F h3 h4=>by rw[RR.o,a8,GO Z y3 G F h3 h4];rfl);have FO:=aA (show hdOk (I.pg a) a=true->(∀ x,x<2 ^ od-1->rsOk (I.pg a) (I.pg (a+1+x))=true)->∃ m',I.np-(a+2 ^ od)<m'/\r4 I=r4F I m' (a+2 ^ od)from fun G F=>⟨m,by have:=ax od;omega,by rw[a8,r4F_ok Z y3 G F]⟩);have PW:=aA (fun W=>nE od (by omega) W);have b2:=aA (show(I.pg a).kd=0\/(I.pg a).kd=2->hdOk (I.pg a) a=(decide (a%2 ^ od=0) && jU (I.pg a))from fun h=>QG h y3);have g7:=aA (show(I.pg a).kd=4->hdOk (I.pg a) a=decide ((I.pg a).od=0)from QE);have h7:=aA (show ¬(I.pg a).kd=4->¬(I.pg a).kd=0->¬(I.pg a).kd=2->hdOk (I.pg a) a=false from OT);have g6:=aA (show ∀ q,rsOk (I.pg a) q=(decide (q.kd=(I.pg a).kd+1) && (decide (q.od=(I.pg a).od) && jU q))from fun q=>OS _ q);have PL:=aA (fun W=>sI (I.pg a) W);have g5:=aA (show a%2 ^ od=0->a+2 ^ od<=I.np from fun h=>mul_fits (HS.o.dvd od y4) h Z);have g9:=aA (show od=0->a+2 ^ od<=I.np from fun h=>by rw[h];exact Z);obtain⟨pl,i2⟩:∃ b,b=jU (I.pg a):=⟨_,rfl⟩;rw[<-i2] at b2 PL;obtain⟨P,hP⟩:=xe (2 ^ od);rw[<-hP] at FR FO PW b2 g5 g9;have a9 : 1<=P:=(by rw[hP];exact ax od);have j0:P<=512:=(by rw[hP];exact nD od (by omega));have jw:(I.pg a).kd<=4/\0<=(I.pg a).kd:=(by rw[y1];omega);obtain⟨hd,i5⟩:∃ b,b=hdOk (I.pg a) a:=⟨_,rfl⟩;rw[<-i5] at FB FR FO b2 g7 h7;generalize I.pg a=p at *;have b1:=aA Z;have KG:=aA kG;clear i2 i5 hP N Z i7 hG a8 i4 kG y1 y2 y4 i9;obtain⟨d,j3,s,t,A,v,B,o,C,D,E⟩:=p;dsimp only at jw d0 d1 d2 d3 d4 d5 d6 d7 d8 d9 S g7 h7 g6 PL y3;subst y3;go_upto_region 4 with fail;refine kO (P:=fun W=>Code.wp prog _ _ _ W) _ ?_;intro W1 hW;have k1:Kt nO wr W1:=(by subst hW;exact(Kt.refl _ wr).alloc _);have X1:=aA (show W1.heap[wr.heap.size]?=some (aV ⟨d,od,s,t,A,v,B,o,C,D,E⟩)by subst hW;exact nH _ _);have h8:=aA (g8.o.dk k1);have KE:=aA (nT KG.o k1);generalize wr.heap.size=pb at *;clear hW k1 c0 c1 c2 c3 c4 c5 c6 c7 c8 d0 d1 d2 d3 d4 d5 d6 d7 d8 d9 S g8;obtain⟨Y,u,e2,e3,e4,e5,e6,e7,e8,e9,X⟩:=dG X1.o;dsimp only at Y u e2 e3 e4 e5 e6 e7 e8 e9 X;have i6:¬(P:Int)=0:=(by omega);have j1:((P:Int) == 0)=false:=(by rw[ag];exact i6);have j2:¬(P:Int) = -1:=(by omega);obtain⟨mo,h6⟩:∃ m,m=a%P:=⟨_,rfl⟩;rw[<-h6] at b2 g5;have r1:(a:Int)%(P:Int)=mo:=(by rw[h6];rfl);have r2:(a:Int).tmod (P:Int)=mo:=(by rw[Int.tmod_eq_emod_of_nonneg (by omega)];exact r1);clear h6;go_wp2_with fail;refine(PW.o _).mono ?_;rintro e w1 ⟨rfl,rfl⟩;by_cases k4:d=4
   ·have q1:(d == 4)=true:=(by rw[cu];exact k4);have q2:(d != 4)=false:=(by rw[ay];exact k4);by_cases o0:od=0
    case neg=>have q3:((od:Int) != 0)=true:=(by rw[cx];omega);have i:=FB.o ((g7.o k4).trans (ah (by omega)));clear k4 o0;subst i;go_wp2_with fail;go_ret;exact⟨rfl,nT K0.o KE.o⟩
    have q3:((od:Int) != 0)=false:=(by rw[ay];omega);have HH:=aA ((g7.o k4).trans (af (by omega)));have FF:=aA (g9.o o0);clear k4 o0;go_wp2_with fail;go_loopw [6] (fun iv W=>∃ j:Nat,1<=j/\j<=P/\iv=.int .i64 j/\Hd (Kt nO w1 W/\∀ x,x+1<j->rsOk ⟨d,od,s,t,A,v,B,o,C,D,E⟩ (I.pg (a+1+x))=true)) (fun iv _=>P-(intOf iv).toNat)
    case atStart=>exact⟨1,aj _,a9,rfl,aA ⟨Kt.refl _ _,fun x hx=>by omega⟩⟩
    case round=>
     obtain⟨j,i3,b6,rfl,hJ⟩:=hrel;have KJ:=aA hJ.o.1;have T:=aA hJ.o.2;have K:=aA (h8.o.dk KJ.o);have Xj:=aA ((KJ.o.block _ (lH X1.o) (fun y=>y)).trans X1.o);clear hJ;by_cases L:j<P
     ·have b9:(j:Int)<P:=(by omega);obtain⟨g,hg⟩:=xe (a+j);have a2:g<I.np:=(by have:=FF.o;omega);have i1:(g:Int)<I.np:=(by omega);have gs:wrap64 ((a:Int)+(j:Int))=(g:Int):=(by have:=b0.o;rw[wrap64];omega);have f:=aA (g6.o (I.pg g));have Q:=aA (fun W=>sI (I.pg g) W);have R:=aA (show rsOk ⟨d,od,s,t,A,v,B,o,C,D,E⟩ (I.pg g)=false->rr=(g:Int)from fun h=>by
       rw[FR.o (j-1) HH.o (by omega) (fun x hx=>T.o x (by omega)) (by rw[show a+1+(j-1)=g by omega];exact h),show a+1+(j-1)=g by omega])
      have a5:=aA (show rsOk ⟨d,od,s,t,A,v,B,o,C,D,E⟩ (I.pg g)=true->∀ x,x+1<j+1->rsOk ⟨d,od,s,t,A,v,B,o,C,D,E⟩ (I.pg (a+1+x))=true from fun h x hx=>by
       by_cases e:x+1=j;·rw[show a+1+x=g by omega];exact h
       ·exact T.o x (by omega))
      have JL:=aA (show j+1<=P/\j<P from⟨L,L⟩);obtain⟨c0,c1,c2,c3,c4,c5,c6,c7,c8⟩:=K.o.cells;dsimp only at c5;obtain⟨bl,oo,oc,hv,-,N⟩:=K.o.ew g a2;injection hv with u e2 e3
      injection u with e4
      injection e4 with e5 e6
      subst e5 e6;clear e2 e3;obtain⟨d0,d1,d2,d3,d4,d5,d6,d7,d8,d9,S⟩:=N.c;obtain⟨qb,a3⟩:∃ b,b=jU (I.pg g):=⟨_,rfl⟩;rw[<-a3] at f Q;generalize I.pg g=q at *;clear a3 hg L b6 a2 N Y u e2 e3 e4 e5 e6 e7 e8 e9 X;obtain⟨n,l,g1,b7,b3,b4,g4,g3,g2,g0,c9⟩:=q;dsimp only at d0 d1 d2 d3 d4 d5 d6 d7 d8 d9 S f Q;go_upto_region 11 with fail;refine kO (P:=fun W=>Code.wp prog _ _ _ W) _ ?_;intro W3 hW;have k3:Kt nO wr W3:=(by subst hW;exact(Kt.refl _ wr).alloc _);have X3:W3.heap[wr.heap.size]?=some (aV ⟨n,l,g1,b7,b3,b4,g4,g3,g2,g0,c9⟩):=(by subst hW;exact nH _ _);have U:=aA (nT KJ.o k3);obtain⟨Y,u,-,-,-,-,-,-,-,-,-⟩:=dG ((k3.block _ (lH Xj.o) (fun y=>y)).trans Xj.o);obtain⟨f0,f1,f2,f3,f4,f5,f6,f7,f8,f9,a4⟩:=dG X3;dsimp only at Y u f0 f1 f2 f3 f4 f5 f6 f7 f8 f9 a4;generalize wr.heap.size=h9 at *;clear hW k3 X3 c0 c1 c2 c3 c4 c5 c6 c7 c8 d0 d1 d2 d3 d4 d5 d6 d7 d8 d9 S K Xj;by_cases G:n=d+1
      case neg=>have s1:(n != d+1)=true:=(by rw[cx];exact G);have i:=R.o (by rw[f.o,ah G];rfl);clear G;subst i;go_wp2_with fail;go_ret;refine⟨?_,nT K0.o (nT KE.o U.o)⟩;first|rfl|exact congrArg (fun z=>Ending.returned (.int .i64 z)) gs
      have s1:(n != d+1)=false:=(by rw[ay];exact G);have H1:=aA G;clear G;by_cases F:l=(od:Int)
      case neg=>have s2:(l != (od:Int))=true:=(by rw[cx];exact F);have i:=R.o (by rw[f.o,ah F];simp);clear F;subst i;go_wp2_with fail;go_ret;refine⟨?_,nT K0.o (nT KE.o U.o)⟩;first|rfl|exact congrArg (fun z=>Ending.returned (.int .i64 z)) gs
      have s2:(l != (od:Int))=false:=(by rw[ay];exact F);have a0:=aA (f.o.trans (by rw[af H1.o,af F,bf,bf]));clear F;go_wp2_with fail;refine(Q.o _).mono ?_;rintro e w5 ⟨rfl,k5⟩;have a1:=aA (nT U.o k5);clear k5 Y u f0 f1 f2 f3 f4 f5 f6 f7 f8 f9 a4
      cases qb with
      | false=>have i:=R.o a0.o;subst i;go_wp2_with fail;go_ret;refine⟨?_,nT K0.o (nT KE.o a1.o)⟩;first|rfl|exact congrArg (fun z=>Ending.returned (.int .i64 z)) gs
      | true=>have N1:=aA (a5.o a0.o);have HW:=aA (show wrap64 ((j:Int)+1)=((j+1:Nat):Int)by have:=JL.o;rw[wrap64];omega);go_wp2_with fail;exact⟨⟨j+1,by omega,JL.o.1,by first|go_num|rw[HW.o],aA ⟨a1.o,N1.o⟩⟩,by have:=JL.o;first|(simp[intOf];omega)|(rw[HW.o];simp only[intOf,aa];omega)⟩
     ·have b9:¬(j:Int)<P:=(by omega);have hw:wrap64 ((a:Int)+(P:Int))=((a+P:Nat):Int):=(by have:=b0.o;have:=b1.o;rw[wrap64];omega);have b8:=aA (FO.o HH.o (fun x hx=>T.o x (by omega)));have a6:=aA hw;clear hw;go_wp2_with fail;go_round
      case rel=>exact⟨a+P,FF.o,by rw[a6.o],aA ⟨nT KE.o KJ.o,b8.o⟩⟩
      case measure=>rw[a6.o];have:=b1.o;have:=a9;simp only[intOf,aa];omega
   have q1:(d == 4)=false:=(by rw[ag];exact k4);have q2:(d != 4)=true:=(by rw[cx];exact k4);have Q1:=aA k4;clear k4;by_cases k0:d=0
   ·have q3:(d != 0)=false:=(by rw[ay];exact k0);have a7:=aA (b2.o (.inl k0));clear k0;by_cases m0:mo=0
    case neg=>have q5:((mo:Int) != 0)=true:=(by rw[cx];omega);have i:=FB.o (a7.o.trans (by rw[ah m0];rfl));clear m0;subst i;go_wp2_with fail;go_ret;exact⟨rfl,nT K0.o KE.o⟩
    have q5:((mo:Int) != 0)=false:=(by rw[ay];omega);have b5:=aA (a7.o.trans (by rw[af m0,bf]));have FF:=aA (g5.o m0);clear m0;go_wp2_with fail;refine(PL.o _).mono ?_;rintro e w2 ⟨rfl,k2⟩;have h0:=aA (h8.o.dk k2);have X2:=aA ((k2.block _ (lH X1.o) (fun y=>y)).trans X1.o);have J:=aA (nT KE.o k2);clear k2 Y u e2 e3 e4 e5 e6 e7 e8 e9 X;obtain⟨Y,u,e2,e3,e4,e5,e6,e7,e8,e9,X⟩:=dG X2.o;dsimp only at Y u e2 e3 e4 e5 e6 e7 e8 e9 X;have HH:=b5;clear b5 a7
    cases pl with
    | false=>have i:=FB.o HH.o;subst i;go_wp2_with fail;go_ret;exact⟨rfl,nT K0.o J.o⟩
    | true=>
     go_wp2_with fail;go_loopw [6] (fun iv W=>∃ j:Nat,1<=j/\j<=P/\iv=.int .i64 j/\Hd (Kt nO w2 W/\∀ x,x+1<j->rsOk ⟨d,od,s,t,A,v,B,o,C,D,E⟩ (I.pg (a+1+x))=true)) (fun iv _=>P-(intOf iv).toNat)
     case atStart=>exact⟨1,aj _,a9,rfl,aA ⟨Kt.refl _ _,fun x hx=>by omega⟩⟩
     case round=>
      obtain⟨j,i3,b6,rfl,hJ⟩:=hrel;have KJ:=aA hJ.o.1;have T:=aA hJ.o.2;have K:=aA (h0.o.dk KJ.o);have Xj:=aA ((KJ.o.block _ (lH X2.o) (fun y=>y)).trans X2.o);clear hJ;by_cases L:j<P
      ·have b9:(j:Int)<P:=(by omega);obtain⟨g,hg⟩:=xe (a+j);have a2:g<I.np:=(by have:=FF.o;omega);have i1:(g:Int)<I.np:=(by omega);have gs:wrap64 ((a:Int)+(j:Int))=(g:Int):=(by have:=b0.o;rw[wrap64];omega);have f:=aA (g6.o (I.pg g));have Q:=aA (fun W=>sI (I.pg g) W);have R:=aA (show rsOk ⟨d,od,s,t,A,v,B,o,C,D,E⟩ (I.pg g)=false->rr=(g:Int)from fun h=>by
        rw[FR.o (j-1) HH.o (by omega) (fun x hx=>T.o x (by omega)) (by rw[show a+1+(j-1)=g by omega];exact h),show a+1+(j-1)=g by omega])
       have a5:=aA (show rsOk ⟨d,od,s,t,A,v,B,o,C,D,E⟩ (I.pg g)=true->∀ x,x+1<j+1->rsOk ⟨d,od,s,t,A,v,B,o,C,D,E⟩ (I.pg (a+1+x))=true from fun h x hx=>by
        by_cases e:x+1=j;·rw[show a+1+x=g by omega];exact h
        ·exact T.o x (by omega))
       have JL:=aA (show j+1<=P/\j<P from⟨L,L⟩);obtain⟨c0,c1,c2,c3,c4,c5,c6,c7,c8⟩:=K.o.cells;dsimp only at c5;obtain⟨bl,oo,oc,hv,-,N⟩:=K.o.ew g a2;injection hv with u e2 e3
       injection u with e4
       injection e4 with e5 e6
       subst e5 e6;clear e2 e3;obtain⟨d0,d1,d2,d3,d4,d5,d6,d7,d8,d9,S⟩:=N.c;obtain⟨qb,a3⟩:∃ b,b=jU (I.pg g):=⟨_,rfl⟩;rw[<-a3] at f Q;generalize I.pg g=q at *;clear a3 hg L b6 a2 N Y u e2 e3 e4 e5 e6 e7 e8 e9 X;obtain⟨n,l,g1,b7,b3,b4,g4,g3,g2,g0,c9⟩:=q;dsimp only at d0 d1 d2 d3 d4 d5 d6 d7 d8 d9 S f Q;go_upto_region 11 with fail;refine kO (P:=fun W=>Code.wp prog _ _ _ W) _ ?_;intro W3 hW;have k3:Kt nO wr W3:=(by subst hW;exact(Kt.refl _ wr).alloc _);have X3:W3.heap[wr.heap.size]?=some (aV ⟨n,l,g1,b7,b3,b4,g4,g3,g2,g0,c9⟩):=(by subst hW;exact nH _ _);have U:=aA (nT KJ.o k3);obtain⟨Y,u,-,-,-,-,-,-,-,-,-⟩:=dG ((k3.block _ (lH Xj.o) (fun y=>y)).trans Xj.o);obtain⟨f0,f1,f2,f3,f4,f5,f6,f7,f8,f9,a4⟩:=dG X3;dsimp only at Y u f0 f1 f2 f3 f4 f5 f6 f7 f8 f9 a4;generalize wr.heap.size=h9 at *;clear hW k3 X3 c0 c1 c2 c3 c4 c5 c6 c7 c8 d0 d1 d2 d3 d4 d5 d6 d7 d8 d9 S K Xj;by_cases G:n=d+1
       case neg=>have s1:(n != d+1)=true:=(by rw[cx];exact G);have i:=R.o (by rw[f.o,ah G];rfl);clear G;subst i;go_wp2_with fail;go_ret;refine⟨?_,nT K0.o (nT J.o U.o)⟩;first|rfl|exact congrArg (fun z=>Ending.returned (.int .i64 z)) gs
       have s1:(n != d+1)=false:=(by rw[ay];exact G);have H1:=aA G;clear G;by_cases F:l=(od:Int)
       case neg=>have s2:(l != (od:Int))=true:=(by rw[cx];exact F);have i:=R.o (by rw[f.o,ah F];simp);clear F;subst i;go_wp2_with fail;go_ret;refine⟨?_,nT K0.o (nT J.o U.o)⟩;first|rfl|exact congrArg (fun z=>Ending.returned (.int .i64 z)) gs
       have s2:(l != (od:Int))=false:=(by rw[ay];exact F);have a0:=aA (f.o.trans (by rw[af H1.o,af F,bf,bf]));clear F;go_wp2_with fail;refine(Q.o _).mono ?_;rintro e w5 ⟨rfl,k5⟩;have a1:=aA (nT U.o k5);clear k5 Y u f0 f1 f2 f3 f4 f5 f6 f7 f8 f9 a4
       cases qb with
       | false=>have i:=R.o a0.o;subst i;go_wp2_with fail;go_ret;refine⟨?_,nT K0.o (nT J.o a1.o)⟩;first|rfl|exact congrArg (fun z=>Ending.returned (.int .i64 z)) gs
       | true=>have N1:=aA (a5.o a0.o);have HW:=aA (show wrap64 ((j:Int)+1)=((j+1:Nat):Int)by have:=JL.o;rw[wrap64];omega);go_wp2_with fail;exact⟨⟨j+1,by omega,JL.o.1,by first|go_num|rw[HW.o],aA ⟨a1.o,N1.o⟩⟩,by have:=JL.o;first|(simp[intOf];omega)|(rw[HW.o];simp only[intOf,aa];omega)⟩
      ·have b9:¬(j:Int)<P:=(by omega);have hw:wrap64 ((a:Int)+(P:Int))=((a+P:Nat):Int):=(by have:=b0.o;have:=b1.o;rw[wrap64];omega);have b8:=aA (FO.o HH.o (fun x hx=>T.o x (by omega)));have a6:=aA hw;clear hw;go_wp2_with fail;go_round
       case rel=>exact⟨a+P,FF.o,by rw[a6.o],aA ⟨nT J.o KJ.o,b8.o⟩⟩
       case measure=>rw[a6.o];have:=b1.o;have:=a9;simp only[intOf,aa];omega
   have q3:(d != 0)=true:=(by rw[cx];exact k0);have Q3:=aA k0;clear k0;by_cases k2:d=2
   ·have q4:(d != 2)=false:=(by rw[ay];exact k2);have a7:=aA (b2.o (.inr k2));clear k2;by_cases m0:mo=0
    case neg=>have q5:((mo:Int) != 0)=true:=(by rw[cx];omega);have i:=FB.o (a7.o.trans (by rw[ah m0];rfl));clear m0;subst i;go_wp2_with fail;go_ret;exact⟨rfl,nT K0.o KE.o⟩
    have q5:((mo:Int) != 0)=false:=(by rw[ay];omega);have b5:=aA (a7.o.trans (by rw[af m0,bf]));have FF:=aA (g5.o m0);clear m0;go_wp2_with fail;refine(PL.o _).mono ?_;rintro e w2 ⟨rfl,k2⟩;have h0:=aA (h8.o.dk k2);have X2:=aA ((k2.block _ (lH X1.o) (fun y=>y)).trans X1.o);have J:=aA (nT KE.o k2);clear k2 Y u e2 e3 e4 e5 e6 e7 e8 e9 X;obtain⟨Y,u,e2,e3,e4,e5,e6,e7,e8,e9,X⟩:=dG X2.o;dsimp only at Y u e2 e3 e4 e5 e6 e7 e8 e9 X;have HH:=b5;clear b5 a7
    cases pl with
    | false=>have i:=FB.o HH.o;subst i;go_wp2_with fail;go_ret;exact⟨rfl,nT K0.o J.o⟩
    | true=>
     go_wp2_with fail;go_loopw [6] (fun iv W=>∃ j:Nat,1<=j/\j<=P/\iv=.int .i64 j/\Hd (Kt nO w2 W/\∀ x,x+1<j->rsOk ⟨d,od,s,t,A,v,B,o,C,D,E⟩ (I.pg (a+1+x))=true)) (fun iv _=>P-(intOf iv).toNat)
     case atStart=>exact⟨1,aj _,a9,rfl,aA ⟨Kt.refl _ _,fun x hx=>by omega⟩⟩
     case round=>
      obtain⟨j,i3,b6,rfl,hJ⟩:=hrel;have KJ:=aA hJ.o.1;have T:=aA hJ.o.2;have K:=aA (h0.o.dk KJ.o);have Xj:=aA ((KJ.o.block _ (lH X2.o) (fun y=>y)).trans X2.o);clear hJ;by_cases L:j<P
      ·have b9:(j:Int)<P:=(by omega);obtain⟨g,hg⟩:=xe (a+j);have a2:g<I.np:=(by have:=FF.o;omega);have i1:(g:Int)<I.np:=(by omega);have gs:wrap64 ((a:Int)+(j:Int))=(g:Int):=(by have:=b0.o;rw[wrap64];omega);have f:=aA (g6.o (I.pg g));have Q:=aA (fun W=>sI (I.pg g) W);have R:=aA (show rsOk ⟨d,od,s,t,A,v,B,o,C,D,E⟩ (I.pg g)=false->rr=(g:Int)from fun h=>by
        rw[FR.o (j-1) HH.o (by omega) (fun x hx=>T.o x (by omega)) (by rw[show a+1+(j-1)=g by omega];exact h),show a+1+(j-1)=g by omega])
       have a5:=aA (show rsOk ⟨d,od,s,t,A,v,B,o,C,D,E⟩ (I.pg g)=true->∀ x,x+1<j+1->rsOk ⟨d,od,s,t,A,v,B,o,C,D,E⟩ (I.pg (a+1+x))=true from fun h x hx=>by
        by_cases e:x+1=j;·rw[show a+1+x=g by omega];exact h
        ·exact T.o x (by omega))
       have JL:=aA (show j+1<=P/\j<P from⟨L,L⟩);obtain⟨c0,c1,c2,c3,c4,c5,c6,c7,c8⟩:=K.o.cells;dsimp only at c5;obtain⟨bl,oo,oc,hv,-,N⟩:=K.o.ew g a2;injection hv with u e2 e3
       injection u with e4
       injection e4 with e5 e6
       subst e5 e6;clear e2 e3;obtain⟨d0,d1,d2,d3,d4,d5,d6,d7,d8,d9,S⟩:=N.c;obtain⟨qb,a3⟩:∃ b,b=jU (I.pg g):=⟨_,rfl⟩;rw[<-a3] at f Q;generalize I.pg g=q at *;clear a3 hg L b6 a2 N Y u e2 e3 e4 e5 e6 e7 e8 e9 X;obtain⟨n,l,g1,b7,b3,b4,g4,g3,g2,g0,c9⟩:=q;dsimp only at d0 d1 d2 d3 d4 d5 d6 d7 d8 d9 S f Q;go_upto_region 11 with fail;refine kO (P:=fun W=>Code.wp prog _ _ _ W) _ ?_;intro W3 hW;have k3:Kt nO wr W3:=(by subst hW;exact(Kt.refl _ wr).alloc _);have X3:W3.heap[wr.heap.size]?=some (aV ⟨n,l,g1,b7,b3,b4,g4,g3,g2,g0,c9⟩):=(by subst hW;exact nH _ _);have U:=aA (nT KJ.o k3);obtain⟨Y,u,-,-,-,-,-,-,-,-,-⟩:=dG ((k3.block _ (lH Xj.o) (fun y=>y)).trans Xj.o);obtain⟨f0,f1,f2,f3,f4,f5,f6,f7,f8,f9,a4⟩:=dG X3;dsimp only at Y u f0 f1 f2 f3 f4 f5 f6 f7 f8 f9 a4;generalize wr.heap.size=h9 at *;clear hW k3 X3 c0 c1 c2 c3 c4 c5 c6 c7 c8 d0 d1 d2 d3 d4 d5 d6 d7 d8 d9 S K Xj;by_cases G:n=d+1
       case neg=>have s1:(n != d+1)=true:=(by rw[cx];exact G);have i:=R.o (by rw[f.o,ah G];rfl);clear G;subst i;go_wp2_with fail;go_ret;refine⟨?_,nT K0.o (nT J.o U.o)⟩;first|rfl|exact congrArg (fun z=>Ending.returned (.int .i64 z)) gs
       have s1:(n != d+1)=false:=(by rw[ay];exact G);have H1:=aA G;clear G;by_cases F:l=(od:Int)
       case neg=>have s2:(l != (od:Int))=true:=(by rw[cx];exact F);have i:=R.o (by rw[f.o,ah F];simp);clear F;subst i;go_wp2_with fail;go_ret;refine⟨?_,nT K0.o (nT J.o U.o)⟩;first|rfl|exact congrArg (fun z=>Ending.returned (.int .i64 z)) gs
       have s2:(l != (od:Int))=false:=(by rw[ay];exact F);have a0:=aA (f.o.trans (by rw[af H1.o,af F,bf,bf]));clear F;go_wp2_with fail;refine(Q.o _).mono ?_;rintro e w5 ⟨rfl,k5⟩;have a1:=aA (nT U.o k5);clear k5 Y u f0 f1 f2 f3 f4 f5 f6 f7 f8 f9 a4
       cases qb with
       | false=>have i:=R.o a0.o;subst i;go_wp2_with fail;go_ret;refine⟨?_,nT K0.o (nT J.o a1.o)⟩;first|rfl|exact congrArg (fun z=>Ending.returned (.int .i64 z)) gs
       | true=>have N1:=aA (a5.o a0.o);have HW:=aA (show wrap64 ((j:Int)+1)=((j+1:Nat):Int)by have:=JL.o;rw[wrap64];omega);go_wp2_with fail;exact⟨⟨j+1,by omega,JL.o.1,by first|go_num|rw[HW.o],aA ⟨a1.o,N1.o⟩⟩,by have:=JL.o;first|(simp[intOf];omega)|(rw[HW.o];simp only[intOf,aa];omega)⟩
      ·have b9:¬(j:Int)<P:=(by omega);have hw:wrap64 ((a:Int)+(P:Int))=((a+P:Nat):Int):=(by have:=b0.o;have:=b1.o;rw[wrap64];omega);have b8:=aA (FO.o HH.o (fun x hx=>T.o x (by omega)));have a6:=aA hw;clear hw;go_wp2_with fail;go_round
       case rel=>exact⟨a+P,FF.o,by rw[a6.o],aA ⟨nT J.o KJ.o,b8.o⟩⟩
       case measure=>rw[a6.o];have:=b1.o;have:=a9;simp only[intOf,aa];omega
   have q4:(d != 2)=true:=(by rw[cx];exact k2);have i:=FB.o (h7.o Q1.o Q3.o k2);clear k2;subst i;go_wp2_with fail;go_ret;exact⟨rfl,nT K0.o KE.o⟩
  ·have i8:¬(a:Int)<I.np:=(by omega);have i:rr = -1:=by
    obtain⟨-,m,i4,a8⟩:=hG.o;obtain⟨m,rfl⟩:∃ m',m=m'+1:=⟨m-1,by omega⟩;rw[RR.o,a8,show a=I.np by omega,r4F_end];rfl
   subst i;go_wp2_with fail;go_ret;exact⟨rfl,nT K0.o hG.o.1⟩
end W
end Go.Proofs.YtfmgnljlkdmndaaGreatDoor
