import Derived.Test.YtfmgnljlkdmndaaGreatDoorWh
set_option maxRecDepth 1000000
set_option maxHeartbeats 80000000
namespace Go.Proofs.YtfmgnljlkdmndaaGreatDoor.W
open Tryz
open Go.RowKit
set_option linter.unusedVariables false
theorem tC{I:Img}{a m:Nat}(c:m<I.np/2 ^ (a+1))(b:∀ x,x<m->x<I.np/2 ^ (a+1)->aE (I.pr a) x=onF I a x)(d:¬aE (I.pr a) m=onF I a m):r7k I a=some (m*2 ^ (a+1)):=by unfold r7k;rw[gA c (fun x hx=>by rw[b x hx (by omega)];simp) (by simpa using d)]
theorem zkj{I:Img}{a m:Nat}(g:I.np/2 ^ (a+1)<=m)(hl:m<64*(I.pr a).length)(d:∀ x,x<m->x<I.np/2 ^ (a+1)->aE (I.pr a) x=onF I a x)(b:aE (I.pr a) m=true):r7k I a=some I.np:=by
 unfold r7k;rw[fst1_ok (fun x hx=>by rw[d x (by omega) hx];simp)];show(if _ then _ else _)=_
 rw[ac];intro e;rcases nxtN_of (n:=64*(I.pr a).length) (ws:=I.pr a) (k:=I.np/2 ^ (a+1))with ⟨c,f⟩|⟨j,c,-⟩
 ·rw[f m g hl] at b;cases b
 ·omega
theorem r7k_good{I:Img}{a:Nat}(e:∀ x,x<I.np/2 ^ (a+1)->aE (I.pr a) x=onF I a x)(g:∀ x,I.np/2 ^ (a+1)<=x->x<64*(I.pr a).length->aE (I.pr a) x=false):r7k I a=none:=by
 unfold r7k;rw[fst1_ok (fun x hx=>by rw[e x hx];simp)];show(if _ then _ else _)=_
 rw[ae];rcases nxtN_of (n:=64*(I.pr a).length) (ws:=I.pr a) (k:=I.np/2 ^ (a+1))with ⟨b,c⟩|⟨j,b,c,f,d,-⟩
 ·exact b
 ·rw[g j c f] at d;cases d
structure B7(I:Img)(a m:Nat):Prop where
 lo:∀ x,x<m->x<I.np/2 ^ (a+1)->aE (I.pr a) x=onF I a x
 hi:∀ x,I.np/2 ^ (a+1)<=x->x<m->aE (I.pr a) x=false
theorem XA(I:Img)(V:ImV)(k r:Nat)(hS:Sn9 I k r)(w:World)(hI:ImD w I V):
  Calls prog 83 #[imA I V] w fun e w'=>e=.returned (.int .i64 (fE (r7 I)))/\Kt nO w w':=by
 obtain⟨⟨ma,mc,hm⟩,⟨pa,pc,hp⟩,⟨ra,rc,hr⟩,⟨ha,hc,hh⟩,⟨ta,tc,ht⟩,-⟩:=hI.sl;obtain⟨vm,vp,vr,vh,vt⟩:=V;dsimp only at hm hp hr hh ht;subst hm hp hr hh ht;have e8:=aA (show ImAt (w.alloc (aQ I _)) w.heap.size I _ from⟨nH _ _,hI.keep ((Kt.refl _ w).alloc _)⟩);have K0:=aA (show Kt nO w (w.alloc (aQ I _))from(Kt.refl _ w).alloc (aQ I ⟨.slice ma I.nm mc,.slice pa I.np pc,.slice ra I.no rc,.slice ha I.hd.length hc,.slice ta I.pt.length tc⟩));obtain⟨c0,c1,c2,c3,c4,c5,s,c7,E⟩:=e8.o.cells;have e7:=aA hS.np1;have t:=aA hS.k8;have HO:=aA hS.ord;have f6:=aA hS.no;have HS:=aA hS;obtain⟨rr,a1⟩:=xe (fE (r7 I));rw[<-a1];have g6:=aA (show ∀ a p,a<k->(∀ j,j<a->r7k I j=none)->r7k I a=some p->rr=(p:Int)from fun a p u G h3=>by rw[a1,r7,FK (by rw[hS.no];exact u) G h3];rfl);have d9:=aA (show(∀ j,j<k->r7k I j=none)->rr = -1 from fun h=>by rw[a1,r7,fstO_ok (fun a ha=>h a (by rw[<-hS.no];exact ha))];rfl);have OP:=aA (fun g o hg W hI=>uS I ⟨.slice ma I.nm mc,.slice pa I.np pc,.slice ra I.no rc,.slice ha I.hd.length hc,.slice ta I.pt.length tc⟩ g o hg W hI);clear hI a1 hS;go_enter func83,ntmps83;go_wp2_with fail;clear c0 c1 c2 c3 c4 c5 s c7 E;generalize w.heap.size=ib at *;generalize w.alloc (aQ I ⟨.slice ma I.nm mc,.slice pa I.np pc,.slice ra I.no rc,.slice ha I.hd.length hc,.slice ta I.pt.length tc⟩)=W0 at *;go_loopw [3] (fun iv W=>∃ a:Nat,a<=k/\iv=.int .i64 a/\Hd (Kt nO W0 W/\∀ j,j<a->r7k I j=none)) (fun iv _=>k-(intOf iv).toNat)
 case atStart=>exact⟨0,az _,rfl,aA ⟨Kt.refl _ _,fun j hj=>by omega⟩⟩
 case round=>
  obtain⟨a,f9,rfl,hG⟩:=hrel;have a0:=aA (e8.o.keep hG.o.1);obtain⟨c0,c1,c2,c3,c4,c5,s,c7,E⟩:=a0.o.cells;dsimp only at c5 s;by_cases f:a<k
  ·have h7:(a:Int)<I.ord:=(by rw[HO.o];omega);have N:=aA f;have B:=aA (fun p h=>g6.o a p f hG.o.2 h);have f5:=aA (show r7k I a=none->∀ j,j<a+1->r7k I j=none from fun eo j hj=>by
    by_cases e:j=a
    ·rw[e];exact eo
    ·exact hG.o.2 j (by omega))
   have KG:=aA hG.o.1;have HW:=aA (show wrap64 ((a:Int)+1)=((a+1:Nat):Int)by have:=t.o;rw[wrap64];omega);obtain⟨Q,hQ⟩:=xe (2 ^ (a+1));have PJ:=aA (fun W=>nG (a+1) (by have:=t.o;omega) W);obtain⟨P,hP⟩:=xe (2 ^ a);have PA:=aA (fun W=>nG a (by have:=t.o;omega) W);rw[<-hQ] at PJ;rw[<-hP] at PA;have f8 : 1<=Q:=(by rw[hQ];exact ax _);have d1:Q<=512:=(by rw[hQ];exact nF _ (by have:=t.o;omega));have e6:P<=512:=(by rw[hP];exact nF _ (by have:=t.o;omega));obtain⟨pn,U⟩:=xe (I.np/Q);have a5:pn<=1024:=(by rw[U];exact an (df _ _) e7.o);have c:=aA (show pn=I.np/2 ^ (a+1)by rw[U,hQ]);have i:=aA (show Q=2 ^ (a+1)/\P=2 ^ a/\Q<=512/\P<=512/\pn<=1024 from⟨hQ,hP,d1,e6,a5⟩);have s1:IntKind.i64.wrap ((a:Int)+1)=((a+1:Nat):Int):=(by have:=t.o;rw[IntKind.wrap_i64];omega);have s2:(I.np:Int).tdiv (Q:Int)=pn:=(by rw[U];rfl);have s3:(I.np:Int)/(Q:Int)=pn:=(by rw[U];simp);have s4:IntKind.i64.wrap (pn:Int)=pn:=(by rw[IntKind.wrap_i64];omega);have s5:¬(Q:Int)=0:=(by omega);have s6:((Q:Int) == 0)=false:=(by rw[ag];omega);have s7:¬(Q:Int) = -1:=(by omega);obtain⟨j1,b7⟩:=xe (a+1);rw[<-b7] at s1 PJ;have b8:=aA b7;clear hQ hP U b7 f8 d1 e6 f f9 hG a5;go_wp2_with fail;clear c0 c1 c2 c3 c4 c5 s c7 E;obtain⟨c0,c1,c2,c3,c4,c5,s,c7,E⟩:=a0.o.all;dsimp only at c4 c5 s c7 E;refine cS (by kernel_rfl) (by kernel_rfl) ?_;repeat (go_big_quiet_step (first|(go_at_call 129;exact Calls.kept_of ((PJ.o _).mono fun _ _ ⟨u,G⟩=>⟨u,G▸Kt.refl _ _⟩))))
   refine wpQuiet_nil ?_;intro x;have e0:=aA (a0.o.keep x.k);have b5:=aA (nT KG.o x.k);clear c0 c1 c2 c3 c4 c5 s c7 E s1 s2 s3 s4 s5 s6 s7 a0 KG;generalize x.v=wq at *;obtain⟨c0,c1,c2,c3,c4,c5,s,c7,E⟩:=e0.o.cells;dsimp only at c5 s;go_wp2_with fail;clear c0 c1 c2 c3 c4 c5 s c7 E;obtain⟨L,hL⟩:=xe ((I.pr a).length);have R:=aA (show L=(I.pr a).length/\pn<=64*L/\L<=17 from⟨hL,by have:=HS.o.pl a N.o;rw[fD,<-c.o,<-hL] at this;omega,by have:=HS.o.pl a N.o;rw[fD,<-c.o,<-hL] at this;have:=i.o;omega⟩);clear hL;go_loopw [5] (fun mv W=>∃ m:Nat,m<=64*L/\mv=.int .i64 m/\Hd (Kt nO wq W/\B7 I a m)) (fun mv _=>64*L-(intOf mv).toNat)
   case atStart=>exact⟨0,az _,rfl,aA ⟨Kt.refl _ _,⟨fun x hx=>by omega,fun x u G=>by omega⟩⟩⟩
   case round=>
    obtain⟨m,hm,rfl,hJ⟩:=hrel;have KJ:=aA hJ.o.1;have D:=aA hJ.o.2;have F:=aA (e0.o.keep KJ.o);clear hJ;obtain⟨c0,c1,c2,c3,c4,c5,s,c7,E⟩:=F.o.cells;dsimp only at c5 s;obtain⟨ws,_,i9,j0,g0,d8⟩:=F.o.d.prs;injection g0 with e1 e2 e3
    subst e1;have d6:a<I.no:=(by rw[f6.o];exact N.o);rcases d8 with d8|⟨bl,o,rfl,_,e9⟩
    ·omega
    obtain⟨dw,b4,za,zc,a7,K⟩:=e9 a d6;have i6:(a:Int)<I.no:=(by omega);rw[a7,<-R.o.1] at dw;clear e9 e2 e3 d6;obtain⟨b9,Z⟩:∃ x,x=64*L:=⟨_,rfl⟩;have l1 : 64*(L:Int)=b9:=(by omega);have i8:=aA Z;by_cases f:m<64*L
    ·have i5:(m:Int)<b9:=(by omega);have g8:=R.o.2.2;have T:=aA f;rcases K with K|⟨ad,rfl,-,K⟩
     ·have:=R.o.1;rw[K] at this;simp at this;omega
     obtain⟨q,hq⟩:=xe (m/64);obtain⟨rm,a8⟩:∃ q,q=m%64:=⟨_,rfl⟩;have d4:q<L:=(by omega);have xw:=K q (by rw[<-R.o.1];exact d4);obtain⟨wv,a3⟩:∃ x,x=(I.pr a).getD q 0:=⟨_,rfl⟩;have d0:wv<18446744073709551616:=(by rw[a3];exact b4 q);rw[<-a3] at xw;have i4:=aA (show aE (I.pr a) m=(wv/2 ^ rm%2 == 1)by unfold aE;rw[a3,hq,a8]);have g1:(m:Int)/64=(q:Int):=(by omega);have g2:(m:Int).tdiv 64=(q:Int):=(by rw[hq];rfl);have g3:(m:Int)%64=(rm:Int):=(by omega);have g4:(m:Int).tmod 64=(rm:Int):=(by rw[a8];rfl);have g5:(q:Int)<L:=(by omega);have d7:rm<64:=(by omega);have a6:=aA d7;have i7:q<=17:=(by have:=R.o.2.2;omega);have h5:=aA d0;have l:=aA (show wrap64 ((m:Int)+1)=((m+1:Nat):Int)by rw[wrap64];omega);clear b4 a7 K f hq a8 a3 Z hm d4 d0;go_wp2_with fail;clear c0 c1 c2 c3 c4 c5 s c7 E xw dw;have e5:=aA (nT b5.o KJ.o);obtain⟨wy,a9⟩:∃ W,W=wr:=⟨_,rfl⟩;rw[<-a9] at KJ F e5;rw[<-a9];clear a9;go_loopw [6,7] (fun bv jv W=>∃ j:Nat,j<=rm/\jv=.int .i64 j/\bv=.int .u64 ((wv/2 ^ j:Nat):Int)/\W=wy) (fun _ jv _=>rm-(intOf jv).toNat)
     case atStart=>exact⟨0,az _,rfl,by simp,rfl⟩
     case round=>
      obtain⟨j,hj,rfl,rfl,rfl⟩:=hrel;obtain⟨z,hz⟩:=xe (wv/2 ^ j);have f7:z<18446744073709551616:=(by have:=h5.o;rw[hz];exact Nat.lt_of_le_of_lt (df _ _) this);rw[<-hz];by_cases f:j<rm
      ·have h0:(j:Int)<rm:=(by omega);have HZ:=aA (show wv/2 ^ (j+1)=z/2 by rw[hz,ci,Nat.div_div_eq_div_mul]);have d2:=aA f;have c9:=aA (show wrap64 ((j:Int)+1)=((j+1:Nat):Int)by have:=a6.o;rw[wrap64];omega);clear hz f hj;go_wp2_with fail;exact⟨⟨j+1,d2.o,by first|go_num|rw[c9.o],by rw[HZ.o];simp,by first|rfl|trivial⟩,by have:=d2.o;have:=a6.o;first|(rw[c9.o];simp only[intOf,aa];omega)|(simp[intOf];omega)⟩
      ·have h0:¬(j:Int)<rm:=(by omega);obtain⟨bv,b6⟩:∃ b,b=aE (I.pr a) m:=⟨_,rfl⟩;obtain⟨y,hy⟩:=xe (z%2);have f1:(z:Int)%2=(y:Int):=(by omega);have f2:(z:Int).tmod 2=(y:Int):=(by rw[hy];rfl);have f3:IntKind.u64.wrap (y:Int)=y:=(by rw[wrap_u64];omega);have f4:((y:Int) == 1)=bv:=by
        rw[b6,i4.o,show rm=j by omega,<-hz,<-hy];by_cases e:y=1
        ·rw[e];rfl
        ·have:¬(y:Int)=1:=by omega
         rw[ag.2 this,ag.2 e]
       have BV:=aA b6.symm;clear hz f7 f hj b6 hy;by_cases S:m<pn
       case neg=>
        have G:(pn:Int)<=m:=(by omega);have h3:¬(m:Int)<pn:=(by omega);obtain⟨c0,c1,c2,c3,c4,c5,s,c7,E⟩:=F.o.cells;dsimp only at c5
        cases bv with
        | true=>
         have J:=B.o I.np (zkj (by rw[<-c.o];omega) (by rw[<-R.o.1];exact T.o) D.o.lo BV.o);clear S;subst J;go_wp2_with fail;go_ret;exact⟨rfl,nT K0.o e5.o⟩
        | false=>
         have B2:=aA (show B7 I a (m+1)from⟨fun x hx h=>D.o.lo x (by rw[c.o] at S;omega) h,fun x u G=>by
          by_cases e:x=m
          ·subst e;exact BV.o
          ·exact D.o.hi x u (by omega)⟩)
         clear S;go_wp2_with fail;go_round
         case rel=>exact⟨m+1,T.o,by first|go_num|rw[l.o],aA ⟨KJ.o,B2.o⟩⟩
         case measure=>have:=T.o;have:=R.o.2.2;first|(rw[l.o];simp only[intOf,aa];omega)|(simp[intOf];omega)
       have G:¬(pn:Int)<=m:=(by omega);have h3:(m:Int)<pn:=(by omega);have C:=aA S;have h4:=aA (show m*2 ^ (a+1)+2 ^ a<I.np from half_lt (by rw[<-c.o];exact S));obtain⟨A,X⟩:∃ p,p=m*Q:=⟨_,rfl⟩;have P9:=aA (show m*Q=A/\A+P<I.np/\A=m*2 ^ (a+1)from⟨X.symm,by have:=h4.o;rw[X,i.o.1,i.o.2.1];exact this,by rw[X,i.o.1]⟩);have n:=aA (show onF I a m=(isF (I.pg A) (a:Int) != isF (I.pg (A+P)) (a:Int))by rw[onF,P9.o.2.2,i.o.2.1]);obtain⟨b1,f0⟩:∃ b,b=isF (I.pg A) (a:Int):=⟨_,rfl⟩;obtain⟨b2,e4⟩:∃ b,b=isF (I.pg (A+P)) (a:Int):=⟨_,rfl⟩;have d5:=aA (fun W hW=>OP.o A (a:Int) (by have:=P9.o;omega) W hW);have b3:=aA (fun W hW=>OP.o (A+P) (a:Int) P9.o.2.1 W hW);rw[<-f0] at n d5;rw[<-e4] at n b3;obtain⟨p2,b0⟩:∃ p,p=A+P:=⟨_,rfl⟩;rw[<-b0] at b3;have i0:IntKind.i64.wrap ((a:Int)+1)=(j1:Int):=(by have:=b8.o;have:=t.o;have:=N.o;rw[IntKind.wrap_i64];omega);have i1:(a:Int)+1=(j1:Int):=(by have:=b8.o;omega);have i2:(m:Int)*(Q:Int)=A:=(by rw[X,Int.natCast_mul]);have a2:A<=1024:=(by have:=P9.o;have:=e7.o;omega);have g9:a<=8:=(by have:=t.o;have:=N.o;omega);have h9:j1<=9:=(by have:=b8.o;omega);obtain⟨c0,c1,c2,c3,c4,c5,s,c7,E⟩:=F.o.cells;dsimp only at c5;have g7:=aA b0;clear S X f0 e4 b0;go_wp2_with fail;refine(PJ.o _).mono ?_;rintro e w5 ⟨rfl,rfl⟩;go_wp2_with fail;refine(d5.o _ F.o.d).mono ?_;rintro e w6 ⟨rfl,k6⟩;have d3:=aA (F.o.keep k6);have h6:=aA (nT KJ.o k6);clear k6 c0 c1 c2 c3 c4 c5 s c7 E i0 i1 i2;go_wp2_with fail;obtain⟨c0,c1,c2,c3,c4,c5,s,c7,E⟩:=d3.o.all;dsimp only at c4 c5 s c7 E;have i3:IntKind.i64.wrap ((A:Int)+(P:Int))=(p2:Int):=(by have:=g7.o;have:=i.o;rw[IntKind.wrap_i64];omega);refine cS (by kernel_rfl) (by kernel_rfl) ?_;repeat (go_big_quiet_step (first|(go_at_call 129;exact Calls.kept_of ((PA.o _).mono fun _ _ ⟨u,G⟩=>⟨u,G▸Kt.refl _ _⟩))|(go_at_call 133;exact Calls.kept_of (b3.o _ (d3.o.keep (KW.k _)).d))))
       refine wpQuiet_nil ?_;intro x;have Y:=aA (nT h6.o x.k);have a4:=aA (nT b5.o Y.o);clear c0 c1 c2 c3 c4 c5 s c7 E i3 a2 g9 h9;generalize x.v=wz at *
       cases b1 with
       | false=>
        cases b2 with
        | false=>
         cases bv with
         | false=>
          have B2:=aA (show B7 I a (m+1)from⟨fun x hx h=>by
           by_cases e:x=m
           ·subst e;rw[BV.o,n.o];decide
           ·exact D.o.lo x (by omega) h,fun x u G=>D.o.hi x u (by have:=C.o;rw[c.o] at this;omega)⟩)
          go_wp2_with fail;go_round
          case rel=>exact⟨m+1,T.o,by first|go_num|rw[l.o],aA ⟨Y.o,B2.o⟩⟩
          case measure=>have:=T.o;have:=R.o.2.2;first|(rw[l.o];simp only[intOf,aa];omega)|(simp[intOf];omega)
         | true=>
          have J:=B.o (m*2 ^ (a+1)) (tC (by rw[<-c.o];exact C.o) D.o.lo (by rw[BV.o,n.o];decide));rw[show((m*2 ^ (a+1):Nat):Int)=(A:Int)by rw[<-i.o.1,P9.o.1]] at J;subst J;go_wp2_with fail;go_ret;exact⟨rfl,nT K0.o a4.o⟩
        | true=>
         cases bv with
         | false=>
          have J:=B.o (m*2 ^ (a+1)) (tC (by rw[<-c.o];exact C.o) D.o.lo (by rw[BV.o,n.o];decide));rw[show((m*2 ^ (a+1):Nat):Int)=(A:Int)by rw[<-i.o.1,P9.o.1]] at J;subst J;go_wp2_with fail;go_ret;exact⟨rfl,nT K0.o a4.o⟩
         | true=>
          have B2:=aA (show B7 I a (m+1)from⟨fun x hx h=>by
           by_cases e:x=m
           ·subst e;rw[BV.o,n.o];decide
           ·exact D.o.lo x (by omega) h,fun x u G=>D.o.hi x u (by have:=C.o;rw[c.o] at this;omega)⟩)
          go_wp2_with fail;go_round
          case rel=>exact⟨m+1,T.o,by first|go_num|rw[l.o],aA ⟨Y.o,B2.o⟩⟩
          case measure=>have:=T.o;have:=R.o.2.2;first|(rw[l.o];simp only[intOf,aa];omega)|(simp[intOf];omega)
       | true=>
        cases b2 with
        | false=>
         cases bv with
         | false=>
          have J:=B.o (m*2 ^ (a+1)) (tC (by rw[<-c.o];exact C.o) D.o.lo (by rw[BV.o,n.o];decide));rw[show((m*2 ^ (a+1):Nat):Int)=(A:Int)by rw[<-i.o.1,P9.o.1]] at J;subst J;go_wp2_with fail;go_ret;exact⟨rfl,nT K0.o a4.o⟩
         | true=>
          have B2:=aA (show B7 I a (m+1)from⟨fun x hx h=>by
           by_cases e:x=m
           ·subst e;rw[BV.o,n.o];decide
           ·exact D.o.lo x (by omega) h,fun x u G=>D.o.hi x u (by have:=C.o;rw[c.o] at this;omega)⟩)
          go_wp2_with fail;go_round
          case rel=>exact⟨m+1,T.o,by first|go_num|rw[l.o],aA ⟨Y.o,B2.o⟩⟩
          case measure=>have:=T.o;have:=R.o.2.2;first|(rw[l.o];simp only[intOf,aa];omega)|(simp[intOf];omega)
        | true=>
         cases bv with
         | false=>
          have B2:=aA (show B7 I a (m+1)from⟨fun x hx h=>by
           by_cases e:x=m
           ·subst e;rw[BV.o,n.o];decide
           ·exact D.o.lo x (by omega) h,fun x u G=>D.o.hi x u (by have:=C.o;rw[c.o] at this;omega)⟩)
          go_wp2_with fail;go_round
          case rel=>exact⟨m+1,T.o,by first|go_num|rw[l.o],aA ⟨Y.o,B2.o⟩⟩
          case measure=>have:=T.o;have:=R.o.2.2;first|(rw[l.o];simp only[intOf,aa];omega)|(simp[intOf];omega)
         | true=>
          have J:=B.o (m*2 ^ (a+1)) (tC (by rw[<-c.o];exact C.o) D.o.lo (by rw[BV.o,n.o];decide));rw[show((m*2 ^ (a+1):Nat):Int)=(A:Int)by rw[<-i.o.1,P9.o.1]] at J;subst J;go_wp2_with fail;go_ret;exact⟨rfl,nT K0.o a4.o⟩
    ·have i5:¬(m:Int)<b9:=(by omega);have g8:=R.o.2.2;have EO:=aA (f5.o (r7k_good (fun x hx=>D.o.lo x (by have:=R.o.2.1;rw[c.o] at this;omega) hx) (fun x u G=>D.o.hi x u (by rw[<-R.o.1] at G;omega))));have h8:=aA (nT b5.o KJ.o);clear f hm Z b4 a7 K;go_wp2_with fail;go_round
     case rel=>exact⟨a+1,by have:=N.o;omega,by first|go_num|rw[HW.o],aA ⟨h8.o,EO.o⟩⟩
     case measure=>have:=N.o;have:=t.o;first|(rw[HW.o];simp only[intOf,aa];omega)|(simp[intOf];omega)
  ·have h7:¬(a:Int)<I.ord:=(by rw[HO.o];omega);have J:=d9.o (fun j hj=>hG.o.2 j (by omega));subst J;go_wp2_with fail;go_ret;exact⟨rfl,nT K0.o hG.o.1⟩
end Go.Proofs.YtfmgnljlkdmndaaGreatDoor.W
