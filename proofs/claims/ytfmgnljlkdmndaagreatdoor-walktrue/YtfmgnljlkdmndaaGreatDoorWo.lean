import Derived.Test.YtfmgnljlkdmndaaGreatDoorXy
import Derived.Test.YtfmgnljlkdmndaaGreatDoorWp
import Derived.Test.YtfmgnljlkdmndaaGreatDoorWr
set_option maxRecDepth 1000000
set_option maxHeartbeats 80000000
namespace Go.Proofs.YtfmgnljlkdmndaaGreatDoor.W
open Tryz
open Go.RowKit
set_option linter.unusedVariables false
theorem SG(I:Img)(V:ImV)(k r:Nat)(hS:Sn9 I k r)(w:World)(hI:ImD w I V):
  Calls prog 81 #[imA I V] w fun e w'=>e=.returned (.int .i64 (fE (fst1 I.np fun i=>ok5 (I.pg i))))/\Kt nO w w':=by
 obtain⟨⟨ma,mc,hm⟩,⟨pa,pc,hp⟩,⟨ra,rc,hr⟩,⟨ha,hc,hh⟩,⟨ta,tc,ht⟩,-⟩:=hI.sl;obtain⟨vm,vp,vr,vh,vt⟩:=V;dsimp only at hm hp hr hh ht;subst hm hp hr hh ht;have a2:=aA (show ImAt (w.alloc (aQ I _)) w.heap.size I _ from⟨nH _ _,hI.keep ((Kt.refl _ w).alloc _)⟩);have K0:=aA (show Kt nO w (w.alloc (aQ I _))from(Kt.refl _ w).alloc (aQ I ⟨.slice ma I.nm mc,.slice pa I.np pc,.slice ra I.no rc,.slice ha I.hd.length hc,.slice ta I.pt.length tc⟩));obtain⟨c0,c1,c2,c3,c4,c5,c6,c7,c8⟩:=a2.o.cells;obtain⟨ok,F⟩:=xe (fun i=>ok5 (I.pg i));rw[<-F];have a8:=aA (show ∀ i,ok i=ok5 (I.pg i)from fun i=>by rw[F]);have R:=aA hS.np1;have HS:=aA hS;obtain⟨rr,s⟩:=xe (fE (fst1 I.np ok));rw[<-s];have a7:=aA (show ∀ a,a<I.np->(∀ j,j<a->ok j=true)->ok a=false->rr=(a:Int)from fun a f g h3=>by rw[s,gA f g h3];rfl);have a1:=aA (show(∀ j,j<I.np->ok j=true)->rr = -1 from fun h=>by rw[s,fst1_ok h];rfl);clear hI F s hS;go_enter func81,ntmps81;go_wp2_with fail;clear c0 c1 c2 c3 c4 c5 c6 c7 c8;generalize w.heap.size=ib at *;generalize w.alloc (aQ I ⟨.slice ma I.nm mc,.slice pa I.np pc,.slice ra I.no rc,.slice ha I.hd.length hc,.slice ta I.pt.length tc⟩)=W0 at *;go_loopw [3] (fun iv W=>∃ a:Nat,a<=I.np/\iv=.int .i64 a/\Hd (Kt nO W0 W/\∀ j,j<a->ok j=true)) (fun iv _=>I.np-(intOf iv).toNat)
 case atStart=>exact⟨0,az _,rfl,aA ⟨Kt.refl _ _,fun j hj=>by omega⟩⟩
 case round=>
  obtain⟨a,a6,rfl,A⟩:=hrel;have x:=aA (a2.o.keep A.o.1);obtain⟨c0,c1,c2,c3,c4,c5,c6,c7,c8⟩:=x.o.cells;dsimp only at c5;by_cases d:a<I.np
  ·have b1:(a:Int)<I.np:=(by omega);obtain⟨bl,oo,oc,hv,G,Z⟩:=x.o.page a d;injection hv with L J N
   subst L;clear J N;obtain⟨d0,d1,d2,d3,d4,d5,d6,d7,d8,d9,a9⟩:=Z.c;have n:=aA (a8.o a);obtain⟨kd,od,cc,ll,-,-,-,-,y5,y6,-⟩:=HS.o.pg a d;have CE:=aA (fun W=>sK (I.pg a) cc y5 y6 W);have a0:=aA (fun c hc W=>rV (I.pg a) G c hc W);have Q:=aA (fun h4=>ok5_iff (I.pg a) G cc y5 h4);have l:=aA (a7.o a d A.o.2);have u:=aA (show ok a=true->∀ j,j<a+1->ok j=true from fun eo j hj=>by
    by_cases e:j=a
    ·rw[e];exact eo
    ·exact A.o.2 j (by omega))
   have q:=aA d;have KG:=aA A.o.1;obtain⟨B,hB⟩:=xe (aE (wsP (I.pg a)));have BE:=aA (show ∀ j,B j=aE (wsP (I.pg a)) j from fun j=>by rw[hB]);rw[<-hB] at Q;have a4:=aA (show ∀ c:Nat,c<256->∀ W,Calls prog 131 #[gX (I.pg a),.int .i64 c] W fun e w'=>e=.returned (.bool (B c))/\Kt nO W w' from fun c hc W=>by rw[BE.o];exact a0.o c hc W);clear BE;clear a0;generalize I.pg a=p at *;generalize celN9 cc=E at *;clear Z G d a6 A hB y5 y6;go_upto_region 5 with fail;refine kP (P:=fun W=>Code.wp prog _ _ _ W) _ ?_;intro W1 hW;have k1:Kt nO wr W1:=(by subst hW;exact(Kt.refl _ wr).alloc _);have X1:=aA (show W1.heap[wr.heap.size]?=some (aW p)by subst hW;exact nH _ _);have KE:=aA (nT KG.o k1);generalize wr.heap.size=pb at *;clear hW k1 c0 c1 c2 c3 c4 c5 c6 c7 c8 d0 d1 d2 d3 d4 d5 d6 d7 d8 d9 a9 x KG;obtain⟨e0,L,J,N,e4,e5,e6,e7,e8,e9,o⟩:=dJ X1.o;have HW:=aA (show wrap64 ((a:Int)+1)=((a+1:Nat):Int)by have:=R.o;have:=q.o;rw[wrap64];omega);by_cases f:p.kd=4
   case neg=>
    have q1:(p.kd != 4)=true:=(by rw[cu];exact f);have eo:ok a=true:=(by rw[n.o];unfold ok5;rw[ah f];rfl);have EO:=aA (u.o eo);clear f eo;go_wp2_with fail;exact⟨⟨a+1,by have:=q.o;omega,by first|go_num|rw[HW.o],aA ⟨KE.o,EO.o⟩⟩,by have:=q.o;have:=R.o;first|(simp[intOf];omega)|(rw[HW.o];simp only[intOf,aa];omega)⟩
   have q1:(p.kd != 4)=false:=(by rw[ay];exact f);have OI:=aA (Q.o f);clear f Q;go_wp2_with fail;clear e0 L J N e4 e5 e6 e7 e8 e9 o q1;go_loopw [5,6] (fun cv kv W=>∃ m:Nat,m<=256/\kv=.int .i64 m/\cv=.int .i64 (aH B m:Int)/\Hd (Kt nO W1 W/\∀ j,E<=j->j<m->B j=false)) (fun _ kv _=>256-(intOf kv).toNat)
   case atStart=>exact⟨0,az _,rfl,rfl,aA ⟨Kt.refl _ _,fun j f g=>by omega⟩⟩
   case round=>
    obtain⟨m,hm,rfl,rfl,hJ⟩:=hrel;have KJ:=aA hJ.o.1;have S:=aA hJ.o.2;obtain⟨C,hC⟩:=xe (aH B m);have b2:C<=256:=(by rw[hC];exact an (sZ _ _) hm);have U:=aA hC;rw[<-hC];clear hC hJ;have X2:=aA ((KJ.o.block _ (lH X1.o) (fun y=>y)).trans X1.o);obtain⟨e0,L,J,N,e4,e5,e6,e7,e8,e9,o⟩:=dJ X2.o;by_cases d:m<256
    ·have b3:(m:Int)<256:=(by omega);have Y:=aA d;have t:=aA (show wrap64 ((m:Int)+1)=((m+1:Nat):Int)by rw[wrap64];omega);have b4:=aA (show C<=256 from b2);have a5:=aA (show wrap64 ((C:Int)+1)=((C+1:Nat):Int)by rw[wrap64];omega);obtain⟨b,hb⟩:=xe (B m);have HA:=aA (fun W=>a4.o m d W);rw[<-hb] at HA;have HB:=aA hb;clear hb d;go_wp2_with fail;refine(HA.o _).mono ?_;rintro e w1 ⟨rfl,k1⟩;have D:=aA (nT KJ.o k1);clear k1 e0 L J N e4 e5 e6 e7 e8 e9 o
     cases b with
     | false=>
      have C1:=aA (show aH B (m+1)=C by rw[lM _ _ HB.o.symm];exact U.o.symm);have T:=aA (show ∀ j,E<=j->j<m+1->B j=false from fun j f g=>by
       by_cases e:j=m
       ·rw[e];exact HB.o.symm
       ·exact S.o j f (by omega))
      go_wp2_with fail;exact⟨⟨m+1,Y.o,by first|go_num|rw[t.o],by rw[C1.o],aA ⟨D.o,T.o⟩⟩,by have:=Y.o;first|(simp[intOf];omega)|(rw[t.o];simp only[intOf,aa];omega)⟩
     | true=>
      have X3:=aA ((D.o.block _ (lH X1.o) (fun y=>y)).trans X1.o);obtain⟨e0,L,J,N,e4,e5,e6,e7,e8,e9,o⟩:=dJ X3.o;go_wp2_with fail;refine(CE.o _).mono ?_;rintro e w2 ⟨rfl,k2⟩;have a3:=aA (nT D.o k2);clear k2 e0 L J N e4 e5 e6 e7 e8 e9 o;by_cases z:E<=m
      ·have q2:(E:Int)<=m:=(by omega);have X:=l.o (by
        rw[n.o]
        cases h:ok5 p with
        | false=>rfl
        | true=>have:=(OI.o.1 h).2 m z Y.o;rw[<-HB.o] at this;cases this)
       clear z;subst X;go_wp2_with fail;go_ret;exact⟨rfl,nT K0.o (nT KE.o a3.o)⟩
      ·have q2:¬(E:Int)<=m:=(by omega);have C1:=aA (show aH B (m+1)=C+1 by rw[mB _ _ HB.o.symm,U.o]);have T:=aA (show ∀ j,E<=j->j<m+1->B j=false from fun j f g=>S.o j f (by omega));clear z;go_wp2_with fail;exact⟨⟨m+1,Y.o,by first|go_num|rw[t.o],by rw[C1.o];first|go_num|rw[a5.o],aA ⟨a3.o,T.o⟩⟩,by have:=Y.o;first|(simp[intOf];omega)|(rw[t.o];simp only[intOf,aa];omega)⟩
    ·have b3:¬(m:Int)<256:=(by omega);have K:=aA (show C=aH B 256 by rw[U.o,show m=256 by omega]);have b0:=aA (show ∀ j,E<=j->j<256->B j=false from fun j f g=>S.o j f (by omega));have v:=aA (nT KE.o KJ.o);by_cases h0:C=0
     ·have q2:((C:Int) == 0)=true:=(by rw[co];omega);have X:=l.o (by
       rw[n.o]
       cases h:ok5 p with
       | false=>rfl
       | true=>have:=(OI.o.1 h).1;rw[<-K.o] at this;omega)
      clear h0;subst X;go_wp2_with fail;go_ret;exact⟨rfl,nT K0.o v.o⟩
     have q2:((C:Int) == 0)=false:=(by rw[ag];omega);by_cases g:(C:Int)=p.lv
     case neg=>
      have q3:((C:Int) != p.lv)=true:=(by rw[cu];exact g);have X:=l.o (by
       rw[n.o]
       cases h:ok5 p with
       | false=>rfl
       | true=>have:=(OI.o.1 h).1.2;rw[<-K.o] at this;exact absurd this.symm g)
      clear g h0;subst X;go_wp2_with fail;go_ret;exact⟨rfl,nT K0.o v.o⟩
     have q3:((C:Int) != p.lv)=false:=(by rw[ay];exact g);have EO:=aA (u.o (by rw[n.o];exact OI.o.2 ⟨⟨by omega,by rw[<-K.o];exact g.symm⟩,b0.o⟩));clear g h0;go_wp2_with fail;go_round
     case rel=>exact⟨a+1,by have:=q.o;omega,by first|go_num|rw[HW.o],aA ⟨v.o,EO.o⟩⟩
     case measure=>have:=q.o;have:=R.o;first|(simp[intOf];omega)|(rw[HW.o];simp only[intOf,aa];omega)
  ·have b1:¬(a:Int)<I.np:=(by omega);have X:=a1.o (fun j hj=>A.o.2 j (by omega));subst X;go_wp2_with fail;go_ret;exact⟨rfl,nT K0.o A.o.1⟩
theorem RA(I:Img)(V:ImV)(pl:Int)(w:World)(c:ImD w I V)(a:∀ W,ImD W I V->Calls prog 78 #[imA I V] W fun e f=>e=.returned (.int .i64 pl)/\Kt nO W f):
  Calls prog 40 #[imA I V,.int .i64 2] w fun e f=>e=.returned (.int .i64 pl)/\Kt nO w f:=by
 obtain⟨⟨t,l,g⟩,⟨s,m,hp⟩,⟨u,v,i⟩,⟨ha,hc,k⟩,⟨r,n,h⟩,-⟩:=c.sl;obtain⟨E,z,A,D,C⟩:=V;dsimp only at g hp i k h;subst g hp i k h;have b:=aA (show ImAt (w.alloc (aQ I _)) w.heap.size I _ from⟨nH _ _,c.keep ((Kt.refl _ w).alloc _)⟩);have o:=aA (show Kt nO w (w.alloc (aQ I _))from(Kt.refl _ w).alloc (aQ I ⟨.slice t I.nm l,.slice s I.np m,.slice u I.no v,.slice ha I.hd.length hc,.slice r I.pt.length n⟩));obtain⟨c0,c1,c2,c3,c4,c5,q,c7,y⟩:=b.o.cells;have p:=aA a;clear c a;go_enter func40,ntmps40;go_wp2_with fail;refine(p.o _ b.o.d).mono ?_;rintro e B ⟨rfl,j⟩;have x:=aA (nT o.o j);clear j c0 c1 c2 c3 c4 c5 q c7 y;go_wp2_with fail;go_ret;exact⟨rfl,x.o⟩
theorem QZ(I:Img)(V:ImV)(pl:Int)(w:World)(c:ImD w I V)(a:∀ W,ImD W I V->Calls prog 79 #[imA I V] W fun e f=>e=.returned (.int .i64 pl)/\Kt nO W f):
  Calls prog 40 #[imA I V,.int .i64 3] w fun e f=>e=.returned (.int .i64 pl)/\Kt nO w f:=by
 obtain⟨⟨t,l,g⟩,⟨s,m,hp⟩,⟨u,v,i⟩,⟨ha,hc,k⟩,⟨r,n,h⟩,-⟩:=c.sl;obtain⟨E,z,A,D,C⟩:=V;dsimp only at g hp i k h;subst g hp i k h;have b:=aA (show ImAt (w.alloc (aQ I _)) w.heap.size I _ from⟨nH _ _,c.keep ((Kt.refl _ w).alloc _)⟩);have o:=aA (show Kt nO w (w.alloc (aQ I _))from(Kt.refl _ w).alloc (aQ I ⟨.slice t I.nm l,.slice s I.np m,.slice u I.no v,.slice ha I.hd.length hc,.slice r I.pt.length n⟩));obtain⟨c0,c1,c2,c3,c4,c5,q,c7,y⟩:=b.o.cells;have p:=aA a;clear c a;go_enter func40,ntmps40;go_wp2_with fail;refine(p.o _ b.o.d).mono ?_;rintro e B ⟨rfl,j⟩;have x:=aA (nT o.o j);clear j c0 c1 c2 c3 c4 c5 q c7 y;go_wp2_with fail;go_ret;exact⟨rfl,x.o⟩
theorem QY(I:Img)(V:ImV)(pl:Int)(w:World)(c:ImD w I V)(a:∀ W,ImD W I V->Calls prog 80 #[imA I V] W fun e f=>e=.returned (.int .i64 pl)/\Kt nO W f):
  Calls prog 40 #[imA I V,.int .i64 4] w fun e f=>e=.returned (.int .i64 pl)/\Kt nO w f:=by
 obtain⟨⟨t,l,g⟩,⟨s,m,hp⟩,⟨u,v,i⟩,⟨ha,hc,k⟩,⟨r,n,h⟩,-⟩:=c.sl;obtain⟨E,z,A,D,C⟩:=V;dsimp only at g hp i k h;subst g hp i k h;have b:=aA (show ImAt (w.alloc (aQ I _)) w.heap.size I _ from⟨nH _ _,c.keep ((Kt.refl _ w).alloc _)⟩);have o:=aA (show Kt nO w (w.alloc (aQ I _))from(Kt.refl _ w).alloc (aQ I ⟨.slice t I.nm l,.slice s I.np m,.slice u I.no v,.slice ha I.hd.length hc,.slice r I.pt.length n⟩));obtain⟨c0,c1,c2,c3,c4,c5,q,c7,y⟩:=b.o.cells;have p:=aA a;clear c a;go_enter func40,ntmps40;go_wp2_with fail;refine(p.o _ b.o.d).mono ?_;rintro e B ⟨rfl,j⟩;have x:=aA (nT o.o j);clear j c0 c1 c2 c3 c4 c5 q c7 y;go_wp2_with fail;go_ret;exact⟨rfl,x.o⟩
theorem QX(I:Img)(V:ImV)(pl:Int)(w:World)(c:ImD w I V)(a:∀ W,ImD W I V->Calls prog 81 #[imA I V] W fun e f=>e=.returned (.int .i64 pl)/\Kt nO W f):
  Calls prog 40 #[imA I V,.int .i64 5] w fun e f=>e=.returned (.int .i64 pl)/\Kt nO w f:=by
 obtain⟨⟨t,l,g⟩,⟨s,m,hp⟩,⟨u,v,i⟩,⟨ha,hc,k⟩,⟨r,n,h⟩,-⟩:=c.sl;obtain⟨E,z,A,D,C⟩:=V;dsimp only at g hp i k h;subst g hp i k h;have b:=aA (show ImAt (w.alloc (aQ I _)) w.heap.size I _ from⟨nH _ _,c.keep ((Kt.refl _ w).alloc _)⟩);have o:=aA (show Kt nO w (w.alloc (aQ I _))from(Kt.refl _ w).alloc (aQ I ⟨.slice t I.nm l,.slice s I.np m,.slice u I.no v,.slice ha I.hd.length hc,.slice r I.pt.length n⟩));obtain⟨c0,c1,c2,c3,c4,c5,q,c7,y⟩:=b.o.cells;have p:=aA a;clear c a;go_enter func40,ntmps40;go_wp2_with fail;refine(p.o _ b.o.d).mono ?_;rintro e B ⟨rfl,j⟩;have x:=aA (nT o.o j);clear j c0 c1 c2 c3 c4 c5 q c7 y;go_wp2_with fail;go_ret;exact⟨rfl,x.o⟩
theorem QW(I:Img)(V:ImV)(pl:Int)(w:World)(c:ImD w I V)(a:∀ W,ImD W I V->Calls prog 82 #[imA I V] W fun e f=>e=.returned (.int .i64 pl)/\Kt nO W f):
  Calls prog 40 #[imA I V,.int .i64 6] w fun e f=>e=.returned (.int .i64 pl)/\Kt nO w f:=by
 obtain⟨⟨t,l,g⟩,⟨s,m,hp⟩,⟨u,v,i⟩,⟨ha,hc,k⟩,⟨r,n,h⟩,-⟩:=c.sl;obtain⟨E,z,A,D,C⟩:=V;dsimp only at g hp i k h;subst g hp i k h;have b:=aA (show ImAt (w.alloc (aQ I _)) w.heap.size I _ from⟨nH _ _,c.keep ((Kt.refl _ w).alloc _)⟩);have o:=aA (show Kt nO w (w.alloc (aQ I _))from(Kt.refl _ w).alloc (aQ I ⟨.slice t I.nm l,.slice s I.np m,.slice u I.no v,.slice ha I.hd.length hc,.slice r I.pt.length n⟩));obtain⟨c0,c1,c2,c3,c4,c5,q,c7,y⟩:=b.o.cells;have p:=aA a;clear c a;go_enter func40,ntmps40;go_wp2_with fail;refine(p.o _ b.o.d).mono ?_;rintro e B ⟨rfl,j⟩;have x:=aA (nT o.o j);clear j c0 c1 c2 c3 c4 c5 q c7 y;go_wp2_with fail;go_ret;exact⟨rfl,x.o⟩
theorem QV(I:Img)(V:ImV)(pl:Int)(w:World)(c:ImD w I V)(a:∀ W,ImD W I V->Calls prog 83 #[imA I V] W fun e f=>e=.returned (.int .i64 pl)/\Kt nO W f):
  Calls prog 40 #[imA I V,.int .i64 7] w fun e f=>e=.returned (.int .i64 pl)/\Kt nO w f:=by
 obtain⟨⟨t,l,g⟩,⟨s,m,hp⟩,⟨u,v,i⟩,⟨ha,hc,k⟩,⟨r,n,h⟩,-⟩:=c.sl;obtain⟨E,z,A,D,C⟩:=V;dsimp only at g hp i k h;subst g hp i k h;have b:=aA (show ImAt (w.alloc (aQ I _)) w.heap.size I _ from⟨nH _ _,c.keep ((Kt.refl _ w).alloc _)⟩);have o:=aA (show Kt nO w (w.alloc (aQ I _))from(Kt.refl _ w).alloc (aQ I ⟨.slice t I.nm l,.slice s I.np m,.slice u I.no v,.slice ha I.hd.length hc,.slice r I.pt.length n⟩));obtain⟨c0,c1,c2,c3,c4,c5,q,c7,y⟩:=b.o.cells;have p:=aA a;clear c a;go_enter func40,ntmps40;go_wp2_with fail;refine(p.o _ b.o.d).mono ?_;rintro e B ⟨rfl,j⟩;have x:=aA (nT o.o j);clear j c0 c1 c2 c3 c4 c5 q c7 y;go_wp2_with fail;go_ret;exact⟨rfl,x.o⟩
theorem QU(I:Img)(V:ImV)(pl:Int)(w:World)(c:ImD w I V)(a:∀ W,ImD W I V->Calls prog 84 #[imA I V] W fun e f=>e=.returned (.int .i64 pl)/\Kt nO W f):
  Calls prog 40 #[imA I V,.int .i64 8] w fun e f=>e=.returned (.int .i64 pl)/\Kt nO w f:=by
 obtain⟨⟨t,l,g⟩,⟨s,m,hp⟩,⟨u,v,i⟩,⟨ha,hc,k⟩,⟨r,n,h⟩,-⟩:=c.sl;obtain⟨E,z,A,D,C⟩:=V;dsimp only at g hp i k h;subst g hp i k h;have b:=aA (show ImAt (w.alloc (aQ I _)) w.heap.size I _ from⟨nH _ _,c.keep ((Kt.refl _ w).alloc _)⟩);have o:=aA (show Kt nO w (w.alloc (aQ I _))from(Kt.refl _ w).alloc (aQ I ⟨.slice t I.nm l,.slice s I.np m,.slice u I.no v,.slice ha I.hd.length hc,.slice r I.pt.length n⟩));obtain⟨c0,c1,c2,c3,c4,c5,q,c7,y⟩:=b.o.cells;have p:=aA a;clear c a;go_enter func40,ntmps40;go_wp2_with fail;refine(p.o _ b.o.d).mono ?_;rintro e B ⟨rfl,j⟩;have x:=aA (nT o.o j);clear j c0 c1 c2 c3 c4 c5 q c7 y;go_wp2_with fail;go_ret;exact⟨rfl,x.o⟩
theorem QT(I:Img)(V:ImV)(pl:Int)(w:World)(c:ImD w I V)(a:∀ W,ImD W I V->Calls prog 85 #[imA I V] W fun e f=>e=.returned (.int .i64 pl)/\Kt nO W f):
  Calls prog 40 #[imA I V,.int .i64 9] w fun e f=>e=.returned (.int .i64 pl)/\Kt nO w f:=by
 obtain⟨⟨t,l,g⟩,⟨s,m,hp⟩,⟨u,v,i⟩,⟨ha,hc,k⟩,⟨r,n,h⟩,-⟩:=c.sl;obtain⟨E,z,A,D,C⟩:=V;dsimp only at g hp i k h;subst g hp i k h;have b:=aA (show ImAt (w.alloc (aQ I _)) w.heap.size I _ from⟨nH _ _,c.keep ((Kt.refl _ w).alloc _)⟩);have o:=aA (show Kt nO w (w.alloc (aQ I _))from(Kt.refl _ w).alloc (aQ I ⟨.slice t I.nm l,.slice s I.np m,.slice u I.no v,.slice ha I.hd.length hc,.slice r I.pt.length n⟩));obtain⟨c0,c1,c2,c3,c4,c5,q,c7,y⟩:=b.o.cells;have p:=aA a;clear c a;go_enter func40,ntmps40;go_wp2_with fail;refine(p.o _ b.o.d).mono ?_;rintro e B ⟨rfl,j⟩;have x:=aA (nT o.o j);clear j c0 c1 c2 c3 c4 c5 q c7 y;go_wp2_with fail;go_ret;exact⟨rfl,x.o⟩
theorem XI(I:Img)(V:ImV)(pl:Int)(w:World)(c:ImD w I V)(a:∀ W,ImD W I V->Calls prog 86 #[imA I V] W fun e f=>e=.returned (.int .i64 pl)/\Kt nO W f):
  Calls prog 40 #[imA I V,.int .i64 10] w fun e f=>e=.returned (.int .i64 pl)/\Kt nO w f:=by
 obtain⟨⟨t,l,g⟩,⟨s,m,hp⟩,⟨u,v,i⟩,⟨ha,hc,k⟩,⟨r,n,h⟩,-⟩:=c.sl;obtain⟨E,z,A,D,C⟩:=V;dsimp only at g hp i k h;subst g hp i k h;have b:=aA (show ImAt (w.alloc (aQ I _)) w.heap.size I _ from⟨nH _ _,c.keep ((Kt.refl _ w).alloc _)⟩);have o:=aA (show Kt nO w (w.alloc (aQ I _))from(Kt.refl _ w).alloc (aQ I ⟨.slice t I.nm l,.slice s I.np m,.slice u I.no v,.slice ha I.hd.length hc,.slice r I.pt.length n⟩));obtain⟨c0,c1,c2,c3,c4,c5,q,c7,y⟩:=b.o.cells;have p:=aA a;clear c a;go_enter func40,ntmps40;go_wp2_with fail;refine(p.o _ b.o.d).mono ?_;rintro e B ⟨rfl,j⟩;have x:=aA (nT o.o j);clear j c0 c1 c2 c3 c4 c5 q c7 y;go_wp2_with fail;go_ret;exact⟨rfl,x.o⟩
theorem XH(I:Img)(V:ImV)(pl:Int)(w:World)(c:ImD w I V)(a:∀ W,ImD W I V->Calls prog 87 #[imA I V] W fun e f=>e=.returned (.int .i64 pl)/\Kt nO W f):
  Calls prog 40 #[imA I V,.int .i64 11] w fun e f=>e=.returned (.int .i64 pl)/\Kt nO w f:=by
 obtain⟨⟨t,l,g⟩,⟨s,m,hp⟩,⟨u,v,i⟩,⟨ha,hc,k⟩,⟨r,n,h⟩,-⟩:=c.sl;obtain⟨E,z,A,D,C⟩:=V;dsimp only at g hp i k h;subst g hp i k h;have b:=aA (show ImAt (w.alloc (aQ I _)) w.heap.size I _ from⟨nH _ _,c.keep ((Kt.refl _ w).alloc _)⟩);have o:=aA (show Kt nO w (w.alloc (aQ I _))from(Kt.refl _ w).alloc (aQ I ⟨.slice t I.nm l,.slice s I.np m,.slice u I.no v,.slice ha I.hd.length hc,.slice r I.pt.length n⟩));obtain⟨c0,c1,c2,c3,c4,c5,q,c7,y⟩:=b.o.cells;have p:=aA a;clear c a;go_enter func40,ntmps40;go_wp2_with fail;refine(p.o _ b.o.d).mono ?_;rintro e B ⟨rfl,j⟩;have x:=aA (nT o.o j);clear j c0 c1 c2 c3 c4 c5 q c7 y;go_wp2_with fail;go_ret;exact⟨rfl,x.o⟩
theorem yS(I:Img)(V:ImV)(j:Nat)(l : 1<=j)(n:j<11)(h:∀ a,a<j->rl I a=none)(w:World)(c:ImD w I V):
  Calls prog 40 #[imA I V,.int .i64 ((j+1:Nat):Int)] w fun e o=>e=.returned (.int .i64 (fE (rl I j)))/\Kt nO w o:=by
 match j,l,n with
 | 1,_,_=>
  obtain⟨k,L,i,hL,k8,g,-⟩:=may_facts (may_of (h 0 (by decide)));have e:rl I 1=r2 I k:=by show r2 I I.ord.toNat=_;rw[i,aa]
  rw[e];exact RA I V _ w c (fun W b=>ZJ I V k L k8 g i hL W b)
 | 2,_,_=>
  obtain⟨k,L,i,hL,k8,g,q,-⟩:=may_facts (may_of (h 0 (by decide)));have f:I.np<=1024:=by
   have d:r2 I k=none:=(by have:=h 1 (by decide);rw[show rl I 1=r2 I I.ord.toNat from rfl,i,aa] at this;exact this);unfold r2 at d;by_cases c1:wiB I.reg 0 I.lim=false
   ·rw[ae c1] at d;cases d
   rw[ac c1] at d;by_cases c2:I.nm≠I.reg.toNat*2 ^ k*4096
   ·rw[ae c2] at d;cases d
   rw[ac c2] at d;by_cases c3:I.np≠I.reg.toNat*2 ^ k
   ·rw[ae c3] at d;cases d
   have p : 0<=I.reg/\I.reg<=I.lim:=by
    have:wiB I.reg 0 I.lim=true:=by simpa using c1
    unfold wiB at this;exact bw this
   have f:I.np=I.reg.toNat*2 ^ k:=Decidable.not_not.1 c3;have m:I.np<=L*2 ^ k:=(by rw[f];exact ak _ (by omega));omega
  exact QZ I V _ w c (fun W b=>XU I V f W b)
 | 3,_,_=>
  obtain⟨r,hS⟩:=sn9_of (h 0 (by decide)) (h 1 (by decide)) (h 2 (by decide));exact QY I V _ w c (fun W b=>OT I V I.ord.toNat r hS W b)
 | 4,_,_=>
  obtain⟨r,hS⟩:=sn9_of (h 0 (by decide)) (h 1 (by decide)) (h 2 (by decide));exact QX I V _ w c (fun W b=>SG I V I.ord.toNat r hS W b)
 | 5,_,_=>
  obtain⟨r,hS⟩:=sn9_of (h 0 (by decide)) (h 1 (by decide)) (h 2 (by decide));exact QW I V _ w c (fun W b=>XV I V I.ord.toNat r hS W b)
 | 6,_,_=>
  obtain⟨r,hS⟩:=sn9_of (h 0 (by decide)) (h 1 (by decide)) (h 2 (by decide));exact QV I V _ w c (fun W b=>XA I V I.ord.toNat r hS W b)
 | 7,_,_=>
  obtain⟨r,hS⟩:=sn9_of (h 0 (by decide)) (h 1 (by decide)) (h 2 (by decide));exact QU I V _ w c (fun W b=>OS I V I.ord.toNat r hS W b)
 | 8,_,_=>
  obtain⟨r,hS⟩:=sn9_of (h 0 (by decide)) (h 1 (by decide)) (h 2 (by decide));exact QT I V _ w c (fun W b=>RY I V I.ord.toNat r hS (h 4 (by decide)) W b)
 | 9,_,_=>
  obtain⟨r,hS⟩:=sn9_of (h 0 (by decide)) (h 1 (by decide)) (h 2 (by decide));exact XI I V _ w c (fun W b=>ZI I V I.ord.toNat r hS (h 4 (by decide)) W b)
 | 10,_,_=>
  obtain⟨r,hS⟩:=sn9_of (h 0 (by decide)) (h 1 (by decide)) (h 2 (by decide));exact XH I V _ w c (fun W b=>OJ I V I.ord.toNat r hS W b)
theorem Check9(I:Img)(V:ImV)(w:World)(n:ImD w I V):
  Calls prog 10 #[imA I V] w fun e F=>e=.returned (.tuple #[.int .i64 ((chk I).1:Int),.int .i64 ((chk I).2:Int)])/\Kt nO w F:=by
 have l:=n.b64;obtain⟨u,B⟩:=n.lim;obtain⟨C,v⟩:=n.ord;obtain⟨⟨ma,U,hm⟩,⟨Y,pc,hp⟩,⟨R,S,m⟩,⟨ha,hc,hh⟩,⟨ta,G,ht⟩,-⟩:=n.sl;obtain⟨vm,vp,vr,vh,vt⟩:=V;dsimp only at hm hp m hh ht;subst hm hp m hh ht;have E:=aA (show ImAt (w.alloc (aQ I _)) w.heap.size I _ from⟨nH _ _,n.keep ((Kt.refl _ w).alloc _)⟩);have K0:=aA (show Kt nO w (w.alloc (aQ I _))from(Kt.refl _ w).alloc (aQ I ⟨.slice ma I.nm U,.slice Y I.np pc,.slice R I.no S,.slice ha I.hd.length hc,.slice ta I.pt.length G⟩));obtain⟨c0,c1,c2,c3,c4,c5,K,c7,c8⟩:=E.o.cells;have D:=aA (fun W=>(M.May_any I.bS l I.lim I.ord u B C v W).mono (fun e F (h:e=.returned (.bool (M.mayB I.bS I.lim I.ord))/\M.Kt M.nO W F)=>(⟨h.1,rD h.2⟩:e=.returned (.bool (M.mayB I.bS I.lim I.ord))/\Kt nO W F)));have X:=aA (fun j a0 hj h W hW=>yS I ⟨.slice ma I.nm U,.slice Y I.np pc,.slice R I.no S,.slice ha I.hd.length hc,.slice ta I.pt.length G⟩ j a0 hj h W hW);obtain⟨r1,k⟩:∃ r,r=(chk I).1:=⟨_,rfl⟩;obtain⟨s,g⟩:∃ r,r=(chk I).2:=⟨_,rfl⟩;rw[<-k,<-g];have FB:=aA (show ∀ j p,j<11->(∀ a,a<j->rl I a=none)->rl I j=some p->j+1=r1/\p=s from fun j p h1 h2 h3=>by rw[k,g,EC h1 h2 h3];exact⟨rfl,rfl⟩);have FG:=aA (show(∀ a,a<11->rl I a=none)->0=r1/\0=s from fun h=>by rw[k,g,chk_ok h];exact⟨rfl,rfl⟩);have T:=aA (show rl I 0=if M.mayB I.bS I.lim I.ord=true then none else some 0 from rfl);obtain⟨mb,A⟩:∃ b,b=M.mayB I.bS I.lim I.ord:=⟨_,rfl⟩;rw[<-A] at D T;clear n k g A l u B C v;go_enter func10,ntmps10;go_wp2_with fail;refine(D.o _).mono ?_;rintro e w1 ⟨rfl,Z⟩;have L:=aA (E.o.keep Z);have K1:=aA (nT K0.o Z);clear Z c0 c1 c2 c3 c4 c5 K c7 c8;generalize w.heap.size=ib at *;generalize w.alloc (aQ I ⟨.slice ma I.nm U,.slice Y I.np pc,.slice R I.no S,.slice ha I.hd.length hc,.slice ta I.pt.length G⟩)=W0 at *
 cases mb with
 | false=>
  obtain⟨o,z⟩:=FB.o 0 0 (by decide) (fun a ha=>by omega) (by rw[T.o];rfl);subst o z;go_wp2_with fail;go_ret2;exact⟨rfl,K1.o⟩
 | true=>
  have N0:=aA (show rl I 0=none by rw[T.o];rfl);go_wp2_with fail;go_loopw [4] (fun J W=>∃ r:Nat,2<=r/\r<=12/\J=.int .i64 r/\Hd (Kt nO w1 W/\∀ a,a+1<r->rl I a=none)) (fun J _=>12-(intOf J).toNat)
  case atStart=>exact⟨2,by decide,by decide,rfl,aA ⟨Kt.refl _ _,fun a ha=>by rw[show a=0 by omega];exact N0.o⟩⟩
  case round=>
   obtain⟨r,g,q,rfl,Q⟩:=hrel;have P:=aA Q.o.1;have c:=aA Q.o.2;have t:=aA (L.o.keep P.o);obtain⟨c0,c1,c2,c3,c4,c5,K,c7,c8⟩:=t.o.cells;clear Q;by_cases N:r<=11
   ·have y:(r:Int)<=11:=(by omega);obtain⟨j,rfl⟩:∃ j,r=j+1:=⟨r-1,by omega⟩;have i:=aA (fun W hW=>X.o j (by omega) (by omega) (fun a ha=>c.o a (by omega)) W hW);obtain⟨r,m⟩:=xe (j+1);rw[<-m] at i y g;rw[<-m];have f:=aA (show r=j+1/\r<=11 from⟨m,by omega⟩);have HW:=aA (show wrap64 ((r:Int)+1)=((r+1:Nat):Int)by rw[wrap64];omega);obtain⟨x,hx⟩:=xe (rl I j);rw[<-hx] at i;have HX:=aA hx.symm;clear m hx N q;go_wp2_with fail;refine(i.o _ t.o.d).mono ?_;rintro e w2 ⟨rfl,k2⟩;have K2:=aA (nT P.o k2);clear k2 c0 c1 c2 c3 c4 c5 K c7 c8
    cases x with
    | none=>
     have P2:=aA (show ∀ a,a+1<r+1->rl I a=none from fun a ha=>by
      by_cases e:a=j
      ·rw[e];exact HX.o
      ·exact c.o a (by have:=f.o;omega))
     have q1:¬(0:Int)<=fE none:=(by decide);have q2:fE none = -1:=rfl;rw[q2];clear q1 q2;go_wp2_with fail;exact⟨⟨r+1,by omega,by have:=f.o;omega,by first|go_num|rw[HW.o],aA ⟨K2.o,P2.o⟩⟩,by have:=f.o;first|(rw[HW.o];simp only[intOf,aa];omega)|(simp[intOf];omega)⟩
    | some p=>
     rw[show fE (some p)=(p:Int)from rfl];have q1:(0:Int)<=(p:Int):=(by omega);obtain⟨o,z⟩:=FB.o j p (by have:=f.o;omega) (fun a ha=>c.o a (by have:=f.o;omega)) HX.o;rw[<-f.o.1] at o;subst o z;go_wp2_with fail;go_ret2;exact⟨rfl,nT K1.o K2.o⟩
   ·have y:¬(r:Int)<=11:=(by omega);obtain⟨o,z⟩:=FG.o (fun a ha=>c.o a (by omega));subst o z;go_wp2_with fail;go_ret2;exact⟨rfl,nT K1.o P.o⟩
end Go.Proofs.YtfmgnljlkdmndaaGreatDoor.W
