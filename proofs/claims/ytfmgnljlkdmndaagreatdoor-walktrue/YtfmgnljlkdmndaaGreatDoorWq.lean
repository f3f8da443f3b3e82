import Derived.Test.YtfmgnljlkdmndaaGreatDoorXz
set_option maxRecDepth 1000000
set_option maxHeartbeats 80000000
namespace Go.Proofs.YtfmgnljlkdmndaaGreatDoor.W
open Tryz
open Go.RowKit
set_option linter.unusedVariables false
theorem tG{α : Type}[DecidableEq α]{dec : α->Option Nat}{nil : α}{nxt bk:Nat->α}{S:Nat->Bool}{p b : α} : refL dec nil nxt bk S 0 p b=decide (p=nil):=rfl
theorem xL{α : Type}[DecidableEq α]{dec : α->Option Nat}{nil : α}{nxt bk:Nat->α}{S:Nat->Bool}{n:Nat}{p b : α}(h:dec p=none):refL dec nil nxt bk S (n+1) p b=false:=by rw[refL,h]
theorem JW{α : Type}[DecidableEq α]{dec : α->Option Nat}{nil : α}{nxt bk:Nat->α}{S:Nat->Bool}{n i:Nat}{p b : α}(h:dec p=some i):refL dec nil nxt bk S (n+1) p b=(S i && (decide (bk i=b) && refL dec nil nxt bk S n (nxt i) p)):=by rw[refL,h]
theorem OS(I:Img)(V:ImV)(k r:Nat)(hS:Sn9 I k r)(w:World)(y:ImD w I V):
  Calls prog 84 #[imA I V] w fun e w'=>e=.returned (.int .i64 (fE (fst1 (k+1) (ok8 I))))/\Kt nO w w':=by
 obtain⟨⟨ma,mc,hm⟩,⟨pa,pc,hp⟩,⟨ra,rc,hr⟩,⟨ha,hc,hh⟩,⟨ta,X,ht⟩,-⟩:=y.sl;obtain⟨vm,vp,vr,vh,vt⟩:=V;dsimp only at hm hp hr hh ht;subst hm hp hr hh ht;have d3:=aA (show ImAt (w.alloc (aQ I _)) w.heap.size I _ from⟨nH _ _,y.keep ((Kt.refl _ w).alloc _)⟩);have K0:=aA (show Kt nO w (w.alloc (aQ I _))from(Kt.refl _ w).alloc (aQ I ⟨.slice ma I.nm mc,.slice pa I.np pc,.slice ra I.no rc,.slice ha I.hd.length hc,.slice ta I.pt.length X⟩));obtain⟨c0,c1,c2,c3,c4,c5,f,c7,l⟩:=d3.o.cells;have n:=aA hS.np1;have d1:=aA hS.k8;have HO:=aA hS.ord;have a1:=aA hS.hl;have a6:=aA hS.nm;have g6:=aA hS.b0;have g5:=aA hS.be;have HS:=aA hS;obtain⟨rr,K⟩:=xe (fE (fst1 (k+1) (ok8 I)));rw[<-K];have f4:=aA (show ∀ a,a<k+1->(∀ j,j<a->ok8 I j=true)->ok8 I a=false->rr=(a:Int)from fun a h1 h2 h3=>by rw[K,gA h1 h2 h3];rfl);have b9:=aA (show(∀ j,j<k+1->ok8 I j=true)->rr = -1 from fun h=>by rw[K,fst1_ok h];rfl);have OP:=aA (fun g o hg W y=>uS I ⟨.slice ma I.nm mc,.slice pa I.np pc,.slice ra I.no rc,.slice ha I.hd.length hc,.slice ta I.pt.length X⟩ g o hg W y);have NU:=aA (fun p W y=>WB I ⟨.slice ma I.nm mc,.slice pa I.np pc,.slice ra I.no rc,.slice ha I.hd.length hc,.slice ta I.pt.length X⟩ k r hS p W y);have WD:=aA (fun q hq W y=>zX I ⟨.slice ma I.nm mc,.slice pa I.np pc,.slice ra I.no rc,.slice ha I.hd.length hc,.slice ta I.pt.length X⟩ q hq (by have:=hS.nm;have:=hS.np1;omega) W y);have e9:=aA (fun q hq=>word_lt y q hq);clear y K hS;go_enter func84,ntmps84;go_wp2_with fail;clear c0 c1 c2 c3 c4 c5 f c7 l;generalize w.heap.size=ib at *;generalize w.alloc (aQ I ⟨.slice ma I.nm mc,.slice pa I.np pc,.slice ra I.no rc,.slice ha I.hd.length hc,.slice ta I.pt.length X⟩)=W0 at *;go_loopw [3] (fun Y W=>∃ a:Nat,a<=k+1/\Y=.int .i64 a/\Hd (Kt nO W0 W/\∀ j,j<a->ok8 I j=true)) (fun Y _=>k+1-(intOf Y).toNat)
 case atStart=>exact⟨0,az _,rfl,aA ⟨Kt.refl _ _,fun j hj=>by omega⟩⟩
 case round=>
  obtain⟨a,e8,rfl,hG⟩:=hrel;have B:=aA (d3.o.keep hG.o.1);obtain⟨c0,c1,c2,c3,c4,c5,f,c7,l⟩:=B.o.cells;dsimp only at c5 c7;by_cases a2:a<k+1
  ·have g0:(a:Int)<=I.ord:=(by rw[HO.o];omega);have a8:=aA a2;have s:=aA (f4.o a a2 hG.o.2);have e4:=aA (show ok8 I a=true->∀ j,j<a+1->ok8 I j=true from fun eo j hj=>by
    by_cases e:j=a
    ·rw[e];exact eo
    ·exact hG.o.2 j (by omega))
   have KG:=aA hG.o.1;have J:=aA (ok8_eq HS.o a);obtain⟨S,E⟩:=xe (fun i=>isF (I.pg i) (a:Int));have SE:=aA (show ∀ i,S i=isF (I.pg i) (a:Int)from fun i=>by rw[E]);have f2:=aA (show(pgL I fun p=>isF p (a:Int)).length=aH S I.np by rw[DX,E]);rw[f2.o,<-E] at J;have d7:=aA (show ∀ g,g<I.np->∀ W,ImD W I ⟨.slice ma I.nm mc,.slice pa I.np pc,.slice ra I.no rc,.slice ha I.hd.length hc,.slice ta I.pt.length X⟩->Calls prog 133 #[imA I ⟨.slice ma I.nm mc,.slice pa I.np pc,.slice ra I.no rc,.slice ha I.hd.length hc,.slice ta I.pt.length X⟩,.int .i64 g,.int .i64 a] W fun e w'=>e=.returned (.bool (S g))/\Kt nO W w' from fun g hg W v=>by rw[SE.o];exact OP.o g (a:Int) hg W v);have HW:=aA (show wrap64 ((a:Int)+1)=((a+1:Nat):Int)by have:=d1.o;rw[wrap64];omega);obtain⟨h0,b1⟩:∃ h,h=I.hd.getD a 0:=⟨_,rfl⟩;have g2:=B.o.d.hds;obtain⟨_,oa,oc,hv,b8⟩:=g2;rcases b8 with b8|⟨bl,o,rfl,e7,d9⟩
   ·have:=a1.o;omega
   obtain⟨m,c⟩:=d9 a (by have:=a1.o;omega);rw[<-b1] at m c J;injection hv with e1 e2 e3
   subst e1;clear e2 e3 d9 e7;have g1:=aA m;have d0:=aA c;clear E a2 e8 hG b1 m c;go_wp2_with fail;clear c0 c1 c2 c3 c4 c5 f c7 l;obtain⟨wq,Z⟩:∃ W,W=wr:=⟨_,rfl⟩;rw[<-Z] at KG B d0;rw[<-Z];clear Z;go_loopw [4,5] (fun nv Y W=>∃ j:Nat,j<=I.np/\Y=.int .i64 j/\nv=.int .i64 (aH S j:Int)/\Hd (Kt nO wq W)) (fun _ Y _=>I.np-(intOf Y).toNat)
   case atStart=>exact⟨0,az _,rfl,rfl,aA (Kt.refl _ _)⟩
   case round=>
    obtain⟨j,hj,rfl,rfl,hJ⟩:=hrel;have L:=aA (B.o.keep hJ.o);obtain⟨c0,c1,c2,c3,c4,c5,f,c7,l⟩:=L.o.cells;dsimp only at c5 c7;obtain⟨C,hC⟩:=xe (aH S j);have d5:C<=1024:=(by rw[hC];exact an (sZ _ _) (an hj n.o));have R:=aA hC;rw[<-hC];clear hC;by_cases A:j<I.np
    ·have f5:(j:Int)<I.np:=(by omega);have Q:=aA A;have P:=aA (show wrap64 ((j:Int)+1)=((j+1:Nat):Int)by have:=n.o;rw[wrap64];omega);have g7:=aA d5;have e6:=aA (show wrap64 ((C:Int)+1)=((C+1:Nat):Int)by rw[wrap64];omega);have KJ:=aA hJ.o;obtain⟨b,hb⟩:=xe (S j);have HB:=aA hb;have b5:=aA (fun W v=>d7.o j A W v);rw[<-hb] at b5;clear A hj hJ hb;go_wp2_with fail;refine(b5.o _ L.o.d).mono ?_;rintro e w1 ⟨rfl,z⟩;have b6:=aA (nT KJ.o z);clear z c0 c1 c2 c3 c4 c5 f c7 l
     cases b with
     | false=>
      have C1:=aA (show aH S (j+1)=C by rw[lM _ _ HB.o.symm];exact R.o.symm);go_wp2_with fail;exact⟨⟨j+1,Q.o,by first|go_num|rw[P.o],by rw[C1.o],b6⟩,by have:=Q.o;have:=n.o;first|(simp[intOf];omega)|(rw[P.o];simp only[intOf,aa];omega)⟩
     | true=>
      have C1:=aA (show aH S (j+1)=C+1 by rw[mB _ _ HB.o.symm,R.o]);go_wp2_with fail;exact⟨⟨j+1,Q.o,by first|go_num|rw[P.o],by rw[C1.o];first|go_num|rw[e6.o],b6⟩,by have:=Q.o;have:=n.o;first|(simp[intOf];omega)|(rw[P.o];simp only[intOf,aa];omega)⟩
    ·have f5:¬(j:Int)<I.np:=(by omega);have CN:=aA (show aH S I.np=C by rw[R.o,show j=I.np by omega]);rw[CN.o] at J;have KE:=aA (nT KG.o hJ.o);have c:=hJ.o.cell (fun x=>x) d0.o;have b4:=aA d5;have f1:(a:Int)<I.hd.length:=(by have:=a1.o;have:=a8.o;omega);clear A hj R;go_wp2_with fail;clear c0 c1 c2 c3 c4 c5 f c7 l c f1;obtain⟨wz,a3⟩:∃ W,W=wr:=⟨_,rfl⟩;rw[<-a3] at KE L;rw[<-a3];clear a3 hJ;have Q0:=aA (show h0<18446744073709551616/\ok8 I a=refL (decP I) 0 (fun i=>M.word I.mem (4096*i)) (fun i=>M.word I.mem (4096*i+8)) S C h0 0 from⟨g1.o,J.o⟩);go_loopw [6,7,8] (fun pv bv gv W=>∃ p b g d:Nat,g+d=C/\pv=.int .u64 p/\bv=.int .u64 b/\gv=.int .i64 g/\Hd (Kt nO wz W/\p<18446744073709551616/\ok8 I a=refL (decP I) 0 (fun i=>M.word I.mem (4096*i)) (fun i=>M.word I.mem (4096*i+8)) S d p b)) (fun _ _ gv _=>C-(intOf gv).toNat)
     case atStart=>exact⟨h0,0,0,C,by omega,rfl,rfl,rfl,aA ⟨Kt.refl _ _,Q0.o.1,Q0.o.2⟩⟩
     case round=>
      obtain⟨p,b,g,d,a5,rfl,rfl,rfl,hL⟩:=hrel;have G:=aA (L.o.keep hL.o.1);have KL:=aA hL.o.1;have PL:=aA hL.o.2.1;have u:=aA hL.o.2.2;obtain⟨c0,c1,c2,c3,c4,c5,f,c7,l⟩:=G.o.cells;clear hL;by_cases F:g<C
      ·have f3:(g:Int)<C:=(by omega);obtain⟨d,rfl⟩:∃ d',d=d'+1:=⟨d-1,by omega⟩;have b3:=aA (show wrap64 ((g:Int)+1)=((g+1:Nat):Int)by have:=b4.o;rw[wrap64];omega);have GD:=aA (show g+1+d=C/\g<C from⟨by omega,F⟩);have t:=aA (fun W v=>NU.o p W v);clear a5 F
       cases hdp:decP I p with
       | none=>
        rw[hdp] at t;have eo:ok8 I a=false:=u.o.trans (xL hdp);have T:=s.o eo;clear eo hdp;subst T;go_wp2_with fail;refine(t.o _ G.o.d).mono ?_;rintro e w1 ⟨rfl,z⟩;have e0:=aA (nT KE.o (nT KL.o z));have q2:(iA none)<(0:Int):=(by decide);by_cases p0:p=0
        ·have q1:((p:Int) == 0)=true:=(by rw[co];omega);clear z c0 c1 c2 c3 c4 c5 f c7 l p0;go_wp2_with fail;go_ret;exact⟨rfl,nT K0.o e0.o⟩
        ·have q1:((p:Int) == 0)=false:=(by rw[ag];omega);clear z c0 c1 c2 c3 c4 c5 f c7 l p0;go_wp2_with fail;go_ret;exact⟨rfl,nT K0.o e0.o⟩
       | some i=>
        rw[hdp] at t;obtain⟨hi,f9,f6⟩:=decP_lt HS.o hdp;rw[show iA (some i)=(i:Int)from rfl] at t;have f7:=t;clear t;have q1:((p:Int) == 0)=false:=(by rw[ag];omega);have q2:¬(i:Int)<0:=(by omega);have a4:=aA (u.o.trans (JW hdp));have c9:=aA (fun W v=>d7.o i hi W v);have D:=aA (fun W v=>WD.o (4096*i+8) (by have:=a6.o;omega) W v);have a9:=aA (fun W v=>WD.o (4096*i) (by have:=a6.o;omega) W v);have d4:=aA (e9.o (4096*i) (by have:=a6.o;omega));obtain⟨sb,d6⟩:∃ b,b=S i:=⟨_,rfl⟩;rw[<-d6] at a4 c9;obtain⟨x1,m⟩:∃ x,x=M.word I.mem (4096*i+8):=⟨_,rfl⟩;obtain⟨x2,c⟩:∃ x,x=M.word I.mem (4096*i):=⟨_,rfl⟩;have U:=aA (show ok8 I a=(sb && (decide (x1=b) && refL (decP I) 0 (fun i=>M.word I.mem (4096*i)) (fun i=>M.word I.mem (4096*i+8)) S d x2 p))from by rw[a4.o,m,c]);rw[<-m] at D;rw[<-c] at a9 d4;clear a4 u;obtain⟨i4,b2⟩:∃ x,x=4096*i:=⟨_,rfl⟩;rw[<-b2] at D a9;obtain⟨i8,d8⟩:∃ x,x=i4+8:=⟨_,rfl⟩;rw[<-d8] at D;have s1:IntKind.u64.wrap (i:Int)=i:=(by have:=n.o;rw[wrap_u64];omega);have s2:IntKind.u64.wrap (i4:Int)=i4:=(by have:=n.o;rw[wrap_u64];omega);have s3 : 4096*(i:Int)=i4:=(by omega);have s4:IntKind.u64.wrap (i8:Int)=i8:=(by have:=n.o;rw[wrap_u64];omega);have s5:(i4:Int)+8=(i8:Int):=(by omega);clear hdp f9 f6 hi d6 m c b2 d8;go_wp2_with fail;refine(f7.o _ G.o.d).mono ?_;rintro e w1 ⟨rfl,z⟩;have a0:=aA (G.o.keep z);have f0:=aA (nT KL.o z);clear z c0 c1 c2 c3 c4 c5 f c7 l;obtain⟨c0,c1,c2,c3,c4,c5,f,c7,l⟩:=a0.o.cells;go_wp2_with fail;refine(c9.o _ a0.o.d).mono ?_;rintro e w2 ⟨rfl,k2⟩;have a7:=aA (a0.o.keep k2);have b7:=aA (nT f0.o k2);clear k2 c0 c1 c2 c3 c4 c5 f c7 l
        cases sb with
        | false=>
         have T:=s.o U.o;subst T;have g3:=aA (nT KE.o b7.o);go_wp2_with fail;go_ret;exact⟨rfl,nT K0.o g3.o⟩
        | true=>
         obtain⟨c0,c1,c2,c3,c4,c5,f,c7,l⟩:=a7.o.cells;go_wp2_with fail;refine(D.o _ a7.o.d).mono ?_;rintro e w3 ⟨rfl,k3⟩;have e5:=aA (a7.o.keep k3);have d2:=aA (nT b7.o k3);clear k3 c0 c1 c2 c3 c4 c5 f c7 l;by_cases h3:x1=b
         case neg=>
          have q3:((x1:Int) != (b:Int))=true:=(by rw[cu];omega);have T:=s.o (by rw[U.o,ah h3];rfl);have N:=aA (nT KE.o d2.o);clear h3;subst T;go_wp2_with fail;go_ret;exact⟨rfl,nT K0.o N.o⟩
         have q3:((x1:Int) != (b:Int))=false:=(by rw[ay];omega);have g4:=aA (U.o.trans (by rw[af h3,bf,bf]));clear h3;obtain⟨c0,c1,c2,c3,c4,c5,f,c7,l⟩:=e5.o.cells;go_wp2_with fail;refine(a9.o _ e5.o.d).mono ?_;rintro e w4 ⟨rfl,k4⟩;have f8:=aA (nT d2.o k4);clear k4 c0 c1 c2 c3 c4 c5 f c7 l;go_wp2_with fail;exact⟨⟨x2,p,g+1,d,GD.o.1,rfl,rfl,by first|go_num|rw[b3.o],aA ⟨f8.o,d4.o,g4.o⟩⟩,by have:=GD.o.2;have:=b4.o;first|(simp[intOf];omega)|(rw[b3.o];simp only[intOf,aa];omega)⟩
      ·have f3:¬(g:Int)<C:=(by omega);obtain rfl:d=0:=(by omega);have N:=aA (nT KE.o KL.o);by_cases p0:p=0
       case neg=>
        have q1:((p:Int) != 0)=true:=(by rw[cu];omega);have T:=s.o (by rw[u.o,tG,ah p0]);clear p0 a5 F;subst T;go_wp2_with fail;go_ret;exact⟨rfl,nT K0.o N.o⟩
       have q1:((p:Int) != 0)=false:=(by rw[ay];omega);have EO:=aA (e4.o (by rw[u.o,tG,af p0]));clear p0 a5 F;go_wp2_with fail;go_round
       case rel=>exact⟨a+1,a8.o,by first|go_num|rw[HW.o],aA ⟨N.o,EO.o⟩⟩
       case measure=>have:=a8.o;have:=d1.o;first|(simp[intOf];omega)|(rw[HW.o];simp only[intOf,aa];omega)
  ·have g0:¬(a:Int)<=I.ord:=(by rw[HO.o];omega);have T:=b9.o (fun j hj=>hG.o.2 j (by omega));subst T;go_wp2_with fail;go_ret;exact⟨rfl,nT K0.o hG.o.1⟩
end Go.Proofs.YtfmgnljlkdmndaaGreatDoor.W
