import Derived.Test.YtfmgnljlkdmndaaGreatDoorZd
set_option maxRecDepth 1000000
set_option maxHeartbeats 80000000
namespace Go.Proofs.YtfmgnljlkdmndaaGreatDoor.W
open Tryz
open Go.RowKit
set_option linter.unusedVariables false
theorem zfe(b:Nat)(I:Img)(V:ImV)(k r:Nat)(hS:Sn9 I k r)(w:World)(hI:ImAt w b I V):
  Calls prog 140 #[.pointer (some ⟨b,0,none⟩)] w fun e w'=>e=bG (r4 I)/\Kt nO w w':=by
 obtain⟨-,⟨pa,pc,hp⟩,-,-,-,-,bp,-,-⟩:=hI.d.sl;obtain⟨EE,e0⟩:=xe (bG (r4 I));rw[<-e0];have HE:=aA e0;have HI:=aA hI;have HS:=aA hS;have SP:=aA hp;have f9:=hS.np1;obtain⟨n,hn⟩:=xe (I.np);rw[<-hn] at f9;have HN:=aA hn;clear e0 hI hp hS hn bp;go_enter func140,ntmps140;go_wp2_with fail;go_loopw [2] (fun i W=>∃ a:Nat,a<=n/\i=.int .i64 a/\Hd (Kt nO w W/\∃ m,n-a<m/\r4 I=r4F I m a)) (fun i _=>n-(intOf i).toNat)
 case atStart=>exact⟨0,az _,rfl,aA ⟨Kt.refl _ _,I.np+1,by rw[HN.o];omega,rfl⟩⟩
 case round=>
  obtain⟨a,ha,rfl,hR⟩:=hrel;have A0:=aA (HI.o.keep hR.o.1);obtain⟨c0,c1,c2,c3,c4,c5,c6,c7,c8⟩:=A0.o.cells;rw[SP.o,<-HN.o] at c5;by_cases g2:a<n
  ·have f6:(a:Int)<n:=(by omega);have N:a<I.np:=(by rw[<-HN.o];exact g2);obtain⟨bl,o,g8,e7,g0,e6⟩:=A0.o.page a N;rw[SP.o] at e7;injection e7 with e1 e2 e3
   subst e1;obtain⟨kd,od,cc,ll,y1,y2,y3,y4,-⟩:=HS.o.pg a N;have K:(I.pg a).kd=0\/(I.pg a).kd=1\/(I.pg a).kd=2\/(I.pg a).kd=3\/(I.pg a).kd=4:=(by omega);obtain⟨_,m,g9,b4⟩:=hR.o;obtain⟨m,rfl⟩:∃ m',m=m'+1:=⟨m-1,by omega⟩;have g6:=HS.o.k8;have e9:od<=8:=(by omega);have hP:=M.pow8 od e9;have FB:=aA (show hdOk (I.pg a) a=false->cG (a:Int)=EE from fun h=>by rw[HE.o,b4,DH N h];rfl);have FR:=aA (show ∀ j,hdOk (I.pg a) a=true->j<2 ^ od-1->(∀ x,x<j->rsOk (I.pg a) (I.pg (a+1+x))=true)->rsOk (I.pg a) (I.pg (a+1+j))=false->cG ((a+1+j:Nat):Int)=EE from fun j h1 U h3 h4=>by rw[HE.o,b4,GC N y3 h1 U h3 h4];rfl);have FO:=aA (show hdOk (I.pg a) a=true->(∀ x,x<2 ^ od-1->rsOk (I.pg a) (I.pg (a+1+x))=true)->∃ m',n-(a+2 ^ od)<m'/\r4 I=r4F I m' (a+2 ^ od)from fun h1 U=>⟨m,by omega,by rw[b4,r4F_ok N y3 h1 U]⟩);have b6:=aA (show a%2 ^ od=0->a+2 ^ od<=n from fun h=>by rw[HN.o];exact mul_fits (HS.o.dvd od y4) h N);have S:=aA (PbI.mk' (w:=w) A0.o hR.o.1 (I.pg a));obtain⟨d0,d1,d2,d3,d4,d5,d6,d7,d8,d9,F⟩:=e6.c;generalize I.pg a=p at *;obtain⟨g3,g7,u,l,C,z,s,f,y,B,A⟩:=p;dsimp only at y1 y3 K d0 d1 d2 d3 d4 d5 d6 d7 d8 d9 F;clear y1 y2;subst y3;have f2:wrap64 ((1:Int)*2 ^ od)=((2 ^ od:Nat):Int):=by have e:((2:Int) ^ od)=((2 ^ od:Nat):Int):=(by simp);rw[e];unfold wrap64;omega
   have e5:((2:Int) ^ od)=((2 ^ od:Nat):Int):=(by simp);obtain⟨P,e4⟩:=xe (2 ^ od);have a0:=aA e4;rw[<-e4] at f2 e5 FR FO b6 hP;have f7:=hP.1;have g5:=hP.2;have f8:¬(P:Int)=0:=UD f7;have g4:((P:Int) == 0)=false:=(by rw[ag];exact f8);clear e4 g0 e6 e2 e3 b4 y4 hP;rcases K with K|K|K|K|K
   ·skip
    subst K;by_cases J:a%P=0
    case neg=>
     have X:=aA (show hdOk (⟨0,(od:Int),u,l,C,z,s,f,y,B,A⟩:Pg) a=false by simp[hdOk,<-a0.o,J]);have f1:((a:Int)%(P:Int) == 0)=false:=(by rw[ag];omega);clear J;go_wp2_with fail;generalize wr.alloc (aW (⟨0,(od:Int),u,l,C,z,s,f,y,B,A⟩:Pg))=W1 at *;generalize wr.heap.size=g at *;clear d0 d1 d2 d3 d4 d5 d6 d7 d8 d9 F c0 c1 c2 c3 c4 c5 c6 c7 c8;obtain⟨p0,p1,p2,T,p4,p5,Z,p7,p8,p9,G⟩:=S.o.all;refine gQ (by kernel_rfl) (by kernel_rfl) (by exact da _ _) ?_;dsimp only[List.dropLast,List.getLast];repeat (go_big_quiet_step (fail))
     refine wpQuiet_nil ?_;refine⟨rfl,?_⟩;rintro _ ⟨x,rfl⟩;exact gP (p:=(a:Int)) rfl rfl rfl fun _ hd=>⟨hd,FB.o X.o,nT S.o.k x.k⟩
    have f1:((a:Int)%(P:Int) == 0)=true:=(by rw[co];omega);have HF:=aA (b6.o J);have D:=fun W=>tU 0 (od:Int) W
    dsimp only[aU] at D;have D:=aA D;have L:=fun W=>tD (⟨0,(od:Int),u,l,C,z,s,f,y,B,A⟩:Pg) (aU 0 (od:Int)) W
    cases hq:pgE (⟨0,(od:Int),u,l,C,z,s,f,y,B,A⟩:Pg) (aU 0 (od:Int))with
    | false=>
     have X:=aA (show hdOk (⟨0,(od:Int),u,l,C,z,s,f,y,B,A⟩:Pg) a=false by simp[hdOk,hq]);rw[hq] at L;dsimp only[aU] at L;clear J hq;go_wp2_with fail;generalize wr.alloc (aW (⟨0,(od:Int),u,l,C,z,s,f,y,B,A⟩:Pg))=W1 at *;generalize wr.heap.size=g at *;clear d0 d1 d2 d3 d4 d5 d6 d7 d8 d9 F c0 c1 c2 c3 c4 c5 c6 c7 c8;obtain⟨p0,p1,p2,T,p4,p5,Z,p7,p8,p9,G⟩:=S.o.all;refine gQ (by kernel_rfl) (by kernel_rfl) (by exact da _ _) ?_;dsimp only[List.dropLast,List.getLast];repeat (go_big_quiet_step (first|(go_at_call 189;exact Calls.kept_of (D.o _))))
     refine wpQuiet_nil ?_;refine⟨rfl,?_⟩;rintro _ ⟨x,rfl⟩;exact gP (p:=(a:Int)) rfl rfl rfl fun _ hd=>⟨hd,FB.o X.o,nT S.o.k x.k⟩
    | true=>
     have X:=aA (show hdOk (⟨0,(od:Int),u,l,C,z,s,f,y,B,A⟩:Pg) a=true by simp[hdOk,<-a0.o,J,hq]);rw[hq] at L;dsimp only[aU] at L;have R:=aA (fun W=>dD (a:Int) W);clear J hq;go_wp2_with fail;generalize wr.alloc (aW (⟨0,(od:Int),u,l,C,z,s,f,y,B,A⟩:Pg))=W1 at *;generalize wr.heap.size=g at *;clear d0 d1 d2 d3 d4 d5 d6 d7 d8 d9 F c0 c1 c2 c3 c4 c5 c6 c7 c8;obtain⟨p0,p1,p2,T,p4,p5,Z,p7,p8,p9,G⟩:=S.o.all;refine cS (by kernel_rfl) (by kernel_rfl) ?_;repeat (go_big_quiet_step (first|(go_at_call 189;exact Calls.kept_of (D.o _))|(go_at_call 185;exact Calls.kept_of ((R.o _).mono fun _ _ ⟨h1,U⟩=>⟨h1,U▸Kt.refl _ _⟩))))
     refine wpQuiet_nil ?_;intro x;have b0:=aA (S.o.keep x.k);clear p0 p1 p2 T p4 p5 Z p7 p8 p9 G L D R f1;generalize x.v=W2 at *;go_wp2_with fail;go_loopw [5] (fun i W=>∃ t:Nat,a+1<=t/\t<=a+P/\i=.int .i64 t/\Hd (PbI w W b g I V (⟨0,(od:Int),u,l,C,z,s,f,y,B,A⟩:Pg)/\∀ x,a+1+x<t->rsOk (⟨0,(od:Int),u,l,C,z,s,f,y,B,A⟩:Pg) (I.pg (a+1+x))=true)) (fun i _=>(a+P)-(intOf i).toNat)
     case atStart=>exact⟨a+1,aj _,by omega,by go_num,aA ⟨b0.o,fun x hx=>by omega⟩⟩
     case round=>
      clear b0 S;obtain⟨t,g1,f3,rfl,Q⟩:=hrel;by_cases f4:t<a+P
      ·have b7:(t:Int)<a+(P:Int):=(by omega);have b8:t<I.np:=(by have:=HF.o;rw[HN.o] at this;omega);have e8:(t:Int)<n:=(by rw[HN.o];omega);have a3:=Q.o.1.im.pageK SP.o t b8;obtain⟨c0,c1,c2,c3,c4,c5,c6,c7,c8⟩:=Q.o.1.im.all;rw[SP.o,<-HN.o] at c5;obtain⟨p0,p1,p2,T,p4,p5,Z,p7,p8,p9,G⟩:=Q.o.1.all;have c9:=aA (show rsOk (⟨0,(od:Int),u,l,C,z,s,f,y,B,A⟩:Pg) (I.pg t)=false->cG (t:Int)=EE from fun h=>by
        have:=FR.o (t-(a+1)) X.o (by omega) (fun x hx=>Q.o.2 x (by omega)) (by rw[show a+1+(t-(a+1))=t by omega];exact h);rwa [show a+1+(t-(a+1))=t by omega] at this)
       have b5:=aA (show rsOk (⟨0,(od:Int),u,l,C,z,s,f,y,B,A⟩:Pg) (I.pg t)=true->∀ x,a+1+x<t+1->rsOk (⟨0,(od:Int),u,l,C,z,s,f,y,B,A⟩:Pg) (I.pg (a+1+x))=true from fun h x hx=>by
        by_cases e:a+1+x=t
        ·rw[e];exact h
        ·exact Q.o.2 x (by omega))
       generalize I.pg t=q at *;obtain⟨a1,a7,a5,a4,b2,a8,b1,a6,b3,a2,a9⟩:=q;obtain⟨d0,d1,d2,d3,d4,d5,d6,d7,d8,d9,F⟩:=iP a3;dsimp only at d0 d1 d2 d3 d4 d5 d6 d7 d8 d9 F p0 p1 p2 T p4 p5 Z p7 p8 p9 G;clear a3;have D:=fun W=>tU 1 (od:Int) W
       dsimp only[aU] at D;have D:=aA D;have L:=fun W=>tD (⟨a1,a7,a5,a4,b2,a8,b1,a6,b3,a2,a9⟩:Pg) (aU 1 (od:Int)) W
       cases hq:pgE (⟨a1,a7,a5,a4,b2,a8,b1,a6,b3,a2,a9⟩:Pg) (aU 1 (od:Int))with
       | false=>
        have Y:=aA (c9.o (by simp only[rsOk];exact hq));rw[hq] at L;dsimp only[aU] at L;clear hq;go_wp2_with fail;refine gQ (by kernel_rfl) (by kernel_rfl) (by exact da _ _) ?_;dsimp only[List.dropLast,List.getLast];repeat (go_big_quiet_step (first|(go_at_call 189;exact Calls.kept_of (D.o _))))
        refine wpQuiet_nil ?_;refine⟨rfl,?_⟩;rintro _ ⟨x,rfl⟩;exact gP (p:=(t:Int)) rfl rfl rfl fun _ hd=>⟨hd,Y.o,nT Q.o.1.k x.k⟩
       | true=>
        have Y:=aA (b5.o (by simp only[rsOk];exact hq));rw[hq] at L;dsimp only[aU] at L;have R:=aA (fun W=>dD (t:Int) W);clear hq;go_wp2_with fail;refine cS (by kernel_rfl) (by kernel_rfl) ?_;repeat (go_big_quiet_step (first|(go_at_call 189;exact Calls.kept_of (D.o _))|(go_at_call 185;exact Calls.kept_of ((R.o _).mono fun _ _ ⟨h1,U⟩=>⟨h1,U▸Kt.refl _ _⟩))))
        refine wpQuiet_nil ?_;intro x;have T2:=aA (show PbI w x.v b g I V (⟨0,(od:Int),u,l,C,z,s,f,y,B,A⟩:Pg)/\_ from⟨Q.o.1.keep x.k,Y.o⟩);clear p0 p1 p2 T p4 p5 Z p7 p8 p9 G d0 d1 d2 d3 d4 d5 d6 d7 d8 d9 F L;go_wp2_with fail;go_round
        case rel=>exact⟨t+1,by omega,by omega,by go_num,T2⟩
        case measure=>simp[intOf];omega
      ·have b7:¬(t:Int)<a+(P:Int):=(by omega);have R2:=aA (show Kt nO w wr/\_ from⟨Q.o.1.k,FO.o X.o (fun x hx=>Q.o.2 x (by omega))⟩);have f5:=HF.o;go_wp2_with fail;go_round
       case rel=>exact⟨a+P,by omega,by go_num,R2⟩
       case measure=>simp[intOf];omega
   ·skip
    subst K;have X:=aA (show hdOk (⟨1,(od:Int),u,l,C,z,s,f,y,B,A⟩:Pg) a=false by simp[hdOk]);go_wp2_with fail;refine(dY _ _).mono ?_;rintro e w1 ⟨rfl,rfl⟩;exact⟨rfl,FB.o X.o,hR.o.1.alloc _⟩
   ·skip
    subst K;by_cases J:a%P=0
    case neg=>
     have X:=aA (show hdOk (⟨2,(od:Int),u,l,C,z,s,f,y,B,A⟩:Pg) a=false by simp[hdOk,<-a0.o,J]);have f1:((a:Int)%(P:Int) == 0)=false:=(by rw[ag];omega);clear J;go_wp2_with fail;generalize wr.alloc (aW (⟨2,(od:Int),u,l,C,z,s,f,y,B,A⟩:Pg))=W1 at *;generalize wr.heap.size=g at *;clear d0 d1 d2 d3 d4 d5 d6 d7 d8 d9 F c0 c1 c2 c3 c4 c5 c6 c7 c8;obtain⟨p0,p1,p2,T,p4,p5,Z,p7,p8,p9,G⟩:=S.o.all;refine gQ (by kernel_rfl) (by kernel_rfl) (by exact da _ _) ?_;dsimp only[List.dropLast,List.getLast];repeat (go_big_quiet_step (fail))
     refine wpQuiet_nil ?_;refine⟨rfl,?_⟩;rintro _ ⟨x,rfl⟩;exact gP (p:=(a:Int)) rfl rfl rfl fun _ hd=>⟨hd,FB.o X.o,nT S.o.k x.k⟩
    have f1:((a:Int)%(P:Int) == 0)=true:=(by rw[co];omega);have HF:=aA (b6.o J);have D:=fun W=>tU 2 (od:Int) W
    dsimp only[aU] at D;have D:=aA D;have L:=fun W=>tD (⟨2,(od:Int),u,l,C,z,s,f,y,B,A⟩:Pg) (aU 2 (od:Int)) W
    cases hq:pgE (⟨2,(od:Int),u,l,C,z,s,f,y,B,A⟩:Pg) (aU 2 (od:Int))with
    | false=>
     have X:=aA (show hdOk (⟨2,(od:Int),u,l,C,z,s,f,y,B,A⟩:Pg) a=false by simp[hdOk,hq]);rw[hq] at L;dsimp only[aU] at L;clear J hq;go_wp2_with fail;generalize wr.alloc (aW (⟨2,(od:Int),u,l,C,z,s,f,y,B,A⟩:Pg))=W1 at *;generalize wr.heap.size=g at *;clear d0 d1 d2 d3 d4 d5 d6 d7 d8 d9 F c0 c1 c2 c3 c4 c5 c6 c7 c8;obtain⟨p0,p1,p2,T,p4,p5,Z,p7,p8,p9,G⟩:=S.o.all;refine gQ (by kernel_rfl) (by kernel_rfl) (by exact da _ _) ?_;dsimp only[List.dropLast,List.getLast];repeat (go_big_quiet_step (first|(go_at_call 189;exact Calls.kept_of (D.o _))))
     refine wpQuiet_nil ?_;refine⟨rfl,?_⟩;rintro _ ⟨x,rfl⟩;exact gP (p:=(a:Int)) rfl rfl rfl fun _ hd=>⟨hd,FB.o X.o,nT S.o.k x.k⟩
    | true=>
     have X:=aA (show hdOk (⟨2,(od:Int),u,l,C,z,s,f,y,B,A⟩:Pg) a=true by simp[hdOk,<-a0.o,J,hq]);rw[hq] at L;dsimp only[aU] at L;have R:=aA (fun W=>dD (a:Int) W);clear J hq;go_wp2_with fail;generalize wr.alloc (aW (⟨2,(od:Int),u,l,C,z,s,f,y,B,A⟩:Pg))=W1 at *;generalize wr.heap.size=g at *;clear d0 d1 d2 d3 d4 d5 d6 d7 d8 d9 F c0 c1 c2 c3 c4 c5 c6 c7 c8;obtain⟨p0,p1,p2,T,p4,p5,Z,p7,p8,p9,G⟩:=S.o.all;refine cS (by kernel_rfl) (by kernel_rfl) ?_;repeat (go_big_quiet_step (first|(go_at_call 189;exact Calls.kept_of (D.o _))|(go_at_call 185;exact Calls.kept_of ((R.o _).mono fun _ _ ⟨h1,U⟩=>⟨h1,U▸Kt.refl _ _⟩))))
     refine wpQuiet_nil ?_;intro x;have b0:=aA (S.o.keep x.k);clear p0 p1 p2 T p4 p5 Z p7 p8 p9 G L D R f1;generalize x.v=W2 at *;go_wp2_with fail;go_loopw [5] (fun i W=>∃ t:Nat,a+1<=t/\t<=a+P/\i=.int .i64 t/\Hd (PbI w W b g I V (⟨2,(od:Int),u,l,C,z,s,f,y,B,A⟩:Pg)/\∀ x,a+1+x<t->rsOk (⟨2,(od:Int),u,l,C,z,s,f,y,B,A⟩:Pg) (I.pg (a+1+x))=true)) (fun i _=>(a+P)-(intOf i).toNat)
     case atStart=>exact⟨a+1,aj _,by omega,by go_num,aA ⟨b0.o,fun x hx=>by omega⟩⟩
     case round=>
      clear b0 S;obtain⟨t,g1,f3,rfl,Q⟩:=hrel;by_cases f4:t<a+P
      ·have b7:(t:Int)<a+(P:Int):=(by omega);have b8:t<I.np:=(by have:=HF.o;rw[HN.o] at this;omega);have e8:(t:Int)<n:=(by rw[HN.o];omega);have a3:=Q.o.1.im.pageK SP.o t b8;obtain⟨c0,c1,c2,c3,c4,c5,c6,c7,c8⟩:=Q.o.1.im.all;rw[SP.o,<-HN.o] at c5;obtain⟨p0,p1,p2,T,p4,p5,Z,p7,p8,p9,G⟩:=Q.o.1.all;have c9:=aA (show rsOk (⟨2,(od:Int),u,l,C,z,s,f,y,B,A⟩:Pg) (I.pg t)=false->cG (t:Int)=EE from fun h=>by
        have:=FR.o (t-(a+1)) X.o (by omega) (fun x hx=>Q.o.2 x (by omega)) (by rw[show a+1+(t-(a+1))=t by omega];exact h);rwa [show a+1+(t-(a+1))=t by omega] at this)
       have b5:=aA (show rsOk (⟨2,(od:Int),u,l,C,z,s,f,y,B,A⟩:Pg) (I.pg t)=true->∀ x,a+1+x<t+1->rsOk (⟨2,(od:Int),u,l,C,z,s,f,y,B,A⟩:Pg) (I.pg (a+1+x))=true from fun h x hx=>by
        by_cases e:a+1+x=t
        ·rw[e];exact h
        ·exact Q.o.2 x (by omega))
       generalize I.pg t=q at *;obtain⟨a1,a7,a5,a4,b2,a8,b1,a6,b3,a2,a9⟩:=q;obtain⟨d0,d1,d2,d3,d4,d5,d6,d7,d8,d9,F⟩:=iP a3;dsimp only at d0 d1 d2 d3 d4 d5 d6 d7 d8 d9 F p0 p1 p2 T p4 p5 Z p7 p8 p9 G;clear a3;have D:=fun W=>tU 3 (od:Int) W
       dsimp only[aU] at D;have D:=aA D;have L:=fun W=>tD (⟨a1,a7,a5,a4,b2,a8,b1,a6,b3,a2,a9⟩:Pg) (aU 3 (od:Int)) W
       cases hq:pgE (⟨a1,a7,a5,a4,b2,a8,b1,a6,b3,a2,a9⟩:Pg) (aU 3 (od:Int))with
       | false=>
        have Y:=aA (c9.o (by simp only[rsOk];exact hq));rw[hq] at L;dsimp only[aU] at L;clear hq;go_wp2_with fail;refine gQ (by kernel_rfl) (by kernel_rfl) (by exact da _ _) ?_;dsimp only[List.dropLast,List.getLast];repeat (go_big_quiet_step (first|(go_at_call 189;exact Calls.kept_of (D.o _))))
        refine wpQuiet_nil ?_;refine⟨rfl,?_⟩;rintro _ ⟨x,rfl⟩;exact gP (p:=(t:Int)) rfl rfl rfl fun _ hd=>⟨hd,Y.o,nT Q.o.1.k x.k⟩
       | true=>
        have Y:=aA (b5.o (by simp only[rsOk];exact hq));rw[hq] at L;dsimp only[aU] at L;have R:=aA (fun W=>dD (t:Int) W);clear hq;go_wp2_with fail;refine cS (by kernel_rfl) (by kernel_rfl) ?_;repeat (go_big_quiet_step (first|(go_at_call 189;exact Calls.kept_of (D.o _))|(go_at_call 185;exact Calls.kept_of ((R.o _).mono fun _ _ ⟨h1,U⟩=>⟨h1,U▸Kt.refl _ _⟩))))
        refine wpQuiet_nil ?_;intro x;have T2:=aA (show PbI w x.v b g I V (⟨2,(od:Int),u,l,C,z,s,f,y,B,A⟩:Pg)/\_ from⟨Q.o.1.keep x.k,Y.o⟩);clear p0 p1 p2 T p4 p5 Z p7 p8 p9 G d0 d1 d2 d3 d4 d5 d6 d7 d8 d9 F L;go_wp2_with fail;go_round
        case rel=>exact⟨t+1,by omega,by omega,by go_num,T2⟩
        case measure=>simp[intOf];omega
      ·have b7:¬(t:Int)<a+(P:Int):=(by omega);have R2:=aA (show Kt nO w wr/\_ from⟨Q.o.1.k,FO.o X.o (fun x hx=>Q.o.2 x (by omega))⟩);have f5:=HF.o;go_wp2_with fail;go_round
       case rel=>exact⟨a+P,by omega,by go_num,R2⟩
       case measure=>simp[intOf];omega
   ·skip
    subst K;have X:=aA (show hdOk (⟨3,(od:Int),u,l,C,z,s,f,y,B,A⟩:Pg) a=false by simp[hdOk]);go_wp2_with fail;refine(dY _ _).mono ?_;rintro e w1 ⟨rfl,rfl⟩;exact⟨rfl,FB.o X.o,hR.o.1.alloc _⟩
   ·skip
    subst K;by_cases h0:od=0
    case neg=>
     have X:=aA (show hdOk (⟨4,(od:Int),u,l,C,z,s,f,y,B,A⟩:Pg) a=false by simp[hdOk,h0]);have f0:((od:Int) == 0)=false:=(by rw[ag];omega);clear h0;go_wp2_with fail;refine(dY _ _).mono ?_;rintro e w1 ⟨rfl,rfl⟩;exact⟨rfl,FB.o X.o,hR.o.1.alloc _⟩
    have X:=aA (show hdOk (⟨4,(od:Int),u,l,C,z,s,f,y,B,A⟩:Pg) a=true by simp[hdOk,h0]);have f0:((od:Int) == 0)=true:=(by rw[co];omega);have b9:=aA (show P=1 by rw[a0.o,h0]);have R2:=aA (show Kt nO w (wr.alloc (aW (⟨4,(od:Int),u,l,C,z,s,f,y,B,A⟩:Pg)))/\_ from⟨hR.o.1.alloc _,FO.o X.o (fun x hx=>by have:=b9.o;omega)⟩);clear h0;go_wp2_with fail;refine(dD _ _).mono ?_;rintro e w1 ⟨rfl,rfl⟩;go_wp2_with fail;go_round
    case rel=>exact⟨a+P,by have:=b9.o;omega,by go_num,R2⟩
    case measure=>have:=b9.o;simp[intOf];omega
  ·obtain rfl:a=n:=(by omega);have f6:¬(a:Int)<a:=(by omega);have E:=aA (show Ending.returned (.tuple #[])=EE by
    obtain⟨_,m,h1,U⟩:=hR.o;obtain⟨m,rfl⟩:∃ m',m=m'+1:=⟨m-1,by omega⟩;rw[HE.o,U,HN.o,r4F_end];rfl)
   go_wp2_with fail;first|go_end0|go_ret
   exact⟨E.o,hR.o.1⟩
end Go.Proofs.YtfmgnljlkdmndaaGreatDoor.W
