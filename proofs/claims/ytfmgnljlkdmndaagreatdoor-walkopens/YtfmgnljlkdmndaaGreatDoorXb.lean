import Derived.Test.YtfmgnljlkdmndaaGreatDoorXa
set_option maxRecDepth 1000000
set_option maxHeartbeats 0
namespace Go.Proofs.YtfmgnljlkdmndaaGreatDoor
namespace W
open Tryz RowKit
set_option linter.unusedVariables false
theorem zfj(b:Nat)(I:Img)(V:ImV)(k r:Nat)(hS:Sn9 I k r)(w:Wd)(hI:ImAt w b I V):Calls prog 140 #[.pointer (some ⟨b,0,none⟩)] w fun e w'=>e=bG (r4 I)/\Kt nO w w':=by
 obtain⟨-,⟨pa,pc,hp⟩,-,-,-,-,bp,-,-⟩:=hI.d.sl;obtain⟨EE,e4⟩:=xe (bG (r4 I));rw[<-e4];have HE:=aA e4;have HI:=aA hI;have HS:=aA hS;have SP:=aA hp;have f9:=hS.gj;obtain⟨n,hn⟩:=xe (I.np);rw[<-hn] at f9;have HN:=aA hn;clear e4 hI hp hS hn bp;go_enter func140,ntmps140;go_wp2_with fail;go_loopw [2] (fun i W=>∃ a:Nat,a<=n/\i=.int .i64 a/\Hd (Kt nO w W/\∃ m,n-a<m/\r4 I=r4F I m a)) (fun i _=>n-(intOf i).toNat)
 case atStart=>exact⟨0,az _,rfl,aA ⟨Kt.refl _ _,I.np+1,by rw[HN.o];omega,rfl⟩⟩
 case round=>
  obtain⟨a,ha,rfl,hR⟩:=hrel;have A0:=aA (HI.o.dk hR.o.1);obtain⟨c0,c1,c2,c3,c4,c5,c6,c7,c8⟩:=A0.o.cells;rw[SP.o,<-HN.o] at c5;by_cases f8:a<n
  ·have g1:(a:Int)<n:=(by omega);have N:a<I.np:=(by rw[<-HN.o];exact f8);obtain⟨bl,o,g6,e9,g0,e6⟩:=A0.o.ew a N;rw[SP.o] at e9;injection e9 with e1 e2 e3
   subst e1;obtain⟨kd,od,cc,ll,y1,y2,y3,y4,-⟩:=HS.o.pg a N;have K:(I.pg a).kd=0\/(I.pg a).kd=1\/(I.pg a).kd=2\/(I.pg a).kd=3\/(I.pg a).kd=4:=(by omega);obtain⟨_,m,g7,b4⟩:=hR.o;obtain⟨m,rfl⟩:∃ m',m=m'+1:=⟨m-1,by omega⟩;have g9:=HS.o.k8;have f2:od<=8:=(by omega);have hP:=M.pow8 od f2;have FB:=aA (show hdOk (I.pg a) a=false->cE (a:Int)=EE from fun h=>by rw[HE.o,b4,DR N h];rfl);have FR:=aA (show ∀ j,hdOk (I.pg a) a=true->j<2 ^ od-1->(∀ x,x<j->rsOk (I.pg a) (I.pg (a+1+x))=true)->rsOk (I.pg a) (I.pg (a+1+j))=false->cE ((a+1+j:Nat):Int)=EE from fun j h1 T h3 h4=>by rw[HE.o,b4,GO N y3 h1 T h3 h4];rfl);have FO:=aA (show hdOk (I.pg a) a=true->(∀ x,x<2 ^ od-1->rsOk (I.pg a) (I.pg (a+1+x))=true)->∃ m',n-(a+2 ^ od)<m'/\r4 I=r4F I m' (a+2 ^ od)from fun h1 T=>⟨m,by omega,by rw[b4,r4F_ok N y3 h1 T]⟩);have b6:=aA (show a%2 ^ od=0->a+2 ^ od<=n from fun h=>by rw[HN.o];exact mul_fits (HS.o.dvd od y4) h N);have S:=aA (PbI.mk' (w:=w) A0.o hR.o.1 (I.pg a));obtain⟨d0,d1,d2,U,d4,d5,d6,d7,d8,d9,G⟩:=e6.c;generalize I.pg a=p at *;obtain⟨g4,g8,l,s,y,u,z,f,A,B,C⟩:=p;dsimp only at y1 y3 K d0 d1 d2 U d4 d5 d6 d7 d8 d9 G;clear y1 y2;subst y3;have e7:wrap64 ((1:Int)*2 ^ od)=((2 ^ od:Nat):Int):=by have e:((2:Int) ^ od)=((2 ^ od:Nat):Int):=(by simp);rw[e];unfold wrap64;omega
   have e8:((2:Int) ^ od)=((2 ^ od:Nat):Int):=(by simp);obtain⟨P,b5⟩:=xe (2 ^ od);have a2:=aA b5;rw[<-b5] at e7 e8 FR FO b6 hP;have f7:=hP.1;have g3:=hP.2;have f6:¬(P:Int)=0:=QA f7;have g5:((P:Int) == 0)=false:=(by rw[ag];exact f6);clear b5 g0 e6 e2 e3 b4 y4 hP;rcases K with K|K|K|K|K
   ·skip
    subst K;by_cases F:a%P=0
    case neg=>
     have X:=aA (show hdOk (⟨0,(od:Int),l,s,y,u,z,f,A,B,C⟩:Pg) a=false by simp[hdOk,<-a2.o,F]);have f1:((a:Int)%(P:Int) == 0)=false:=(by rw[ag];omega);clear F;go_wp2_with fail;generalize wr.alloc (aV (⟨0,(od:Int),l,s,y,u,z,f,A,B,C⟩:Pg))=W1 at *;generalize wr.heap.size=g at *;clear d0 d1 d2 U d4 d5 d6 d7 d8 d9 G c0 c1 c2 c3 c4 c5 c6 c7 c8;obtain⟨p0,p1,p2,p3,p4,p5,p6,p7,p8,Z,J⟩:=S.o.all;refine gO (by kernel_rfl) (by kernel_rfl) (by exact db _ _) ?_;dsimp only[List.dropLast,List.getLast];repeat (go_big_quiet_step (fail))
     refine wpQuiet_nil ?_;refine⟨rfl,?_⟩;rintro _ ⟨x,rfl⟩;exact gN (p:=(a:Int)) rfl rfl rfl fun _ hd=>⟨hd,FB.o X.o,nT S.o.k x.k⟩
    have f1:((a:Int)%(P:Int) == 0)=true:=(by rw[cu];omega);have HF:=aA (b6.o F);have D:=fun W=>tX 0 (od:Int) W
    dsimp only[aT] at D;have D:=aA D;have L:=fun W=>sW (⟨0,(od:Int),l,s,y,u,z,f,A,B,C⟩:Pg) (aT 0 (od:Int)) W
    cases hq:pgE (⟨0,(od:Int),l,s,y,u,z,f,A,B,C⟩:Pg) (aT 0 (od:Int))with
    | false=>
     have X:=aA (show hdOk (⟨0,(od:Int),l,s,y,u,z,f,A,B,C⟩:Pg) a=false by simp[hdOk,hq]);rw[hq] at L;dsimp only[aT] at L;clear F hq;go_wp2_with fail;generalize wr.alloc (aV (⟨0,(od:Int),l,s,y,u,z,f,A,B,C⟩:Pg))=W1 at *;generalize wr.heap.size=g at *;clear d0 d1 d2 U d4 d5 d6 d7 d8 d9 G c0 c1 c2 c3 c4 c5 c6 c7 c8;obtain⟨p0,p1,p2,p3,p4,p5,p6,p7,p8,Z,J⟩:=S.o.all;refine gO (by kernel_rfl) (by kernel_rfl) (by exact db _ _) ?_;dsimp only[List.dropLast,List.getLast];repeat (go_big_quiet_step (first|(go_at_call 189;exact Calls.ek (D.o _))))
     refine wpQuiet_nil ?_;refine⟨rfl,?_⟩;rintro _ ⟨x,rfl⟩;exact gN (p:=(a:Int)) rfl rfl rfl fun _ hd=>⟨hd,FB.o X.o,nT S.o.k x.k⟩
    | true=>
     have X:=aA (show hdOk (⟨0,(od:Int),l,s,y,u,z,f,A,B,C⟩:Pg) a=true by simp[hdOk,<-a2.o,F,hq]);rw[hq] at L;dsimp only[aT] at L;have Q:=aA (fun W=>dC (a:Int) W);clear F hq;go_wp2_with fail;generalize wr.alloc (aV (⟨0,(od:Int),l,s,y,u,z,f,A,B,C⟩:Pg))=W1 at *;generalize wr.heap.size=g at *;clear d0 d1 d2 U d4 d5 d6 d7 d8 d9 G c0 c1 c2 c3 c4 c5 c6 c7 c8;obtain⟨p0,p1,p2,p3,p4,p5,p6,p7,p8,Z,J⟩:=S.o.all;refine cR (by kernel_rfl) (by kernel_rfl) ?_;repeat (go_big_quiet_step (first|(go_at_call 189;exact Calls.ek (D.o _))|(go_at_call 185;exact Calls.ek ((Q.o _).mono fun _ _ ⟨h1,T⟩=>⟨h1,T▸Kt.refl _ _⟩))))
     refine wpQuiet_nil ?_;intro x;have a4:=aA (S.o.dk x.k);clear p0 p1 p2 p3 p4 p5 p6 p7 p8 Z J L D Q f1;generalize x.v=W2 at *;go_wp2_with fail;go_loopw [5] (fun i W=>∃ t:Nat,a+1<=t/\t<=a+P/\i=.int .i64 t/\Hd (PbI w W b g I V (⟨0,(od:Int),l,s,y,u,z,f,A,B,C⟩:Pg)/\∀ x,a+1+x<t->rsOk (⟨0,(od:Int),l,s,y,u,z,f,A,B,C⟩:Pg) (I.pg (a+1+x))=true)) (fun i _=>(a+P)-(intOf i).toNat)
     case atStart=>exact⟨a+1,aj _,by omega,by go_num,aA ⟨a4.o,fun x hx=>by omega⟩⟩
     case round=>
      clear a4 S;obtain⟨t,f5,f3,rfl,R⟩:=hrel;by_cases g2:t<a+P
      ·have b9:(t:Int)<a+(P:Int):=(by omega);have b8:t<I.np:=(by have:=HF.o;rw[HN.o] at this;omega);have e5:(t:Int)<n:=(by rw[HN.o];omega);have a7:=R.o.1.im.go SP.o t b8;obtain⟨c0,c1,c2,c3,c4,c5,c6,c7,c8⟩:=R.o.1.im.all;rw[SP.o,<-HN.o] at c5;obtain⟨p0,p1,p2,p3,p4,p5,p6,p7,p8,Z,J⟩:=R.o.1.all;have b7:=aA (show rsOk (⟨0,(od:Int),l,s,y,u,z,f,A,B,C⟩:Pg) (I.pg t)=false->cE (t:Int)=EE from fun h=>by
        have:=FR.o (t-(a+1)) X.o (by omega) (fun x hx=>R.o.2 x (by omega)) (by rw[show a+1+(t-(a+1))=t by omega];exact h);rwa [show a+1+(t-(a+1))=t by omega] at this)
       have c9:=aA (show rsOk (⟨0,(od:Int),l,s,y,u,z,f,A,B,C⟩:Pg) (I.pg t)=true->∀ x,a+1+x<t+1->rsOk (⟨0,(od:Int),l,s,y,u,z,f,A,B,C⟩:Pg) (I.pg (a+1+x))=true from fun h x hx=>by
        by_cases e:a+1+x=t;·rw[e];exact h
        ·exact R.o.2 x (by omega))
       generalize I.pg t=q at *;obtain⟨b2,a3,a9,a5,a0,a1,b3,b1,b0,a6,a8⟩:=q;obtain⟨d0,d1,d2,U,d4,d5,d6,d7,d8,d9,G⟩:=iN a7;dsimp only at d0 d1 d2 U d4 d5 d6 d7 d8 d9 G p0 p1 p2 p3 p4 p5 p6 p7 p8 Z J;clear a7;have D:=fun W=>tX 1 (od:Int) W
       dsimp only[aT] at D;have D:=aA D;have L:=fun W=>sW (⟨b2,a3,a9,a5,a0,a1,b3,b1,b0,a6,a8⟩:Pg) (aT 1 (od:Int)) W
       cases hq:pgE (⟨b2,a3,a9,a5,a0,a1,b3,b1,b0,a6,a8⟩:Pg) (aT 1 (od:Int))with
       | false=>
        have Y:=aA (b7.o (by simp only[rsOk];exact hq));rw[hq] at L;dsimp only[aT] at L;clear hq;go_wp2_with fail;refine gO (by kernel_rfl) (by kernel_rfl) (by exact db _ _) ?_;dsimp only[List.dropLast,List.getLast];repeat (go_big_quiet_step (first|(go_at_call 189;exact Calls.ek (D.o _))))
        refine wpQuiet_nil ?_;refine⟨rfl,?_⟩;rintro _ ⟨x,rfl⟩;exact gN (p:=(t:Int)) rfl rfl rfl fun _ hd=>⟨hd,Y.o,nT R.o.1.k x.k⟩
       | true=>
        have Y:=aA (c9.o (by simp only[rsOk];exact hq));rw[hq] at L;dsimp only[aT] at L;have Q:=aA (fun W=>dC (t:Int) W);clear hq;go_wp2_with fail;refine cR (by kernel_rfl) (by kernel_rfl) ?_;repeat (go_big_quiet_step (first|(go_at_call 189;exact Calls.ek (D.o _))|(go_at_call 185;exact Calls.ek ((Q.o _).mono fun _ _ ⟨h1,T⟩=>⟨h1,T▸Kt.refl _ _⟩))))
        refine wpQuiet_nil ?_;intro x;have T2:=aA (show PbI w x.v b g I V (⟨0,(od:Int),l,s,y,u,z,f,A,B,C⟩:Pg)/\_ from⟨R.o.1.dk x.k,Y.o⟩);clear p0 p1 p2 p3 p4 p5 p6 p7 p8 Z J d0 d1 d2 U d4 d5 d6 d7 d8 d9 G L;go_wp2_with fail;go_round
        case rel=>exact⟨t+1,by omega,by omega,by go_num,T2⟩
        case measure=>simp[intOf];omega
      ·have b9:¬(t:Int)<a+(P:Int):=(by omega);have R2:=aA (show Kt nO w wr/\_ from⟨R.o.1.k,FO.o X.o (fun x hx=>R.o.2 x (by omega))⟩);have f4:=HF.o;go_wp2_with fail;go_round
       case rel=>exact⟨a+P,by omega,by go_num,R2⟩
       case measure=>simp[intOf];omega
   ·skip
    subst K;have X:=aA (show hdOk (⟨1,(od:Int),l,s,y,u,z,f,A,B,C⟩:Pg) a=false by simp[hdOk]);go_wp2_with fail;refine(dW _ _).mono ?_;rintro e w1 ⟨rfl,rfl⟩;exact⟨rfl,FB.o X.o,hR.o.1.alloc _⟩
   ·skip
    subst K;by_cases F:a%P=0
    case neg=>
     have X:=aA (show hdOk (⟨2,(od:Int),l,s,y,u,z,f,A,B,C⟩:Pg) a=false by simp[hdOk,<-a2.o,F]);have f1:((a:Int)%(P:Int) == 0)=false:=(by rw[ag];omega);clear F;go_wp2_with fail;generalize wr.alloc (aV (⟨2,(od:Int),l,s,y,u,z,f,A,B,C⟩:Pg))=W1 at *;generalize wr.heap.size=g at *;clear d0 d1 d2 U d4 d5 d6 d7 d8 d9 G c0 c1 c2 c3 c4 c5 c6 c7 c8;obtain⟨p0,p1,p2,p3,p4,p5,p6,p7,p8,Z,J⟩:=S.o.all;refine gO (by kernel_rfl) (by kernel_rfl) (by exact db _ _) ?_;dsimp only[List.dropLast,List.getLast];repeat (go_big_quiet_step (fail))
     refine wpQuiet_nil ?_;refine⟨rfl,?_⟩;rintro _ ⟨x,rfl⟩;exact gN (p:=(a:Int)) rfl rfl rfl fun _ hd=>⟨hd,FB.o X.o,nT S.o.k x.k⟩
    have f1:((a:Int)%(P:Int) == 0)=true:=(by rw[cu];omega);have HF:=aA (b6.o F);have D:=fun W=>tX 2 (od:Int) W
    dsimp only[aT] at D;have D:=aA D;have L:=fun W=>sW (⟨2,(od:Int),l,s,y,u,z,f,A,B,C⟩:Pg) (aT 2 (od:Int)) W
    cases hq:pgE (⟨2,(od:Int),l,s,y,u,z,f,A,B,C⟩:Pg) (aT 2 (od:Int))with
    | false=>
     have X:=aA (show hdOk (⟨2,(od:Int),l,s,y,u,z,f,A,B,C⟩:Pg) a=false by simp[hdOk,hq]);rw[hq] at L;dsimp only[aT] at L;clear F hq;go_wp2_with fail;generalize wr.alloc (aV (⟨2,(od:Int),l,s,y,u,z,f,A,B,C⟩:Pg))=W1 at *;generalize wr.heap.size=g at *;clear d0 d1 d2 U d4 d5 d6 d7 d8 d9 G c0 c1 c2 c3 c4 c5 c6 c7 c8;obtain⟨p0,p1,p2,p3,p4,p5,p6,p7,p8,Z,J⟩:=S.o.all;refine gO (by kernel_rfl) (by kernel_rfl) (by exact db _ _) ?_;dsimp only[List.dropLast,List.getLast];repeat (go_big_quiet_step (first|(go_at_call 189;exact Calls.ek (D.o _))))
     refine wpQuiet_nil ?_;refine⟨rfl,?_⟩;rintro _ ⟨x,rfl⟩;exact gN (p:=(a:Int)) rfl rfl rfl fun _ hd=>⟨hd,FB.o X.o,nT S.o.k x.k⟩
    | true=>
     have X:=aA (show hdOk (⟨2,(od:Int),l,s,y,u,z,f,A,B,C⟩:Pg) a=true by simp[hdOk,<-a2.o,F,hq]);rw[hq] at L;dsimp only[aT] at L;have Q:=aA (fun W=>dC (a:Int) W);clear F hq;go_wp2_with fail;generalize wr.alloc (aV (⟨2,(od:Int),l,s,y,u,z,f,A,B,C⟩:Pg))=W1 at *;generalize wr.heap.size=g at *;clear d0 d1 d2 U d4 d5 d6 d7 d8 d9 G c0 c1 c2 c3 c4 c5 c6 c7 c8;obtain⟨p0,p1,p2,p3,p4,p5,p6,p7,p8,Z,J⟩:=S.o.all;refine cR (by kernel_rfl) (by kernel_rfl) ?_;repeat (go_big_quiet_step (first|(go_at_call 189;exact Calls.ek (D.o _))|(go_at_call 185;exact Calls.ek ((Q.o _).mono fun _ _ ⟨h1,T⟩=>⟨h1,T▸Kt.refl _ _⟩))))
     refine wpQuiet_nil ?_;intro x;have a4:=aA (S.o.dk x.k);clear p0 p1 p2 p3 p4 p5 p6 p7 p8 Z J L D Q f1;generalize x.v=W2 at *;go_wp2_with fail;go_loopw [5] (fun i W=>∃ t:Nat,a+1<=t/\t<=a+P/\i=.int .i64 t/\Hd (PbI w W b g I V (⟨2,(od:Int),l,s,y,u,z,f,A,B,C⟩:Pg)/\∀ x,a+1+x<t->rsOk (⟨2,(od:Int),l,s,y,u,z,f,A,B,C⟩:Pg) (I.pg (a+1+x))=true)) (fun i _=>(a+P)-(intOf i).toNat)
     case atStart=>exact⟨a+1,aj _,by omega,by go_num,aA ⟨a4.o,fun x hx=>by omega⟩⟩
     case round=>
      clear a4 S;obtain⟨t,f5,f3,rfl,R⟩:=hrel;by_cases g2:t<a+P
      ·have b9:(t:Int)<a+(P:Int):=(by omega);have b8:t<I.np:=(by have:=HF.o;rw[HN.o] at this;omega);have e5:(t:Int)<n:=(by rw[HN.o];omega);have a7:=R.o.1.im.go SP.o t b8;obtain⟨c0,c1,c2,c3,c4,c5,c6,c7,c8⟩:=R.o.1.im.all;rw[SP.o,<-HN.o] at c5;obtain⟨p0,p1,p2,p3,p4,p5,p6,p7,p8,Z,J⟩:=R.o.1.all;have b7:=aA (show rsOk (⟨2,(od:Int),l,s,y,u,z,f,A,B,C⟩:Pg) (I.pg t)=false->cE (t:Int)=EE from fun h=>by
        have:=FR.o (t-(a+1)) X.o (by omega) (fun x hx=>R.o.2 x (by omega)) (by rw[show a+1+(t-(a+1))=t by omega];exact h);rwa [show a+1+(t-(a+1))=t by omega] at this)
       have c9:=aA (show rsOk (⟨2,(od:Int),l,s,y,u,z,f,A,B,C⟩:Pg) (I.pg t)=true->∀ x,a+1+x<t+1->rsOk (⟨2,(od:Int),l,s,y,u,z,f,A,B,C⟩:Pg) (I.pg (a+1+x))=true from fun h x hx=>by
        by_cases e:a+1+x=t;·rw[e];exact h
        ·exact R.o.2 x (by omega))
       generalize I.pg t=q at *;obtain⟨b2,a3,a9,a5,a0,a1,b3,b1,b0,a6,a8⟩:=q;obtain⟨d0,d1,d2,U,d4,d5,d6,d7,d8,d9,G⟩:=iN a7;dsimp only at d0 d1 d2 U d4 d5 d6 d7 d8 d9 G p0 p1 p2 p3 p4 p5 p6 p7 p8 Z J;clear a7;have D:=fun W=>tX 3 (od:Int) W
       dsimp only[aT] at D;have D:=aA D;have L:=fun W=>sW (⟨b2,a3,a9,a5,a0,a1,b3,b1,b0,a6,a8⟩:Pg) (aT 3 (od:Int)) W
       cases hq:pgE (⟨b2,a3,a9,a5,a0,a1,b3,b1,b0,a6,a8⟩:Pg) (aT 3 (od:Int))with
       | false=>
        have Y:=aA (b7.o (by simp only[rsOk];exact hq));rw[hq] at L;dsimp only[aT] at L;clear hq;go_wp2_with fail;refine gO (by kernel_rfl) (by kernel_rfl) (by exact db _ _) ?_;dsimp only[List.dropLast,List.getLast];repeat (go_big_quiet_step (first|(go_at_call 189;exact Calls.ek (D.o _))))
        refine wpQuiet_nil ?_;refine⟨rfl,?_⟩;rintro _ ⟨x,rfl⟩;exact gN (p:=(t:Int)) rfl rfl rfl fun _ hd=>⟨hd,Y.o,nT R.o.1.k x.k⟩
       | true=>
        have Y:=aA (c9.o (by simp only[rsOk];exact hq));rw[hq] at L;dsimp only[aT] at L;have Q:=aA (fun W=>dC (t:Int) W);clear hq;go_wp2_with fail;refine cR (by kernel_rfl) (by kernel_rfl) ?_;repeat (go_big_quiet_step (first|(go_at_call 189;exact Calls.ek (D.o _))|(go_at_call 185;exact Calls.ek ((Q.o _).mono fun _ _ ⟨h1,T⟩=>⟨h1,T▸Kt.refl _ _⟩))))
        refine wpQuiet_nil ?_;intro x;have T2:=aA (show PbI w x.v b g I V (⟨2,(od:Int),l,s,y,u,z,f,A,B,C⟩:Pg)/\_ from⟨R.o.1.dk x.k,Y.o⟩);clear p0 p1 p2 p3 p4 p5 p6 p7 p8 Z J d0 d1 d2 U d4 d5 d6 d7 d8 d9 G L;go_wp2_with fail;go_round
        case rel=>exact⟨t+1,by omega,by omega,by go_num,T2⟩
        case measure=>simp[intOf];omega
      ·have b9:¬(t:Int)<a+(P:Int):=(by omega);have R2:=aA (show Kt nO w wr/\_ from⟨R.o.1.k,FO.o X.o (fun x hx=>R.o.2 x (by omega))⟩);have f4:=HF.o;go_wp2_with fail;go_round
       case rel=>exact⟨a+P,by omega,by go_num,R2⟩
       case measure=>simp[intOf];omega
   ·skip
    subst K;have X:=aA (show hdOk (⟨3,(od:Int),l,s,y,u,z,f,A,B,C⟩:Pg) a=false by simp[hdOk]);go_wp2_with fail;refine(dW _ _).mono ?_;rintro e w1 ⟨rfl,rfl⟩;exact⟨rfl,FB.o X.o,hR.o.1.alloc _⟩
   ·skip
    subst K;by_cases h0:od=0
    case neg=>have X:=aA (show hdOk (⟨4,(od:Int),l,s,y,u,z,f,A,B,C⟩:Pg) a=false by simp[hdOk,h0]);have f0:((od:Int) == 0)=false:=(by rw[ag];omega);clear h0;go_wp2_with fail;refine(dW _ _).mono ?_;rintro e w1 ⟨rfl,rfl⟩;exact⟨rfl,FB.o X.o,hR.o.1.alloc _⟩
    have X:=aA (show hdOk (⟨4,(od:Int),l,s,y,u,z,f,A,B,C⟩:Pg) a=true by simp[hdOk,h0]);have f0:((od:Int) == 0)=true:=(by rw[cu];omega);have e0:=aA (show P=1 by rw[a2.o,h0]);have R2:=aA (show Kt nO w (wr.alloc (aV (⟨4,(od:Int),l,s,y,u,z,f,A,B,C⟩:Pg)))/\_ from⟨hR.o.1.alloc _,FO.o X.o (fun x hx=>by have:=e0.o;omega)⟩);clear h0;go_wp2_with fail;refine(dC _ _).mono ?_;rintro e w1 ⟨rfl,rfl⟩;go_wp2_with fail;go_round
    case rel=>exact⟨a+P,by have:=e0.o;omega,by go_num,R2⟩
    case measure=>have:=e0.o;simp[intOf];omega
  ·obtain rfl:a=n:=(by omega);have g1:¬(a:Int)<a:=(by omega);have E:=aA (show Ending.returned (.tuple #[])=EE by
    obtain⟨_,m,h1,T⟩:=hR.o;obtain⟨m,rfl⟩:∃ m',m=m'+1:=⟨m-1,by omega⟩;rw[HE.o,T,HN.o,r4F_end];rfl)
   go_wp2_with fail;first|go_end0|go_ret
   exact⟨E.o,hR.o.1⟩
end W
end Go.Proofs.YtfmgnljlkdmndaaGreatDoor
