import Derived.Test.YtkfmheelhinjdaaGreatDoorXs
set_option maxRecDepth 1000000
set_option maxHeartbeats 80000000
namespace Go.Proofs.YtkfmheelhinjdaaGreatDoor.W
open _root_.Go.Proofs.Tryz
open Go.RowKit
set_option linter.unusedVariables false
theorem zeE(b:Nat)(I:Img)(V:ImV)(k r:Nat)(hS:Sn9 I k r)(w:World)(hI:ImAt w b I V):
  Calls prog 168 #[.pointer (some ⟨b,0,none⟩)] w fun e w'=>e=bB (r4 I)/\Kt nO w w':=by
 obtain⟨-,⟨pa,pc,hp⟩,-,-,-,-,bp,-,-⟩:=hI.d.sl;obtain⟨EE,hEE⟩:=xe (bB (r4 I));rw[<-hEE];have HE:=aA hEE;have HI:=aA hI;have HS:=aA hS;have SP:=aA hp;have hnp:=hS.np1;obtain⟨n,hn⟩:=xe (I.np);rw[<-hn] at hnp;have HN:=aA hn;clear hEE hI hp hS hn bp;go_enter func168,ntmps168;go_wp2_with fail;go_loopw [2] (fun i W=>∃ a:Nat,a<=n/\i=.int .i64 a/\Hid (Kt nO w W/\∃ m,n-a<m/\r4 I=r4F I m a)) (fun i _=>n-(intOf i).toNat)
 case atStart=>exact⟨0,Nat.zero_le _,rfl,aA ⟨Kt.refl _ _,I.np+1,by rw[HN.out];omega,rfl⟩⟩
 case round=>
  obtain⟨a,ha,rfl,hR⟩:=hrel;have A0:=aA (HI.out.keep hR.out.1);obtain⟨c0,c1,c2,c3,c4,c5,c6,c7,c8⟩:=A0.out.cells;rw[SP.out,<-HN.out] at c5;by_cases hlt:a<n
  ·have hai:(a:Int)<n:=(by omega);have hlt':a<I.np:=(by rw[<-HN.out];exact hlt);obtain⟨bl,o,oc',hv',hpi,hpc⟩:=A0.out.page a hlt';rw[SP.out] at hv';injection hv' with e1 e2 e3
   subst e1;obtain⟨kd,od,cc,ll,y1,y2,y3,y4,-⟩:=HS.out.pg a hlt';have ykd:(I.pg a).kd=0\/(I.pg a).kd=1\/(I.pg a).kd=2\/(I.pg a).kd=3\/(I.pg a).kd=4:=(by omega);obtain⟨_,m,hm1,hm2⟩:=hR.out;obtain⟨m,rfl⟩:∃ m',m=m'+1:=⟨m-1,by omega⟩;have hk8:=HS.out.k8;have hod8:od<=8:=(by omega);have hP:=M.pow8 od hod8;have FB:=aA (show hdOk (I.pg a) a=false->bM (a:Int)=EE from fun h=>by rw[HE.out,hm2,MJ hlt' h];rfl);have FR:=aA (show ∀ j,hdOk (I.pg a) a=true->j<2 ^ od-1->(∀ x,x<j->rsOk (I.pg a) (I.pg (a+1+x))=true)->rsOk (I.pg a) (I.pg (a+1+j))=false->bM ((a+1+j:Nat):Int)=EE from fun j h1 h2 h3 h4=>by rw[HE.out,hm2,TZ hlt' y3 h1 h2 h3 h4];rfl);have FO:=aA (show hdOk (I.pg a) a=true->(∀ x,x<2 ^ od-1->rsOk (I.pg a) (I.pg (a+1+x))=true)->∃ m',n-(a+2 ^ od)<m'/\r4 I=r4F I m' (a+2 ^ od)from fun h1 h2=>⟨m,by omega,by rw[hm2,r4F_ok hlt' y3 h1 h2]⟩);have FIT:=aA (show a%2 ^ od=0->a+2 ^ od<=n from fun h=>by rw[HN.out];exact mul_fits (HS.out.dvd od y4) h hlt');have PB:=aA (PbI.mk' (w:=w) A0.out hR.out.1 (I.pg a));obtain⟨d0,d1,d2,d3,d4,d5,d6,d7,d8,d9,d10⟩:=hpc.c;generalize I.pg a=p at *;obtain⟨pkd,pod,pcl,plv,pnx,ppv,pfs,pb0,pb1,pb2,pb3⟩:=p;dsimp only at y1 y3 ykd d0 d1 d2 d3 d4 d5 d6 d7 d8 d9 d10;clear y1 y2;subst y3;have hsh1:wrap64 ((1:Int)*2 ^ od)=((2 ^ od:Nat):Int):=by
    have e:((2:Int) ^ od)=((2 ^ od:Nat):Int):=(by simp);rw[e];unfold wrap64;omega
   have hsh2:((2:Int) ^ od)=((2 ^ od:Nat):Int):=(by simp);obtain⟨P,hPP⟩:=xe (2 ^ od);have HPP:=aA hPP;rw[<-hPP] at hsh1 hsh2 FR FO FIT hP;have hP1:=hP.1;have hP2:=hP.2;have hP0:¬(P:Int)=0:=KC hP1;have hP3:((P:Int) == 0)=false:=(by rw[beq_eq_false_iff_ne];exact hP0);clear hPP hpi hpc e2 e3 hm2 y4 hP;rcases ykd with ykd|ykd|ykd|ykd|ykd
   ·skip
    subst ykd;by_cases hal:a%P=0
    case neg=>
     have X:=aA (show hdOk (⟨0,(od:Int),pcl,plv,pnx,ppv,pfs,pb0,pb1,pb2,pb3⟩:Pg) a=false by simp[hdOk,<-HPP.out,hal]);have f1:((a:Int)%(P:Int) == 0)=false:=(by rw[beq_eq_false_iff_ne];omega);clear hal;go_wp2_with fail;generalize wr.alloc (aV (⟨0,(od:Int),pcl,plv,pnx,ppv,pfs,pb0,pb1,pb2,pb3⟩:Pg))=W1 at *;generalize wr.heap.size=g at *;clear d0 d1 d2 d3 d4 d5 d6 d7 d8 d9 d10 c0 c1 c2 c3 c4 c5 c6 c7 c8;obtain⟨p0,p1,p2,p3,p4,p5,p6,p7,p8,p9,p10⟩:=PB.out.all;refine fX (by kernel_rfl) (by kernel_rfl) (by exact List.cons_ne_nil _ _) ?_;dsimp only[List.dropLast,List.getLast];repeat (go_big_quiet_step (fail))
     refine wpQuiet_nil ?_;refine⟨rfl,?_⟩;rintro _ ⟨x,rfl⟩;exact fW (p:=(a:Int)) rfl rfl rfl fun _ hd=>⟨hd,FB.out X.out,nT PB.out.k x.k⟩
    have f1:((a:Int)%(P:Int) == 0)=true:=(by rw[beq_iff_eq];omega);have HF:=aA (FIT.out hal);have HPL:=fun W=>rB 0 (od:Int) W
    dsimp only[aN] at HPL;have HPL:=aA HPL;have PE:=fun W=>qQ (⟨0,(od:Int),pcl,plv,pnx,ppv,pfs,pb0,pb1,pb2,pb3⟩:Pg) (aN 0 (od:Int)) W
    cases hq:pgE (⟨0,(od:Int),pcl,plv,pnx,ppv,pfs,pb0,pb1,pb2,pb3⟩:Pg) (aN 0 (od:Int))with
    | false=>
     have X:=aA (show hdOk (⟨0,(od:Int),pcl,plv,pnx,ppv,pfs,pb0,pb1,pb2,pb3⟩:Pg) a=false by simp[hdOk,hq]);rw[hq] at PE;dsimp only[aN] at PE;clear hal hq;go_wp2_with fail;generalize wr.alloc (aV (⟨0,(od:Int),pcl,plv,pnx,ppv,pfs,pb0,pb1,pb2,pb3⟩:Pg))=W1 at *;generalize wr.heap.size=g at *;clear d0 d1 d2 d3 d4 d5 d6 d7 d8 d9 d10 c0 c1 c2 c3 c4 c5 c6 c7 c8;obtain⟨p0,p1,p2,p3,p4,p5,p6,p7,p8,p9,p10⟩:=PB.out.all;refine fX (by kernel_rfl) (by kernel_rfl) (by exact List.cons_ne_nil _ _) ?_;dsimp only[List.dropLast,List.getLast];repeat (go_big_quiet_step (first|(go_at_call 216;exact Calls.kept_of (HPL.out _))))
     refine wpQuiet_nil ?_;refine⟨rfl,?_⟩;rintro _ ⟨x,rfl⟩;exact fW (p:=(a:Int)) rfl rfl rfl fun _ hd=>⟨hd,FB.out X.out,nT PB.out.k x.k⟩
    | true=>
     have X:=aA (show hdOk (⟨0,(od:Int),pcl,plv,pnx,ppv,pfs,pb0,pb1,pb2,pb3⟩:Pg) a=true by simp[hdOk,<-HPP.out,hal,hq]);rw[hq] at PE;dsimp only[aN] at PE;have HMY:=aA (fun W=>cH (a:Int) W);clear hal hq;go_wp2_with fail;generalize wr.alloc (aV (⟨0,(od:Int),pcl,plv,pnx,ppv,pfs,pb0,pb1,pb2,pb3⟩:Pg))=W1 at *;generalize wr.heap.size=g at *;clear d0 d1 d2 d3 d4 d5 d6 d7 d8 d9 d10 c0 c1 c2 c3 c4 c5 c6 c7 c8;obtain⟨p0,p1,p2,p3,p4,p5,p6,p7,p8,p9,p10⟩:=PB.out.all;refine cI (by kernel_rfl) (by kernel_rfl) ?_;repeat (go_big_quiet_step (first|(go_at_call 216;exact Calls.kept_of (HPL.out _))|(go_at_call 212;exact Calls.kept_of ((HMY.out _).mono fun _ _ ⟨h1,h2⟩=>⟨h1,h2▸Kt.refl _ _⟩))))
     refine wpQuiet_nil ?_;intro x;have PB1:=aA (PB.out.keep x.k);clear p0 p1 p2 p3 p4 p5 p6 p7 p8 p9 p10 PE HPL HMY f1;generalize x.v=W2 at *;go_wp2_with fail;go_loopw [5] (fun i W=>∃ t:Nat,a+1<=t/\t<=a+P/\i=.int .i64 t/\Hid (PbI w W b g I V (⟨0,(od:Int),pcl,plv,pnx,ppv,pfs,pb0,pb1,pb2,pb3⟩:Pg)/\∀ x,a+1+x<t->rsOk (⟨0,(od:Int),pcl,plv,pnx,ppv,pfs,pb0,pb1,pb2,pb3⟩:Pg) (I.pg (a+1+x))=true)) (fun i _=>(a+P)-(intOf i).toNat)
     case atStart=>exact⟨a+1,Nat.le_refl _,by omega,by go_num,aA ⟨PB1.out,fun x hx=>by omega⟩⟩
     case round=>
      clear PB1 PB;obtain⟨t,ht1,ht2,rfl,hT⟩:=hrel;by_cases htl:t<a+P
      ·have hti:(t:Int)<a+(P:Int):=(by omega);have htn:t<I.np:=(by have:=HF.out;rw[HN.out] at this;omega);have htn2:(t:Int)<n:=(by rw[HN.out];omega);have hq0:=hT.out.1.im.pageK SP.out t htn;obtain⟨c0,c1,c2,c3,c4,c5,c6,c7,c8⟩:=hT.out.1.im.all;rw[SP.out,<-HN.out] at c5;obtain⟨p0,p1,p2,p3,p4,p5,p6,p7,p8,p9,p10⟩:=hT.out.1.all;have FR2:=aA (show rsOk (⟨0,(od:Int),pcl,plv,pnx,ppv,pfs,pb0,pb1,pb2,pb3⟩:Pg) (I.pg t)=false->bM (t:Int)=EE from fun h=>by
        have:=FR.out (t-(a+1)) X.out (by omega) (fun x hx=>hT.out.2 x (by omega)) (by rw[show a+1+(t-(a+1))=t by omega];exact h);rwa [show a+1+(t-(a+1))=t by omega] at this)
       have FO2:=aA (show rsOk (⟨0,(od:Int),pcl,plv,pnx,ppv,pfs,pb0,pb1,pb2,pb3⟩:Pg) (I.pg t)=true->∀ x,a+1+x<t+1->rsOk (⟨0,(od:Int),pcl,plv,pnx,ppv,pfs,pb0,pb1,pb2,pb3⟩:Pg) (I.pg (a+1+x))=true from fun h x hx=>by
        by_cases e:a+1+x=t
        ·rw[e];exact h
        ·exact hT.out.2 x (by omega))
       generalize I.pg t=q at *;obtain⟨qkd,qod,qcl,qlv,qnx,qpv,qfs,qb0,qb1,qb2,qb3⟩:=q;obtain⟨d0,d1,d2,d3,d4,d5,d6,d7,d8,d9,d10⟩:=gV hq0;dsimp only at d0 d1 d2 d3 d4 d5 d6 d7 d8 d9 d10 p0 p1 p2 p3 p4 p5 p6 p7 p8 p9 p10;clear hq0;have HPL:=fun W=>rB 1 (od:Int) W
       dsimp only[aN] at HPL;have HPL:=aA HPL;have PE:=fun W=>qQ (⟨qkd,qod,qcl,qlv,qnx,qpv,qfs,qb0,qb1,qb2,qb3⟩:Pg) (aN 1 (od:Int)) W
       cases hq:pgE (⟨qkd,qod,qcl,qlv,qnx,qpv,qfs,qb0,qb1,qb2,qb3⟩:Pg) (aN 1 (od:Int))with
       | false=>
        have Y:=aA (FR2.out (by simp only[rsOk];exact hq));rw[hq] at PE;dsimp only[aN] at PE;clear hq;go_wp2_with fail;refine fX (by kernel_rfl) (by kernel_rfl) (by exact List.cons_ne_nil _ _) ?_;dsimp only[List.dropLast,List.getLast];repeat (go_big_quiet_step (first|(go_at_call 216;exact Calls.kept_of (HPL.out _))))
        refine wpQuiet_nil ?_;refine⟨rfl,?_⟩;rintro _ ⟨x,rfl⟩;exact fW (p:=(t:Int)) rfl rfl rfl fun _ hd=>⟨hd,Y.out,nT hT.out.1.k x.k⟩
       | true=>
        have Y:=aA (FO2.out (by simp only[rsOk];exact hq));rw[hq] at PE;dsimp only[aN] at PE;have HMY:=aA (fun W=>cH (t:Int) W);clear hq;go_wp2_with fail;refine cI (by kernel_rfl) (by kernel_rfl) ?_;repeat (go_big_quiet_step (first|(go_at_call 216;exact Calls.kept_of (HPL.out _))|(go_at_call 212;exact Calls.kept_of ((HMY.out _).mono fun _ _ ⟨h1,h2⟩=>⟨h1,h2▸Kt.refl _ _⟩))))
        refine wpQuiet_nil ?_;intro x;have T2:=aA (show PbI w x.v b g I V (⟨0,(od:Int),pcl,plv,pnx,ppv,pfs,pb0,pb1,pb2,pb3⟩:Pg)/\_ from⟨hT.out.1.keep x.k,Y.out⟩);clear p0 p1 p2 p3 p4 p5 p6 p7 p8 p9 p10 d0 d1 d2 d3 d4 d5 d6 d7 d8 d9 d10 PE;go_wp2_with fail;go_round
        case rel=>exact⟨t+1,by omega,by omega,by go_num,T2⟩
        case measure=>simp[intOf];omega
      ·have hti:¬(t:Int)<a+(P:Int):=(by omega);have R2:=aA (show Kt nO w wr/\_ from⟨hT.out.1.k,FO.out X.out (fun x hx=>hT.out.2 x (by omega))⟩);have HF2:=HF.out;go_wp2_with fail;go_round
       case rel=>exact⟨a+P,by omega,by go_num,R2⟩
       case measure=>simp[intOf];omega
   ·skip
    subst ykd;have X:=aA (show hdOk (⟨1,(od:Int),pcl,plv,pnx,ppv,pfs,pb0,pb1,pb2,pb3⟩:Pg) a=false by simp[hdOk]);go_wp2_with fail;refine(dD _ _).mono ?_;rintro e w1 ⟨rfl,rfl⟩;exact⟨rfl,FB.out X.out,hR.out.1.alloc _⟩
   ·skip
    subst ykd;by_cases hal:a%P=0
    case neg=>
     have X:=aA (show hdOk (⟨2,(od:Int),pcl,plv,pnx,ppv,pfs,pb0,pb1,pb2,pb3⟩:Pg) a=false by simp[hdOk,<-HPP.out,hal]);have f1:((a:Int)%(P:Int) == 0)=false:=(by rw[beq_eq_false_iff_ne];omega);clear hal;go_wp2_with fail;generalize wr.alloc (aV (⟨2,(od:Int),pcl,plv,pnx,ppv,pfs,pb0,pb1,pb2,pb3⟩:Pg))=W1 at *;generalize wr.heap.size=g at *;clear d0 d1 d2 d3 d4 d5 d6 d7 d8 d9 d10 c0 c1 c2 c3 c4 c5 c6 c7 c8;obtain⟨p0,p1,p2,p3,p4,p5,p6,p7,p8,p9,p10⟩:=PB.out.all;refine fX (by kernel_rfl) (by kernel_rfl) (by exact List.cons_ne_nil _ _) ?_;dsimp only[List.dropLast,List.getLast];repeat (go_big_quiet_step (fail))
     refine wpQuiet_nil ?_;refine⟨rfl,?_⟩;rintro _ ⟨x,rfl⟩;exact fW (p:=(a:Int)) rfl rfl rfl fun _ hd=>⟨hd,FB.out X.out,nT PB.out.k x.k⟩
    have f1:((a:Int)%(P:Int) == 0)=true:=(by rw[beq_iff_eq];omega);have HF:=aA (FIT.out hal);have HPL:=fun W=>rB 2 (od:Int) W
    dsimp only[aN] at HPL;have HPL:=aA HPL;have PE:=fun W=>qQ (⟨2,(od:Int),pcl,plv,pnx,ppv,pfs,pb0,pb1,pb2,pb3⟩:Pg) (aN 2 (od:Int)) W
    cases hq:pgE (⟨2,(od:Int),pcl,plv,pnx,ppv,pfs,pb0,pb1,pb2,pb3⟩:Pg) (aN 2 (od:Int))with
    | false=>
     have X:=aA (show hdOk (⟨2,(od:Int),pcl,plv,pnx,ppv,pfs,pb0,pb1,pb2,pb3⟩:Pg) a=false by simp[hdOk,hq]);rw[hq] at PE;dsimp only[aN] at PE;clear hal hq;go_wp2_with fail;generalize wr.alloc (aV (⟨2,(od:Int),pcl,plv,pnx,ppv,pfs,pb0,pb1,pb2,pb3⟩:Pg))=W1 at *;generalize wr.heap.size=g at *;clear d0 d1 d2 d3 d4 d5 d6 d7 d8 d9 d10 c0 c1 c2 c3 c4 c5 c6 c7 c8;obtain⟨p0,p1,p2,p3,p4,p5,p6,p7,p8,p9,p10⟩:=PB.out.all;refine fX (by kernel_rfl) (by kernel_rfl) (by exact List.cons_ne_nil _ _) ?_;dsimp only[List.dropLast,List.getLast];repeat (go_big_quiet_step (first|(go_at_call 216;exact Calls.kept_of (HPL.out _))))
     refine wpQuiet_nil ?_;refine⟨rfl,?_⟩;rintro _ ⟨x,rfl⟩;exact fW (p:=(a:Int)) rfl rfl rfl fun _ hd=>⟨hd,FB.out X.out,nT PB.out.k x.k⟩
    | true=>
     have X:=aA (show hdOk (⟨2,(od:Int),pcl,plv,pnx,ppv,pfs,pb0,pb1,pb2,pb3⟩:Pg) a=true by simp[hdOk,<-HPP.out,hal,hq]);rw[hq] at PE;dsimp only[aN] at PE;have HMY:=aA (fun W=>cH (a:Int) W);clear hal hq;go_wp2_with fail;generalize wr.alloc (aV (⟨2,(od:Int),pcl,plv,pnx,ppv,pfs,pb0,pb1,pb2,pb3⟩:Pg))=W1 at *;generalize wr.heap.size=g at *;clear d0 d1 d2 d3 d4 d5 d6 d7 d8 d9 d10 c0 c1 c2 c3 c4 c5 c6 c7 c8;obtain⟨p0,p1,p2,p3,p4,p5,p6,p7,p8,p9,p10⟩:=PB.out.all;refine cI (by kernel_rfl) (by kernel_rfl) ?_;repeat (go_big_quiet_step (first|(go_at_call 216;exact Calls.kept_of (HPL.out _))|(go_at_call 212;exact Calls.kept_of ((HMY.out _).mono fun _ _ ⟨h1,h2⟩=>⟨h1,h2▸Kt.refl _ _⟩))))
     refine wpQuiet_nil ?_;intro x;have PB1:=aA (PB.out.keep x.k);clear p0 p1 p2 p3 p4 p5 p6 p7 p8 p9 p10 PE HPL HMY f1;generalize x.v=W2 at *;go_wp2_with fail;go_loopw [5] (fun i W=>∃ t:Nat,a+1<=t/\t<=a+P/\i=.int .i64 t/\Hid (PbI w W b g I V (⟨2,(od:Int),pcl,plv,pnx,ppv,pfs,pb0,pb1,pb2,pb3⟩:Pg)/\∀ x,a+1+x<t->rsOk (⟨2,(od:Int),pcl,plv,pnx,ppv,pfs,pb0,pb1,pb2,pb3⟩:Pg) (I.pg (a+1+x))=true)) (fun i _=>(a+P)-(intOf i).toNat)
     case atStart=>exact⟨a+1,Nat.le_refl _,by omega,by go_num,aA ⟨PB1.out,fun x hx=>by omega⟩⟩
     case round=>
      clear PB1 PB;obtain⟨t,ht1,ht2,rfl,hT⟩:=hrel;by_cases htl:t<a+P
      ·have hti:(t:Int)<a+(P:Int):=(by omega);have htn:t<I.np:=(by have:=HF.out;rw[HN.out] at this;omega);have htn2:(t:Int)<n:=(by rw[HN.out];omega);have hq0:=hT.out.1.im.pageK SP.out t htn;obtain⟨c0,c1,c2,c3,c4,c5,c6,c7,c8⟩:=hT.out.1.im.all;rw[SP.out,<-HN.out] at c5;obtain⟨p0,p1,p2,p3,p4,p5,p6,p7,p8,p9,p10⟩:=hT.out.1.all;have FR2:=aA (show rsOk (⟨2,(od:Int),pcl,plv,pnx,ppv,pfs,pb0,pb1,pb2,pb3⟩:Pg) (I.pg t)=false->bM (t:Int)=EE from fun h=>by
        have:=FR.out (t-(a+1)) X.out (by omega) (fun x hx=>hT.out.2 x (by omega)) (by rw[show a+1+(t-(a+1))=t by omega];exact h);rwa [show a+1+(t-(a+1))=t by omega] at this)
       have FO2:=aA (show rsOk (⟨2,(od:Int),pcl,plv,pnx,ppv,pfs,pb0,pb1,pb2,pb3⟩:Pg) (I.pg t)=true->∀ x,a+1+x<t+1->rsOk (⟨2,(od:Int),pcl,plv,pnx,ppv,pfs,pb0,pb1,pb2,pb3⟩:Pg) (I.pg (a+1+x))=true from fun h x hx=>by
        by_cases e:a+1+x=t
        ·rw[e];exact h
        ·exact hT.out.2 x (by omega))
       generalize I.pg t=q at *;obtain⟨qkd,qod,qcl,qlv,qnx,qpv,qfs,qb0,qb1,qb2,qb3⟩:=q;obtain⟨d0,d1,d2,d3,d4,d5,d6,d7,d8,d9,d10⟩:=gV hq0;dsimp only at d0 d1 d2 d3 d4 d5 d6 d7 d8 d9 d10 p0 p1 p2 p3 p4 p5 p6 p7 p8 p9 p10;clear hq0;have HPL:=fun W=>rB 3 (od:Int) W
       dsimp only[aN] at HPL;have HPL:=aA HPL;have PE:=fun W=>qQ (⟨qkd,qod,qcl,qlv,qnx,qpv,qfs,qb0,qb1,qb2,qb3⟩:Pg) (aN 3 (od:Int)) W
       cases hq:pgE (⟨qkd,qod,qcl,qlv,qnx,qpv,qfs,qb0,qb1,qb2,qb3⟩:Pg) (aN 3 (od:Int))with
       | false=>
        have Y:=aA (FR2.out (by simp only[rsOk];exact hq));rw[hq] at PE;dsimp only[aN] at PE;clear hq;go_wp2_with fail;refine fX (by kernel_rfl) (by kernel_rfl) (by exact List.cons_ne_nil _ _) ?_;dsimp only[List.dropLast,List.getLast];repeat (go_big_quiet_step (first|(go_at_call 216;exact Calls.kept_of (HPL.out _))))
        refine wpQuiet_nil ?_;refine⟨rfl,?_⟩;rintro _ ⟨x,rfl⟩;exact fW (p:=(t:Int)) rfl rfl rfl fun _ hd=>⟨hd,Y.out,nT hT.out.1.k x.k⟩
       | true=>
        have Y:=aA (FO2.out (by simp only[rsOk];exact hq));rw[hq] at PE;dsimp only[aN] at PE;have HMY:=aA (fun W=>cH (t:Int) W);clear hq;go_wp2_with fail;refine cI (by kernel_rfl) (by kernel_rfl) ?_;repeat (go_big_quiet_step (first|(go_at_call 216;exact Calls.kept_of (HPL.out _))|(go_at_call 212;exact Calls.kept_of ((HMY.out _).mono fun _ _ ⟨h1,h2⟩=>⟨h1,h2▸Kt.refl _ _⟩))))
        refine wpQuiet_nil ?_;intro x;have T2:=aA (show PbI w x.v b g I V (⟨2,(od:Int),pcl,plv,pnx,ppv,pfs,pb0,pb1,pb2,pb3⟩:Pg)/\_ from⟨hT.out.1.keep x.k,Y.out⟩);clear p0 p1 p2 p3 p4 p5 p6 p7 p8 p9 p10 d0 d1 d2 d3 d4 d5 d6 d7 d8 d9 d10 PE;go_wp2_with fail;go_round
        case rel=>exact⟨t+1,by omega,by omega,by go_num,T2⟩
        case measure=>simp[intOf];omega
      ·have hti:¬(t:Int)<a+(P:Int):=(by omega);have R2:=aA (show Kt nO w wr/\_ from⟨hT.out.1.k,FO.out X.out (fun x hx=>hT.out.2 x (by omega))⟩);have HF2:=HF.out;go_wp2_with fail;go_round
       case rel=>exact⟨a+P,by omega,by go_num,R2⟩
       case measure=>simp[intOf];omega
   ·skip
    subst ykd;have X:=aA (show hdOk (⟨3,(od:Int),pcl,plv,pnx,ppv,pfs,pb0,pb1,pb2,pb3⟩:Pg) a=false by simp[hdOk]);go_wp2_with fail;refine(dD _ _).mono ?_;rintro e w1 ⟨rfl,rfl⟩;exact⟨rfl,FB.out X.out,hR.out.1.alloc _⟩
   ·skip
    subst ykd;by_cases h0:od=0
    case neg=>
     have X:=aA (show hdOk (⟨4,(od:Int),pcl,plv,pnx,ppv,pfs,pb0,pb1,pb2,pb3⟩:Pg) a=false by simp[hdOk,h0]);have f0:((od:Int) == 0)=false:=(by rw[beq_eq_false_iff_ne];omega);clear h0;go_wp2_with fail;refine(dD _ _).mono ?_;rintro e w1 ⟨rfl,rfl⟩;exact⟨rfl,FB.out X.out,hR.out.1.alloc _⟩
    have X:=aA (show hdOk (⟨4,(od:Int),pcl,plv,pnx,ppv,pfs,pb0,pb1,pb2,pb3⟩:Pg) a=true by simp[hdOk,h0]);have f0:((od:Int) == 0)=true:=(by rw[beq_iff_eq];omega);have HP1:=aA (show P=1 by rw[HPP.out,h0]);have R2:=aA (show Kt nO w (wr.alloc (aV (⟨4,(od:Int),pcl,plv,pnx,ppv,pfs,pb0,pb1,pb2,pb3⟩:Pg)))/\_ from⟨hR.out.1.alloc _,FO.out X.out (fun x hx=>by have:=HP1.out;omega)⟩);clear h0;go_wp2_with fail;refine(cH _ _).mono ?_;rintro e w1 ⟨rfl,rfl⟩;go_wp2_with fail;go_round
    case rel=>exact⟨a+P,by have:=HP1.out;omega,by go_num,R2⟩
    case measure=>have:=HP1.out;simp[intOf];omega
  ·obtain rfl:a=n:=(by omega);have hai:¬(a:Int)<a:=(by omega);have E:=aA (show Ending.returned (.tuple #[])=EE by
    obtain⟨_,m,h1,h2⟩:=hR.out;obtain⟨m,rfl⟩:∃ m',m=m'+1:=⟨m-1,by omega⟩;rw[HE.out,h2,HN.out,r4F_end];rfl)
   go_wp2_with fail;first|go_end0|go_ret
   exact⟨E.out,hR.out.1⟩
end Go.Proofs.YtkfmheelhinjdaaGreatDoor.W
