import Derived.Test.YtkfmheelhinjdaaGreatDoorWh
import Derived.Test.YtkfmheelhinjdaaGreatDoorWn
set_option maxRecDepth 1000000
set_option maxHeartbeats 80000000
namespace Go.Proofs.YtkfmheelhinjdaaGreatDoor.W
open Tryz
open Go.RowKit
set_option linter.unusedVariables false
set_option maxHeartbeats 8000000
set_option maxRecDepth 6000
theorem sF{α : Type}[DecidableEq α]{dec : α->Option Nat}{nil : α}{nxt bk:Nat->α}{S:Nat->Bool}{p b : α} : refL dec nil nxt bk S 0 p b=decide (p=nil):=rfl
theorem vE{α : Type}[DecidableEq α]{dec : α->Option Nat}{nil : α}{nxt bk:Nat->α}{S:Nat->Bool}{n:Nat}{p b : α}(h:dec p=none):refL dec nil nxt bk S (n+1) p b=false:=by rw[refL,h]
theorem DH{α : Type}[DecidableEq α]{dec : α->Option Nat}{nil : α}{nxt bk:Nat->α}{S:Nat->Bool}{n i:Nat}{p b : α}(h:dec p=some i):refL dec nil nxt bk S (n+1) p b=(S i && (decide (bk i=b) && refL dec nil nxt bk S n (nxt i) p)):=by rw[refL,h]
theorem JU(I:Img)(V:ImV)(k r:Nat)(hS:Sn9 I k r)(w:World)(hI:ImD w I V):
  Calls prog 107 #[imA I V] w fun e w'=>e=.returned (.int .i64 (dY (fst1 (k+1) (ok8 I))))/\Kt nO w w':=by
 obtain⟨⟨ma,mc,hm⟩,⟨pa,pc,hp⟩,⟨ra,rc,hr⟩,⟨ha,hc,hh⟩,⟨ta,tc,ht⟩,-⟩:=hI.sl;obtain⟨vm,vp,vr,vh,vt⟩:=V;dsimp only at hm hp hr hh ht;subst hm hp hr hh ht;have IM0:=aA (show ImAt (w.alloc (aE I _)) w.heap.size I _ from⟨nH _ _,hI.keep ((Kt.refl _ w).alloc _)⟩);have K0:=aA (show Kt nO w (w.alloc (aE I _))from(Kt.refl _ w).alloc (aE I ⟨.slice ma I.nm mc,.slice pa I.np pc,.slice ra I.no rc,.slice ha I.hd.length hc,.slice ta I.pt.length tc⟩));obtain⟨c0,c1,c2,c3,c4,c5,c6,c7,c8⟩:=IM0.out.cells;have HNP:=aA hS.np1;have HK8:=aA hS.k8;have HO:=aA hS.ord;have HHL:=aA hS.hl;have HNM:=aA hS.nm;have HB0:=aA hS.b0;have HBE:=aA hS.be;have HS:=aA hS;obtain⟨rr,hrr⟩:=xe (dY (fst1 (k+1) (ok8 I)));rw[<-hrr];have BAD:=aA (show ∀ a,a<k+1->(∀ j,j<a->ok8 I j=true)->ok8 I a=false->rr=(a:Int)from fun a h1 h2 h3=>by rw[hrr,fG h1 h2 h3];rfl);have GOOD:=aA (show(∀ j,j<k+1->ok8 I j=true)->rr = -1 from fun h=>by rw[hrr,fst1_ok h];rfl);have OP:=aA (fun g o hg W hI=>tA I ⟨.slice ma I.nm mc,.slice pa I.np pc,.slice ra I.no rc,.slice ha I.hd.length hc,.slice ta I.pt.length tc⟩ g o hg W hI);have NU:=aA (fun p W hI=>UF I ⟨.slice ma I.nm mc,.slice pa I.np pc,.slice ra I.no rc,.slice ha I.hd.length hc,.slice ta I.pt.length tc⟩ k r hS p W hI);have WD:=aA (fun q hq W hI=>wQ I ⟨.slice ma I.nm mc,.slice pa I.np pc,.slice ra I.no rc,.slice ha I.hd.length hc,.slice ta I.pt.length tc⟩ q hq (by have:=hS.nm;have:=hS.np1;omega) W hI);have WLT:=aA (fun q hq=>word_lt hI q hq);clear hI hrr hS;go_enter func107,ntmps107;go_wp2_with fail;clear c0 c1 c2 c3 c4 c5 c6 c7 c8;generalize w.heap.size=ib at *;generalize w.alloc (aE I ⟨.slice ma I.nm mc,.slice pa I.np pc,.slice ra I.no rc,.slice ha I.hd.length hc,.slice ta I.pt.length tc⟩)=W0 at *;go_loopw [3] (fun iv W=>∃ a:Nat,a<=k+1/\iv=.int .i64 a/\Hid (Kt nO W0 W/\∀ j,j<a->ok8 I j=true)) (fun iv _=>k+1-(intOf iv).toNat)
 case atStart=>exact⟨0,Nat.zero_le _,rfl,aA ⟨Kt.refl _ _,fun j hj=>by omega⟩⟩
 case round=>
  obtain⟨a,ha',rfl,hG⟩:=hrel;have IMa:=aA (IM0.out.keep hG.out.1);obtain⟨c0,c1,c2,c3,c4,c5,c6,c7,c8⟩:=IMa.out.cells;dsimp only at c5 c7;by_cases hlt:a<k+1
  ·have hai:(a:Int)<=I.ord:=(by rw[HO.out];omega);have HLT:=aA hlt;have BADA:=aA (BAD.out a hlt hG.out.2);have NEXT:=aA (show ok8 I a=true->∀ j,j<a+1->ok8 I j=true from fun eo j hj=>by
    by_cases e:j=a
    ·rw[e];exact eo
    ·exact hG.out.2 j (by omega))
   have KG:=aA hG.out.1;have OKA:=aA (ok8_eq HS.out a);obtain⟨S,hSS⟩:=xe (fun i=>isF (I.pg i) (a:Int));have SE:=aA (show ∀ i,S i=isF (I.pg i) (a:Int)from fun i=>by rw[hSS]);have LEN:=aA (show(pgL I fun p=>isF p (a:Int)).length=aF S I.np by rw[yR,hSS]);rw[LEN.out,<-hSS] at OKA;have OPa:=aA (show ∀ g,g<I.np->∀ W,ImD W I ⟨.slice ma I.nm mc,.slice pa I.np pc,.slice ra I.no rc,.slice ha I.hd.length hc,.slice ta I.pt.length tc⟩->Calls prog 147 #[imA I ⟨.slice ma I.nm mc,.slice pa I.np pc,.slice ra I.no rc,.slice ha I.hd.length hc,.slice ta I.pt.length tc⟩,.int .i64 g,.int .i64 a] W fun e w'=>e=.returned (.bool (S g))/\Kt nO W w' from fun g hg W hW=>by rw[SE.out];exact OP.out g (a:Int) hg W hW);have HW:=aA (show wrap64 ((a:Int)+1)=((a+1:Nat):Int)by have:=HK8.out;rw[wrap64];omega);obtain⟨h0,hh0⟩:∃ h,h=I.hd.getD a 0:=⟨_,rfl⟩;have hHD:=IMa.out.d.hds;obtain⟨_,oa,oc,hv,hr3⟩:=hHD;rcases hr3 with hr3|⟨bl,o,rfl,hbl,hcc⟩
   ·have:=HHL.out;omega
   obtain⟨hx1,hx2⟩:=hcc a (by have:=HHL.out;omega);rw[<-hh0] at hx1 hx2 OKA;injection hv with e1 e2 e3
   subst e1;clear e2 e3 hcc hbl;have HX1:=aA hx1;have HX2:=aA hx2;clear hSS hlt ha' hG hh0 hx1 hx2;go_wp2_with fail;clear c0 c1 c2 c3 c4 c5 c6 c7 c8;obtain⟨wq,hwq⟩:∃ W,W=wr:=⟨_,rfl⟩;rw[<-hwq] at KG IMa HX2;rw[<-hwq];clear hwq;go_loopw [4,5] (fun nv iv W=>∃ j:Nat,j<=I.np/\iv=.int .i64 j/\nv=.int .i64 (aF S j:Int)/\Hid (Kt nO wq W)) (fun _ iv _=>I.np-(intOf iv).toNat)
   case atStart=>exact⟨0,Nat.zero_le _,rfl,rfl,aA (Kt.refl _ _)⟩
   case round=>
    obtain⟨j,hj,rfl,rfl,hJ⟩:=hrel;have IMb:=aA (IMa.out.keep hJ.out);obtain⟨c0,c1,c2,c3,c4,c5,c6,c7,c8⟩:=IMb.out.cells;dsimp only at c5 c7;obtain⟨C,hC⟩:=xe (aF S j);have hCm:C<=1024:=(by rw[hC];exact Nat.le_trans (rK _ _) (Nat.le_trans hj HNP.out));have HCE:=aA hC;rw[<-hC];clear hC;by_cases hjk:j<I.np
    ·have hji:(j:Int)<I.np:=(by omega);have HJK:=aA hjk;have HW2:=aA (show wrap64 ((j:Int)+1)=((j+1:Nat):Int)by have:=HNP.out;rw[wrap64];omega);have HC1:=aA hCm;have HW3:=aA (show wrap64 ((C:Int)+1)=((C+1:Nat):Int)by rw[wrap64];omega);have KJ:=aA hJ.out;obtain⟨b,hb⟩:=xe (S j);have HB:=aA hb;have OPj:=aA (fun W hW=>OPa.out j hjk W hW);rw[<-hb] at OPj;clear hjk hj hJ hb;go_wp2_with fail;refine(OPj.out _ IMb.out.d).mono ?_;rintro e w1 ⟨rfl,k1⟩;have KJ1:=aA (nT KJ.out k1);clear k1 c0 c1 c2 c3 c4 c5 c6 c7 c8
     cases b with
     | false=>
      have C1:=aA (show aF S (j+1)=C by rw[kL _ _ HB.out.symm];exact HCE.out.symm);go_wp2_with fail;exact⟨⟨j+1,HJK.out,by first|go_num|rw[HW2.out],by rw[C1.out],KJ1⟩,by have:=HJK.out;have:=HNP.out;first|(simp[intOf];omega)|(rw[HW2.out];simp only[intOf,Int.toNat_natCast];omega)⟩
     | true=>
      have C1:=aA (show aF S (j+1)=C+1 by rw[lE _ _ HB.out.symm,HCE.out]);go_wp2_with fail;exact⟨⟨j+1,HJK.out,by first|go_num|rw[HW2.out],by rw[C1.out];first|go_num|rw[HW3.out],KJ1⟩,by have:=HJK.out;have:=HNP.out;first|(simp[intOf];omega)|(rw[HW2.out];simp only[intOf,Int.toNat_natCast];omega)⟩
    ·have hji:¬(j:Int)<I.np:=(by omega);have CN:=aA (show aF S I.np=C by rw[HCE.out,show j=I.np by omega]);rw[CN.out] at OKA;have KE:=aA (nT KG.out hJ.out);have hx2:=hJ.out.cell (fun x=>x) HX2.out;have HCM:=aA hCm;have hah:(a:Int)<I.hd.length:=(by have:=HHL.out;have:=HLT.out;omega);clear hjk hj HCE;go_wp2_with fail;clear c0 c1 c2 c3 c4 c5 c6 c7 c8 hx2 hah;obtain⟨wz,hwz⟩:∃ W,W=wr:=⟨_,rfl⟩;rw[<-hwz] at KE IMb;rw[<-hwz];clear hwz hJ;have Q0:=aA (show h0<18446744073709551616/\ok8 I a=refL (decP I) 0 (fun i=>M.word I.mem (4096*i)) (fun i=>M.word I.mem (4096*i+8)) S C h0 0 from⟨HX1.out,OKA.out⟩);go_loopw [6,7,8] (fun pv bv gv W=>∃ p b g d:Nat,g+d=C/\pv=.int .u64 p/\bv=.int .u64 b/\gv=.int .i64 g/\Hid (Kt nO wz W/\p<18446744073709551616/\ok8 I a=refL (decP I) 0 (fun i=>M.word I.mem (4096*i)) (fun i=>M.word I.mem (4096*i+8)) S d p b)) (fun _ _ gv _=>C-(intOf gv).toNat)
     case atStart=>exact⟨h0,0,0,C,by omega,rfl,rfl,rfl,aA ⟨Kt.refl _ _,Q0.out.1,Q0.out.2⟩⟩
     case round=>
      obtain⟨p,b,g,d,hgd,rfl,rfl,rfl,hL⟩:=hrel;have IMc:=aA (IMb.out.keep hL.out.1);have KL:=aA hL.out.1;have PL:=aA hL.out.2.1;have OKP:=aA hL.out.2.2;obtain⟨c0,c1,c2,c3,c4,c5,c6,c7,c8⟩:=IMc.out.cells;clear hL;by_cases hgc:g<C
      ·have hgi:(g:Int)<C:=(by omega);obtain⟨d,rfl⟩:∃ d',d=d'+1:=⟨d-1,by omega⟩;have HWG:=aA (show wrap64 ((g:Int)+1)=((g+1:Nat):Int)by have:=HCM.out;rw[wrap64];omega);have GD:=aA (show g+1+d=C/\g<C from⟨by omega,hgc⟩);have NUp:=aA (fun W hW=>NU.out p W hW);clear hgd hgc
       cases hdp:decP I p with
       | none=>
        rw[hdp] at NUp;have eo:ok8 I a=false:=OKP.out.trans (vE hdp);have er:=BADA.out eo;clear eo hdp;subst er;go_wp2_with fail;refine(NUp.out _ IMc.out.d).mono ?_;rintro e w1 ⟨rfl,k1⟩;have KE1:=aA (nT KE.out (nT KL.out k1));have q2:(gE none)<(0:Int):=(by decide);by_cases p0:p=0
        ·have q1:((p:Int) == 0)=true:=(by rw[beq_iff_eq];omega);clear k1 c0 c1 c2 c3 c4 c5 c6 c7 c8 p0;go_wp2_with fail;go_ret;exact⟨rfl,nT K0.out KE1.out⟩
        ·have q1:((p:Int) == 0)=false:=(by rw[beq_eq_false_iff_ne];omega);clear k1 c0 c1 c2 c3 c4 c5 c6 c7 c8 p0;go_wp2_with fail;go_ret;exact⟨rfl,nT K0.out KE1.out⟩
       | some i=>
        rw[hdp] at NUp;obtain⟨hi,hpe,hp0⟩:=pC HS.out hdp;rw[show gE (some i)=(i:Int)from rfl] at NUp;have NUq:=NUp;clear NUp;have q1:((p:Int) == 0)=false:=(by rw[beq_eq_false_iff_ne];omega);have q2:¬(i:Int)<0:=(by omega);have OKQ:=aA (OKP.out.trans (DH hdp));have OPi:=aA (fun W hW=>OPa.out i hi W hW);have WD1:=aA (fun W hW=>WD.out (4096*i+8) (by have:=HNM.out;omega) W hW);have WD2:=aA (fun W hW=>WD.out (4096*i) (by have:=HNM.out;omega) W hW);have WL2:=aA (WLT.out (4096*i) (by have:=HNM.out;omega));obtain⟨sb,hsb⟩:∃ b,b=S i:=⟨_,rfl⟩;rw[<-hsb] at OKQ OPi;obtain⟨x1,hx1⟩:∃ x,x=M.word I.mem (4096*i+8):=⟨_,rfl⟩;obtain⟨x2,hx2⟩:∃ x,x=M.word I.mem (4096*i):=⟨_,rfl⟩;have OKR:=aA (show ok8 I a=(sb && (decide (x1=b) && refL (decP I) 0 (fun i=>M.word I.mem (4096*i)) (fun i=>M.word I.mem (4096*i+8)) S d x2 p))from by rw[OKQ.out,hx1,hx2]);rw[<-hx1] at WD1;rw[<-hx2] at WD2 WL2;clear OKQ OKP;obtain⟨i4,hi4⟩:∃ x,x=4096*i:=⟨_,rfl⟩;rw[<-hi4] at WD1 WD2;obtain⟨i8,hi8⟩:∃ x,x=i4+8:=⟨_,rfl⟩;rw[<-hi8] at WD1;have s1:IntKind.u64.wrap (i:Int)=i:=(by have:=HNP.out;rw[wrap_u64];omega);have s2:IntKind.u64.wrap (i4:Int)=i4:=(by have:=HNP.out;rw[wrap_u64];omega);have s3 : 4096*(i:Int)=i4:=(by omega);have s4:IntKind.u64.wrap (i8:Int)=i8:=(by have:=HNP.out;rw[wrap_u64];omega);have s5:(i4:Int)+8=(i8:Int):=(by omega);clear hdp hpe hp0 hi hsb hx1 hx2 hi4 hi8;go_wp2_with fail;refine(NUq.out _ IMc.out.d).mono ?_;rintro e w1 ⟨rfl,k1⟩;have IMd:=aA (IMc.out.keep k1);have KL1:=aA (nT KL.out k1);clear k1 c0 c1 c2 c3 c4 c5 c6 c7 c8;obtain⟨c0,c1,c2,c3,c4,c5,c6,c7,c8⟩:=IMd.out.cells;go_wp2_with fail;refine(OPi.out _ IMd.out.d).mono ?_;rintro e w2 ⟨rfl,k2⟩;have IMe:=aA (IMd.out.keep k2);have KL2:=aA (nT KL1.out k2);clear k2 c0 c1 c2 c3 c4 c5 c6 c7 c8
        cases sb with
        | false=>
         have er:=BADA.out OKR.out;subst er;have KE2:=aA (nT KE.out KL2.out);go_wp2_with fail;go_ret;exact⟨rfl,nT K0.out KE2.out⟩
        | true=>
         obtain⟨c0,c1,c2,c3,c4,c5,c6,c7,c8⟩:=IMe.out.cells;go_wp2_with fail;refine(WD1.out _ IMe.out.d).mono ?_;rintro e w3 ⟨rfl,k3⟩;have IMf:=aA (IMe.out.keep k3);have KL3:=aA (nT KL2.out k3);clear k3 c0 c1 c2 c3 c4 c5 c6 c7 c8;by_cases h3:x1=b
         case neg=>
          have q3:((x1:Int) != (b:Int))=true:=(by rw[bne_iff_ne];omega);have er:=BADA.out (by rw[OKR.out,decide_eq_false h3];rfl);have KE3:=aA (nT KE.out KL3.out);clear h3;subst er;go_wp2_with fail;go_ret;exact⟨rfl,nT K0.out KE3.out⟩
         have q3:((x1:Int) != (b:Int))=false:=(by rw[bne_eq_false_iff_eq];omega);have OKS:=aA (OKR.out.trans (by rw[decide_eq_true h3,Bool.true_and,Bool.true_and]));clear h3;obtain⟨c0,c1,c2,c3,c4,c5,c6,c7,c8⟩:=IMf.out.cells;go_wp2_with fail;refine(WD2.out _ IMf.out.d).mono ?_;rintro e w4 ⟨rfl,k4⟩;have KL4:=aA (nT KL3.out k4);clear k4 c0 c1 c2 c3 c4 c5 c6 c7 c8;go_wp2_with fail;exact⟨⟨x2,p,g+1,d,GD.out.1,rfl,rfl,by first|go_num|rw[HWG.out],aA ⟨KL4.out,WL2.out,OKS.out⟩⟩,by have:=GD.out.2;have:=HCM.out;first|(simp[intOf];omega)|(rw[HWG.out];simp only[intOf,Int.toNat_natCast];omega)⟩
      ·have hgi:¬(g:Int)<C:=(by omega);obtain rfl:d=0:=(by omega);have KE3:=aA (nT KE.out KL.out);by_cases p0:p=0
       case neg=>
        have q1:((p:Int) != 0)=true:=(by rw[bne_iff_ne];omega);have er:=BADA.out (by rw[OKP.out,sF,decide_eq_false p0]);clear p0 hgd hgc;subst er;go_wp2_with fail;go_ret;exact⟨rfl,nT K0.out KE3.out⟩
       have q1:((p:Int) != 0)=false:=(by rw[bne_eq_false_iff_eq];omega);have EO:=aA (NEXT.out (by rw[OKP.out,sF,decide_eq_true p0]));clear p0 hgd hgc;go_wp2_with fail;go_round
       case rel=>exact⟨a+1,HLT.out,by first|go_num|rw[HW.out],aA ⟨KE3.out,EO.out⟩⟩
       case measure=>have:=HLT.out;have:=HK8.out;first|(simp[intOf];omega)|(rw[HW.out];simp only[intOf,Int.toNat_natCast];omega)
  ·have hai:¬(a:Int)<=I.ord:=(by rw[HO.out];omega);have er:=GOOD.out (fun j hj=>hG.out.2 j (by omega));subst er;go_wp2_with fail;go_ret;exact⟨rfl,nT K0.out hG.out.1⟩
end Go.Proofs.YtkfmheelhinjdaaGreatDoor.W
