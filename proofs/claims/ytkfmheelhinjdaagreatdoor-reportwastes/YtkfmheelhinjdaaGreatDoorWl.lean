import Derived.Test.YtkfmheelhinjdaaGreatDoorWb
import Derived.Test.YtkfmheelhinjdaaGreatDoorWk
import Derived.Test.YtkfmheelhinjdaaGreatDoorWm
set_option maxRecDepth 1000000
set_option maxHeartbeats 80000000
namespace Go.Proofs.YtkfmheelhinjdaaGreatDoor.W
open _root_.Go.Proofs.Tryz
open Go.RowKit
set_option linter.unusedVariables false
set_option maxHeartbeats 8000000
set_option maxRecDepth 6000
theorem NA(I:Img)(V:ImV)(k r:Nat)(hS:Sn9 I k r)(w:World)(hI:ImD w I V):
  Calls prog 104 #[imA I V] w fun e w'=>e=.returned (.int .i64 (eB (fst1 I.np fun i=>ok5 (I.pg i))))/\Kt nO w w':=by
 obtain⟨⟨ma,mc,hm⟩,⟨pa,pc,hp⟩,⟨ra,rc,hr⟩,⟨ha,hc,hh⟩,⟨ta,tc,ht⟩,-⟩:=hI.sl;obtain⟨vm,vp,vr,vh,vt⟩:=V;dsimp only at hm hp hr hh ht;subst hm hp hr hh ht;have IM0:=aA (show ImAt (w.alloc (aE I _)) w.heap.size I _ from⟨nH _ _,hI.keep ((Kt.refl _ w).alloc _)⟩);have K0:=aA (show Kt nO w (w.alloc (aE I _))from(Kt.refl _ w).alloc (aE I ⟨.slice ma I.nm mc,.slice pa I.np pc,.slice ra I.no rc,.slice ha I.hd.length hc,.slice ta I.pt.length tc⟩));obtain⟨c0,c1,c2,c3,c4,c5,c6,c7,c8⟩:=IM0.out.cells;obtain⟨ok,hok⟩:=xe (fun i=>ok5 (I.pg i));rw[<-hok];have OKE:=aA (show ∀ i,ok i=ok5 (I.pg i)from fun i=>by rw[hok]);have HNP:=aA hS.np1;have HS:=aA hS;obtain⟨rr,hrr⟩:=xe (eB (fst1 I.np ok));rw[<-hrr];have BAD:=aA (show ∀ a,a<I.np->(∀ j,j<a->ok j=true)->ok a=false->rr=(a:Int)from fun a h1 h2 h3=>by rw[hrr,fK h1 h2 h3];rfl);have GOOD:=aA (show(∀ j,j<I.np->ok j=true)->rr = -1 from fun h=>by rw[hrr,fst1_ok h];rfl);clear hI hok hrr hS;go_enter func104,ntmps104;go_wp2_with fail;clear c0 c1 c2 c3 c4 c5 c6 c7 c8;generalize w.heap.size=ib at *;generalize w.alloc (aE I ⟨.slice ma I.nm mc,.slice pa I.np pc,.slice ra I.no rc,.slice ha I.hd.length hc,.slice ta I.pt.length tc⟩)=W0 at *;go_loopw [3] (fun iv W=>∃ a:Nat,a<=I.np/\iv=.int .i64 a/\Hid (Kt nO W0 W/\∀ j,j<a->ok j=true)) (fun iv _=>I.np-(intOf iv).toNat)
 case atStart=>exact⟨0,Nat.zero_le _,rfl,aA ⟨Kt.refl _ _,fun j hj=>by omega⟩⟩
 case round=>
  obtain⟨a,ha',rfl,hG⟩:=hrel;have IMa:=aA (IM0.out.keep hG.out.1);obtain⟨c0,c1,c2,c3,c4,c5,c6,c7,c8⟩:=IMa.out.cells;dsimp only at c5;by_cases hlt:a<I.np
  ·have hai:(a:Int)<I.np:=(by omega);obtain⟨bl,oo,oc,hv,hpi,hpc⟩:=IMa.out.page a hlt;injection hv with e1 e2 e3
   subst e1;clear e2 e3;obtain⟨d0,d1,d2,d3,d4,d5,d6,d7,d8,d9,d10⟩:=hpc.c;have OKA:=aA (OKE.out a);obtain⟨kd,od,cc,ll,-,-,-,-,y5,y6,-⟩:=HS.out.pg a hlt;have CE:=aA (fun W=>pQ (I.pg a) cc y5 y6 W);have HA9:=aA (fun c hc W=>nY (I.pg a) hpi c hc W);have OIF:=aA (fun h4=>ok5_iff (I.pg a) hpi cc y5 h4);have BADA:=aA (BAD.out a hlt hG.out.2);have NEXT:=aA (show ok a=true->∀ j,j<a+1->ok j=true from fun eo j hj=>by
    by_cases e:j=a
    ·rw[e];exact eo
    ·exact hG.out.2 j (by omega))
   have HLT:=aA hlt;have KG:=aA hG.out.1;obtain⟨B,hB⟩:=xe (aC (wsP (I.pg a)));have BE:=aA (show ∀ j,B j=aC (wsP (I.pg a)) j from fun j=>by rw[hB]);rw[<-hB] at OIF;have HA8:=aA (show ∀ c:Nat,c<256->∀ W,Calls prog 143 #[dV (I.pg a),.int .i64 c] W fun e w'=>e=.returned (.bool (B c))/\Kt nO W w' from fun c hc W=>by rw[BE.out];exact HA9.out c hc W);clear BE;clear HA9;generalize I.pg a=p at *;generalize celN9 cc=cn at *;clear hpc hpi hlt ha' hG hB y5 y6;go_upto_region 5 with fail;refine jQ (P:=fun W=>Code.wp prog _ _ _ W) _ ?_;intro W1 hW;have k1:Kt nO wr W1:=(by subst hW;exact(Kt.refl _ wr).alloc _);have X1:=aA (show W1.heap[wr.heap.size]?=some (aO p)by subst hW;exact nH _ _);have KE:=aA (nT KG.out k1);generalize wr.heap.size=pb at *;clear hW k1 c0 c1 c2 c3 c4 c5 c6 c7 c8 d0 d1 d2 d3 d4 d5 d6 d7 d8 d9 d10 IMa KG;obtain⟨e0,e1,e2,e3,e4,e5,e6,e7,e8,e9,e10⟩:=cA X1.out;have HW:=aA (show wrap64 ((a:Int)+1)=((a+1:Nat):Int)by have:=HNP.out;have:=HLT.out;rw[wrap64];omega);by_cases h1:p.kd=4
   case neg=>
    have q1:(p.kd != 4)=true:=(by rw[bne_iff_ne];exact h1);have eo:ok a=true:=(by rw[OKA.out];unfold ok5;rw[decide_eq_false h1];rfl);have EO:=aA (NEXT.out eo);clear h1 eo;go_wp2_with fail;exact⟨⟨a+1,by have:=HLT.out;omega,by first|go_num|rw[HW.out],aA ⟨KE.out,EO.out⟩⟩,by have:=HLT.out;have:=HNP.out;first|(simp[intOf];omega)|(rw[HW.out];simp only[intOf,Int.toNat_natCast];omega)⟩
   have q1:(p.kd != 4)=false:=(by rw[bne_eq_false_iff_eq];exact h1);have OI:=aA (OIF.out h1);clear h1 OIF;go_wp2_with fail;clear e0 e1 e2 e3 e4 e5 e6 e7 e8 e9 e10 q1;go_loopw [5,6] (fun cv kv W=>∃ m:Nat,m<=256/\kv=.int .i64 m/\cv=.int .i64 (aD B m:Int)/\Hid (Kt nO W1 W/\∀ j,cn<=j->j<m->B j=false)) (fun _ kv _=>256-(intOf kv).toNat)
   case atStart=>exact⟨0,Nat.zero_le _,rfl,rfl,aA ⟨Kt.refl _ _,fun j h1 h2=>by omega⟩⟩
   case round=>
    obtain⟨m,hm,rfl,rfl,hJ⟩:=hrel;have KJ:=aA hJ.out.1;have INV:=aA hJ.out.2;obtain⟨C,hC⟩:=xe (aD B m);have hCm:C<=256:=(by rw[hC];exact Nat.le_trans (pU _ _) hm);have HCE:=aA hC;rw[<-hC];clear hC hJ;have X2:=aA ((KJ.out.block _ (lH X1.out) (fun y=>y)).trans X1.out);obtain⟨e0,e1,e2,e3,e4,e5,e6,e7,e8,e9,e10⟩:=cA X2.out;by_cases hlt:m<256
    ·have hmi:(m:Int)<256:=(by omega);have HM:=aA hlt;have HW2:=aA (show wrap64 ((m:Int)+1)=((m+1:Nat):Int)by rw[wrap64];omega);have HC1:=aA (show C<=256 from hCm);have HW3:=aA (show wrap64 ((C:Int)+1)=((C+1:Nat):Int)by rw[wrap64];omega);obtain⟨b,hb⟩:=xe (B m);have HA:=aA (fun W=>HA8.out m hlt W);rw[<-hb] at HA;have HB:=aA hb;clear hb hlt;go_wp2_with fail;refine(HA.out _).mono ?_;rintro e w1 ⟨rfl,k1⟩;have KJ1:=aA (nT KJ.out k1);clear k1 e0 e1 e2 e3 e4 e5 e6 e7 e8 e9 e10
     cases b with
     | false=>
      have C1:=aA (show aD B (m+1)=C by rw[kL _ _ HB.out.symm];exact HCE.out.symm);have IN1:=aA (show ∀ j,cn<=j->j<m+1->B j=false from fun j h1 h2=>by
       by_cases e:j=m
       ·rw[e];exact HB.out.symm
       ·exact INV.out j h1 (by omega))
      go_wp2_with fail;exact⟨⟨m+1,HM.out,by first|go_num|rw[HW2.out],by rw[C1.out],aA ⟨KJ1.out,IN1.out⟩⟩,by have:=HM.out;first|(simp[intOf];omega)|(rw[HW2.out];simp only[intOf,Int.toNat_natCast];omega)⟩
     | true=>
      have X3:=aA ((KJ1.out.block _ (lH X1.out) (fun y=>y)).trans X1.out);obtain⟨e0,e1,e2,e3,e4,e5,e6,e7,e8,e9,e10⟩:=cA X3.out;go_wp2_with fail;refine(CE.out _).mono ?_;rintro e w2 ⟨rfl,k2⟩;have KJ2:=aA (nT KJ1.out k2);clear k2 e0 e1 e2 e3 e4 e5 e6 e7 e8 e9 e10;by_cases hcm:cn<=m
      ·have q2:(cn:Int)<=m:=(by omega);have er:=BADA.out (by
        rw[OKA.out]
        cases h:ok5 p with
        | false=>rfl
        | true=>have:=(OI.out.1 h).2 m hcm HM.out;rw[<-HB.out] at this;cases this)
       clear hcm;subst er;go_wp2_with fail;go_ret;exact⟨rfl,nT K0.out (nT KE.out KJ2.out)⟩
      ·have q2:¬(cn:Int)<=m:=(by omega);have C1:=aA (show aD B (m+1)=C+1 by rw[lI _ _ HB.out.symm,HCE.out]);have IN1:=aA (show ∀ j,cn<=j->j<m+1->B j=false from fun j h1 h2=>INV.out j h1 (by omega));clear hcm;go_wp2_with fail;exact⟨⟨m+1,HM.out,by first|go_num|rw[HW2.out],by rw[C1.out];first|go_num|rw[HW3.out],aA ⟨KJ2.out,IN1.out⟩⟩,by have:=HM.out;first|(simp[intOf];omega)|(rw[HW2.out];simp only[intOf,Int.toNat_natCast];omega)⟩
    ·have hmi:¬(m:Int)<256:=(by omega);have HCC:=aA (show C=aD B 256 by rw[HCE.out,show m=256 by omega]);have IN2:=aA (show ∀ j,cn<=j->j<256->B j=false from fun j h1 h2=>INV.out j h1 (by omega));have KEJ:=aA (nT KE.out KJ.out);by_cases h0:C=0
     ·have q2:((C:Int) == 0)=true:=(by rw[beq_iff_eq];omega);have er:=BADA.out (by
       rw[OKA.out]
       cases h:ok5 p with
       | false=>rfl
       | true=>have:=(OI.out.1 h).1;rw[<-HCC.out] at this;omega)
      clear h0;subst er;go_wp2_with fail;go_ret;exact⟨rfl,nT K0.out KEJ.out⟩
     have q2:((C:Int) == 0)=false:=(by rw[beq_eq_false_iff_ne];omega);by_cases h2:(C:Int)=p.lv
     case neg=>
      have q3:((C:Int) != p.lv)=true:=(by rw[bne_iff_ne];exact h2);have er:=BADA.out (by
       rw[OKA.out]
       cases h:ok5 p with
       | false=>rfl
       | true=>have:=(OI.out.1 h).1.2;rw[<-HCC.out] at this;exact absurd this.symm h2)
      clear h2 h0;subst er;go_wp2_with fail;go_ret;exact⟨rfl,nT K0.out KEJ.out⟩
     have q3:((C:Int) != p.lv)=false:=(by rw[bne_eq_false_iff_eq];exact h2);have EO:=aA (NEXT.out (by rw[OKA.out];exact OI.out.2 ⟨⟨by omega,by rw[<-HCC.out];exact h2.symm⟩,IN2.out⟩));clear h2 h0;go_wp2_with fail;go_round
     case rel=>exact⟨a+1,by have:=HLT.out;omega,by first|go_num|rw[HW.out],aA ⟨KEJ.out,EO.out⟩⟩
     case measure=>have:=HLT.out;have:=HNP.out;first|(simp[intOf];omega)|(rw[HW.out];simp only[intOf,Int.toNat_natCast];omega)
  ·have hai:¬(a:Int)<I.np:=(by omega);have er:=GOOD.out (fun j hj=>hG.out.2 j (by omega));subst er;go_wp2_with fail;go_ret;exact⟨rfl,nT K0.out hG.out.1⟩
set_option maxHeartbeats 8000000
set_option maxRecDepth 6000
theorem sY{α : Type}[DecidableEq α]{dec : α->Option Nat}{nil : α}{nxt bk:Nat->α}{S:Nat->Bool}{p b : α} : refL dec nil nxt bk S 0 p b=decide (p=nil):=rfl
theorem wQ{α : Type}[DecidableEq α]{dec : α->Option Nat}{nil : α}{nxt bk:Nat->α}{S:Nat->Bool}{n:Nat}{p b : α}(h:dec p=none):refL dec nil nxt bk S (n+1) p b=false:=by rw[refL,h]
theorem FI{α : Type}[DecidableEq α]{dec : α->Option Nat}{nil : α}{nxt bk:Nat->α}{S:Nat->Bool}{n i:Nat}{p b : α}(h:dec p=some i):refL dec nil nxt bk S (n+1) p b=(S i && (decide (bk i=b) && refL dec nil nxt bk S n (nxt i) p)):=by rw[refL,h]
theorem JN(I:Img)(V:ImV)(k r:Nat)(hS:Sn9 I k r)(w:World)(hI:ImD w I V):
  Calls prog 107 #[imA I V] w fun e w'=>e=.returned (.int .i64 (eB (fst1 (k+1) (ok8 I))))/\Kt nO w w':=by
 obtain⟨⟨ma,mc,hm⟩,⟨pa,pc,hp⟩,⟨ra,rc,hr⟩,⟨ha,hc,hh⟩,⟨ta,tc,ht⟩,-⟩:=hI.sl;obtain⟨vm,vp,vr,vh,vt⟩:=V;dsimp only at hm hp hr hh ht;subst hm hp hr hh ht;have IM0:=aA (show ImAt (w.alloc (aE I _)) w.heap.size I _ from⟨nH _ _,hI.keep ((Kt.refl _ w).alloc _)⟩);have K0:=aA (show Kt nO w (w.alloc (aE I _))from(Kt.refl _ w).alloc (aE I ⟨.slice ma I.nm mc,.slice pa I.np pc,.slice ra I.no rc,.slice ha I.hd.length hc,.slice ta I.pt.length tc⟩));obtain⟨c0,c1,c2,c3,c4,c5,c6,c7,c8⟩:=IM0.out.cells;have HNP:=aA hS.np1;have HK8:=aA hS.k8;have HO:=aA hS.ord;have HHL:=aA hS.hl;have HNM:=aA hS.nm;have HB0:=aA hS.b0;have HBE:=aA hS.be;have HS:=aA hS;obtain⟨rr,hrr⟩:=xe (eB (fst1 (k+1) (ok8 I)));rw[<-hrr];have BAD:=aA (show ∀ a,a<k+1->(∀ j,j<a->ok8 I j=true)->ok8 I a=false->rr=(a:Int)from fun a h1 h2 h3=>by rw[hrr,fK h1 h2 h3];rfl);have GOOD:=aA (show(∀ j,j<k+1->ok8 I j=true)->rr = -1 from fun h=>by rw[hrr,fst1_ok h];rfl);have OP:=aA (fun g o hg W hI=>tT I ⟨.slice ma I.nm mc,.slice pa I.np pc,.slice ra I.no rc,.slice ha I.hd.length hc,.slice ta I.pt.length tc⟩ g o hg W hI);have NU:=aA (fun p W hI=>WZ I ⟨.slice ma I.nm mc,.slice pa I.np pc,.slice ra I.no rc,.slice ha I.hd.length hc,.slice ta I.pt.length tc⟩ k r hS p W hI);have WD:=aA (fun q hq W hI=>xY I ⟨.slice ma I.nm mc,.slice pa I.np pc,.slice ra I.no rc,.slice ha I.hd.length hc,.slice ta I.pt.length tc⟩ q hq (by have:=hS.nm;have:=hS.np1;omega) W hI);have WLT:=aA (fun q hq=>word_lt hI q hq);clear hI hrr hS;go_enter func107,ntmps107;go_wp2_with fail;clear c0 c1 c2 c3 c4 c5 c6 c7 c8;generalize w.heap.size=ib at *;generalize w.alloc (aE I ⟨.slice ma I.nm mc,.slice pa I.np pc,.slice ra I.no rc,.slice ha I.hd.length hc,.slice ta I.pt.length tc⟩)=W0 at *;go_loopw [3] (fun iv W=>∃ a:Nat,a<=k+1/\iv=.int .i64 a/\Hid (Kt nO W0 W/\∀ j,j<a->ok8 I j=true)) (fun iv _=>k+1-(intOf iv).toNat)
 case atStart=>exact⟨0,Nat.zero_le _,rfl,aA ⟨Kt.refl _ _,fun j hj=>by omega⟩⟩
 case round=>
  obtain⟨a,ha',rfl,hG⟩:=hrel;have IMa:=aA (IM0.out.keep hG.out.1);obtain⟨c0,c1,c2,c3,c4,c5,c6,c7,c8⟩:=IMa.out.cells;dsimp only at c5 c7;by_cases hlt:a<k+1
  ·have hai:(a:Int)<=I.ord:=(by rw[HO.out];omega);have HLT:=aA hlt;have BADA:=aA (BAD.out a hlt hG.out.2);have NEXT:=aA (show ok8 I a=true->∀ j,j<a+1->ok8 I j=true from fun eo j hj=>by
    by_cases e:j=a
    ·rw[e];exact eo
    ·exact hG.out.2 j (by omega))
   have KG:=aA hG.out.1;have OKA:=aA (ok8_eq HS.out a);obtain⟨S,hSS⟩:=xe (fun i=>isF (I.pg i) (a:Int));have SE:=aA (show ∀ i,S i=isF (I.pg i) (a:Int)from fun i=>by rw[hSS]);have LEN:=aA (show(pgL I fun p=>isF p (a:Int)).length=aD S I.np by rw[zZ,hSS]);rw[LEN.out,<-hSS] at OKA;have OPa:=aA (show ∀ g,g<I.np->∀ W,ImD W I ⟨.slice ma I.nm mc,.slice pa I.np pc,.slice ra I.no rc,.slice ha I.hd.length hc,.slice ta I.pt.length tc⟩->Calls prog 147 #[imA I ⟨.slice ma I.nm mc,.slice pa I.np pc,.slice ra I.no rc,.slice ha I.hd.length hc,.slice ta I.pt.length tc⟩,.int .i64 g,.int .i64 a] W fun e w'=>e=.returned (.bool (S g))/\Kt nO W w' from fun g hg W hW=>by rw[SE.out];exact OP.out g (a:Int) hg W hW);have HW:=aA (show wrap64 ((a:Int)+1)=((a+1:Nat):Int)by have:=HK8.out;rw[wrap64];omega);obtain⟨h0,hh0⟩:∃ h,h=I.hd.getD a 0:=⟨_,rfl⟩;have hHD:=IMa.out.d.hds;obtain⟨_,oa,oc,hv,hr3⟩:=hHD;rcases hr3 with hr3|⟨bl,o,rfl,hbl,hcc⟩
   ·have:=HHL.out;omega
   obtain⟨hx1,hx2⟩:=hcc a (by have:=HHL.out;omega);rw[<-hh0] at hx1 hx2 OKA;injection hv with e1 e2 e3
   subst e1;clear e2 e3 hcc hbl;have HX1:=aA hx1;have HX2:=aA hx2;clear hSS hlt ha' hG hh0 hx1 hx2;go_wp2_with fail;clear c0 c1 c2 c3 c4 c5 c6 c7 c8;obtain⟨wq,hwq⟩:∃ W,W=wr:=⟨_,rfl⟩;rw[<-hwq] at KG IMa HX2;rw[<-hwq];clear hwq;go_loopw [4,5] (fun nv iv W=>∃ j:Nat,j<=I.np/\iv=.int .i64 j/\nv=.int .i64 (aD S j:Int)/\Hid (Kt nO wq W)) (fun _ iv _=>I.np-(intOf iv).toNat)
   case atStart=>exact⟨0,Nat.zero_le _,rfl,rfl,aA (Kt.refl _ _)⟩
   case round=>
    obtain⟨j,hj,rfl,rfl,hJ⟩:=hrel;have IMb:=aA (IMa.out.keep hJ.out);obtain⟨c0,c1,c2,c3,c4,c5,c6,c7,c8⟩:=IMb.out.cells;dsimp only at c5 c7;obtain⟨C,hC⟩:=xe (aD S j);have hCm:C<=1024:=(by rw[hC];exact Nat.le_trans (pU _ _) (Nat.le_trans hj HNP.out));have HCE:=aA hC;rw[<-hC];clear hC;by_cases hjk:j<I.np
    ·have hji:(j:Int)<I.np:=(by omega);have HJK:=aA hjk;have HW2:=aA (show wrap64 ((j:Int)+1)=((j+1:Nat):Int)by have:=HNP.out;rw[wrap64];omega);have HC1:=aA hCm;have HW3:=aA (show wrap64 ((C:Int)+1)=((C+1:Nat):Int)by rw[wrap64];omega);have KJ:=aA hJ.out;obtain⟨b,hb⟩:=xe (S j);have HB:=aA hb;have OPj:=aA (fun W hW=>OPa.out j hjk W hW);rw[<-hb] at OPj;clear hjk hj hJ hb;go_wp2_with fail;refine(OPj.out _ IMb.out.d).mono ?_;rintro e w1 ⟨rfl,k1⟩;have KJ1:=aA (nT KJ.out k1);clear k1 c0 c1 c2 c3 c4 c5 c6 c7 c8
     cases b with
     | false=>
      have C1:=aA (show aD S (j+1)=C by rw[kL _ _ HB.out.symm];exact HCE.out.symm);go_wp2_with fail;exact⟨⟨j+1,HJK.out,by first|go_num|rw[HW2.out],by rw[C1.out],KJ1⟩,by have:=HJK.out;have:=HNP.out;first|(simp[intOf];omega)|(rw[HW2.out];simp only[intOf,Int.toNat_natCast];omega)⟩
     | true=>
      have C1:=aA (show aD S (j+1)=C+1 by rw[lI _ _ HB.out.symm,HCE.out]);go_wp2_with fail;exact⟨⟨j+1,HJK.out,by first|go_num|rw[HW2.out],by rw[C1.out];first|go_num|rw[HW3.out],KJ1⟩,by have:=HJK.out;have:=HNP.out;first|(simp[intOf];omega)|(rw[HW2.out];simp only[intOf,Int.toNat_natCast];omega)⟩
    ·have hji:¬(j:Int)<I.np:=(by omega);have CN:=aA (show aD S I.np=C by rw[HCE.out,show j=I.np by omega]);rw[CN.out] at OKA;have KE:=aA (nT KG.out hJ.out);have hx2:=hJ.out.cell (fun x=>x) HX2.out;have HCM:=aA hCm;have hah:(a:Int)<I.hd.length:=(by have:=HHL.out;have:=HLT.out;omega);clear hjk hj HCE;go_wp2_with fail;clear c0 c1 c2 c3 c4 c5 c6 c7 c8 hx2 hah;obtain⟨wz,hwz⟩:∃ W,W=wr:=⟨_,rfl⟩;rw[<-hwz] at KE IMb;rw[<-hwz];clear hwz hJ;have Q0:=aA (show h0<18446744073709551616/\ok8 I a=refL (decP I) 0 (fun i=>M.word I.mem (4096*i)) (fun i=>M.word I.mem (4096*i+8)) S C h0 0 from⟨HX1.out,OKA.out⟩);go_loopw [6,7,8] (fun pv bv gv W=>∃ p b g d:Nat,g+d=C/\pv=.int .u64 p/\bv=.int .u64 b/\gv=.int .i64 g/\Hid (Kt nO wz W/\p<18446744073709551616/\ok8 I a=refL (decP I) 0 (fun i=>M.word I.mem (4096*i)) (fun i=>M.word I.mem (4096*i+8)) S d p b)) (fun _ _ gv _=>C-(intOf gv).toNat)
     case atStart=>exact⟨h0,0,0,C,by omega,rfl,rfl,rfl,aA ⟨Kt.refl _ _,Q0.out.1,Q0.out.2⟩⟩
     case round=>
      obtain⟨p,b,g,d,hgd,rfl,rfl,rfl,hL⟩:=hrel;have IMc:=aA (IMb.out.keep hL.out.1);have KL:=aA hL.out.1;have PL:=aA hL.out.2.1;have OKP:=aA hL.out.2.2;obtain⟨c0,c1,c2,c3,c4,c5,c6,c7,c8⟩:=IMc.out.cells;clear hL;by_cases hgc:g<C
      ·have hgi:(g:Int)<C:=(by omega);obtain⟨d,rfl⟩:∃ d',d=d'+1:=⟨d-1,by omega⟩;have HWG:=aA (show wrap64 ((g:Int)+1)=((g+1:Nat):Int)by have:=HCM.out;rw[wrap64];omega);have GD:=aA (show g+1+d=C/\g<C from⟨by omega,hgc⟩);have NUp:=aA (fun W hW=>NU.out p W hW);clear hgd hgc
       cases hdp:decP I p with
       | none=>
        rw[hdp] at NUp;have eo:ok8 I a=false:=OKP.out.trans (wQ hdp);have er:=BADA.out eo;clear eo hdp;subst er;go_wp2_with fail;refine(NUp.out _ IMc.out.d).mono ?_;rintro e w1 ⟨rfl,k1⟩;have KE1:=aA (nT KE.out (nT KL.out k1));have q2:(gK none)<(0:Int):=(by decide);by_cases p0:p=0
        ·have q1:((p:Int) == 0)=true:=(by rw[beq_iff_eq];omega);clear k1 c0 c1 c2 c3 c4 c5 c6 c7 c8 p0;go_wp2_with fail;go_ret;exact⟨rfl,nT K0.out KE1.out⟩
        ·have q1:((p:Int) == 0)=false:=(by rw[beq_eq_false_iff_ne];omega);clear k1 c0 c1 c2 c3 c4 c5 c6 c7 c8 p0;go_wp2_with fail;go_ret;exact⟨rfl,nT K0.out KE1.out⟩
       | some i=>
        rw[hdp] at NUp;obtain⟨hi,hpe,hp0⟩:=pV HS.out hdp;rw[show gK (some i)=(i:Int)from rfl] at NUp;have NUq:=NUp;clear NUp;have q1:((p:Int) == 0)=false:=(by rw[beq_eq_false_iff_ne];omega);have q2:¬(i:Int)<0:=(by omega);have OKQ:=aA (OKP.out.trans (FI hdp));have OPi:=aA (fun W hW=>OPa.out i hi W hW);have WD1:=aA (fun W hW=>WD.out (4096*i+8) (by have:=HNM.out;omega) W hW);have WD2:=aA (fun W hW=>WD.out (4096*i) (by have:=HNM.out;omega) W hW);have WL2:=aA (WLT.out (4096*i) (by have:=HNM.out;omega));obtain⟨sb,hsb⟩:∃ b,b=S i:=⟨_,rfl⟩;rw[<-hsb] at OKQ OPi;obtain⟨x1,hx1⟩:∃ x,x=M.word I.mem (4096*i+8):=⟨_,rfl⟩;obtain⟨x2,hx2⟩:∃ x,x=M.word I.mem (4096*i):=⟨_,rfl⟩;have OKR:=aA (show ok8 I a=(sb && (decide (x1=b) && refL (decP I) 0 (fun i=>M.word I.mem (4096*i)) (fun i=>M.word I.mem (4096*i+8)) S d x2 p))from by rw[OKQ.out,hx1,hx2]);rw[<-hx1] at WD1;rw[<-hx2] at WD2 WL2;clear OKQ OKP;obtain⟨i4,hi4⟩:∃ x,x=4096*i:=⟨_,rfl⟩;rw[<-hi4] at WD1 WD2;obtain⟨i8,hi8⟩:∃ x,x=i4+8:=⟨_,rfl⟩;rw[<-hi8] at WD1;have s1:IntKind.u64.wrap (i:Int)=i:=(by have:=HNP.out;rw[wrap_u64];omega);have s2:IntKind.u64.wrap (i4:Int)=i4:=(by have:=HNP.out;rw[wrap_u64];omega);have s3 : 4096*(i:Int)=i4:=(by omega);have s4:IntKind.u64.wrap (i8:Int)=i8:=(by have:=HNP.out;rw[wrap_u64];omega);have s5:(i4:Int)+8=(i8:Int):=(by omega);clear hdp hpe hp0 hi hsb hx1 hx2 hi4 hi8;go_wp2_with fail;refine(NUq.out _ IMc.out.d).mono ?_;rintro e w1 ⟨rfl,k1⟩;have IMd:=aA (IMc.out.keep k1);have KL1:=aA (nT KL.out k1);clear k1 c0 c1 c2 c3 c4 c5 c6 c7 c8;obtain⟨c0,c1,c2,c3,c4,c5,c6,c7,c8⟩:=IMd.out.cells;go_wp2_with fail;refine(OPi.out _ IMd.out.d).mono ?_;rintro e w2 ⟨rfl,k2⟩;have IMe:=aA (IMd.out.keep k2);have KL2:=aA (nT KL1.out k2);clear k2 c0 c1 c2 c3 c4 c5 c6 c7 c8
        cases sb with
        | false=>
         have er:=BADA.out OKR.out;subst er;have KE2:=aA (nT KE.out KL2.out);go_wp2_with fail;go_ret;exact⟨rfl,nT K0.out KE2.out⟩
        | true=>
         obtain⟨c0,c1,c2,c3,c4,c5,c6,c7,c8⟩:=IMe.out.cells;go_wp2_with fail;refine(WD1.out _ IMe.out.d).mono ?_;rintro e w3 ⟨rfl,k3⟩;have IMf:=aA (IMe.out.keep k3);have KL3:=aA (nT KL2.out k3);clear k3 c0 c1 c2 c3 c4 c5 c6 c7 c8;by_cases h3:x1=b
         case neg=>
          have q3:((x1:Int) != (b:Int))=true:=(by rw[bne_iff_ne];omega);have er:=BADA.out (by rw[OKR.out,decide_eq_false h3];rfl);have KE3:=aA (nT KE.out KL3.out);clear h3;subst er;go_wp2_with fail;go_ret;exact⟨rfl,nT K0.out KE3.out⟩
         have q3:((x1:Int) != (b:Int))=false:=(by rw[bne_eq_false_iff_eq];omega);have OKS:=aA (OKR.out.trans (by rw[decide_eq_true h3,Bool.true_and,Bool.true_and]));clear h3;obtain⟨c0,c1,c2,c3,c4,c5,c6,c7,c8⟩:=IMf.out.cells;go_wp2_with fail;refine(WD2.out _ IMf.out.d).mono ?_;rintro e w4 ⟨rfl,k4⟩;have KL4:=aA (nT KL3.out k4);clear k4 c0 c1 c2 c3 c4 c5 c6 c7 c8;go_wp2_with fail;exact⟨⟨x2,p,g+1,d,GD.out.1,rfl,rfl,by first|go_num|rw[HWG.out],aA ⟨KL4.out,WL2.out,OKS.out⟩⟩,by have:=GD.out.2;have:=HCM.out;first|(simp[intOf];omega)|(rw[HWG.out];simp only[intOf,Int.toNat_natCast];omega)⟩
      ·have hgi:¬(g:Int)<C:=(by omega);obtain rfl:d=0:=(by omega);have KE3:=aA (nT KE.out KL.out);by_cases p0:p=0
       case neg=>
        have q1:((p:Int) != 0)=true:=(by rw[bne_iff_ne];omega);have er:=BADA.out (by rw[OKP.out,sY,decide_eq_false p0]);clear p0 hgd hgc;subst er;go_wp2_with fail;go_ret;exact⟨rfl,nT K0.out KE3.out⟩
       have q1:((p:Int) != 0)=false:=(by rw[bne_eq_false_iff_eq];omega);have EO:=aA (NEXT.out (by rw[OKP.out,sY,decide_eq_true p0]));clear p0 hgd hgc;go_wp2_with fail;go_round
       case rel=>exact⟨a+1,HLT.out,by first|go_num|rw[HW.out],aA ⟨KE3.out,EO.out⟩⟩
       case measure=>have:=HLT.out;have:=HK8.out;first|(simp[intOf];omega)|(rw[HW.out];simp only[intOf,Int.toNat_natCast];omega)
  ·have hai:¬(a:Int)<=I.ord:=(by rw[HO.out];omega);have er:=GOOD.out (fun j hj=>hG.out.2 j (by omega));subst er;go_wp2_with fail;go_ret;exact⟨rfl,nT K0.out hG.out.1⟩
set_option maxHeartbeats 8000000
set_option maxRecDepth 6000
theorem YM(I:Img)(V:ImV)(k r:Nat)(hS:Sn9 I k r)(h5:fst1 I.np (fun i=>ok5 (I.pg i))=none)(w:World)(hI:ImD w I V):
  Calls prog 109 #[imA I V] w fun e w'=>e=.returned (.int .i64 (eB (fst1 8 (bP I))))/\Kt nO w w':=by
 obtain⟨⟨ma,mc,hm⟩,⟨pa,pc,hp⟩,⟨ra,rc,hr⟩,⟨ha,hc,hh⟩,⟨ta,tc,ht⟩,-⟩:=hI.sl;obtain⟨vm,vp,vr,vh,vt⟩:=V;dsimp only at hm hp hr hh ht;subst hm hp hr hh ht;have IM0:=aA (show ImAt (w.alloc (aE I _)) w.heap.size I _ from⟨nH _ _,hI.keep ((Kt.refl _ w).alloc _)⟩);have K0:=aA (show Kt nO w (w.alloc (aE I _))from(Kt.refl _ w).alloc (aE I ⟨.slice ma I.nm mc,.slice pa I.np pc,.slice ra I.no rc,.slice ha I.hd.length hc,.slice ta I.pt.length tc⟩));obtain⟨c0,c1,c2,c3,c4,c5,c6,c7,c8⟩:=IM0.out.cells;have HNP:=aA hS.np1;have HTL:=aA hS.tl;have HS:=aA hS;obtain⟨rr,hrr⟩:=xe (eB (fst1 8 (bP I)));rw[<-hrr];have BAD:=aA (show ∀ a,a<8->(∀ j,j<a->bP I j=true)->bP I a=false->rr=(a:Int)from fun a h1 h2 h3=>by rw[hrr,fK h1 h2 h3];rfl);have GOOD:=aA (show(∀ j,j<8->bP I j=true)->rr = -1 from fun h=>by rw[hrr,fst1_ok h];rfl);have RM:=aA (show ∀ (g c:Nat),g<I.np->∀ W,ImD W I ⟨.slice ma I.nm mc,.slice pa I.np pc,.slice ra I.no rc,.slice ha I.hd.length hc,.slice ta I.pt.length tc⟩->Calls prog 150 #[imA I ⟨.slice ma I.nm mc,.slice pa I.np pc,.slice ra I.no rc,.slice ha I.hd.length hc,.slice ta I.pt.length tc⟩,.int .i64 g,.int .i64 c] W fun e w'=>e=.returned (.bool (prS (c:Int) (I.pg g)))/\Kt nO W w' from fun g c hg W hW=>by
  obtain⟨kd,od,cc,ll,y1,y2,y3,y4,y5,y6,y7,y8,-⟩:=hS.pg g hg;obtain⟨-,-,-,-,hpi,-⟩:=IM0.out.page g hg;exact KY I ⟨.slice ma I.nm mc,.slice pa I.np pc,.slice ra I.no rc,.slice ha I.hd.length hc,.slice ta I.pt.length tc⟩ g c cc hg y5 y6 (fun h4=>by
   obtain⟨l,h1,h2,h3,-⟩:=rP hpi y5 y6 h4 (kK h5 g hg);exact⟨l,h1,h3⟩) W hW)
 clear hI hrr hS h5;go_enter func109,ntmps109;go_wp2_with fail;clear c0 c1 c2 c3 c4 c5 c6 c7 c8;generalize w.heap.size=ib at *;generalize w.alloc (aE I ⟨.slice ma I.nm mc,.slice pa I.np pc,.slice ra I.no rc,.slice ha I.hd.length hc,.slice ta I.pt.length tc⟩)=W0 at *;go_loopw [3] (fun iv W=>∃ a:Nat,a<=8/\iv=.int .i64 a/\Hid (Kt nO W0 W/\∀ j,j<a->bP I j=true)) (fun iv _=>8-(intOf iv).toNat)
 case atStart=>exact⟨0,Nat.zero_le _,rfl,aA ⟨Kt.refl _ _,fun j hj=>by omega⟩⟩
 case round=>
  obtain⟨a,ha',rfl,hG⟩:=hrel;have IMa:=aA (IM0.out.keep hG.out.1);obtain⟨c0,c1,c2,c3,c4,c5,c6,c7,c8⟩:=IMa.out.cells;dsimp only at c5 c8;by_cases hlt:a<8
  ·have hai:(a:Int)<8:=(by omega);have HLT:=aA hlt;have BADA:=aA (BAD.out a hlt hG.out.2);have NEXT:=aA (show bP I a=true->∀ j,j<a+1->bP I j=true from fun eo j hj=>by
    by_cases e:j=a
    ·rw[e];exact eo
    ·exact hG.out.2 j (by omega))
   have KG:=aA hG.out.1;have OKA:=aA (ok10_eq I a);obtain⟨S,hSS⟩:=xe (fun i=>prS (a:Int) (I.pg i));have SE:=aA (show ∀ i,S i=prS (a:Int) (I.pg i)from fun i=>by rw[hSS]);have LEN:=aA (show(pgL I (prS (a:Int))).length=aD S I.np by rw[zZ,hSS]);rw[LEN.out,<-hSS] at OKA;have OPa:=aA (show ∀ g,g<I.np->∀ W,ImD W I ⟨.slice ma I.nm mc,.slice pa I.np pc,.slice ra I.no rc,.slice ha I.hd.length hc,.slice ta I.pt.length tc⟩->Calls prog 150 #[imA I ⟨.slice ma I.nm mc,.slice pa I.np pc,.slice ra I.no rc,.slice ha I.hd.length hc,.slice ta I.pt.length tc⟩,.int .i64 g,.int .i64 a] W fun e w'=>e=.returned (.bool (S g))/\Kt nO W w' from fun g hg W hW=>by rw[SE.out];exact RM.out g a hg W hW);have HW:=aA (show wrap64 ((a:Int)+1)=((a+1:Nat):Int)by rw[wrap64];omega);obtain⟨h0,hh0⟩:∃ h,h=I.pt.getD a 0:=⟨_,rfl⟩;have hHD:=IMa.out.d.pts;obtain⟨_,oa,oc,hv,hr3⟩:=hHD;rcases hr3 with hr3|⟨bl,o,rfl,hbl,hcc⟩
   ·have:=HTL.out;omega
   obtain⟨hx1,hx2⟩:=hcc a (by have:=HTL.out;omega);rw[<-hh0] at hx1 hx2 OKA;injection hv with e1 e2 e3
   subst e1;clear e2 e3 hcc hbl;have HX1:=aA hx1;have HX2:=aA hx2;clear hSS hlt ha' hG hh0 hx1 hx2;go_wp2_with fail;clear c0 c1 c2 c3 c4 c5 c6 c7 c8;obtain⟨wq,hwq⟩:∃ W,W=wr:=⟨_,rfl⟩;rw[<-hwq] at KG IMa HX2;rw[<-hwq];clear hwq;go_loopw [4,5] (fun nv iv W=>∃ j:Nat,j<=I.np/\iv=.int .i64 j/\nv=.int .i64 (aD S j:Int)/\Hid (Kt nO wq W)) (fun _ iv _=>I.np-(intOf iv).toNat)
   case atStart=>exact⟨0,Nat.zero_le _,rfl,rfl,aA (Kt.refl _ _)⟩
   case round=>
    obtain⟨j,hj,rfl,rfl,hJ⟩:=hrel;have IMb:=aA (IMa.out.keep hJ.out);obtain⟨c0,c1,c2,c3,c4,c5,c6,c7,c8⟩:=IMb.out.cells;dsimp only at c5 c8;obtain⟨C,hC⟩:=xe (aD S j);have hCm:C<=1024:=(by rw[hC];exact Nat.le_trans (pU _ _) (Nat.le_trans hj HNP.out));have HCE:=aA hC;rw[<-hC];clear hC;by_cases hjk:j<I.np
    ·have hji:(j:Int)<I.np:=(by omega);have HJK:=aA hjk;have HW2:=aA (show wrap64 ((j:Int)+1)=((j+1:Nat):Int)by have:=HNP.out;rw[wrap64];omega);have HC1:=aA hCm;have HW3:=aA (show wrap64 ((C:Int)+1)=((C+1:Nat):Int)by rw[wrap64];omega);have KJ:=aA hJ.out;obtain⟨b,hb⟩:=xe (S j);have HB:=aA hb;have OPj:=aA (fun W hW=>OPa.out j hjk W hW);rw[<-hb] at OPj;clear hjk hj hJ hb;go_wp2_with fail;refine(OPj.out _ IMb.out.d).mono ?_;rintro e w1 ⟨rfl,k1⟩;have KJ1:=aA (nT KJ.out k1);clear k1 c0 c1 c2 c3 c4 c5 c6 c7 c8
     cases b with
     | false=>
      have C1:=aA (show aD S (j+1)=C by rw[kL _ _ HB.out.symm];exact HCE.out.symm);go_wp2_with fail;exact⟨⟨j+1,HJK.out,by first|go_num|rw[HW2.out],by rw[C1.out],KJ1⟩,by have:=HJK.out;have:=HNP.out;first|(simp[intOf];omega)|(rw[HW2.out];simp only[intOf,Int.toNat_natCast];omega)⟩
     | true=>
      have C1:=aA (show aD S (j+1)=C+1 by rw[lI _ _ HB.out.symm,HCE.out]);go_wp2_with fail;exact⟨⟨j+1,HJK.out,by first|go_num|rw[HW2.out],by rw[C1.out];first|go_num|rw[HW3.out],KJ1⟩,by have:=HJK.out;have:=HNP.out;first|(simp[intOf];omega)|(rw[HW2.out];simp only[intOf,Int.toNat_natCast];omega)⟩
    ·have hji:¬(j:Int)<I.np:=(by omega);have CN:=aA (show aD S I.np=C by rw[HCE.out,show j=I.np by omega]);rw[CN.out] at OKA;have KE:=aA (nT KG.out hJ.out);have hx2:=hJ.out.cell (fun x=>x) HX2.out;have HCM:=aA hCm;have hah:(a:Int)<I.pt.length:=(by have:=HTL.out;have:=HLT.out;omega);clear hjk hj HCE;go_wp2_with fail;clear c0 c1 c2 c3 c4 c5 c6 c7 c8 hx2 hah;obtain⟨wz,hwz⟩:∃ W,W=wr:=⟨_,rfl⟩;rw[<-hwz] at KE IMb;rw[<-hwz];clear hwz hJ;have Q0:=aA (show bP I a=refL (dec10 I) (-1) (fun i=>(I.pg i).nx) (fun i=>(I.pg i).pv) S C h0 (-1)from OKA.out);go_loopw [6,7,8] (fun pv bv gv W=>∃ (p b:Int) (g d:Nat),g+d=C/\pv=.int .i64 p/\bv=.int .i64 b/\gv=.int .i64 g/\Hid (Kt nO wz W/\bP I a=refL (dec10 I) (-1) (fun i=>(I.pg i).nx) (fun i=>(I.pg i).pv) S d p b)) (fun _ _ gv _=>C-(intOf gv).toNat)
     case atStart=>exact⟨h0,-1,0,C,by omega,rfl,rfl,rfl,aA ⟨Kt.refl _ _,Q0.out⟩⟩
     case round=>
      obtain⟨p,b,g,d,hgd,rfl,rfl,rfl,hL⟩:=hrel;have IMc:=aA (IMb.out.keep hL.out.1);have KL:=aA hL.out.1;have OKP:=aA hL.out.2;obtain⟨c0,c1,c2,c3,c4,c5,c6,c7,c8⟩:=IMc.out.cells;dsimp only at c5 c8;clear hL;by_cases hgc:g<C
      ·have hgi:(g:Int)<C:=(by omega);obtain⟨d,rfl⟩:∃ d',d=d'+1:=⟨d-1,by omega⟩;have HWG:=aA (show wrap64 ((g:Int)+1)=((g+1:Nat):Int)by have:=HCM.out;rw[wrap64];omega);have GD:=aA (show g+1+d=C/\g<C from⟨by omega,hgc⟩);clear hgd hgc;by_cases p1:p<0
       ·have hdp:dec10 I p=none:=(by unfold dec10;rw[if_neg (by omega)]);have er:=BADA.out (OKP.out.trans (wQ hdp));have KE1:=aA (nT KE.out KL.out);clear hdp;subst er;go_wp2_with fail;go_ret;exact⟨rfl,nT K0.out KE1.out⟩
       by_cases p2:p<(I.np:Int)
       case neg=>
        have hdp:dec10 I p=none:=(by unfold dec10;rw[if_neg (by omega)]);have er:=BADA.out (OKP.out.trans (wQ hdp));have KE1:=aA (nT KE.out KL.out);have q2:(I.np:Int)<=p:=(by omega);clear hdp;subst er;go_wp2_with fail;go_ret;exact⟨rfl,nT K0.out KE1.out⟩
       obtain⟨i,rfl⟩:=Int.eq_ofNat_of_zero_le (show 0<=p by omega);have hi:i<I.np:=(by omega);have hdp:dec10 I (i:Int)=some i:=(by unfold dec10;rw[if_pos (by omega),Int.toNat_natCast]);have q1:¬(i:Int)<0:=(by omega);have q2:¬(I.np:Int)<=i:=(by omega);have q3:(i:Int)<I.np:=p2;have OKQ:=aA (OKP.out.trans (FI hdp));have OPi:=aA (fun W hW=>OPa.out i hi W hW);obtain⟨sb,hsb⟩:∃ b,b=S i:=⟨_,rfl⟩;rw[<-hsb] at OKQ OPi;have HI:=aA hi;clear hdp hsb hi p1 p2 OKP;go_wp2_with fail;refine(OPi.out _ IMc.out.d).mono ?_;rintro e w2 ⟨rfl,k2⟩;have IMe:=aA (IMc.out.keep k2);have KL2:=aA (nT KL.out k2);clear k2 c0 c1 c2 c3 c4 c5 c6 c7 c8
       cases sb with
       | false=>
        have er:=BADA.out OKQ.out;subst er;have KE2:=aA (nT KE.out KL2.out);go_wp2_with fail;go_ret;exact⟨rfl,nT K0.out KE2.out⟩
       | true=>
        obtain⟨c0,c1,c2,c3,c4,c5,c6,c7,c8⟩:=IMe.out.cells;dsimp only at c5 c8;obtain⟨bl2,oo,oc,hv,-,hpc⟩:=IMe.out.page i HI.out;injection hv with e1 e2 e3
        subst e1;clear e2 e3;obtain⟨d0,d1,d2,d3,d4,d5,d6,d7,d8,d9,d10⟩:=hpc.c;generalize I.pg i=q at *;by_cases h3:q.pv=b
        case neg=>
         have q4:(q.pv != b)=true:=(by rw[bne_iff_ne];exact h3);have er:=BADA.out (by rw[OKQ.out,decide_eq_false h3];rfl);have KE3:=aA (nT KE.out KL2.out);clear h3;subst er;go_wp2_with fail;go_ret;exact⟨rfl,nT K0.out KE3.out⟩
        have q4:(q.pv != b)=false:=(by rw[bne_eq_false_iff_eq];exact h3);have OKS:=aA (OKQ.out.trans (by rw[decide_eq_true h3,Bool.true_and,Bool.true_and]));clear h3;go_wp2_with fail;exact⟨⟨q.nx,(i:Int),g+1,d,GD.out.1,rfl,rfl,by first|go_num|rw[HWG.out],aA ⟨KL2.out,OKS.out⟩⟩,by have:=GD.out.2;have:=HCM.out;first|(simp[intOf];omega)|(rw[HWG.out];simp only[intOf,Int.toNat_natCast];omega)⟩
      ·have hgi:¬(g:Int)<C:=(by omega);obtain rfl:d=0:=(by omega);have KE3:=aA (nT KE.out KL.out);by_cases p0:p = -1
       case neg=>
        have q1:(p != -1)=true:=(by rw[bne_iff_ne];exact p0);have er:=BADA.out (by rw[OKP.out,sY,decide_eq_false p0]);clear p0 hgd hgc;subst er;go_wp2_with fail;go_ret;exact⟨rfl,nT K0.out KE3.out⟩
       have q1:(p != -1)=false:=(by rw[bne_eq_false_iff_eq];exact p0);have EO:=aA (NEXT.out (by rw[OKP.out,sY,decide_eq_true p0]));clear p0 hgd hgc;go_wp2_with fail;go_round
       case rel=>exact⟨a+1,HLT.out,by first|go_num|rw[HW.out],aA ⟨KE3.out,EO.out⟩⟩
       case measure=>have:=HLT.out;first|(simp[intOf];omega)|(rw[HW.out];simp only[intOf,Int.toNat_natCast];omega)
  ·have hai:¬(a:Int)<8:=(by omega);have er:=GOOD.out (fun j hj=>hG.out.2 j (by omega));subst er;go_wp2_with fail;go_ret;exact⟨rfl,nT K0.out hG.out.1⟩
set_option maxHeartbeats 8000000
set_option maxRecDepth 6000
theorem MN(I:Img)(V:ImV)(pl:Int)(w:World)(hI:ImD w I V)(hcl:∀ W,ImD W I V->Calls prog 101 #[imA I V] W fun e w'=>e=.returned (.int .i64 pl)/\Kt nO W w'):
  Calls prog 70 #[imA I V,.int .i64 2] w fun e w'=>e=.returned (.int .i64 pl)/\Kt nO w w':=by
 obtain⟨⟨ma,mc,hm⟩,⟨pa,pc,hp⟩,⟨ra,rc,hr⟩,⟨ha,hc,hh⟩,⟨ta,tc,ht⟩,-⟩:=hI.sl;obtain⟨vm,vp,vr,vh,vt⟩:=V;dsimp only at hm hp hr hh ht;subst hm hp hr hh ht;have IM0:=aA (show ImAt (w.alloc (aE I _)) w.heap.size I _ from⟨nH _ _,hI.keep ((Kt.refl _ w).alloc _)⟩);have K0:=aA (show Kt nO w (w.alloc (aE I _))from(Kt.refl _ w).alloc (aE I ⟨.slice ma I.nm mc,.slice pa I.np pc,.slice ra I.no rc,.slice ha I.hd.length hc,.slice ta I.pt.length tc⟩));obtain⟨c0,c1,c2,c3,c4,c5,c6,c7,c8⟩:=IM0.out.cells;have CC:=aA hcl;clear hI hcl;go_enter func70,ntmps70;go_wp2_with fail;refine(CC.out _ IM0.out.d).mono ?_;rintro e w1 ⟨rfl,k1⟩;have K1:=aA (nT K0.out k1);clear k1 c0 c1 c2 c3 c4 c5 c6 c7 c8;go_wp2_with fail;go_ret;exact⟨rfl,K1.out⟩
theorem ML(I:Img)(V:ImV)(pl:Int)(w:World)(hI:ImD w I V)(hcl:∀ W,ImD W I V->Calls prog 102 #[imA I V] W fun e w'=>e=.returned (.int .i64 pl)/\Kt nO W w'):
  Calls prog 70 #[imA I V,.int .i64 3] w fun e w'=>e=.returned (.int .i64 pl)/\Kt nO w w':=by
 obtain⟨⟨ma,mc,hm⟩,⟨pa,pc,hp⟩,⟨ra,rc,hr⟩,⟨ha,hc,hh⟩,⟨ta,tc,ht⟩,-⟩:=hI.sl;obtain⟨vm,vp,vr,vh,vt⟩:=V;dsimp only at hm hp hr hh ht;subst hm hp hr hh ht;have IM0:=aA (show ImAt (w.alloc (aE I _)) w.heap.size I _ from⟨nH _ _,hI.keep ((Kt.refl _ w).alloc _)⟩);have K0:=aA (show Kt nO w (w.alloc (aE I _))from(Kt.refl _ w).alloc (aE I ⟨.slice ma I.nm mc,.slice pa I.np pc,.slice ra I.no rc,.slice ha I.hd.length hc,.slice ta I.pt.length tc⟩));obtain⟨c0,c1,c2,c3,c4,c5,c6,c7,c8⟩:=IM0.out.cells;have CC:=aA hcl;clear hI hcl;go_enter func70,ntmps70;go_wp2_with fail;refine(CC.out _ IM0.out.d).mono ?_;rintro e w1 ⟨rfl,k1⟩;have K1:=aA (nT K0.out k1);clear k1 c0 c1 c2 c3 c4 c5 c6 c7 c8;go_wp2_with fail;go_ret;exact⟨rfl,K1.out⟩
theorem MK(I:Img)(V:ImV)(pl:Int)(w:World)(hI:ImD w I V)(hcl:∀ W,ImD W I V->Calls prog 103 #[imA I V] W fun e w'=>e=.returned (.int .i64 pl)/\Kt nO W w'):
  Calls prog 70 #[imA I V,.int .i64 4] w fun e w'=>e=.returned (.int .i64 pl)/\Kt nO w w':=by
 obtain⟨⟨ma,mc,hm⟩,⟨pa,pc,hp⟩,⟨ra,rc,hr⟩,⟨ha,hc,hh⟩,⟨ta,tc,ht⟩,-⟩:=hI.sl;obtain⟨vm,vp,vr,vh,vt⟩:=V;dsimp only at hm hp hr hh ht;subst hm hp hr hh ht;have IM0:=aA (show ImAt (w.alloc (aE I _)) w.heap.size I _ from⟨nH _ _,hI.keep ((Kt.refl _ w).alloc _)⟩);have K0:=aA (show Kt nO w (w.alloc (aE I _))from(Kt.refl _ w).alloc (aE I ⟨.slice ma I.nm mc,.slice pa I.np pc,.slice ra I.no rc,.slice ha I.hd.length hc,.slice ta I.pt.length tc⟩));obtain⟨c0,c1,c2,c3,c4,c5,c6,c7,c8⟩:=IM0.out.cells;have CC:=aA hcl;clear hI hcl;go_enter func70,ntmps70;go_wp2_with fail;refine(CC.out _ IM0.out.d).mono ?_;rintro e w1 ⟨rfl,k1⟩;have K1:=aA (nT K0.out k1);clear k1 c0 c1 c2 c3 c4 c5 c6 c7 c8;go_wp2_with fail;go_ret;exact⟨rfl,K1.out⟩
theorem MJ(I:Img)(V:ImV)(pl:Int)(w:World)(hI:ImD w I V)(hcl:∀ W,ImD W I V->Calls prog 104 #[imA I V] W fun e w'=>e=.returned (.int .i64 pl)/\Kt nO W w'):
  Calls prog 70 #[imA I V,.int .i64 5] w fun e w'=>e=.returned (.int .i64 pl)/\Kt nO w w':=by
 obtain⟨⟨ma,mc,hm⟩,⟨pa,pc,hp⟩,⟨ra,rc,hr⟩,⟨ha,hc,hh⟩,⟨ta,tc,ht⟩,-⟩:=hI.sl;obtain⟨vm,vp,vr,vh,vt⟩:=V;dsimp only at hm hp hr hh ht;subst hm hp hr hh ht;have IM0:=aA (show ImAt (w.alloc (aE I _)) w.heap.size I _ from⟨nH _ _,hI.keep ((Kt.refl _ w).alloc _)⟩);have K0:=aA (show Kt nO w (w.alloc (aE I _))from(Kt.refl _ w).alloc (aE I ⟨.slice ma I.nm mc,.slice pa I.np pc,.slice ra I.no rc,.slice ha I.hd.length hc,.slice ta I.pt.length tc⟩));obtain⟨c0,c1,c2,c3,c4,c5,c6,c7,c8⟩:=IM0.out.cells;have CC:=aA hcl;clear hI hcl;go_enter func70,ntmps70;go_wp2_with fail;refine(CC.out _ IM0.out.d).mono ?_;rintro e w1 ⟨rfl,k1⟩;have K1:=aA (nT K0.out k1);clear k1 c0 c1 c2 c3 c4 c5 c6 c7 c8;go_wp2_with fail;go_ret;exact⟨rfl,K1.out⟩
theorem MI(I:Img)(V:ImV)(pl:Int)(w:World)(hI:ImD w I V)(hcl:∀ W,ImD W I V->Calls prog 105 #[imA I V] W fun e w'=>e=.returned (.int .i64 pl)/\Kt nO W w'):
  Calls prog 70 #[imA I V,.int .i64 6] w fun e w'=>e=.returned (.int .i64 pl)/\Kt nO w w':=by
 obtain⟨⟨ma,mc,hm⟩,⟨pa,pc,hp⟩,⟨ra,rc,hr⟩,⟨ha,hc,hh⟩,⟨ta,tc,ht⟩,-⟩:=hI.sl;obtain⟨vm,vp,vr,vh,vt⟩:=V;dsimp only at hm hp hr hh ht;subst hm hp hr hh ht;have IM0:=aA (show ImAt (w.alloc (aE I _)) w.heap.size I _ from⟨nH _ _,hI.keep ((Kt.refl _ w).alloc _)⟩);have K0:=aA (show Kt nO w (w.alloc (aE I _))from(Kt.refl _ w).alloc (aE I ⟨.slice ma I.nm mc,.slice pa I.np pc,.slice ra I.no rc,.slice ha I.hd.length hc,.slice ta I.pt.length tc⟩));obtain⟨c0,c1,c2,c3,c4,c5,c6,c7,c8⟩:=IM0.out.cells;have CC:=aA hcl;clear hI hcl;go_enter func70,ntmps70;go_wp2_with fail;refine(CC.out _ IM0.out.d).mono ?_;rintro e w1 ⟨rfl,k1⟩;have K1:=aA (nT K0.out k1);clear k1 c0 c1 c2 c3 c4 c5 c6 c7 c8;go_wp2_with fail;go_ret;exact⟨rfl,K1.out⟩
theorem MH(I:Img)(V:ImV)(pl:Int)(w:World)(hI:ImD w I V)(hcl:∀ W,ImD W I V->Calls prog 106 #[imA I V] W fun e w'=>e=.returned (.int .i64 pl)/\Kt nO W w'):
  Calls prog 70 #[imA I V,.int .i64 7] w fun e w'=>e=.returned (.int .i64 pl)/\Kt nO w w':=by
 obtain⟨⟨ma,mc,hm⟩,⟨pa,pc,hp⟩,⟨ra,rc,hr⟩,⟨ha,hc,hh⟩,⟨ta,tc,ht⟩,-⟩:=hI.sl;obtain⟨vm,vp,vr,vh,vt⟩:=V;dsimp only at hm hp hr hh ht;subst hm hp hr hh ht;have IM0:=aA (show ImAt (w.alloc (aE I _)) w.heap.size I _ from⟨nH _ _,hI.keep ((Kt.refl _ w).alloc _)⟩);have K0:=aA (show Kt nO w (w.alloc (aE I _))from(Kt.refl _ w).alloc (aE I ⟨.slice ma I.nm mc,.slice pa I.np pc,.slice ra I.no rc,.slice ha I.hd.length hc,.slice ta I.pt.length tc⟩));obtain⟨c0,c1,c2,c3,c4,c5,c6,c7,c8⟩:=IM0.out.cells;have CC:=aA hcl;clear hI hcl;go_enter func70,ntmps70;go_wp2_with fail;refine(CC.out _ IM0.out.d).mono ?_;rintro e w1 ⟨rfl,k1⟩;have K1:=aA (nT K0.out k1);clear k1 c0 c1 c2 c3 c4 c5 c6 c7 c8;go_wp2_with fail;go_ret;exact⟨rfl,K1.out⟩
theorem MG(I:Img)(V:ImV)(pl:Int)(w:World)(hI:ImD w I V)(hcl:∀ W,ImD W I V->Calls prog 107 #[imA I V] W fun e w'=>e=.returned (.int .i64 pl)/\Kt nO W w'):
  Calls prog 70 #[imA I V,.int .i64 8] w fun e w'=>e=.returned (.int .i64 pl)/\Kt nO w w':=by
 obtain⟨⟨ma,mc,hm⟩,⟨pa,pc,hp⟩,⟨ra,rc,hr⟩,⟨ha,hc,hh⟩,⟨ta,tc,ht⟩,-⟩:=hI.sl;obtain⟨vm,vp,vr,vh,vt⟩:=V;dsimp only at hm hp hr hh ht;subst hm hp hr hh ht;have IM0:=aA (show ImAt (w.alloc (aE I _)) w.heap.size I _ from⟨nH _ _,hI.keep ((Kt.refl _ w).alloc _)⟩);have K0:=aA (show Kt nO w (w.alloc (aE I _))from(Kt.refl _ w).alloc (aE I ⟨.slice ma I.nm mc,.slice pa I.np pc,.slice ra I.no rc,.slice ha I.hd.length hc,.slice ta I.pt.length tc⟩));obtain⟨c0,c1,c2,c3,c4,c5,c6,c7,c8⟩:=IM0.out.cells;have CC:=aA hcl;clear hI hcl;go_enter func70,ntmps70;go_wp2_with fail;refine(CC.out _ IM0.out.d).mono ?_;rintro e w1 ⟨rfl,k1⟩;have K1:=aA (nT K0.out k1);clear k1 c0 c1 c2 c3 c4 c5 c6 c7 c8;go_wp2_with fail;go_ret;exact⟨rfl,K1.out⟩
theorem MD(I:Img)(V:ImV)(pl:Int)(w:World)(hI:ImD w I V)(hcl:∀ W,ImD W I V->Calls prog 108 #[imA I V] W fun e w'=>e=.returned (.int .i64 pl)/\Kt nO W w'):
  Calls prog 70 #[imA I V,.int .i64 9] w fun e w'=>e=.returned (.int .i64 pl)/\Kt nO w w':=by
 obtain⟨⟨ma,mc,hm⟩,⟨pa,pc,hp⟩,⟨ra,rc,hr⟩,⟨ha,hc,hh⟩,⟨ta,tc,ht⟩,-⟩:=hI.sl;obtain⟨vm,vp,vr,vh,vt⟩:=V;dsimp only at hm hp hr hh ht;subst hm hp hr hh ht;have IM0:=aA (show ImAt (w.alloc (aE I _)) w.heap.size I _ from⟨nH _ _,hI.keep ((Kt.refl _ w).alloc _)⟩);have K0:=aA (show Kt nO w (w.alloc (aE I _))from(Kt.refl _ w).alloc (aE I ⟨.slice ma I.nm mc,.slice pa I.np pc,.slice ra I.no rc,.slice ha I.hd.length hc,.slice ta I.pt.length tc⟩));obtain⟨c0,c1,c2,c3,c4,c5,c6,c7,c8⟩:=IM0.out.cells;have CC:=aA hcl;clear hI hcl;go_enter func70,ntmps70;go_wp2_with fail;refine(CC.out _ IM0.out.d).mono ?_;rintro e w1 ⟨rfl,k1⟩;have K1:=aA (nT K0.out k1);clear k1 c0 c1 c2 c3 c4 c5 c6 c7 c8;go_wp2_with fail;go_ret;exact⟨rfl,K1.out⟩
theorem VZ(I:Img)(V:ImV)(pl:Int)(w:World)(hI:ImD w I V)(hcl:∀ W,ImD W I V->Calls prog 109 #[imA I V] W fun e w'=>e=.returned (.int .i64 pl)/\Kt nO W w'):
  Calls prog 70 #[imA I V,.int .i64 10] w fun e w'=>e=.returned (.int .i64 pl)/\Kt nO w w':=by
 obtain⟨⟨ma,mc,hm⟩,⟨pa,pc,hp⟩,⟨ra,rc,hr⟩,⟨ha,hc,hh⟩,⟨ta,tc,ht⟩,-⟩:=hI.sl;obtain⟨vm,vp,vr,vh,vt⟩:=V;dsimp only at hm hp hr hh ht;subst hm hp hr hh ht;have IM0:=aA (show ImAt (w.alloc (aE I _)) w.heap.size I _ from⟨nH _ _,hI.keep ((Kt.refl _ w).alloc _)⟩);have K0:=aA (show Kt nO w (w.alloc (aE I _))from(Kt.refl _ w).alloc (aE I ⟨.slice ma I.nm mc,.slice pa I.np pc,.slice ra I.no rc,.slice ha I.hd.length hc,.slice ta I.pt.length tc⟩));obtain⟨c0,c1,c2,c3,c4,c5,c6,c7,c8⟩:=IM0.out.cells;have CC:=aA hcl;clear hI hcl;go_enter func70,ntmps70;go_wp2_with fail;refine(CC.out _ IM0.out.d).mono ?_;rintro e w1 ⟨rfl,k1⟩;have K1:=aA (nT K0.out k1);clear k1 c0 c1 c2 c3 c4 c5 c6 c7 c8;go_wp2_with fail;go_ret;exact⟨rfl,K1.out⟩
theorem VY(I:Img)(V:ImV)(pl:Int)(w:World)(hI:ImD w I V)(hcl:∀ W,ImD W I V->Calls prog 110 #[imA I V] W fun e w'=>e=.returned (.int .i64 pl)/\Kt nO W w'):
  Calls prog 70 #[imA I V,.int .i64 11] w fun e w'=>e=.returned (.int .i64 pl)/\Kt nO w w':=by
 obtain⟨⟨ma,mc,hm⟩,⟨pa,pc,hp⟩,⟨ra,rc,hr⟩,⟨ha,hc,hh⟩,⟨ta,tc,ht⟩,-⟩:=hI.sl;obtain⟨vm,vp,vr,vh,vt⟩:=V;dsimp only at hm hp hr hh ht;subst hm hp hr hh ht;have IM0:=aA (show ImAt (w.alloc (aE I _)) w.heap.size I _ from⟨nH _ _,hI.keep ((Kt.refl _ w).alloc _)⟩);have K0:=aA (show Kt nO w (w.alloc (aE I _))from(Kt.refl _ w).alloc (aE I ⟨.slice ma I.nm mc,.slice pa I.np pc,.slice ra I.no rc,.slice ha I.hd.length hc,.slice ta I.pt.length tc⟩));obtain⟨c0,c1,c2,c3,c4,c5,c6,c7,c8⟩:=IM0.out.cells;have CC:=aA hcl;clear hI hcl;go_enter func70,ntmps70;go_wp2_with fail;refine(CC.out _ IM0.out.d).mono ?_;rintro e w1 ⟨rfl,k1⟩;have K1:=aA (nT K0.out k1);clear k1 c0 c1 c2 c3 c4 c5 c6 c7 c8;go_wp2_with fail;go_ret;exact⟨rfl,K1.out⟩
theorem xD(I:Img)(V:ImV)(j:Nat)(hj1 : 1<=j)(hj:j<11)(h:∀ a,a<j->rl I a=none)(w:World)(hI:ImD w I V):
  Calls prog 70 #[imA I V,.int .i64 ((j+1:Nat):Int)] w fun e w'=>e=.returned (.int .i64 (eB (rl I j)))/\Kt nO w w':=by
 match j,hj1,hj with
 | 1,_,_=>
  obtain⟨k,L,hk,hL,k8,L64,-⟩:=may_facts (pR (h 0 (by decide)));have e:rl I 1=r2 I k:=by show r2 I I.ord.toNat=_;rw[hk,Int.toNat_natCast]
  rw[e];exact MN I V _ w hI (fun W hW=>ZU I V k L k8 L64 hk hL W hW)
 | 2,_,_=>
  obtain⟨k,L,hk,hL,k8,L64,hLk,-⟩:=may_facts (pR (h 0 (by decide)));have hnp:I.np<=1024:=by
   have hr:r2 I k=none:=(by have:=h 1 (by decide);rw[show rl I 1=r2 I I.ord.toNat from rfl,hk,Int.toNat_natCast] at this;exact this);unfold r2 at hr;by_cases c1:wiB I.reg 0 I.lim=false
   ·rw[if_pos c1] at hr;cases hr
   rw[if_neg c1] at hr;by_cases c2:I.nm≠I.reg.toNat*2 ^ k*4096
   ·rw[if_pos c2] at hr;cases hr
   rw[if_neg c2] at hr;by_cases c3:I.np≠I.reg.toNat*2 ^ k
   ·rw[if_pos c3] at hr;cases hr
   have c1' : 0<=I.reg/\I.reg<=I.lim:=by
    have:wiB I.reg 0 I.lim=true:=by simpa using c1
    unfold wiB at this;exact of_decide_eq_true this
   have hnp:I.np=I.reg.toNat*2 ^ k:=Decidable.not_not.1 c3;have hle:I.np<=L*2 ^ k:=(by rw[hnp];exact Nat.mul_le_mul_right _ (by omega));omega
  exact ML I V _ w hI (fun W hW=>PR I V hnp W hW)
 | 3,_,_=>
  obtain⟨r,hS⟩:=sn9_of (h 0 (by decide)) (h 1 (by decide)) (h 2 (by decide));exact MK I V _ w hI (fun W hW=>LA I V I.ord.toNat r hS W hW)
 | 4,_,_=>
  obtain⟨r,hS⟩:=sn9_of (h 0 (by decide)) (h 1 (by decide)) (h 2 (by decide));exact MJ I V _ w hI (fun W hW=>NA I V I.ord.toNat r hS W hW)
 | 5,_,_=>
  obtain⟨r,hS⟩:=sn9_of (h 0 (by decide)) (h 1 (by decide)) (h 2 (by decide));exact MI I V _ w hI (fun W hW=>QP I V I.ord.toNat r hS W hW)
 | 6,_,_=>
  obtain⟨r,hS⟩:=sn9_of (h 0 (by decide)) (h 1 (by decide)) (h 2 (by decide));exact MH I V _ w hI (fun W hW=>PD I V I.ord.toNat r hS W hW)
 | 7,_,_=>
  obtain⟨r,hS⟩:=sn9_of (h 0 (by decide)) (h 1 (by decide)) (h 2 (by decide));exact MG I V _ w hI (fun W hW=>JN I V I.ord.toNat r hS W hW)
 | 8,_,_=>
  obtain⟨r,hS⟩:=sn9_of (h 0 (by decide)) (h 1 (by decide)) (h 2 (by decide));exact MD I V _ w hI (fun W hW=>MO I V I.ord.toNat r hS (h 4 (by decide)) W hW)
 | 9,_,_=>
  obtain⟨r,hS⟩:=sn9_of (h 0 (by decide)) (h 1 (by decide)) (h 2 (by decide));exact VZ I V _ w hI (fun W hW=>YM I V I.ord.toNat r hS (h 4 (by decide)) W hW)
 | 10,_,_=>
  obtain⟨r,hS⟩:=sn9_of (h 0 (by decide)) (h 1 (by decide)) (h 2 (by decide));exact VY I V _ w hI (fun W hW=>LW I V I.ord.toNat r hS W hW)
theorem zF(I:Img)(V:ImV)(w:World)(hI:ImD w I V):
  Calls prog 30 #[imA I V] w fun e w'=>e=.returned (.tuple #[.int .i64 ((chk I).1:Int),.int .i64 ((chk I).2:Int)])/\Kt nO w w':=by
 have hb64:=hI.b64;obtain⟨hl1,hl2⟩:=hI.lim;obtain⟨ho1,ho2⟩:=hI.ord;obtain⟨⟨ma,mc,hm⟩,⟨pa,pc,hp⟩,⟨ra,rc,hr⟩,⟨ha,hc,hh⟩,⟨ta,tc,ht⟩,-⟩:=hI.sl;obtain⟨vm,vp,vr,vh,vt⟩:=V;dsimp only at hm hp hr hh ht;subst hm hp hr hh ht;have IM0:=aA (show ImAt (w.alloc (aE I _)) w.heap.size I _ from⟨nH _ _,hI.keep ((Kt.refl _ w).alloc _)⟩);have K0:=aA (show Kt nO w (w.alloc (aE I _))from(Kt.refl _ w).alloc (aE I ⟨.slice ma I.nm mc,.slice pa I.np pc,.slice ra I.no rc,.slice ha I.hd.length hc,.slice ta I.pt.length tc⟩));obtain⟨c0,c1,c2,c3,c4,c5,c6,c7,c8⟩:=IM0.out.cells;have MAY:=aA (fun W=>(M.May_any I.bS hb64 I.lim I.ord hl1 hl2 ho1 ho2 W).mono (fun e w' (h:e=.returned (.bool (M.mayB I.bS I.lim I.ord))/\M.Kt M.nO W w')=>(⟨h.1,qY h.2⟩:e=.returned (.bool (M.mayB I.bS I.lim I.ord))/\Kt nO W w')));have ONE:=aA (fun j hj1 hj h W hW=>xD I ⟨.slice ma I.nm mc,.slice pa I.np pc,.slice ra I.no rc,.slice ha I.hd.length hc,.slice ta I.pt.length tc⟩ j hj1 hj h W hW);obtain⟨r1,hr1⟩:∃ r,r=(chk I).1:=⟨_,rfl⟩;obtain⟨r2',hr2⟩:∃ r,r=(chk I).2:=⟨_,rfl⟩;rw[<-hr1,<-hr2];have FB:=aA (show ∀ j p,j<11->(∀ a,a<j->rl I a=none)->rl I j=some p->j+1=r1/\p=r2' from fun j p h1 h2 h3=>by rw[hr1,hr2,AV h1 h2 h3];exact⟨rfl,rfl⟩);have FG:=aA (show(∀ a,a<11->rl I a=none)->0=r1/\0=r2' from fun h=>by rw[hr1,hr2,chk_ok h];exact⟨rfl,rfl⟩);have R0:=aA (show rl I 0=if M.mayB I.bS I.lim I.ord=true then none else some 0 from rfl);obtain⟨mb,hmb⟩:∃ b,b=M.mayB I.bS I.lim I.ord:=⟨_,rfl⟩;rw[<-hmb] at MAY R0;clear hI hr1 hr2 hmb hb64 hl1 hl2 ho1 ho2;go_enter func30,ntmps30;go_wp2_with fail;refine(MAY.out _).mono ?_;rintro e w1 ⟨rfl,k1⟩;have IM1:=aA (IM0.out.keep k1);have K1:=aA (nT K0.out k1);clear k1 c0 c1 c2 c3 c4 c5 c6 c7 c8;generalize w.heap.size=ib at *;generalize w.alloc (aE I ⟨.slice ma I.nm mc,.slice pa I.np pc,.slice ra I.no rc,.slice ha I.hd.length hc,.slice ta I.pt.length tc⟩)=W0 at *
 cases mb with
 | false=>
  obtain⟨e1,e2⟩:=FB.out 0 0 (by decide) (fun a ha=>by omega) (by rw[R0.out];rfl);subst e1 e2;go_wp2_with fail;go_ret2;exact⟨rfl,K1.out⟩
 | true=>
  have N0:=aA (show rl I 0=none by rw[R0.out];rfl);go_wp2_with fail;go_loopw [4] (fun iv W=>∃ r:Nat,2<=r/\r<=12/\iv=.int .i64 r/\Hid (Kt nO w1 W/\∀ a,a+1<r->rl I a=none)) (fun iv _=>12-(intOf iv).toNat)
  case atStart=>exact⟨2,by decide,by decide,rfl,aA ⟨Kt.refl _ _,fun a ha=>by rw[show a=0 by omega];exact N0.out⟩⟩
  case round=>
   obtain⟨r,hr2,hr12,rfl,hG⟩:=hrel;have KG:=aA hG.out.1;have PREV:=aA hG.out.2;have IMa:=aA (IM1.out.keep KG.out);obtain⟨c0,c1,c2,c3,c4,c5,c6,c7,c8⟩:=IMa.out.cells;clear hG;by_cases hlt:r<=11
   ·have hri:(r:Int)<=11:=(by omega);obtain⟨j,rfl⟩:∃ j,r=j+1:=⟨r-1,by omega⟩;have ONEj:=aA (fun W hW=>ONE.out j (by omega) (by omega) (fun a ha=>PREV.out a (by omega)) W hW);obtain⟨r,hr⟩:=xe (j+1);rw[<-hr] at ONEj hri hr2;rw[<-hr];have HRE:=aA (show r=j+1/\r<=11 from⟨hr,by omega⟩);have HW:=aA (show wrap64 ((r:Int)+1)=((r+1:Nat):Int)by rw[wrap64];omega);obtain⟨x,hx⟩:=xe (rl I j);rw[<-hx] at ONEj;have HX:=aA hx.symm;clear hr hx hlt hr12;go_wp2_with fail;refine(ONEj.out _ IMa.out.d).mono ?_;rintro e w2 ⟨rfl,k2⟩;have K2:=aA (nT KG.out k2);clear k2 c0 c1 c2 c3 c4 c5 c6 c7 c8
    cases x with
    | none=>
     have P2:=aA (show ∀ a,a+1<r+1->rl I a=none from fun a ha=>by
      by_cases e:a=j
      ·rw[e];exact HX.out
      ·exact PREV.out a (by have:=HRE.out;omega))
     have q1:¬(0:Int)<=eB none:=(by decide);have q2:eB none = -1:=rfl;rw[q2];clear q1 q2;go_wp2_with fail;exact⟨⟨r+1,by omega,by have:=HRE.out;omega,by first|go_num|rw[HW.out],aA ⟨K2.out,P2.out⟩⟩,by have:=HRE.out;first|(rw[HW.out];simp only[intOf,Int.toNat_natCast];omega)|(simp[intOf];omega)⟩
    | some p=>
     rw[show eB (some p)=(p:Int)from rfl];have q1:(0:Int)<=(p:Int):=(by omega);obtain⟨e1,e2⟩:=FB.out j p (by have:=HRE.out;omega) (fun a ha=>PREV.out a (by have:=HRE.out;omega)) HX.out;rw[<-HRE.out.1] at e1;subst e1 e2;go_wp2_with fail;go_ret2;exact⟨rfl,nT K1.out K2.out⟩
   ·have hri:¬(r:Int)<=11:=(by omega);obtain⟨e1,e2⟩:=FG.out (fun a ha=>PREV.out a (by omega));subst e1 e2;go_wp2_with fail;go_ret2;exact⟨rfl,nT K1.out KG.out⟩
end Go.Proofs.YtkfmheelhinjdaaGreatDoor.W
