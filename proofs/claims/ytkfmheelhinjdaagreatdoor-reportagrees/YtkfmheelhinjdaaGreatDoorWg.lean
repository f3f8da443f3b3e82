import Derived.Test.YtkfmheelhinjdaaGreatDoorZf
import Derived.Test.YtkfmheelhinjdaaGreatDoorXz
import Derived.Deep.DeepCutAuto
set_option maxRecDepth 1000000
set_option maxHeartbeats 80000000
namespace Go.Proofs.YtkfmheelhinjdaaGreatDoor.W
open Tryz
open Go.RowKit
set_option linter.unusedVariables false
set_option maxHeartbeats 8000000
set_option maxRecDepth 6000
theorem jS{P:World->Prop}(w:World)(h:∀ W,W=w->P W):P w:=h w rfl
theorem tA(I:Img)(V:ImV)(g:Nat)(o:Int)(hg:g<I.np)(w:World)(hI:ImD w I V):
  Calls prog 147 #[imA I V,.int .i64 g,.int .i64 o] w fun e w'=>e=.returned (.bool (isF (I.pg g) o))/\Kt nO w w':=by
 obtain⟨⟨ma,mc,hm⟩,⟨pa,pc,hp⟩,⟨ra,rc,hr⟩,⟨ha,hc,hh⟩,⟨ta,tc,ht⟩,-⟩:=hI.sl;obtain⟨vm,vp,vr,vh,vt⟩:=V;dsimp only at hm hp hr hh ht;subst hm hp hr hh ht;have IM0:=aA (show ImAt (w.alloc (aE I _)) w.heap.size I _ from⟨nH _ _,hI.keep ((Kt.refl _ w).alloc _)⟩);have K0:=aA (show Kt nO w (w.alloc (aE I _))from(Kt.refl _ w).alloc (aE I ⟨.slice ma I.nm mc,.slice pa I.np pc,.slice ra I.no rc,.slice ha I.hd.length hc,.slice ta I.pt.length tc⟩));obtain⟨c0,c1,c2,c3,c4,c5,c6,c7,c8⟩:=IM0.out.cells;obtain⟨bl,oo,oc,hv,-,hpc⟩:=IM0.out.page g hg
 cases hv
 obtain⟨d0,d1,d2,d3,d4,d5,d6,d7,d8,d9,d10⟩:=hpc.c;have hgi:(g:Int)<I.np:=by omega
 obtain⟨bb,hbb⟩:=xe (isF (I.pg g) o);rw[<-hbb];have HB:=aA hbb;generalize I.pg g=p at *;clear hI hpc hg hbb;by_cases h1:p.kd=0
 ·have q1:(p.kd == 0)=true:=by rw[beq_iff_eq];exact h1
  by_cases h2:p.od=o
  ·have q2:(p.od == o)=true:=(by rw[beq_iff_eq];exact h2);have e:bb=true:=(by rw[HB.out];unfold isF;rw[decide_eq_true h1,decide_eq_true h2];rfl);subst e;clear h1 h2;go_enter func147,ntmps147;go_wp2_with fail;go_ret;exact⟨rfl,K0.out⟩
  ·have q2:(p.od == o)=false:=(by rw[beq_eq_false_iff_ne];exact h2);have e:bb=false:=(by rw[HB.out];unfold isF;rw[decide_eq_false h2];simp);subst e;clear h1 h2;go_enter func147,ntmps147;go_wp2_with fail;go_ret;exact⟨rfl,K0.out⟩
 ·have q1:(p.kd == 0)=false:=by rw[beq_eq_false_iff_ne];exact h1
  have e:bb=false:=by rw[HB.out];unfold isF;rw[decide_eq_false h1];rfl
  subst e;clear h1;go_enter func147,ntmps147;go_wp2_with fail;go_ret;exact⟨rfl,K0.out⟩
theorem TH(I:Img)(V:ImV)(hnp:I.np<=1024)(w:World)(hI:ImD w I V):
  Calls prog 102 #[imA I V] w fun e w'=>e=.returned (.int .i64 (dY (fst1 I.np fun i=>rngB I.ord I.np (I.pg i))))/\Kt nO w w':=by
 obtain⟨⟨ma,mc,hm⟩,⟨pa,pc,hp⟩,⟨ra,rc,hr⟩,⟨ha,hc,hh⟩,⟨ta,tc,ht⟩,-⟩:=hI.sl;obtain⟨vm,vp,vr,vh,vt⟩:=V;dsimp only at hm hp hr hh ht;subst hm hp hr hh ht;have IM0:=aA (show ImAt (w.alloc (aE I _)) w.heap.size I _ from⟨nH _ _,hI.keep ((Kt.refl _ w).alloc _)⟩);have K0:=aA (show Kt nO w (w.alloc (aE I _))from(Kt.refl _ w).alloc (aE I ⟨.slice ma I.nm mc,.slice pa I.np pc,.slice ra I.no rc,.slice ha I.hd.length hc,.slice ta I.pt.length tc⟩));obtain⟨c0,c1,c2,c3,c4,c5,c6,c7,c8⟩:=IM0.out.cells;obtain⟨ok,hok⟩:=xe (fun i=>rngB I.ord I.np (I.pg i));rw[<-hok];have OKE:=aA (show ∀ i,ok i=rngB I.ord I.np (I.pg i)from fun i=>by rw[hok]);have IN:=aA (fun x a b W=>FS x a b W);obtain⟨n,hn⟩:=xe (I.np);have NP:=aA hn;obtain⟨rr,hrr⟩:=xe (dY (fst1 I.np ok));rw[<-hrr];have BAD:=aA (show ∀ a,a<n->(∀ j,j<a->ok j=true)->ok a=false->rr=(a:Int)from fun a h1 h2 h3=>by rw[hrr,fG (by omega) h2 h3];rfl);have GOOD:=aA (show(∀ j,j<n->ok j=true)->rr = -1 from fun h=>by rw[hrr,fst1_ok (by rw[<-hn];exact h)];rfl);obtain⟨z,hz⟩:∃ z:Int,z=(I.np:Int)-1:=⟨_,rfl⟩;have hzw:wrap64 ((n:Int)-1)=z:=by rw[wrap64];omega
 have ZE:=aA hz;rw[<-hn] at c5 hnp IM0 K0;rw[<-hn];have HNP:=aA hnp;clear hI hok hn hrr hz hnp;go_enter func102,ntmps102;go_wp2_with fail;clear c0 c1 c2 c3 c4 c5 c6 c7 c8;generalize w.heap.size=ib at *;generalize w.alloc (aE I ⟨.slice ma I.nm mc,.slice pa n pc,.slice ra I.no rc,.slice ha I.hd.length hc,.slice ta I.pt.length tc⟩)=W0 at *;go_loopw [4] (fun iv W=>∃ a:Nat,a<=n/\iv=.int .i64 a/\Hid (Kt nO W0 W/\∀ j,j<a->ok j=true)) (fun iv _=>n-(intOf iv).toNat)
 case atStart=>exact⟨0,Nat.zero_le _,rfl,aA ⟨Kt.refl _ _,fun j hj=>by omega⟩⟩
 case round=>
  obtain⟨a,ha',rfl,hG⟩:=hrel;have IMa:=aA (IM0.out.keep hG.out.1);by_cases hlt:a<n
  ·have hai:(a:Int)<n:=(by omega);obtain⟨c0,c1,c2,c3,c4,c5,c6,c7,c8⟩:=IMa.out.cells;dsimp only at c5;obtain⟨bl,oo,oc,hv,-,hpc⟩:=IMa.out.page a (by rw[<-NP.out];exact hlt);injection hv with e1 e2 e3
   subst e1;clear e2 e3;obtain⟨d0,d1,d2,d3,d4,d5,d6,d7,d8,d9,d10⟩:=hpc.c;have OKA:=aA (OKE.out a);have BADA:=aA (BAD.out a hlt hG.out.2);have HLT:=aA hlt;generalize I.pg a=p at *;clear hpc hlt ha';go_upto_region 6 with fail;refine jS (P:=fun W=>Code.wp prog _ _ _ W) _ ?_;intro W1 hW;have k1:Kt nO wr W1:=(by subst hW;exact(Kt.refl _ wr).alloc _);have X1:W1.heap[wr.heap.size]?=some (aQ p):=(by subst hW;exact nH _ _);have o1:W1.cell? ⟨ib,2,none⟩=some (.int .i64 I.ord):=(IMa.out.keep k1).cells.2.2.1;have KE:=aA (nT hG.out.1 k1);obtain⟨e0,e1,e2,e3,e4,e5,e6⟩:=BI X1;have PREV:=aA hG.out.2;clear hW k1 X1 hG c0 c1 c2 c3 c4 c5 c6 c7 c8 d0 d1 d2 d3 d4 d5 d6 d7 d8 d9 d10 IMa;generalize wr.heap.size=pb at *;obtain⟨b1,hb1⟩:∃ b,b=wiB p.kd 0 4:=⟨_,rfl⟩;obtain⟨b2,hb2⟩:∃ b,b=wiB p.od 0 I.ord:=⟨_,rfl⟩;obtain⟨b3,hb3⟩:∃ b,b=wiB p.cl 0 7:=⟨_,rfl⟩;obtain⟨b4,hb4⟩:∃ b,b=wiB p.lv 0 256:=⟨_,rfl⟩;obtain⟨b5,hb5⟩:∃ b,b=wiB p.nx (-1) z:=⟨_,rfl⟩;obtain⟨b6,hb6⟩:∃ b,b=wiB p.pv (-1) z:=⟨_,rfl⟩;obtain⟨b7,hb7⟩:∃ b,b=wiB p.fs (-1) 255:=⟨_,rfl⟩;have OKB:=aA (show ok a=(b1 && (b2 && (b3 && (b4 && (b5 && (b6 && b7))))))by rw[OKA.out,hb1,hb2,hb3,hb4,hb5,hb6,hb7,ZE.out];rfl);have HB1:=aA hb1;have HB2:=aA hb2;have HB3:=aA hb3;have HB4:=aA hb4;have HB5:=aA hb5;have HB6:=aA hb6;have HB7:=aA hb7;clear hb1 hb2 hb3 hb4 hb5 hb6 hb7;go_wp2_with fail;refine(IN.out _ _ _ _).mono ?_;rintro e w1 ⟨rfl,rfl⟩;rw[<-HB1.out]
   cases b1 with
   | false=>
    have er:=BADA.out (by rw[OKB.out];simp);subst er;go_wp2_with fail;go_ret;exact⟨rfl,nT K0.out KE.out⟩
   | true=>
    go_wp2_with fail;refine(IN.out _ _ _ _).mono ?_;rintro e w2 ⟨rfl,rfl⟩;rw[<-HB2.out]
    cases b2 with
    | false=>
     have er:=BADA.out (by rw[OKB.out];simp);subst er;go_wp2_with fail;go_ret;exact⟨rfl,nT K0.out KE.out⟩
    | true=>
     go_wp2_with fail;refine(IN.out _ _ _ _).mono ?_;rintro e w3 ⟨rfl,rfl⟩;rw[<-HB3.out]
     cases b3 with
     | false=>
      have er:=BADA.out (by rw[OKB.out];simp);subst er;go_wp2_with fail;go_ret;exact⟨rfl,nT K0.out KE.out⟩
     | true=>
      go_wp2_with fail;refine(IN.out _ _ _ _).mono ?_;rintro e w4 ⟨rfl,rfl⟩;rw[<-HB4.out]
      cases b4 with
      | false=>
       have er:=BADA.out (by rw[OKB.out];simp);subst er;go_wp2_with fail;go_ret;exact⟨rfl,nT K0.out KE.out⟩
      | true=>
       go_wp2_with fail;refine(IN.out _ _ _ _).mono ?_;rintro e w5 ⟨rfl,rfl⟩;rw[<-HB5.out]
       cases b5 with
       | false=>
        have er:=BADA.out (by rw[OKB.out];simp);subst er;go_wp2_with fail;go_ret;exact⟨rfl,nT K0.out KE.out⟩
       | true=>
        go_wp2_with fail;refine(IN.out _ _ _ _).mono ?_;rintro e w6 ⟨rfl,rfl⟩;rw[<-HB6.out]
        cases b6 with
        | false=>
         have er:=BADA.out (by rw[OKB.out];simp);subst er;go_wp2_with fail;go_ret;exact⟨rfl,nT K0.out KE.out⟩
        | true=>
         go_wp2_with fail;refine(IN.out _ _ _ _).mono ?_;rintro e w7 ⟨rfl,rfl⟩;rw[<-HB7.out]
         cases b7 with
         | false=>
          have er:=BADA.out (by rw[OKB.out];simp);subst er;go_wp2_with fail;go_ret;exact⟨rfl,nT K0.out KE.out⟩
         | true=>
          have eo:ok a=true:=(by rw[OKB.out];rfl);go_wp2_with fail;have hw:wrap64 ((a:Int)+1)=((a+1:Nat):Int):=(by have:=HNP.out;have:=HLT.out;rw[wrap64];omega);rw[hw];exact⟨⟨a+1,by have:=HLT.out;omega,rfl,aA ⟨KE.out,fun j hj=>by
           by_cases e:j=a
           ·rw[e];exact eo
           ·exact PREV.out j (by omega)⟩⟩,by have:=HLT.out;simp only[intOf,Int.toNat_natCast];omega⟩
  ·have hai:¬(a:Int)<n:=(by omega);obtain⟨c0,c1,c2,c3,c4,c5,c6,c7,c8⟩:=IMa.out.cells;dsimp only at c5;have er:=GOOD.out (fun j hj=>hG.out.2 j (by omega));subst er;go_wp2_with fail;go_ret;exact⟨rfl,nT K0.out hG.out.1⟩
end Go.Proofs.YtkfmheelhinjdaaGreatDoor.W
