import Derived.Test.YtkfmheelhinjdaaGreatDoorWg
import Derived.Test.YtkfmheelhinjdaaGreatDoorWe
import Derived.Test.YtkfmheelhinjdaaGreatDoorXn
set_option maxRecDepth 1000000
set_option maxHeartbeats 80000000
namespace Go.Proofs.YtkfmheelhinjdaaGreatDoor.W
open Tryz
open Go.RowKit
set_option linter.unusedVariables false
set_option maxHeartbeats 8000000
set_option maxRecDepth 6000
theorem FW(I:Img)(V:ImV)(k r:Nat)(hS:Sn9 I k r)(w:World)(hI:ImD w I V):
  Calls prog 110 #[imA I V] w fun e w'=>e=.returned (.int .i64 (dY (fst1 I.np (ok11 I))))/\Kt nO w w':=by
 obtain⟨⟨ma,mc,hm⟩,⟨pa,pc,hp⟩,⟨ra,rc,hr⟩,⟨ha,hc,hh⟩,⟨ta,tc,ht⟩,-⟩:=hI.sl;obtain⟨vm,vp,vr,vh,vt⟩:=V;dsimp only at hm hp hr hh ht;subst hm hp hr hh ht;have IM0:=aA (show ImAt (w.alloc (aE I _)) w.heap.size I _ from⟨nH _ _,hI.keep ((Kt.refl _ w).alloc _)⟩);have K0:=aA (show Kt nO w (w.alloc (aE I _))from(Kt.refl _ w).alloc (aE I ⟨.slice ma I.nm mc,.slice pa I.np pc,.slice ra I.no rc,.slice ha I.hd.length hc,.slice ta I.pt.length tc⟩));obtain⟨c0,c1,c2,c3,c4,c5,c6,c7,c8⟩:=IM0.out.cells;obtain⟨ok,hok⟩:=xe (ok11 I);rw[<-hok];have OKE:=aA (show ∀ i,ok i=ok11 I i from fun i=>by rw[hok]);have hnp:=hS.np1;have HS:=aA hS;clear hS;obtain⟨n,hn⟩:=xe (I.np);have NP:=aA hn;obtain⟨rr,hrr⟩:=xe (dY (fst1 I.np ok));rw[<-hrr];have BAD:=aA (show ∀ a,a<n->(∀ j,j<a->ok j=true)->ok a=false->rr=(a:Int)from fun a h1 h2 h3=>by rw[hrr,fG (by omega) h2 h3];rfl);have GOOD:=aA (show(∀ j,j<n->ok j=true)->rr = -1 from fun h=>by rw[hrr,fst1_ok (by rw[<-hn];exact h)];rfl);rw[<-hn] at c5 hnp IM0 K0;rw[<-hn];have HNP:=aA hnp;clear hI hok hn hrr hnp;go_enter func110,ntmps110;go_wp2_with fail;clear c0 c1 c2 c3 c4 c5 c6 c7 c8;generalize w.heap.size=ib at *;generalize w.alloc (aE I ⟨.slice ma I.nm mc,.slice pa n pc,.slice ra I.no rc,.slice ha I.hd.length hc,.slice ta I.pt.length tc⟩)=W0 at *;go_loopw [3] (fun iv W=>∃ a:Nat,a<=n/\iv=.int .i64 a/\Hid (Kt nO W0 W/\∀ j,j<a->ok j=true)) (fun iv _=>n-(intOf iv).toNat)
 case atStart=>exact⟨0,Nat.zero_le _,rfl,aA ⟨Kt.refl _ _,fun j hj=>by omega⟩⟩
 case round=>
  obtain⟨a,ha',rfl,hG⟩:=hrel;have IMa:=aA (IM0.out.keep hG.out.1);by_cases hlt:a<n
  ·have hai:(a:Int)<n:=(by omega);obtain⟨c0,c1,c2,c3,c4,c5,c6,c7,c8⟩:=IMa.out.cells;dsimp only at c5;obtain⟨bl,oo,oc,hv,-,hpc⟩:=IMa.out.page a (by rw[<-NP.out];exact hlt);injection hv with e1 e2 e3
   subst e1;clear e2 e3;obtain⟨d0,d1,d2,d3,d4,d5,d6,d7,d8,d9,d10⟩:=hpc.c;have OKA:=aA (OKE.out a);obtain⟨kd,od,cc,ll,-,-,-,-,y5,y6,-⟩:=HS.out.pg a (by rw[<-NP.out];exact hlt);have CE:=aA (fun W=>rC (I.pg a) cc y5 y6 W);have EQ:=aA (show ok11 I a=(!(decide ((I.pg a).kd=4) && decide ((I.pg a).lv=(celN9 cc:Int))) || (decide ((I.pg a).nx = -1) && decide ((I.pg a).pv = -1)))by unfold ok11;rw[y5,Int.toNat_natCast]);rw[EQ.out] at OKA;clear EQ y5;have BADA:=aA (BAD.out a hlt hG.out.2);have HLT:=aA hlt;generalize I.pg a=p at *;clear hpc hlt ha';go_upto_region 5 with fail;refine jS (P:=fun W=>Code.wp prog _ _ _ W) _ ?_;intro W1 hW;have k1:Kt nO wr W1:=(by subst hW;exact(Kt.refl _ wr).alloc _);have X1:W1.heap[wr.heap.size]?=some (aQ p):=(by subst hW;exact nH _ _);have KE:=aA (nT hG.out.1 k1);have PREV:=aA hG.out.2;generalize wr.heap.size=pb at *;have X:∀ x:KW W1,x.v.heap[pb]?=some (aQ p):=fun x=>(x.k.block _ (lH X1) (fun y=>y)).trans X1
   clear hW k1 X1 hG c0 c1 c2 c3 c4 c5 c6 c7 c8 d0 d1 d2 d3 d4 d5 d6 d7 d8 d9 d10 IMa;have e0:∀ x:KW W1,x.v.cell? ⟨pb,0,none⟩=some (.int .i64 p.kd):=fun x=>by simp[World.cell?,X x]
   have e1:∀ x:KW W1,x.v.cell? ⟨pb,1,none⟩=some (.int .i64 p.od):=fun x=>by simp[World.cell?,X x]
   have e2:∀ x:KW W1,x.v.cell? ⟨pb,2,none⟩=some (.int .i64 p.cl):=fun x=>by simp[World.cell?,X x]
   have e3:∀ x:KW W1,x.v.cell? ⟨pb,3,none⟩=some (.int .i64 p.lv):=fun x=>by simp[World.cell?,X x]
   have e4:∀ x:KW W1,x.v.cell? ⟨pb,4,none⟩=some (.int .i64 p.nx):=fun x=>by simp[World.cell?,X x]
   have e5:∀ x:KW W1,x.v.cell? ⟨pb,5,none⟩=some (.int .i64 p.pv):=fun x=>by simp[World.cell?,X x]
   have e6:∀ x:KW W1,x.v.cell? ⟨pb,6,none⟩=some (.int .i64 p.fs):=fun x=>by simp[World.cell?,X x]
   have e7:∀ x:KW W1,x.v.cell? ⟨pb,7,none⟩=some (.int .u64 p.b0):=fun x=>by simp[World.cell?,X x]
   have e8:∀ x:KW W1,x.v.cell? ⟨pb,8,none⟩=some (.int .u64 p.b1):=fun x=>by simp[World.cell?,X x]
   have e9:∀ x:KW W1,x.v.cell? ⟨pb,9,none⟩=some (.int .u64 p.b2):=fun x=>by simp[World.cell?,X x]
   have e10:∀ x:KW W1,x.v.cell? ⟨pb,10,none⟩=some (.int .u64 p.b3):=fun x=>by simp[World.cell?,X x]
   generalize celN9 cc=cn at *;have NEXT:=aA (show ok a=true->∀ j,j<a+1->ok j=true from fun eo j hj=>by
    by_cases e:j=a
    ·rw[e];exact eo
    ·exact PREV.out j (by omega))
   by_cases h1:p.kd=4
   case neg=>
    have q1:(p.kd == 4)=false:=(by rw[beq_eq_false_iff_ne];exact h1);refine bU (by kernel_rfl) (by kernel_rfl) ?_;repeat (go_big_quiet_step (first|(go_at_call 64;exact Calls.kept_of (CE.out _))))
    refine wpQuiet_nil ?_;intro y;have YK:=aA (nT KE.out y.k);clear e0 e1 e2 e3 e4 e5 e6 e7 e8 e9 e10 X;generalize y.v=W6 at *;have eo:ok a=true:=(by rw[OKA.out];rw[decide_eq_false h1];rfl);go_wp2_with fail;have hw:wrap64 ((a:Int)+1)=((a+1:Nat):Int):=(by have:=HNP.out;have:=HLT.out;rw[wrap64];omega);rw[hw];exact⟨⟨a+1,by have:=HLT.out;omega,rfl,aA ⟨YK.out,NEXT.out eo⟩⟩,by have:=HLT.out;simp only[intOf,Int.toNat_natCast];omega⟩
   have q1:(p.kd == 4)=true:=(by rw[beq_iff_eq];exact h1);have H1:=aA h1;clear h1;by_cases h2:p.lv=(cn:Int)
   case neg=>
    have q2:(p.lv == (cn:Int))=false:=(by rw[beq_eq_false_iff_ne];exact h2);refine bU (by kernel_rfl) (by kernel_rfl) ?_;repeat (go_big_quiet_step (first|(go_at_call 64;exact Calls.kept_of (CE.out _))))
    refine wpQuiet_nil ?_;intro y;have YK:=aA (nT KE.out y.k);clear e0 e1 e2 e3 e4 e5 e6 e7 e8 e9 e10 X;generalize y.v=W6 at *;have eo:ok a=true:=(by rw[OKA.out];rw[decide_eq_false h2];simp);go_wp2_with fail;have hw:wrap64 ((a:Int)+1)=((a+1:Nat):Int):=(by have:=HNP.out;have:=HLT.out;rw[wrap64];omega);rw[hw];exact⟨⟨a+1,by have:=HLT.out;omega,rfl,aA ⟨YK.out,NEXT.out eo⟩⟩,by have:=HLT.out;simp only[intOf,Int.toNat_natCast];omega⟩
   have q2:(p.lv == (cn:Int))=true:=(by rw[beq_iff_eq];exact h2);have H2:=aA h2;clear h2;by_cases h3:p.nx = -1
   case neg=>
    have q3:(p.nx != -1)=true:=(by rw[bne_iff_ne];exact h3);refine bU (by kernel_rfl) (by kernel_rfl) ?_;repeat (go_big_quiet_step (first|(go_at_call 64;exact Calls.kept_of (CE.out _))))
    refine wpQuiet_nil ?_;intro y;have YK:=aA (nT KE.out y.k);clear e0 e1 e2 e3 e4 e5 e6 e7 e8 e9 e10 X;generalize y.v=W6 at *;have er:=BADA.out (by rw[OKA.out];rw[decide_eq_true H1.out,decide_eq_true H2.out,decide_eq_false h3];rfl);subst er;go_wp2_with fail;go_ret;exact⟨rfl,nT K0.out YK.out⟩
   have q3:(p.nx != -1)=false:=(by rw[bne_eq_false_iff_eq];exact h3);have H3:=aA h3;clear h3;by_cases h4:p.pv = -1
   case neg=>
    have q4:(p.pv != -1)=true:=(by rw[bne_iff_ne];exact h4);refine bU (by kernel_rfl) (by kernel_rfl) ?_;repeat (go_big_quiet_step (first|(go_at_call 64;exact Calls.kept_of (CE.out _))))
    refine wpQuiet_nil ?_;intro y;have YK:=aA (nT KE.out y.k);clear e0 e1 e2 e3 e4 e5 e6 e7 e8 e9 e10 X;generalize y.v=W6 at *;have er:=BADA.out (by rw[OKA.out];rw[decide_eq_true H1.out,decide_eq_true H2.out,decide_eq_false h4];simp);subst er;go_wp2_with fail;go_ret;exact⟨rfl,nT K0.out YK.out⟩
   have q4:(p.pv != -1)=false:=(by rw[bne_eq_false_iff_eq];exact h4);have H4:=aA h4;clear h4;refine bU (by kernel_rfl) (by kernel_rfl) ?_;repeat (go_big_quiet_step (first|(go_at_call 64;exact Calls.kept_of (CE.out _))))
   refine wpQuiet_nil ?_;intro y;have YK:=aA (nT KE.out y.k);clear e0 e1 e2 e3 e4 e5 e6 e7 e8 e9 e10 X;generalize y.v=W6 at *;have eo:ok a=true:=(by rw[OKA.out];rw[decide_eq_true H3.out,decide_eq_true H4.out];simp);go_wp2_with fail;have hw:wrap64 ((a:Int)+1)=((a+1:Nat):Int):=(by have:=HNP.out;have:=HLT.out;rw[wrap64];omega);rw[hw];exact⟨⟨a+1,by have:=HLT.out;omega,rfl,aA ⟨YK.out,NEXT.out eo⟩⟩,by have:=HLT.out;simp only[intOf,Int.toNat_natCast];omega⟩
  ·have hai:¬(a:Int)<n:=(by omega);obtain⟨c0,c1,c2,c3,c4,c5,c6,c7,c8⟩:=IMa.out.cells;dsimp only at c5;have er:=GOOD.out (fun j hj=>hG.out.2 j (by omega));subst er;go_wp2_with fail;go_ret;exact⟨rfl,nT K0.out hG.out.1⟩
set_option maxHeartbeats 8000000
set_option maxRecDepth 6000
theorem qG{w w':World}(h:M.Kt M.nO w w'):Kt nO w w':=⟨h.os,h.tape,h.output,h.size,h.block⟩
theorem WT(I:Img)(V:ImV)(k L:Nat)(hk:k<=8)(hL:L<=64)(hko:I.ord=(k:Int))(hlo:I.lim=(L:Int))(w:World)(hI:ImD w I V):
  Calls prog 101 #[imA I V] w fun e w'=>e=.returned (.int .i64 (dY (r2 I k)))/\Kt nO w w':=by
 have hrg:=hI.reg;have HHD:=aA hI.hds.1;obtain⟨-,-,-,-,-,bm,bp,br,bt⟩:=hI.sl;obtain⟨⟨ma,mc,hm⟩,⟨pa,pc,hp⟩,⟨ra,rc,hr⟩,⟨ha,hc,hh⟩,⟨ta,tc,ht⟩,-⟩:=hI.sl;obtain⟨vm,vp,vr,vh,vt⟩:=V;dsimp only at hm hp hr hh ht;subst hm hp hr hh ht;have IM0:=aA (show ImAt (w.alloc (aE I _)) w.heap.size I _ from⟨nH _ _,hI.keep ((Kt.refl _ w).alloc _)⟩);have K0:=aA (show Kt nO w (w.alloc (aE I _))from(Kt.refl _ w).alloc (aE I ⟨.slice ma I.nm mc,.slice pa I.np pc,.slice ra I.no rc,.slice ha I.hd.length hc,.slice ta I.pt.length tc⟩));obtain⟨c0,c1,c2,c3,c4,c5,c6,c7,c8⟩:=IM0.out.cells;have L0:=aA (show LnI w ((w.alloc (aE I ⟨.slice ma I.nm mc,.slice pa I.np pc,.slice ra I.no rc,.slice ha I.hd.length hc,.slice ta I.pt.length tc⟩)).alloc (.cells #[.int .u64 I.bS,.int .i64 I.lim,.int .i64 I.ord] 29 (0,0))) w.heap.size (w.heap.size+1) I ⟨.slice ma I.nm mc,.slice pa I.np pc,.slice ra I.no rc,.slice ha I.hd.length hc,.slice ta I.pt.length tc⟩from⟨IM0.out.keep ((Kt.refl _ _).alloc _),by have:=nH (w.alloc (aE I ⟨.slice ma I.nm mc,.slice pa I.np pc,.slice ra I.no rc,.slice ha I.hd.length hc,.slice ta I.pt.length tc⟩)) (.cells #[.int .u64 I.bS,.int .i64 I.lim,.int .i64 I.ord] 29 (0,0));rwa [World.size_alloc] at this,K0.out.alloc _⟩);obtain⟨rr,hrr⟩:=xe (dY (r2 I k));rw[<-hrr];have RR:=aA hrr;have HKO:=aA hko;have HLO:=aA hlo;have HP8:=aA (M.pow8 k hk);have BM:=aA bm;have BP:=aA bp;have BR:=aA br;have HRG:=aA hrg;clear hI hrr hko hlo IM0 K0 bm bp br hrg;go_enter func101,ntmps101;go_upto_region 2 with fail;refine jS (P:=fun W=>Code.wp prog _ _ _ W) _ ?_;intro W0 hW;rw[<-hW] at L0;clear hW c0 c1 c2 c3 c4 c5 c6 c7 c8;generalize w.heap.size+1=g at *;generalize w.heap.size=ib at *;obtain⟨c0,c1,c2,c3,c4,c5,c6,c7,c8⟩:=L0.out.im.cells;have q1:W0.cell? ⟨g,1,none⟩=some (.int .i64 I.lim):=by simp[World.cell?,L0.out.cf]
 rw[HLO.out] at q1;have IN:=aA (fun W=>FS I.reg 0 (L:Int) W);have hw0:wiB I.reg 0 I.lim=wiB I.reg 0 (L:Int):=by rw[HLO.out]
 obtain⟨b0,hb0⟩:∃ b,b=wiB I.reg 0 (L:Int):=⟨_,rfl⟩;rw[<-hb0] at IN hw0;go_wp2_with fail;refine(IN.out _).mono ?_;rintro e w1 ⟨rfl,rfl⟩;clear c0 c1 c2 c3 c4 c5 c6 c7 c8 q1
 cases b0 with
 | false=>
  have er:rr=0:=by rw[RR.out,r2,hw0,if_pos rfl];rfl
  subst er;clear hb0 hw0;go_wp2_with fail;go_ret;exact⟨rfl,L0.out.k⟩
 | true=>
  have hreg : 0<=I.reg/\I.reg<=(L:Int):=by unfold wiB at hb0;exact of_decide_eq_true hb0.symm
  obtain⟨r,hr⟩:=Int.eq_ofNat_of_zero_le hreg.1;have HR:=aA hr;have hrl:r<=64:=by omega
  obtain⟨n,hn⟩:=xe (r*2 ^ k);have hn1:n<=16384:=by
   rw[hn];exact Nat.le_trans (Nat.mul_le_mul hrl HP8.out.2) (by decide)
  obtain⟨P,hP⟩:=xe (2 ^ k);obtain⟨R,hRR⟩:=xe (M.RS k);have hRP:R=4096*P:=by rw[hRR,M.RS,hP]
  have hrP:r*P=n:=by rw[hP,hn]
  obtain⟨z,hz⟩:=xe (n*4096);have hm1:IntKind.u64.wrap ((r:Int)*(R:Int))=(z:Int):=by
   have e3:r*R=z:=(by rw[hz,<-hrP,hRP,Nat.mul_assoc,Nat.mul_comm P]);have e2:(r:Int)*(R:Int)=z:=(by rw[<-e3,Int.natCast_mul]);rw[e2,wrap_u64];omega
  have hm2:IntKind.i64.wrap ((r:Int)*(P:Int))=(n:Int):=by
   have e2:(r:Int)*(P:Int)=n:=(by rw[<-hrP,Int.natCast_mul]);rw[e2,IntKind.wrap_i64];omega
  have hm3:wrap64 ((r:Int)*(P:Int))=(n:Int):=by
   have e2:(r:Int)*(P:Int)=n:=(by rw[<-hrP,Int.natCast_mul]);rw[e2,wrap64];omega
  have HN:=aA (show I.reg.toNat*2 ^ k=n by rw[hr,Int.toNat_natCast,hn]);have HR2:=aA (show r2 I k=(if I.nm≠n*4096 then some 1 else if I.np≠n then some 2 else if I.no≠k then some 3 else if fst1 I.no (fun j=>decide ((I.pr j).length=dX I.np j))≠none then some 3 else if I.hd.length≠k+1 then some 4 else if I.pt.length≠8 then some 5 else none)by unfold r2;rw[if_neg (by rw[hw0];simp),HN.out]);have RC:=aA (fun W=>(M.R_any (I.bS:Int) (L:Int) k hk W).mono (fun e w' (h:e=.returned (.int .u64 ((M.RS k:Nat):Int))/\M.Kt M.nO W w')=>(⟨h.1,qG h.2⟩:e=.returned (.int .u64 ((M.RS k:Nat):Int))/\Kt nO W w')));rw[<-hRR] at RC;have PW:=aA (fun W=>mR k (by omega) W);rw[<-hP] at PW;have f1:IntKind.u64.wrap (I.nm:Int)=I.nm:=by have:=BM.out;rw[wrap_u64];omega
  have f2:IntKind.u64.wrap (r:Int)=r:=by rw[wrap_u64];omega
  have HZ:=aA hz;have HN1:=aA hn1;clear hb0 hw0 hreg hr hn hP hRR hRP hrP hz hn1;obtain⟨c0,c1,c2,c3,c4,c5,c6,c7,c8⟩:=L0.out.im.all;obtain⟨q1,q2⟩:=L0.out.all;have q0:∀ x:KW w1,x.v.cell? ⟨g,0,none⟩=some (.int .u64 I.bS):=fun x=>by simp[World.cell?,(L0.out.keep x.k).cf]
  rw[HLO.out] at q1;rw[HKO.out] at q2;rw[HR.out] at c3;dsimp only at c4 c5 c6 c7 c8;by_cases h1:I.nm=z
  case neg=>
   have g1:((I.nm:Int) != (z:Int))=true:=(by rw[bne_iff_ne];omega);have er:rr=1:=(by rw[RR.out,HR2.out,<-HZ.out,if_pos h1];rfl);clear h1;subst er;go_wp2_with fail;refine bU (by kernel_rfl) (by kernel_rfl) ?_;repeat (go_big_quiet_step (first|(go_at_call 145;exact Calls.kept_of (RC.out _))))
   refine wpQuiet_nil ?_;intro x;have KX:=aA (nT L0.out.k x.k);clear c0 c1 c2 c3 c4 c5 c6 c7 c8 q0 q1 q2;generalize x.v=W1 at *;go_wp2_with fail;go_ret;exact⟨rfl,KX.out⟩
  have g1:((I.nm:Int) != (z:Int))=false:=by rw[bne_eq_false_iff_eq];omega
  have E1:=aA (show I.nm=n*4096 from h1.trans HZ.out);clear h1;go_wp2_with fail;refine bU (by kernel_rfl) (by kernel_rfl) ?_;repeat (go_big_quiet_step (first|(go_at_call 145;exact Calls.kept_of (RC.out _))))
  refine wpQuiet_nil ?_;intro x;have L1:=aA (L0.out.keep x.k);clear c0 c1 c2 c3 c4 c5 c6 c7 c8 q0 q1 q2 L0 hm1 f1 f2 g1;generalize x.v=W1 at *;obtain⟨c0,c1,c2,c3,c4,c5,c6,c7,c8⟩:=L1.out.im.all;obtain⟨q1,q2⟩:=L1.out.all;rw[HLO.out] at q1;rw[HKO.out] at q2;rw[HR.out] at c3;dsimp only at c4 c5 c6 c7 c8;by_cases h1:I.np=n
  case neg=>
   have g1:((I.np:Int) != (n:Int))=true:=(by rw[bne_iff_ne];omega);have er:rr=2:=(by rw[RR.out,HR2.out,if_neg (not_not_intro E1.out),if_pos h1];rfl);clear h1;subst er;go_wp2_with fail;refine bU (by kernel_rfl) (by kernel_rfl) ?_;repeat (go_big_quiet_step (first|(go_at_call 99;exact Calls.kept_of ((PW.out _).mono fun _ _ ⟨h1,h2⟩=>⟨h1,h2▸Kt.refl _ _⟩))))
   refine wpQuiet_nil ?_;intro x;have KX:=aA (nT L1.out.k x.k);clear c0 c1 c2 c3 c4 c5 c6 c7 c8 q1 q2;generalize x.v=W1 at *;go_wp2_with fail;go_ret;exact⟨rfl,KX.out⟩
  have g1:((I.np:Int) != (n:Int))=false:=by rw[bne_eq_false_iff_eq];omega
  have E2:=aA h1;clear h1;go_wp2_with fail;refine bU (by kernel_rfl) (by kernel_rfl) ?_;repeat (go_big_quiet_step (first|(go_at_call 99;exact Calls.kept_of ((PW.out _).mono fun _ _ ⟨h1,h2⟩=>⟨h1,h2▸Kt.refl _ _⟩))))
  refine wpQuiet_nil ?_;intro x;have L2:=aA (L1.out.keep x.k);clear c0 c1 c2 c3 c4 c5 c6 c7 c8 q1 q2 L1 hm2 hm3 g1;generalize x.v=W2 at *;obtain⟨c0,c1,c2,c3,c4,c5,c6,c7,c8⟩:=L2.out.im.cells;have q2:W2.cell? ⟨g,2,none⟩=some (.int .i64 I.ord):=by simp[World.cell?,L2.out.cf]
  rw[HKO.out] at q2;dsimp only at c4 c5 c6 c7 c8;by_cases h1:I.no=k
  case neg=>
   have g1:((I.no:Int) != (k:Int))=true:=(by rw[bne_iff_ne];omega);have er:rr=3:=(by rw[RR.out,HR2.out,if_neg (not_not_intro E1.out),if_neg (not_not_intro E2.out),if_pos h1];rfl);clear h1;subst er;go_wp2_with fail;go_ret;exact⟨rfl,L2.out.k⟩
  have g1:((I.no:Int) != (k:Int))=false:=by rw[bne_eq_false_iff_eq];omega
  have E3:=aA h1;clear h1;go_wp2_with fail;clear c0 c1 c2 c3 c4 c5 c6 c7 c8 q2 g1;go_loopw [4] (fun iv W=>∃ j:Nat,j<=k/\iv=.int .i64 j/\Hid (LnI w W ib g I ⟨.slice ma I.nm mc,.slice pa I.np pc,.slice ra I.no rc,.slice ha I.hd.length hc,.slice ta I.pt.length tc⟩/\∀ x,x<j->decide ((I.pr x).length=dX I.np x)=true)) (fun iv _=>k-(intOf iv).toNat)
  case atStart=>exact⟨0,Nat.zero_le _,rfl,aA ⟨L2.out,fun x hx=>by omega⟩⟩
  case round=>
   clear L2;obtain⟨j,hj,rfl,hR⟩:=hrel;have L3:=aA hR.out.1;have PREV:=aA hR.out.2;clear hR;obtain⟨c0,c1,c2,c3,c4,c5,c6,c7,c8⟩:=L3.out.im.cells;have q2:wr.cell? ⟨g,2,none⟩=some (.int .i64 I.ord):=(by simp[World.cell?,L3.out.cf]);rw[HKO.out] at q2;dsimp only at c4 c5 c6 c7 c8;by_cases hlt:j<k
   ·have hji:(j:Int)<k:=(by omega);have HJ:=aA hlt;have HJ2:=aA (show j+1<=k from hlt);have HW:=aA (show wrap64 ((j:Int)+1)=((j+1:Nat):Int)by rw[wrap64];omega);clear hlt hj;obtain⟨Q,hQ⟩:=xe (2 ^ (j+1));have PJ:=aA (fun W=>mR (j+1) (by have:=HJ.out;omega) W);rw[<-hQ] at PJ;have hQ1 : 1<=Q:=(by rw[hQ];exact Nat.two_pow_pos _);have hQ2:Q<=512:=(by rw[hQ];exact mK _ (by have:=HJ.out;omega));obtain⟨pn,hpn⟩:=xe (I.np/Q);have PN:=aA (show(pn+63)/64=dX I.np j by rw[dX,hpn,hQ]);have hpnl:pn<=16384:=(by have:=HN1.out;rw[hpn,E2.out];exact Nat.le_trans (Nat.div_le_self _ _) this);have s1:IntKind.i64.wrap ((j:Int)+1)=((j+1:Nat):Int):=(by have:=HJ.out;rw[IntKind.wrap_i64];omega);have s2:(I.np:Int).tdiv (Q:Int)=pn:=(by rw[hpn];rfl);have s3:(I.np:Int)/(Q:Int)=pn:=(by rw[hpn];simp);have s4:IntKind.i64.wrap (pn:Int)=pn:=(by rw[IntKind.wrap_i64];omega);have s5:¬(Q:Int)=0:=(by omega);have s6:((Q:Int) == 0)=false:=(by rw[beq_eq_false_iff_ne];omega);have s7:¬(Q:Int) = -1:=(by omega);obtain⟨j1,hj1⟩:=xe (j+1);rw[<-hj1] at s1 PJ;clear hQ hpn hj1;go_wp2_with fail;clear c0 c1 c2 c3 c4 c5 c6 c7 c8 q2;obtain⟨c0,c1,c2,c3,c4,c5,c6,c7,c8⟩:=L3.out.im.all;dsimp only at c4 c5 c6 c7 c8;refine bU (by kernel_rfl) (by kernel_rfl) ?_;repeat (go_big_quiet_step (first|(go_at_call 99;exact Calls.kept_of ((PJ.out _).mono fun _ _ ⟨h1,h2⟩=>⟨h1,h2▸Kt.refl _ _⟩))))
    refine wpQuiet_nil ?_;intro x;have L4:=aA (L3.out.keep x.k);clear c0 c1 c2 c3 c4 c5 c6 c7 c8 s1 s2 s3 s4 s5 s6 s7 L3;generalize x.v=W4 at *;obtain⟨c0,c1,c2,c3,c4,c5,c6,c7,c8⟩:=L4.out.im.cells;dsimp only at c4 c5 c6 c7 c8;obtain⟨ws,_,ra',rc',hrv,hr3⟩:=L4.out.im.d.prs;injection hrv with e1 e2 e3
    subst e1;have hjno:j<I.no:=(by rw[E3.out];exact HJ.out);rcases hr3 with hr3|⟨bl,o,rfl,_,hcc⟩
    ·omega
    obtain⟨d0,hz,za,zc,hzv,_⟩:=hcc j hjno;rw[hzv] at d0;have hjn:(j:Int)<I.no:=(by omega);obtain⟨zl,hzl⟩:=xe ((I.pr j).length);rw[<-hzl] at d0;obtain⟨q,hq⟩:=xe (dX I.np j);have t1:((pn:Int)+63)/64=(q:Int):=(by rw[hq,<-PN.out];omega);have HQ:=aA hq;have HZL:=aA hzl;clear hcc hz hzv hzl hq e2 e3 hjno;by_cases h4:zl=q
    case neg=>
     have g4:((zl:Int) != (q:Int))=true:=(by rw[bne_iff_ne];omega);have er:rr=3:=by
      rw[RR.out,HR2.out,if_neg (not_not_intro E1.out),if_neg (not_not_intro E2.out),if_neg (not_not_intro E3.out),if_pos]
      ·rfl
      ·rw[fG (i:=j) (by rw[E3.out];exact HJ.out) PREV.out (decide_eq_false (by rw[<-HZL.out,<-HQ.out];exact h4))];exact Option.some_ne_none _
     clear h4;subst er;go_wp2_with fail;go_ret;exact⟨rfl,L4.out.k⟩
    have g4:((zl:Int) != (q:Int))=false:=(by rw[bne_eq_false_iff_eq];omega);have NEXT:=aA (show ∀ x,x<j+1->decide ((I.pr x).length=dX I.np x)=true from fun x hx=>by
     by_cases e:x=j
     ·rw[e,<-HZL.out,<-HQ.out];exact decide_eq_true h4
     ·exact PREV.out x (by omega))
    clear h4;go_wp2_with fail;go_round
    case rel=>exact⟨j+1,HJ2.out,by first|rw[HW.out]|go_num,aA ⟨L4.out,NEXT.out⟩⟩
    case measure=>first|(rw[HW.out];have:=HJ.out;simp only[intOf,Int.toNat_natCast];omega)|(have:=HJ.out;simp[intOf];omega)
   ·have hji:¬(j:Int)<k:=(by omega);have hjk:j=k:=(by omega);have E4:=aA (show ¬fst1 I.no (fun j=>decide ((I.pr j).length=dX I.np j))≠none from fun h=>h (fst1_ok (fun x hx=>PREV.out x (by rw[hjk,<-E3.out];exact hx))));clear hlt hj hjk;by_cases h5:I.hd.length=k+1
    case neg=>
     have g5:((I.hd.length:Int) != (k:Int)+1)=true:=(by rw[bne_iff_ne];omega);have er:rr=4:=(by rw[RR.out,HR2.out,if_neg (not_not_intro E1.out),if_neg (not_not_intro E2.out),if_neg (not_not_intro E3.out),if_neg E4.out,if_pos h5];rfl);clear h5;subst er;go_wp2_with fail;go_ret;exact⟨rfl,L3.out.k⟩
    have g5:((I.hd.length:Int) != (k:Int)+1)=false:=(by rw[bne_eq_false_iff_eq];omega);have E5:=aA h5;clear h5;by_cases h6:I.pt.length=8
    case neg=>
     have g6:((I.pt.length:Int) != 8)=true:=(by rw[bne_iff_ne];omega);have er:rr=5:=(by rw[RR.out,HR2.out,if_neg (not_not_intro E1.out),if_neg (not_not_intro E2.out),if_neg (not_not_intro E3.out),if_neg E4.out,if_neg (not_not_intro E5.out),if_pos h6];rfl);clear h6;subst er;go_wp2_with fail;go_ret;exact⟨rfl,L3.out.k⟩
    have g6:((I.pt.length:Int) != 8)=false:=(by rw[bne_eq_false_iff_eq];omega);have er:rr = -1:=(by rw[RR.out,HR2.out,if_neg (not_not_intro E1.out),if_neg (not_not_intro E2.out),if_neg (not_not_intro E3.out),if_neg E4.out,if_neg (not_not_intro E5.out),if_neg (not_not_intro h6)];rfl);clear h6;subst er;go_wp2_with fail;go_ret;exact⟨rfl,L3.out.k⟩
end Go.Proofs.YtkfmheelhinjdaaGreatDoor.W
