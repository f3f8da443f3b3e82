import Derived.Test.YtkfmheelhinjdaaGreatDoorWj
import Derived.Test.YtkfmheelhinjdaaGreatDoorWq
import Derived.Test.YtkfmheelhinjdaaGreatDoorWr
set_option maxRecDepth 1000000
set_option maxHeartbeats 80000000
namespace Go.Proofs.YtkfmheelhinjdaaGreatDoor.W
open Tryz
open Go.RowKit
set_option linter.unusedVariables false
set_option maxHeartbeats 8000000
set_option maxRecDepth 6000
theorem pZ{w w':World}(h:M.Kt M.nO w w'):Kt nO w w':=⟨h.os,h.tape,h.output,h.size,h.block⟩
theorem TQ(I:Img)(V:ImV)(k L:Nat)(hk:k<=8)(hL:L<=64)(hko:I.ord=(k:Int))(hlo:I.lim=(L:Int))(w:World)(hI:ImD w I V):
  Calls prog 101 #[imA I V] w fun e w'=>e=.returned (.int .i64 (eA (r2 I k)))/\Kt nO w w':=by
 have hrg:=hI.reg;have HHD:=aA hI.hds.1;obtain⟨-,-,-,-,-,bm,bp,br,bt⟩:=hI.sl;obtain⟨⟨ma,mc,hm⟩,⟨pa,pc,hp⟩,⟨ra,rc,hr⟩,⟨ha,hc,hh⟩,⟨ta,tc,ht⟩,-⟩:=hI.sl;obtain⟨vm,vp,vr,vh,vt⟩:=V;dsimp only at hm hp hr hh ht;subst hm hp hr hh ht;have IM0:=aA (show ImAt (w.alloc (aD I _)) w.heap.size I _ from⟨nH _ _,hI.keep ((Kt.refl _ w).alloc _)⟩);have K0:=aA (show Kt nO w (w.alloc (aD I _))from(Kt.refl _ w).alloc (aD I ⟨.slice ma I.nm mc,.slice pa I.np pc,.slice ra I.no rc,.slice ha I.hd.length hc,.slice ta I.pt.length tc⟩));obtain⟨c0,c1,c2,c3,c4,c5,c6,c7,c8⟩:=IM0.out.cells;have L0:=aA (show LnI w ((w.alloc (aD I ⟨.slice ma I.nm mc,.slice pa I.np pc,.slice ra I.no rc,.slice ha I.hd.length hc,.slice ta I.pt.length tc⟩)).alloc (.cells #[.int .u64 I.bS,.int .i64 I.lim,.int .i64 I.ord] 29 (0,0))) w.heap.size (w.heap.size+1) I ⟨.slice ma I.nm mc,.slice pa I.np pc,.slice ra I.no rc,.slice ha I.hd.length hc,.slice ta I.pt.length tc⟩from⟨IM0.out.keep ((Kt.refl _ _).alloc _),by have:=nH (w.alloc (aD I ⟨.slice ma I.nm mc,.slice pa I.np pc,.slice ra I.no rc,.slice ha I.hd.length hc,.slice ta I.pt.length tc⟩)) (.cells #[.int .u64 I.bS,.int .i64 I.lim,.int .i64 I.ord] 29 (0,0));rwa [World.size_alloc] at this,K0.out.alloc _⟩);obtain⟨rr,hrr⟩:=xe (eA (r2 I k));rw[<-hrr];have RR:=aA hrr;have HKO:=aA hko;have HLO:=aA hlo;have HP8:=aA (M.pow8 k hk);have BM:=aA bm;have BP:=aA bp;have BR:=aA br;have HRG:=aA hrg;clear hI hrr hko hlo IM0 K0 bm bp br hrg;go_enter func101,ntmps101;go_upto_region 2 with fail;refine jR (P:=fun W=>Code.wp prog _ _ _ W) _ ?_;intro W0 hW;rw[<-hW] at L0;clear hW c0 c1 c2 c3 c4 c5 c6 c7 c8;generalize w.heap.size+1=g at *;generalize w.heap.size=ib at *;obtain⟨c0,c1,c2,c3,c4,c5,c6,c7,c8⟩:=L0.out.im.cells;have q1:W0.cell? ⟨g,1,none⟩=some (.int .i64 I.lim):=by simp[World.cell?,L0.out.cf]
 rw[HLO.out] at q1;have IN:=aA (fun W=>ED I.reg 0 (L:Int) W);have hw0:wiB I.reg 0 I.lim=wiB I.reg 0 (L:Int):=by rw[HLO.out]
 obtain⟨b0,hb0⟩:∃ b,b=wiB I.reg 0 (L:Int):=⟨_,rfl⟩;rw[<-hb0] at IN hw0;go_wp2_with fail;refine(IN.out _).mono ?_;rintro e w1 ⟨rfl,rfl⟩;clear c0 c1 c2 c3 c4 c5 c6 c7 c8 q1
 cases b0 with
 | false=>
  have er:rr=0:=by rw[RR.out,r2,hw0,if_pos rfl];rfl
  subst er;clear hb0 hw0;go_wp2_with fail;go_ret;exact⟨rfl,L0.out.k⟩
 | true=>
  have hreg : 0<=I.reg/\I.reg<=(L:Int):=by unfold wiB at hb0;exact of_decide_eq_true hb0.symm
  obtain⟨r,hr⟩:=Int.eq_ofNat_of_zero_le hreg.1;have HR:=aA hr;have hrl:r<=64:=by omega
  obtain⟨n,hn⟩:=xe (r*2 ^ k);have hn1:n<=16384:=by
   rw[hn];exact Nat.le_trans (Nat.mul_le_mul hrl HP8.out.2) (by decide)
  obtain⟨P,hP⟩:=xe (2 ^ k);obtain⟨R,hRR⟩:=xe (M.RS k);have hRP:R=4096*P:=by rw[hRR,M.RS,hP]
  have hrP:r*P=n:=by rw[hP,hn]
  obtain⟨z,hz⟩:=xe (n*4096);have hm1:IntKind.u64.wrap ((r:Int)*(R:Int))=(z:Int):=by
   have e3:r*R=z:=(by rw[hz,<-hrP,hRP,Nat.mul_assoc,Nat.mul_comm P]);have e2:(r:Int)*(R:Int)=z:=(by rw[<-e3,Int.natCast_mul]);rw[e2,wrap_u64];omega
  have hm2:IntKind.i64.wrap ((r:Int)*(P:Int))=(n:Int):=by
   have e2:(r:Int)*(P:Int)=n:=(by rw[<-hrP,Int.natCast_mul]);rw[e2,IntKind.wrap_i64];omega
  have hm3:wrap64 ((r:Int)*(P:Int))=(n:Int):=by
   have e2:(r:Int)*(P:Int)=n:=(by rw[<-hrP,Int.natCast_mul]);rw[e2,wrap64];omega
  have HN:=aA (show I.reg.toNat*2 ^ k=n by rw[hr,Int.toNat_natCast,hn]);have HR2:=aA (show r2 I k=(if I.nm≠n*4096 then some 1 else if I.np≠n then some 2 else if I.no≠k then some 3 else if fst1 I.no (fun j=>decide ((I.pr j).length=dZ I.np j))≠none then some 3 else if I.hd.length≠k+1 then some 4 else if I.pt.length≠8 then some 5 else none)by unfold r2;rw[if_neg (by rw[hw0];simp),HN.out]);have RC:=aA (fun W=>(M.R_any (I.bS:Int) (L:Int) k hk W).mono (fun e w' (h:e=.returned (.int .u64 ((M.RS k:Nat):Int))/\M.Kt M.nO W w')=>(⟨h.1,pZ h.2⟩:e=.returned (.int .u64 ((M.RS k:Nat):Int))/\Kt nO W w')));rw[<-hRR] at RC;have PW:=aA (fun W=>mM k (by omega) W);rw[<-hP] at PW;have f1:IntKind.u64.wrap (I.nm:Int)=I.nm:=by have:=BM.out;rw[wrap_u64];omega
  have f2:IntKind.u64.wrap (r:Int)=r:=by rw[wrap_u64];omega
  have HZ:=aA hz;have HN1:=aA hn1;clear hb0 hw0 hreg hr hn hP hRR hRP hrP hz hn1;obtain⟨c0,c1,c2,c3,c4,c5,c6,c7,c8⟩:=L0.out.im.all;obtain⟨q1,q2⟩:=L0.out.all;have q0:∀ x:KW w1,x.v.cell? ⟨g,0,none⟩=some (.int .u64 I.bS):=fun x=>by simp[World.cell?,(L0.out.keep x.k).cf]
  rw[HLO.out] at q1;rw[HKO.out] at q2;rw[HR.out] at c3;dsimp only at c4 c5 c6 c7 c8;by_cases h1:I.nm=z
  case neg=>
   have g1:((I.nm:Int) != (z:Int))=true:=(by rw[bne_iff_ne];omega);have er:rr=1:=(by rw[RR.out,HR2.out,<-HZ.out,if_pos h1];rfl);clear h1;subst er;go_wp2_with fail;refine bR (by kernel_rfl) (by kernel_rfl) ?_;repeat (go_big_quiet_step (first|(go_at_call 145;exact Calls.kept_of (RC.out _))))
   refine wpQuiet_nil ?_;intro x;have KX:=aA (nT L0.out.k x.k);clear c0 c1 c2 c3 c4 c5 c6 c7 c8 q0 q1 q2;generalize x.v=W1 at *;go_wp2_with fail;go_ret;exact⟨rfl,KX.out⟩
  have g1:((I.nm:Int) != (z:Int))=false:=by rw[bne_eq_false_iff_eq];omega
  have E1:=aA (show I.nm=n*4096 from h1.trans HZ.out);clear h1;go_wp2_with fail;refine bR (by kernel_rfl) (by kernel_rfl) ?_;repeat (go_big_quiet_step (first|(go_at_call 145;exact Calls.kept_of (RC.out _))))
  refine wpQuiet_nil ?_;intro x;have L1:=aA (L0.out.keep x.k);clear c0 c1 c2 c3 c4 c5 c6 c7 c8 q0 q1 q2 L0 hm1 f1 f2 g1;generalize x.v=W1 at *;obtain⟨c0,c1,c2,c3,c4,c5,c6,c7,c8⟩:=L1.out.im.all;obtain⟨q1,q2⟩:=L1.out.all;rw[HLO.out] at q1;rw[HKO.out] at q2;rw[HR.out] at c3;dsimp only at c4 c5 c6 c7 c8;by_cases h1:I.np=n
  case neg=>
   have g1:((I.np:Int) != (n:Int))=true:=(by rw[bne_iff_ne];omega);have er:rr=2:=(by rw[RR.out,HR2.out,if_neg (not_not_intro E1.out),if_pos h1];rfl);clear h1;subst er;go_wp2_with fail;refine bR (by kernel_rfl) (by kernel_rfl) ?_;repeat (go_big_quiet_step (first|(go_at_call 99;exact Calls.kept_of ((PW.out _).mono fun _ _ ⟨h1,h2⟩=>⟨h1,h2▸Kt.refl _ _⟩))))
   refine wpQuiet_nil ?_;intro x;have KX:=aA (nT L1.out.k x.k);clear c0 c1 c2 c3 c4 c5 c6 c7 c8 q1 q2;generalize x.v=W1 at *;go_wp2_with fail;go_ret;exact⟨rfl,KX.out⟩
  have g1:((I.np:Int) != (n:Int))=false:=by rw[bne_eq_false_iff_eq];omega
  have E2:=aA h1;clear h1;go_wp2_with fail;refine bR (by kernel_rfl) (by kernel_rfl) ?_;repeat (go_big_quiet_step (first|(go_at_call 99;exact Calls.kept_of ((PW.out _).mono fun _ _ ⟨h1,h2⟩=>⟨h1,h2▸Kt.refl _ _⟩))))
  refine wpQuiet_nil ?_;intro x;have L2:=aA (L1.out.keep x.k);clear c0 c1 c2 c3 c4 c5 c6 c7 c8 q1 q2 L1 hm2 hm3 g1;generalize x.v=W2 at *;obtain⟨c0,c1,c2,c3,c4,c5,c6,c7,c8⟩:=L2.out.im.cells;have q2:W2.cell? ⟨g,2,none⟩=some (.int .i64 I.ord):=by simp[World.cell?,L2.out.cf]
  rw[HKO.out] at q2;dsimp only at c4 c5 c6 c7 c8;by_cases h1:I.no=k
  case neg=>
   have g1:((I.no:Int) != (k:Int))=true:=(by rw[bne_iff_ne];omega);have er:rr=3:=(by rw[RR.out,HR2.out,if_neg (not_not_intro E1.out),if_neg (not_not_intro E2.out),if_pos h1];rfl);clear h1;subst er;go_wp2_with fail;go_ret;exact⟨rfl,L2.out.k⟩
  have g1:((I.no:Int) != (k:Int))=false:=by rw[bne_eq_false_iff_eq];omega
  have E3:=aA h1;clear h1;go_wp2_with fail;clear c0 c1 c2 c3 c4 c5 c6 c7 c8 q2 g1;go_loopw [4] (fun iv W=>∃ j:Nat,j<=k/\iv=.int .i64 j/\Hid (LnI w W ib g I ⟨.slice ma I.nm mc,.slice pa I.np pc,.slice ra I.no rc,.slice ha I.hd.length hc,.slice ta I.pt.length tc⟩/\∀ x,x<j->decide ((I.pr x).length=dZ I.np x)=true)) (fun iv _=>k-(intOf iv).toNat)
  case atStart=>exact⟨0,Nat.zero_le _,rfl,aA ⟨L2.out,fun x hx=>by omega⟩⟩
  case round=>
   clear L2;obtain⟨j,hj,rfl,hR⟩:=hrel;have L3:=aA hR.out.1;have PREV:=aA hR.out.2;clear hR;obtain⟨c0,c1,c2,c3,c4,c5,c6,c7,c8⟩:=L3.out.im.cells;have q2:wr.cell? ⟨g,2,none⟩=some (.int .i64 I.ord):=(by simp[World.cell?,L3.out.cf]);rw[HKO.out] at q2;dsimp only at c4 c5 c6 c7 c8;by_cases hlt:j<k
   ·have hji:(j:Int)<k:=(by omega);have HJ:=aA hlt;have HJ2:=aA (show j+1<=k from hlt);have HW:=aA (show wrap64 ((j:Int)+1)=((j+1:Nat):Int)by rw[wrap64];omega);clear hlt hj;obtain⟨Q,hQ⟩:=xe (2 ^ (j+1));have PJ:=aA (fun W=>mM (j+1) (by have:=HJ.out;omega) W);rw[<-hQ] at PJ;have hQ1 : 1<=Q:=(by rw[hQ];exact Nat.two_pow_pos _);have hQ2:Q<=512:=(by rw[hQ];exact mG _ (by have:=HJ.out;omega));obtain⟨pn,hpn⟩:=xe (I.np/Q);have PN:=aA (show(pn+63)/64=dZ I.np j by rw[dZ,hpn,hQ]);have hpnl:pn<=16384:=(by have:=HN1.out;rw[hpn,E2.out];exact Nat.le_trans (Nat.div_le_self _ _) this);have s1:IntKind.i64.wrap ((j:Int)+1)=((j+1:Nat):Int):=(by have:=HJ.out;rw[IntKind.wrap_i64];omega);have s2:(I.np:Int).tdiv (Q:Int)=pn:=(by rw[hpn];rfl);have s3:(I.np:Int)/(Q:Int)=pn:=(by rw[hpn];simp);have s4:IntKind.i64.wrap (pn:Int)=pn:=(by rw[IntKind.wrap_i64];omega);have s5:¬(Q:Int)=0:=(by omega);have s6:((Q:Int) == 0)=false:=(by rw[beq_eq_false_iff_ne];omega);have s7:¬(Q:Int) = -1:=(by omega);obtain⟨j1,hj1⟩:=xe (j+1);rw[<-hj1] at s1 PJ;clear hQ hpn hj1;go_wp2_with fail;clear c0 c1 c2 c3 c4 c5 c6 c7 c8 q2;obtain⟨c0,c1,c2,c3,c4,c5,c6,c7,c8⟩:=L3.out.im.all;dsimp only at c4 c5 c6 c7 c8;refine bR (by kernel_rfl) (by kernel_rfl) ?_;repeat (go_big_quiet_step (first|(go_at_call 99;exact Calls.kept_of ((PJ.out _).mono fun _ _ ⟨h1,h2⟩=>⟨h1,h2▸Kt.refl _ _⟩))))
    refine wpQuiet_nil ?_;intro x;have L4:=aA (L3.out.keep x.k);clear c0 c1 c2 c3 c4 c5 c6 c7 c8 s1 s2 s3 s4 s5 s6 s7 L3;generalize x.v=W4 at *;obtain⟨c0,c1,c2,c3,c4,c5,c6,c7,c8⟩:=L4.out.im.cells;dsimp only at c4 c5 c6 c7 c8;obtain⟨ws,_,ra',rc',hrv,hr3⟩:=L4.out.im.d.prs;injection hrv with e1 e2 e3
    subst e1;have hjno:j<I.no:=(by rw[E3.out];exact HJ.out);rcases hr3 with hr3|⟨bl,o,rfl,_,hcc⟩
    ·omega
    obtain⟨d0,hz,za,zc,hzv,_⟩:=hcc j hjno;rw[hzv] at d0;have hjn:(j:Int)<I.no:=(by omega);obtain⟨zl,hzl⟩:=xe ((I.pr j).length);rw[<-hzl] at d0;obtain⟨q,hq⟩:=xe (dZ I.np j);have t1:((pn:Int)+63)/64=(q:Int):=(by rw[hq,<-PN.out];omega);have HQ:=aA hq;have HZL:=aA hzl;clear hcc hz hzv hzl hq e2 e3 hjno;by_cases h4:zl=q
    case neg=>
     have g4:((zl:Int) != (q:Int))=true:=(by rw[bne_iff_ne];omega);have er:rr=3:=by
      rw[RR.out,HR2.out,if_neg (not_not_intro E1.out),if_neg (not_not_intro E2.out),if_neg (not_not_intro E3.out),if_pos]
      ·rfl
      ·rw[fF (i:=j) (by rw[E3.out];exact HJ.out) PREV.out (decide_eq_false (by rw[<-HZL.out,<-HQ.out];exact h4))];exact Option.some_ne_none _
     clear h4;subst er;go_wp2_with fail;go_ret;exact⟨rfl,L4.out.k⟩
    have g4:((zl:Int) != (q:Int))=false:=(by rw[bne_eq_false_iff_eq];omega);have NEXT:=aA (show ∀ x,x<j+1->decide ((I.pr x).length=dZ I.np x)=true from fun x hx=>by
     by_cases e:x=j
     ·rw[e,<-HZL.out,<-HQ.out];exact decide_eq_true h4
     ·exact PREV.out x (by omega))
    clear h4;go_wp2_with fail;go_round
    case rel=>exact⟨j+1,HJ2.out,by first|rw[HW.out]|go_num,aA ⟨L4.out,NEXT.out⟩⟩
    case measure=>first|(rw[HW.out];have:=HJ.out;simp only[intOf,Int.toNat_natCast];omega)|(have:=HJ.out;simp[intOf];omega)
   ·have hji:¬(j:Int)<k:=(by omega);have hjk:j=k:=(by omega);have E4:=aA (show ¬fst1 I.no (fun j=>decide ((I.pr j).length=dZ I.np j))≠none from fun h=>h (fst1_ok (fun x hx=>PREV.out x (by rw[hjk,<-E3.out];exact hx))));clear hlt hj hjk;by_cases h5:I.hd.length=k+1
    case neg=>
     have g5:((I.hd.length:Int) != (k:Int)+1)=true:=(by rw[bne_iff_ne];omega);have er:rr=4:=(by rw[RR.out,HR2.out,if_neg (not_not_intro E1.out),if_neg (not_not_intro E2.out),if_neg (not_not_intro E3.out),if_neg E4.out,if_pos h5];rfl);clear h5;subst er;go_wp2_with fail;go_ret;exact⟨rfl,L3.out.k⟩
    have g5:((I.hd.length:Int) != (k:Int)+1)=false:=(by rw[bne_eq_false_iff_eq];omega);have E5:=aA h5;clear h5;by_cases h6:I.pt.length=8
    case neg=>
     have g6:((I.pt.length:Int) != 8)=true:=(by rw[bne_iff_ne];omega);have er:rr=5:=(by rw[RR.out,HR2.out,if_neg (not_not_intro E1.out),if_neg (not_not_intro E2.out),if_neg (not_not_intro E3.out),if_neg E4.out,if_neg (not_not_intro E5.out),if_pos h6];rfl);clear h6;subst er;go_wp2_with fail;go_ret;exact⟨rfl,L3.out.k⟩
    have g6:((I.pt.length:Int) != 8)=false:=(by rw[bne_eq_false_iff_eq];omega);have er:rr = -1:=(by rw[RR.out,HR2.out,if_neg (not_not_intro E1.out),if_neg (not_not_intro E2.out),if_neg (not_not_intro E3.out),if_neg E4.out,if_neg (not_not_intro E5.out),if_neg (not_not_intro h6)];rfl);clear h6;subst er;go_wp2_with fail;go_ret;exact⟨rfl,L3.out.k⟩
set_option maxHeartbeats 8000000
set_option maxRecDepth 6000
theorem XN(I:Img)(V:ImV)(k r:Nat)(hS:Sn9 I k r)(h5:fst1 I.np (fun i=>ok5 (I.pg i))=none)(w:World)(hI:ImD w I V):
  Calls prog 109 #[imA I V] w fun e w'=>e=.returned (.int .i64 (eA (fst1 8 (bT I))))/\Kt nO w w':=by
 obtain⟨⟨ma,mc,hm⟩,⟨pa,pc,hp⟩,⟨ra,rc,hr⟩,⟨ha,hc,hh⟩,⟨ta,tc,ht⟩,-⟩:=hI.sl;obtain⟨vm,vp,vr,vh,vt⟩:=V;dsimp only at hm hp hr hh ht;subst hm hp hr hh ht;have IM0:=aA (show ImAt (w.alloc (aD I _)) w.heap.size I _ from⟨nH _ _,hI.keep ((Kt.refl _ w).alloc _)⟩);have K0:=aA (show Kt nO w (w.alloc (aD I _))from(Kt.refl _ w).alloc (aD I ⟨.slice ma I.nm mc,.slice pa I.np pc,.slice ra I.no rc,.slice ha I.hd.length hc,.slice ta I.pt.length tc⟩));obtain⟨c0,c1,c2,c3,c4,c5,c6,c7,c8⟩:=IM0.out.cells;have HNP:=aA hS.np1;have HTL:=aA hS.tl;have HS:=aA hS;obtain⟨rr,hrr⟩:=xe (eA (fst1 8 (bT I)));rw[<-hrr];have BAD:=aA (show ∀ a,a<8->(∀ j,j<a->bT I j=true)->bT I a=false->rr=(a:Int)from fun a h1 h2 h3=>by rw[hrr,fF h1 h2 h3];rfl);have GOOD:=aA (show(∀ j,j<8->bT I j=true)->rr = -1 from fun h=>by rw[hrr,fst1_ok h];rfl);have RM:=aA (show ∀ (g c:Nat),g<I.np->∀ W,ImD W I ⟨.slice ma I.nm mc,.slice pa I.np pc,.slice ra I.no rc,.slice ha I.hd.length hc,.slice ta I.pt.length tc⟩->Calls prog 150 #[imA I ⟨.slice ma I.nm mc,.slice pa I.np pc,.slice ra I.no rc,.slice ha I.hd.length hc,.slice ta I.pt.length tc⟩,.int .i64 g,.int .i64 c] W fun e w'=>e=.returned (.bool (prS (c:Int) (I.pg g)))/\Kt nO W w' from fun g c hg W hW=>by
  obtain⟨kd,od,cc,ll,y1,y2,y3,y4,y5,y6,y7,y8,-⟩:=hS.pg g hg;obtain⟨-,-,-,-,hpi,-⟩:=IM0.out.page g hg;exact GC I ⟨.slice ma I.nm mc,.slice pa I.np pc,.slice ra I.no rc,.slice ha I.hd.length hc,.slice ta I.pt.length tc⟩ g c cc hg y5 y6 (fun h4=>by
   obtain⟨l,h1,h2,h3,-⟩:=sY hpi y5 y6 h4 (pQ h5 g hg);exact⟨l,h1,h3⟩) W hW)
 clear hI hrr hS h5;go_enter func109,ntmps109;go_wp2_with fail;clear c0 c1 c2 c3 c4 c5 c6 c7 c8;generalize w.heap.size=ib at *;generalize w.alloc (aD I ⟨.slice ma I.nm mc,.slice pa I.np pc,.slice ra I.no rc,.slice ha I.hd.length hc,.slice ta I.pt.length tc⟩)=W0 at *;go_loopw [3] (fun iv W=>∃ a:Nat,a<=8/\iv=.int .i64 a/\Hid (Kt nO W0 W/\∀ j,j<a->bT I j=true)) (fun iv _=>8-(intOf iv).toNat)
 case atStart=>exact⟨0,Nat.zero_le _,rfl,aA ⟨Kt.refl _ _,fun j hj=>by omega⟩⟩
 case round=>
  obtain⟨a,ha',rfl,hG⟩:=hrel;have IMa:=aA (IM0.out.keep hG.out.1);obtain⟨c0,c1,c2,c3,c4,c5,c6,c7,c8⟩:=IMa.out.cells;dsimp only at c5 c8;by_cases hlt:a<8
  ·have hai:(a:Int)<8:=(by omega);have HLT:=aA hlt;have BADA:=aA (BAD.out a hlt hG.out.2);have NEXT:=aA (show bT I a=true->∀ j,j<a+1->bT I j=true from fun eo j hj=>by
    by_cases e:j=a
    ·rw[e];exact eo
    ·exact hG.out.2 j (by omega))
   have KG:=aA hG.out.1;have OKA:=aA (ok10_eq I a);obtain⟨S,hSS⟩:=xe (fun i=>prS (a:Int) (I.pg i));have SE:=aA (show ∀ i,S i=prS (a:Int) (I.pg i)from fun i=>by rw[hSS]);have LEN:=aA (show(pgL I (prS (a:Int))).length=aF S I.np by rw[yD,hSS]);rw[LEN.out,<-hSS] at OKA;have OPa:=aA (show ∀ g,g<I.np->∀ W,ImD W I ⟨.slice ma I.nm mc,.slice pa I.np pc,.slice ra I.no rc,.slice ha I.hd.length hc,.slice ta I.pt.length tc⟩->Calls prog 150 #[imA I ⟨.slice ma I.nm mc,.slice pa I.np pc,.slice ra I.no rc,.slice ha I.hd.length hc,.slice ta I.pt.length tc⟩,.int .i64 g,.int .i64 a] W fun e w'=>e=.returned (.bool (S g))/\Kt nO W w' from fun g hg W hW=>by rw[SE.out];exact RM.out g a hg W hW);have HW:=aA (show wrap64 ((a:Int)+1)=((a+1:Nat):Int)by rw[wrap64];omega);obtain⟨h0,hh0⟩:∃ h,h=I.pt.getD a 0:=⟨_,rfl⟩;have hHD:=IMa.out.d.pts;obtain⟨_,oa,oc,hv,hr3⟩:=hHD;rcases hr3 with hr3|⟨bl,o,rfl,hbl,hcc⟩
   ·have:=HTL.out;omega
   obtain⟨hx1,hx2⟩:=hcc a (by have:=HTL.out;omega);rw[<-hh0] at hx1 hx2 OKA;injection hv with e1 e2 e3
   subst e1;clear e2 e3 hcc hbl;have HX1:=aA hx1;have HX2:=aA hx2;clear hSS hlt ha' hG hh0 hx1 hx2;go_wp2_with fail;clear c0 c1 c2 c3 c4 c5 c6 c7 c8;obtain⟨wq,hwq⟩:∃ W,W=wr:=⟨_,rfl⟩;rw[<-hwq] at KG IMa HX2;rw[<-hwq];clear hwq;go_loopw [4,5] (fun nv iv W=>∃ j:Nat,j<=I.np/\iv=.int .i64 j/\nv=.int .i64 (aF S j:Int)/\Hid (Kt nO wq W)) (fun _ iv _=>I.np-(intOf iv).toNat)
   case atStart=>exact⟨0,Nat.zero_le _,rfl,rfl,aA (Kt.refl _ _)⟩
   case round=>
    obtain⟨j,hj,rfl,rfl,hJ⟩:=hrel;have IMb:=aA (IMa.out.keep hJ.out);obtain⟨c0,c1,c2,c3,c4,c5,c6,c7,c8⟩:=IMb.out.cells;dsimp only at c5 c8;obtain⟨C,hC⟩:=xe (aF S j);have hCm:C<=1024:=(by rw[hC];exact Nat.le_trans (rB _ _) (Nat.le_trans hj HNP.out));have HCE:=aA hC;rw[<-hC];clear hC;by_cases hjk:j<I.np
    ·have hji:(j:Int)<I.np:=(by omega);have HJK:=aA hjk;have HW2:=aA (show wrap64 ((j:Int)+1)=((j+1:Nat):Int)by have:=HNP.out;rw[wrap64];omega);have HC1:=aA hCm;have HW3:=aA (show wrap64 ((C:Int)+1)=((C+1:Nat):Int)by rw[wrap64];omega);have KJ:=aA hJ.out;obtain⟨b,hb⟩:=xe (S j);have HB:=aA hb;have OPj:=aA (fun W hW=>OPa.out j hjk W hW);rw[<-hb] at OPj;clear hjk hj hJ hb;go_wp2_with fail;refine(OPj.out _ IMb.out.d).mono ?_;rintro e w1 ⟨rfl,k1⟩;have KJ1:=aA (nT KJ.out k1);clear k1 c0 c1 c2 c3 c4 c5 c6 c7 c8
     cases b with
     | false=>
      have C1:=aA (show aF S (j+1)=C by rw[kJ _ _ HB.out.symm];exact HCE.out.symm);go_wp2_with fail;exact⟨⟨j+1,HJK.out,by first|go_num|rw[HW2.out],by rw[C1.out],KJ1⟩,by have:=HJK.out;have:=HNP.out;first|(simp[intOf];omega)|(rw[HW2.out];simp only[intOf,Int.toNat_natCast];omega)⟩
     | true=>
      have C1:=aA (show aF S (j+1)=C+1 by rw[lB _ _ HB.out.symm,HCE.out]);go_wp2_with fail;exact⟨⟨j+1,HJK.out,by first|go_num|rw[HW2.out],by rw[C1.out];first|go_num|rw[HW3.out],KJ1⟩,by have:=HJK.out;have:=HNP.out;first|(simp[intOf];omega)|(rw[HW2.out];simp only[intOf,Int.toNat_natCast];omega)⟩
    ·have hji:¬(j:Int)<I.np:=(by omega);have CN:=aA (show aF S I.np=C by rw[HCE.out,show j=I.np by omega]);rw[CN.out] at OKA;have KE:=aA (nT KG.out hJ.out);have hx2:=hJ.out.cell (fun x=>x) HX2.out;have HCM:=aA hCm;have hah:(a:Int)<I.pt.length:=(by have:=HTL.out;have:=HLT.out;omega);clear hjk hj HCE;go_wp2_with fail;clear c0 c1 c2 c3 c4 c5 c6 c7 c8 hx2 hah;obtain⟨wz,hwz⟩:∃ W,W=wr:=⟨_,rfl⟩;rw[<-hwz] at KE IMb;rw[<-hwz];clear hwz hJ;have Q0:=aA (show bT I a=refL (dec10 I) (-1) (fun i=>(I.pg i).nx) (fun i=>(I.pg i).pv) S C h0 (-1)from OKA.out);go_loopw [6,7,8] (fun pv bv gv W=>∃ (p b:Int) (g d:Nat),g+d=C/\pv=.int .i64 p/\bv=.int .i64 b/\gv=.int .i64 g/\Hid (Kt nO wz W/\bT I a=refL (dec10 I) (-1) (fun i=>(I.pg i).nx) (fun i=>(I.pg i).pv) S d p b)) (fun _ _ gv _=>C-(intOf gv).toNat)
     case atStart=>exact⟨h0,-1,0,C,by omega,rfl,rfl,rfl,aA ⟨Kt.refl _ _,Q0.out⟩⟩
     case round=>
      obtain⟨p,b,g,d,hgd,rfl,rfl,rfl,hL⟩:=hrel;have IMc:=aA (IMb.out.keep hL.out.1);have KL:=aA hL.out.1;have OKP:=aA hL.out.2;obtain⟨c0,c1,c2,c3,c4,c5,c6,c7,c8⟩:=IMc.out.cells;dsimp only at c5 c8;clear hL;by_cases hgc:g<C
      ·have hgi:(g:Int)<C:=(by omega);obtain⟨d,rfl⟩:∃ d',d=d'+1:=⟨d-1,by omega⟩;have HWG:=aA (show wrap64 ((g:Int)+1)=((g+1:Nat):Int)by have:=HCM.out;rw[wrap64];omega);have GD:=aA (show g+1+d=C/\g<C from⟨by omega,hgc⟩);clear hgd hgc;by_cases p1:p<0
       ·have hdp:dec10 I p=none:=(by unfold dec10;rw[if_neg (by omega)]);have er:=BADA.out (OKP.out.trans (uY hdp));have KE1:=aA (nT KE.out KL.out);clear hdp;subst er;go_wp2_with fail;go_ret;exact⟨rfl,nT K0.out KE1.out⟩
       by_cases p2:p<(I.np:Int)
       case neg=>
        have hdp:dec10 I p=none:=(by unfold dec10;rw[if_neg (by omega)]);have er:=BADA.out (OKP.out.trans (uY hdp));have KE1:=aA (nT KE.out KL.out);have q2:(I.np:Int)<=p:=(by omega);clear hdp;subst er;go_wp2_with fail;go_ret;exact⟨rfl,nT K0.out KE1.out⟩
       obtain⟨i,rfl⟩:=Int.eq_ofNat_of_zero_le (show 0<=p by omega);have hi:i<I.np:=(by omega);have hdp:dec10 I (i:Int)=some i:=(by unfold dec10;rw[if_pos (by omega),Int.toNat_natCast]);have q1:¬(i:Int)<0:=(by omega);have q2:¬(I.np:Int)<=i:=(by omega);have q3:(i:Int)<I.np:=p2;have OKQ:=aA (OKP.out.trans (BO hdp));have OPi:=aA (fun W hW=>OPa.out i hi W hW);obtain⟨sb,hsb⟩:∃ b,b=S i:=⟨_,rfl⟩;rw[<-hsb] at OKQ OPi;have HI:=aA hi;clear hdp hsb hi p1 p2 OKP;go_wp2_with fail;refine(OPi.out _ IMc.out.d).mono ?_;rintro e w2 ⟨rfl,k2⟩;have IMe:=aA (IMc.out.keep k2);have KL2:=aA (nT KL.out k2);clear k2 c0 c1 c2 c3 c4 c5 c6 c7 c8
       cases sb with
       | false=>
        have er:=BADA.out OKQ.out;subst er;have KE2:=aA (nT KE.out KL2.out);go_wp2_with fail;go_ret;exact⟨rfl,nT K0.out KE2.out⟩
       | true=>
        obtain⟨c0,c1,c2,c3,c4,c5,c6,c7,c8⟩:=IMe.out.cells;dsimp only at c5 c8;obtain⟨bl2,oo,oc,hv,-,hpc⟩:=IMe.out.page i HI.out;injection hv with e1 e2 e3
        subst e1;clear e2 e3;obtain⟨d0,d1,d2,d3,d4,d5,d6,d7,d8,d9,d10⟩:=hpc.c;generalize I.pg i=q at *;by_cases h3:q.pv=b
        case neg=>
         have q4:(q.pv != b)=true:=(by rw[bne_iff_ne];exact h3);have er:=BADA.out (by rw[OKQ.out,decide_eq_false h3];rfl);have KE3:=aA (nT KE.out KL2.out);clear h3;subst er;go_wp2_with fail;go_ret;exact⟨rfl,nT K0.out KE3.out⟩
        have q4:(q.pv != b)=false:=(by rw[bne_eq_false_iff_eq];exact h3);have OKS:=aA (OKQ.out.trans (by rw[decide_eq_true h3,Bool.true_and,Bool.true_and]));clear h3;go_wp2_with fail;exact⟨⟨q.nx,(i:Int),g+1,d,GD.out.1,rfl,rfl,by first|go_num|rw[HWG.out],aA ⟨KL2.out,OKS.out⟩⟩,by have:=GD.out.2;have:=HCM.out;first|(simp[intOf];omega)|(rw[HWG.out];simp only[intOf,Int.toNat_natCast];omega)⟩
      ·have hgi:¬(g:Int)<C:=(by omega);obtain rfl:d=0:=(by omega);have KE3:=aA (nT KE.out KL.out);by_cases p0:p = -1
       case neg=>
        have q1:(p != -1)=true:=(by rw[bne_iff_ne];exact p0);have er:=BADA.out (by rw[OKP.out,rW,decide_eq_false p0]);clear p0 hgd hgc;subst er;go_wp2_with fail;go_ret;exact⟨rfl,nT K0.out KE3.out⟩
       have q1:(p != -1)=false:=(by rw[bne_eq_false_iff_eq];exact p0);have EO:=aA (NEXT.out (by rw[OKP.out,rW,decide_eq_true p0]));clear p0 hgd hgc;go_wp2_with fail;go_round
       case rel=>exact⟨a+1,HLT.out,by first|go_num|rw[HW.out],aA ⟨KE3.out,EO.out⟩⟩
       case measure=>have:=HLT.out;first|(simp[intOf];omega)|(rw[HW.out];simp only[intOf,Int.toNat_natCast];omega)
  ·have hai:¬(a:Int)<8:=(by omega);have er:=GOOD.out (fun j hj=>hG.out.2 j (by omega));subst er;go_wp2_with fail;go_ret;exact⟨rfl,nT K0.out hG.out.1⟩
set_option maxHeartbeats 8000000
set_option maxRecDepth 6000
theorem LZ(I:Img)(V:ImV)(pl:Int)(w:World)(hI:ImD w I V)(hcl:∀ W,ImD W I V->Calls prog 101 #[imA I V] W fun e w'=>e=.returned (.int .i64 pl)/\Kt nO W w'):
  Calls prog 70 #[imA I V,.int .i64 2] w fun e w'=>e=.returned (.int .i64 pl)/\Kt nO w w':=by
 obtain⟨⟨ma,mc,hm⟩,⟨pa,pc,hp⟩,⟨ra,rc,hr⟩,⟨ha,hc,hh⟩,⟨ta,tc,ht⟩,-⟩:=hI.sl;obtain⟨vm,vp,vr,vh,vt⟩:=V;dsimp only at hm hp hr hh ht;subst hm hp hr hh ht;have IM0:=aA (show ImAt (w.alloc (aD I _)) w.heap.size I _ from⟨nH _ _,hI.keep ((Kt.refl _ w).alloc _)⟩);have K0:=aA (show Kt nO w (w.alloc (aD I _))from(Kt.refl _ w).alloc (aD I ⟨.slice ma I.nm mc,.slice pa I.np pc,.slice ra I.no rc,.slice ha I.hd.length hc,.slice ta I.pt.length tc⟩));obtain⟨c0,c1,c2,c3,c4,c5,c6,c7,c8⟩:=IM0.out.cells;have CC:=aA hcl;clear hI hcl;go_enter func70,ntmps70;go_wp2_with fail;refine(CC.out _ IM0.out.d).mono ?_;rintro e w1 ⟨rfl,k1⟩;have K1:=aA (nT K0.out k1);clear k1 c0 c1 c2 c3 c4 c5 c6 c7 c8;go_wp2_with fail;go_ret;exact⟨rfl,K1.out⟩
theorem LW(I:Img)(V:ImV)(pl:Int)(w:World)(hI:ImD w I V)(hcl:∀ W,ImD W I V->Calls prog 102 #[imA I V] W fun e w'=>e=.returned (.int .i64 pl)/\Kt nO W w'):
  Calls prog 70 #[imA I V,.int .i64 3] w fun e w'=>e=.returned (.int .i64 pl)/\Kt nO w w':=by
 obtain⟨⟨ma,mc,hm⟩,⟨pa,pc,hp⟩,⟨ra,rc,hr⟩,⟨ha,hc,hh⟩,⟨ta,tc,ht⟩,-⟩:=hI.sl;obtain⟨vm,vp,vr,vh,vt⟩:=V;dsimp only at hm hp hr hh ht;subst hm hp hr hh ht;have IM0:=aA (show ImAt (w.alloc (aD I _)) w.heap.size I _ from⟨nH _ _,hI.keep ((Kt.refl _ w).alloc _)⟩);have K0:=aA (show Kt nO w (w.alloc (aD I _))from(Kt.refl _ w).alloc (aD I ⟨.slice ma I.nm mc,.slice pa I.np pc,.slice ra I.no rc,.slice ha I.hd.length hc,.slice ta I.pt.length tc⟩));obtain⟨c0,c1,c2,c3,c4,c5,c6,c7,c8⟩:=IM0.out.cells;have CC:=aA hcl;clear hI hcl;go_enter func70,ntmps70;go_wp2_with fail;refine(CC.out _ IM0.out.d).mono ?_;rintro e w1 ⟨rfl,k1⟩;have K1:=aA (nT K0.out k1);clear k1 c0 c1 c2 c3 c4 c5 c6 c7 c8;go_wp2_with fail;go_ret;exact⟨rfl,K1.out⟩
theorem LU(I:Img)(V:ImV)(pl:Int)(w:World)(hI:ImD w I V)(hcl:∀ W,ImD W I V->Calls prog 103 #[imA I V] W fun e w'=>e=.returned (.int .i64 pl)/\Kt nO W w'):
  Calls prog 70 #[imA I V,.int .i64 4] w fun e w'=>e=.returned (.int .i64 pl)/\Kt nO w w':=by
 obtain⟨⟨ma,mc,hm⟩,⟨pa,pc,hp⟩,⟨ra,rc,hr⟩,⟨ha,hc,hh⟩,⟨ta,tc,ht⟩,-⟩:=hI.sl;obtain⟨vm,vp,vr,vh,vt⟩:=V;dsimp only at hm hp hr hh ht;subst hm hp hr hh ht;have IM0:=aA (show ImAt (w.alloc (aD I _)) w.heap.size I _ from⟨nH _ _,hI.keep ((Kt.refl _ w).alloc _)⟩);have K0:=aA (show Kt nO w (w.alloc (aD I _))from(Kt.refl _ w).alloc (aD I ⟨.slice ma I.nm mc,.slice pa I.np pc,.slice ra I.no rc,.slice ha I.hd.length hc,.slice ta I.pt.length tc⟩));obtain⟨c0,c1,c2,c3,c4,c5,c6,c7,c8⟩:=IM0.out.cells;have CC:=aA hcl;clear hI hcl;go_enter func70,ntmps70;go_wp2_with fail;refine(CC.out _ IM0.out.d).mono ?_;rintro e w1 ⟨rfl,k1⟩;have K1:=aA (nT K0.out k1);clear k1 c0 c1 c2 c3 c4 c5 c6 c7 c8;go_wp2_with fail;go_ret;exact⟨rfl,K1.out⟩
theorem LR(I:Img)(V:ImV)(pl:Int)(w:World)(hI:ImD w I V)(hcl:∀ W,ImD W I V->Calls prog 104 #[imA I V] W fun e w'=>e=.returned (.int .i64 pl)/\Kt nO W w'):
  Calls prog 70 #[imA I V,.int .i64 5] w fun e w'=>e=.returned (.int .i64 pl)/\Kt nO w w':=by
 obtain⟨⟨ma,mc,hm⟩,⟨pa,pc,hp⟩,⟨ra,rc,hr⟩,⟨ha,hc,hh⟩,⟨ta,tc,ht⟩,-⟩:=hI.sl;obtain⟨vm,vp,vr,vh,vt⟩:=V;dsimp only at hm hp hr hh ht;subst hm hp hr hh ht;have IM0:=aA (show ImAt (w.alloc (aD I _)) w.heap.size I _ from⟨nH _ _,hI.keep ((Kt.refl _ w).alloc _)⟩);have K0:=aA (show Kt nO w (w.alloc (aD I _))from(Kt.refl _ w).alloc (aD I ⟨.slice ma I.nm mc,.slice pa I.np pc,.slice ra I.no rc,.slice ha I.hd.length hc,.slice ta I.pt.length tc⟩));obtain⟨c0,c1,c2,c3,c4,c5,c6,c7,c8⟩:=IM0.out.cells;have CC:=aA hcl;clear hI hcl;go_enter func70,ntmps70;go_wp2_with fail;refine(CC.out _ IM0.out.d).mono ?_;rintro e w1 ⟨rfl,k1⟩;have K1:=aA (nT K0.out k1);clear k1 c0 c1 c2 c3 c4 c5 c6 c7 c8;go_wp2_with fail;go_ret;exact⟨rfl,K1.out⟩
theorem LQ(I:Img)(V:ImV)(pl:Int)(w:World)(hI:ImD w I V)(hcl:∀ W,ImD W I V->Calls prog 105 #[imA I V] W fun e w'=>e=.returned (.int .i64 pl)/\Kt nO W w'):
  Calls prog 70 #[imA I V,.int .i64 6] w fun e w'=>e=.returned (.int .i64 pl)/\Kt nO w w':=by
 obtain⟨⟨ma,mc,hm⟩,⟨pa,pc,hp⟩,⟨ra,rc,hr⟩,⟨ha,hc,hh⟩,⟨ta,tc,ht⟩,-⟩:=hI.sl;obtain⟨vm,vp,vr,vh,vt⟩:=V;dsimp only at hm hp hr hh ht;subst hm hp hr hh ht;have IM0:=aA (show ImAt (w.alloc (aD I _)) w.heap.size I _ from⟨nH _ _,hI.keep ((Kt.refl _ w).alloc _)⟩);have K0:=aA (show Kt nO w (w.alloc (aD I _))from(Kt.refl _ w).alloc (aD I ⟨.slice ma I.nm mc,.slice pa I.np pc,.slice ra I.no rc,.slice ha I.hd.length hc,.slice ta I.pt.length tc⟩));obtain⟨c0,c1,c2,c3,c4,c5,c6,c7,c8⟩:=IM0.out.cells;have CC:=aA hcl;clear hI hcl;go_enter func70,ntmps70;go_wp2_with fail;refine(CC.out _ IM0.out.d).mono ?_;rintro e w1 ⟨rfl,k1⟩;have K1:=aA (nT K0.out k1);clear k1 c0 c1 c2 c3 c4 c5 c6 c7 c8;go_wp2_with fail;go_ret;exact⟨rfl,K1.out⟩
theorem LP(I:Img)(V:ImV)(pl:Int)(w:World)(hI:ImD w I V)(hcl:∀ W,ImD W I V->Calls prog 106 #[imA I V] W fun e w'=>e=.returned (.int .i64 pl)/\Kt nO W w'):
  Calls prog 70 #[imA I V,.int .i64 7] w fun e w'=>e=.returned (.int .i64 pl)/\Kt nO w w':=by
 obtain⟨⟨ma,mc,hm⟩,⟨pa,pc,hp⟩,⟨ra,rc,hr⟩,⟨ha,hc,hh⟩,⟨ta,tc,ht⟩,-⟩:=hI.sl;obtain⟨vm,vp,vr,vh,vt⟩:=V;dsimp only at hm hp hr hh ht;subst hm hp hr hh ht;have IM0:=aA (show ImAt (w.alloc (aD I _)) w.heap.size I _ from⟨nH _ _,hI.keep ((Kt.refl _ w).alloc _)⟩);have K0:=aA (show Kt nO w (w.alloc (aD I _))from(Kt.refl _ w).alloc (aD I ⟨.slice ma I.nm mc,.slice pa I.np pc,.slice ra I.no rc,.slice ha I.hd.length hc,.slice ta I.pt.length tc⟩));obtain⟨c0,c1,c2,c3,c4,c5,c6,c7,c8⟩:=IM0.out.cells;have CC:=aA hcl;clear hI hcl;go_enter func70,ntmps70;go_wp2_with fail;refine(CC.out _ IM0.out.d).mono ?_;rintro e w1 ⟨rfl,k1⟩;have K1:=aA (nT K0.out k1);clear k1 c0 c1 c2 c3 c4 c5 c6 c7 c8;go_wp2_with fail;go_ret;exact⟨rfl,K1.out⟩
theorem LJ(I:Img)(V:ImV)(pl:Int)(w:World)(hI:ImD w I V)(hcl:∀ W,ImD W I V->Calls prog 107 #[imA I V] W fun e w'=>e=.returned (.int .i64 pl)/\Kt nO W w'):
  Calls prog 70 #[imA I V,.int .i64 8] w fun e w'=>e=.returned (.int .i64 pl)/\Kt nO w w':=by
 obtain⟨⟨ma,mc,hm⟩,⟨pa,pc,hp⟩,⟨ra,rc,hr⟩,⟨ha,hc,hh⟩,⟨ta,tc,ht⟩,-⟩:=hI.sl;obtain⟨vm,vp,vr,vh,vt⟩:=V;dsimp only at hm hp hr hh ht;subst hm hp hr hh ht;have IM0:=aA (show ImAt (w.alloc (aD I _)) w.heap.size I _ from⟨nH _ _,hI.keep ((Kt.refl _ w).alloc _)⟩);have K0:=aA (show Kt nO w (w.alloc (aD I _))from(Kt.refl _ w).alloc (aD I ⟨.slice ma I.nm mc,.slice pa I.np pc,.slice ra I.no rc,.slice ha I.hd.length hc,.slice ta I.pt.length tc⟩));obtain⟨c0,c1,c2,c3,c4,c5,c6,c7,c8⟩:=IM0.out.cells;have CC:=aA hcl;clear hI hcl;go_enter func70,ntmps70;go_wp2_with fail;refine(CC.out _ IM0.out.d).mono ?_;rintro e w1 ⟨rfl,k1⟩;have K1:=aA (nT K0.out k1);clear k1 c0 c1 c2 c3 c4 c5 c6 c7 c8;go_wp2_with fail;go_ret;exact⟨rfl,K1.out⟩
theorem LI(I:Img)(V:ImV)(pl:Int)(w:World)(hI:ImD w I V)(hcl:∀ W,ImD W I V->Calls prog 108 #[imA I V] W fun e w'=>e=.returned (.int .i64 pl)/\Kt nO W w'):
  Calls prog 70 #[imA I V,.int .i64 9] w fun e w'=>e=.returned (.int .i64 pl)/\Kt nO w w':=by
 obtain⟨⟨ma,mc,hm⟩,⟨pa,pc,hp⟩,⟨ra,rc,hr⟩,⟨ha,hc,hh⟩,⟨ta,tc,ht⟩,-⟩:=hI.sl;obtain⟨vm,vp,vr,vh,vt⟩:=V;dsimp only at hm hp hr hh ht;subst hm hp hr hh ht;have IM0:=aA (show ImAt (w.alloc (aD I _)) w.heap.size I _ from⟨nH _ _,hI.keep ((Kt.refl _ w).alloc _)⟩);have K0:=aA (show Kt nO w (w.alloc (aD I _))from(Kt.refl _ w).alloc (aD I ⟨.slice ma I.nm mc,.slice pa I.np pc,.slice ra I.no rc,.slice ha I.hd.length hc,.slice ta I.pt.length tc⟩));obtain⟨c0,c1,c2,c3,c4,c5,c6,c7,c8⟩:=IM0.out.cells;have CC:=aA hcl;clear hI hcl;go_enter func70,ntmps70;go_wp2_with fail;refine(CC.out _ IM0.out.d).mono ?_;rintro e w1 ⟨rfl,k1⟩;have K1:=aA (nT K0.out k1);clear k1 c0 c1 c2 c3 c4 c5 c6 c7 c8;go_wp2_with fail;go_ret;exact⟨rfl,K1.out⟩
theorem NJ(I:Img)(V:ImV)(pl:Int)(w:World)(hI:ImD w I V)(hcl:∀ W,ImD W I V->Calls prog 109 #[imA I V] W fun e w'=>e=.returned (.int .i64 pl)/\Kt nO W w'):
  Calls prog 70 #[imA I V,.int .i64 10] w fun e w'=>e=.returned (.int .i64 pl)/\Kt nO w w':=by
 obtain⟨⟨ma,mc,hm⟩,⟨pa,pc,hp⟩,⟨ra,rc,hr⟩,⟨ha,hc,hh⟩,⟨ta,tc,ht⟩,-⟩:=hI.sl;obtain⟨vm,vp,vr,vh,vt⟩:=V;dsimp only at hm hp hr hh ht;subst hm hp hr hh ht;have IM0:=aA (show ImAt (w.alloc (aD I _)) w.heap.size I _ from⟨nH _ _,hI.keep ((Kt.refl _ w).alloc _)⟩);have K0:=aA (show Kt nO w (w.alloc (aD I _))from(Kt.refl _ w).alloc (aD I ⟨.slice ma I.nm mc,.slice pa I.np pc,.slice ra I.no rc,.slice ha I.hd.length hc,.slice ta I.pt.length tc⟩));obtain⟨c0,c1,c2,c3,c4,c5,c6,c7,c8⟩:=IM0.out.cells;have CC:=aA hcl;clear hI hcl;go_enter func70,ntmps70;go_wp2_with fail;refine(CC.out _ IM0.out.d).mono ?_;rintro e w1 ⟨rfl,k1⟩;have K1:=aA (nT K0.out k1);clear k1 c0 c1 c2 c3 c4 c5 c6 c7 c8;go_wp2_with fail;go_ret;exact⟨rfl,K1.out⟩
theorem NI(I:Img)(V:ImV)(pl:Int)(w:World)(hI:ImD w I V)(hcl:∀ W,ImD W I V->Calls prog 110 #[imA I V] W fun e w'=>e=.returned (.int .i64 pl)/\Kt nO W w'):
  Calls prog 70 #[imA I V,.int .i64 11] w fun e w'=>e=.returned (.int .i64 pl)/\Kt nO w w':=by
 obtain⟨⟨ma,mc,hm⟩,⟨pa,pc,hp⟩,⟨ra,rc,hr⟩,⟨ha,hc,hh⟩,⟨ta,tc,ht⟩,-⟩:=hI.sl;obtain⟨vm,vp,vr,vh,vt⟩:=V;dsimp only at hm hp hr hh ht;subst hm hp hr hh ht;have IM0:=aA (show ImAt (w.alloc (aD I _)) w.heap.size I _ from⟨nH _ _,hI.keep ((Kt.refl _ w).alloc _)⟩);have K0:=aA (show Kt nO w (w.alloc (aD I _))from(Kt.refl _ w).alloc (aD I ⟨.slice ma I.nm mc,.slice pa I.np pc,.slice ra I.no rc,.slice ha I.hd.length hc,.slice ta I.pt.length tc⟩));obtain⟨c0,c1,c2,c3,c4,c5,c6,c7,c8⟩:=IM0.out.cells;have CC:=aA hcl;clear hI hcl;go_enter func70,ntmps70;go_wp2_with fail;refine(CC.out _ IM0.out.d).mono ?_;rintro e w1 ⟨rfl,k1⟩;have K1:=aA (nT K0.out k1);clear k1 c0 c1 c2 c3 c4 c5 c6 c7 c8;go_wp2_with fail;go_ret;exact⟨rfl,K1.out⟩
theorem vP(I:Img)(V:ImV)(j:Nat)(hj1 : 1<=j)(hj:j<11)(h:∀ a,a<j->rl I a=none)(w:World)(hI:ImD w I V):
  Calls prog 70 #[imA I V,.int .i64 ((j+1:Nat):Int)] w fun e w'=>e=.returned (.int .i64 (eA (rl I j)))/\Kt nO w w':=by
 match j,hj1,hj with
 | 1,_,_=>
  obtain⟨k,L,hk,hL,k8,L64,-⟩:=may_facts (oQ (h 0 (by decide)));have e:rl I 1=r2 I k:=by show r2 I I.ord.toNat=_;rw[hk,Int.toNat_natCast]
  rw[e];exact LZ I V _ w hI (fun W hW=>TQ I V k L k8 L64 hk hL W hW)
 | 2,_,_=>
  obtain⟨k,L,hk,hL,k8,L64,hLk,-⟩:=may_facts (oQ (h 0 (by decide)));have hnp:I.np<=1024:=by
   have hr:r2 I k=none:=(by have:=h 1 (by decide);rw[show rl I 1=r2 I I.ord.toNat from rfl,hk,Int.toNat_natCast] at this;exact this);unfold r2 at hr;by_cases c1:wiB I.reg 0 I.lim=false
   ·rw[if_pos c1] at hr;cases hr
   rw[if_neg c1] at hr;by_cases c2:I.nm≠I.reg.toNat*2 ^ k*4096
   ·rw[if_pos c2] at hr;cases hr
   rw[if_neg c2] at hr;by_cases c3:I.np≠I.reg.toNat*2 ^ k
   ·rw[if_pos c3] at hr;cases hr
   have c1' : 0<=I.reg/\I.reg<=I.lim:=by
    have:wiB I.reg 0 I.lim=true:=by simpa using c1
    unfold wiB at this;exact of_decide_eq_true this
   have hnp:I.np=I.reg.toNat*2 ^ k:=Decidable.not_not.1 c3;have hle:I.np<=L*2 ^ k:=(by rw[hnp];exact Nat.mul_le_mul_right _ (by omega));omega
  exact LW I V _ w hI (fun W hW=>OY I V hnp W hW)
 | 3,_,_=>
  obtain⟨r,hS⟩:=sn9_of (h 0 (by decide)) (h 1 (by decide)) (h 2 (by decide));exact LU I V _ w hI (fun W hW=>GH I V I.ord.toNat r hS W hW)
 | 4,_,_=>
  obtain⟨r,hS⟩:=sn9_of (h 0 (by decide)) (h 1 (by decide)) (h 2 (by decide));exact LR I V _ w hI (fun W hW=>FX I V I.ord.toNat r hS W hW)
 | 5,_,_=>
  obtain⟨r,hS⟩:=sn9_of (h 0 (by decide)) (h 1 (by decide)) (h 2 (by decide));exact LQ I V _ w hI (fun W hW=>JV I V I.ord.toNat r hS W hW)
 | 6,_,_=>
  obtain⟨r,hS⟩:=sn9_of (h 0 (by decide)) (h 1 (by decide)) (h 2 (by decide));exact LP I V _ w hI (fun W hW=>OQ I V I.ord.toNat r hS W hW)
 | 7,_,_=>
  obtain⟨r,hS⟩:=sn9_of (h 0 (by decide)) (h 1 (by decide)) (h 2 (by decide));exact LJ I V _ w hI (fun W hW=>EV I V I.ord.toNat r hS W hW)
 | 8,_,_=>
  obtain⟨r,hS⟩:=sn9_of (h 0 (by decide)) (h 1 (by decide)) (h 2 (by decide));exact LI I V _ w hI (fun W hW=>MA I V I.ord.toNat r hS (h 4 (by decide)) W hW)
 | 9,_,_=>
  obtain⟨r,hS⟩:=sn9_of (h 0 (by decide)) (h 1 (by decide)) (h 2 (by decide));exact NJ I V _ w hI (fun W hW=>XN I V I.ord.toNat r hS (h 4 (by decide)) W hW)
 | 10,_,_=>
  obtain⟨r,hS⟩:=sn9_of (h 0 (by decide)) (h 1 (by decide)) (h 2 (by decide));exact NI I V _ w hI (fun W hW=>EG I V I.ord.toNat r hS W hW)
theorem LH(I:Img)(V:ImV)(w:World)(hI:ImD w I V):
  Calls prog 30 #[imA I V] w fun e w'=>e=.returned (.tuple #[.int .i64 ((chk I).1:Int),.int .i64 ((chk I).2:Int)])/\Kt nO w w':=by
 have hb64:=hI.b64;obtain⟨hl1,hl2⟩:=hI.lim;obtain⟨ho1,ho2⟩:=hI.ord;obtain⟨⟨ma,mc,hm⟩,⟨pa,pc,hp⟩,⟨ra,rc,hr⟩,⟨ha,hc,hh⟩,⟨ta,tc,ht⟩,-⟩:=hI.sl;obtain⟨vm,vp,vr,vh,vt⟩:=V;dsimp only at hm hp hr hh ht;subst hm hp hr hh ht;have IM0:=aA (show ImAt (w.alloc (aD I _)) w.heap.size I _ from⟨nH _ _,hI.keep ((Kt.refl _ w).alloc _)⟩);have K0:=aA (show Kt nO w (w.alloc (aD I _))from(Kt.refl _ w).alloc (aD I ⟨.slice ma I.nm mc,.slice pa I.np pc,.slice ra I.no rc,.slice ha I.hd.length hc,.slice ta I.pt.length tc⟩));obtain⟨c0,c1,c2,c3,c4,c5,c6,c7,c8⟩:=IM0.out.cells;have MAY:=aA (fun W=>(M.May_any I.bS hb64 I.lim I.ord hl1 hl2 ho1 ho2 W).mono (fun e w' (h:e=.returned (.bool (M.mayB I.bS I.lim I.ord))/\M.Kt M.nO W w')=>(⟨h.1,pZ h.2⟩:e=.returned (.bool (M.mayB I.bS I.lim I.ord))/\Kt nO W w')));have ONE:=aA (fun j hj1 hj h W hW=>vP I ⟨.slice ma I.nm mc,.slice pa I.np pc,.slice ra I.no rc,.slice ha I.hd.length hc,.slice ta I.pt.length tc⟩ j hj1 hj h W hW);obtain⟨r1,hr1⟩:∃ r,r=(chk I).1:=⟨_,rfl⟩;obtain⟨r2',hr2⟩:∃ r,r=(chk I).2:=⟨_,rfl⟩;rw[<-hr1,<-hr2];have FB:=aA (show ∀ j p,j<11->(∀ a,a<j->rl I a=none)->rl I j=some p->j+1=r1/\p=r2' from fun j p h1 h2 h3=>by rw[hr1,hr2,yL h1 h2 h3];exact⟨rfl,rfl⟩);have FG:=aA (show(∀ a,a<11->rl I a=none)->0=r1/\0=r2' from fun h=>by rw[hr1,hr2,chk_ok h];exact⟨rfl,rfl⟩);have R0:=aA (show rl I 0=if M.mayB I.bS I.lim I.ord=true then none else some 0 from rfl);obtain⟨mb,hmb⟩:∃ b,b=M.mayB I.bS I.lim I.ord:=⟨_,rfl⟩;rw[<-hmb] at MAY R0;clear hI hr1 hr2 hmb hb64 hl1 hl2 ho1 ho2;go_enter func30,ntmps30;go_wp2_with fail;refine(MAY.out _).mono ?_;rintro e w1 ⟨rfl,k1⟩;have IM1:=aA (IM0.out.keep k1);have K1:=aA (nT K0.out k1);clear k1 c0 c1 c2 c3 c4 c5 c6 c7 c8;generalize w.heap.size=ib at *;generalize w.alloc (aD I ⟨.slice ma I.nm mc,.slice pa I.np pc,.slice ra I.no rc,.slice ha I.hd.length hc,.slice ta I.pt.length tc⟩)=W0 at *
 cases mb with
 | false=>
  obtain⟨e1,e2⟩:=FB.out 0 0 (by decide) (fun a ha=>by omega) (by rw[R0.out];rfl);subst e1 e2;go_wp2_with fail;go_ret2;exact⟨rfl,K1.out⟩
 | true=>
  have N0:=aA (show rl I 0=none by rw[R0.out];rfl);go_wp2_with fail;go_loopw [4] (fun iv W=>∃ r:Nat,2<=r/\r<=12/\iv=.int .i64 r/\Hid (Kt nO w1 W/\∀ a,a+1<r->rl I a=none)) (fun iv _=>12-(intOf iv).toNat)
  case atStart=>exact⟨2,by decide,by decide,rfl,aA ⟨Kt.refl _ _,fun a ha=>by rw[show a=0 by omega];exact N0.out⟩⟩
  case round=>
   obtain⟨r,hr2,hr12,rfl,hG⟩:=hrel;have KG:=aA hG.out.1;have PREV:=aA hG.out.2;have IMa:=aA (IM1.out.keep KG.out);obtain⟨c0,c1,c2,c3,c4,c5,c6,c7,c8⟩:=IMa.out.cells;clear hG;by_cases hlt:r<=11
   ·have hri:(r:Int)<=11:=(by omega);obtain⟨j,rfl⟩:∃ j,r=j+1:=⟨r-1,by omega⟩;have ONEj:=aA (fun W hW=>ONE.out j (by omega) (by omega) (fun a ha=>PREV.out a (by omega)) W hW);obtain⟨r,hr⟩:=xe (j+1);rw[<-hr] at ONEj hri hr2;rw[<-hr];have HRE:=aA (show r=j+1/\r<=11 from⟨hr,by omega⟩);have HW:=aA (show wrap64 ((r:Int)+1)=((r+1:Nat):Int)by rw[wrap64];omega);obtain⟨x,hx⟩:=xe (rl I j);rw[<-hx] at ONEj;have HX:=aA hx.symm;clear hr hx hlt hr12;go_wp2_with fail;refine(ONEj.out _ IMa.out.d).mono ?_;rintro e w2 ⟨rfl,k2⟩;have K2:=aA (nT KG.out k2);clear k2 c0 c1 c2 c3 c4 c5 c6 c7 c8
    cases x with
    | none=>
     have P2:=aA (show ∀ a,a+1<r+1->rl I a=none from fun a ha=>by
      by_cases e:a=j
      ·rw[e];exact HX.out
      ·exact PREV.out a (by have:=HRE.out;omega))
     have q1:¬(0:Int)<=eA none:=(by decide);have q2:eA none = -1:=rfl;rw[q2];clear q1 q2;go_wp2_with fail;exact⟨⟨r+1,by omega,by have:=HRE.out;omega,by first|go_num|rw[HW.out],aA ⟨K2.out,P2.out⟩⟩,by have:=HRE.out;first|(rw[HW.out];simp only[intOf,Int.toNat_natCast];omega)|(simp[intOf];omega)⟩
    | some p=>
     rw[show eA (some p)=(p:Int)from rfl];have q1:(0:Int)<=(p:Int):=(by omega);obtain⟨e1,e2⟩:=FB.out j p (by have:=HRE.out;omega) (fun a ha=>PREV.out a (by have:=HRE.out;omega)) HX.out;rw[<-HRE.out.1] at e1;subst e1 e2;go_wp2_with fail;go_ret2;exact⟨rfl,nT K1.out K2.out⟩
   ·have hri:¬(r:Int)<=11:=(by omega);obtain⟨e1,e2⟩:=FG.out (fun a ha=>PREV.out a (by omega));subst e1 e2;go_wp2_with fail;go_ret2;exact⟨rfl,nT K1.out KG.out⟩
end Go.Proofs.YtkfmheelhinjdaaGreatDoor.W
