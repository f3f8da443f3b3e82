import Derived.Test.YtkfmheelhinjdaaGreatDoorWc
set_option maxRecDepth 1000000
set_option maxHeartbeats 80000000
namespace Go.Proofs.YtkfmheelhinjdaaGreatDoor.W
open _root_.Go.Proofs.Tryz
open Go.RowKit
set_option linter.unusedVariables false
set_option maxHeartbeats 8000000
set_option maxRecDepth 6000
theorem sG{I:Img}{a m:Nat}(hm:m<I.np/2 ^ (a+1))(h1:∀ x,x<m->x<I.np/2 ^ (a+1)->aC (I.pr a) x=gH I a x)(h2:¬aC (I.pr a) m=gH I a m):r7k I a=some (m*2 ^ (a+1)):=by
 unfold r7k;rw[fK hm (fun x hx=>by rw[h1 x hx (by omega)];simp) (by simpa using h2)]
theorem YZ{I:Img}{a m:Nat}(hm:I.np/2 ^ (a+1)<=m)(hl:m<64*(I.pr a).length)(h1:∀ x,x<m->x<I.np/2 ^ (a+1)->aC (I.pr a) x=gH I a x)(h2:aC (I.pr a) m=true):r7k I a=some I.np:=by
 unfold r7k;rw[fst1_ok (fun x hx=>by rw[h1 x (by omega) hx];simp)];show(if _ then _ else _)=_
 rw[if_neg];intro e;rcases uV (n:=64*(I.pr a).length) (ws:=I.pr a) (k:=I.np/2 ^ (a+1))with ⟨g1,g2⟩|⟨j,g1,-⟩
 ·rw[g2 m hm hl] at h2;cases h2
 ·omega
theorem r7k_good{I:Img}{a:Nat}(h1:∀ x,x<I.np/2 ^ (a+1)->aC (I.pr a) x=gH I a x)(h2:∀ x,I.np/2 ^ (a+1)<=x->x<64*(I.pr a).length->aC (I.pr a) x=false):r7k I a=none:=by
 unfold r7k;rw[fst1_ok (fun x hx=>by rw[h1 x hx];simp)];show(if _ then _ else _)=_
 rw[if_pos];rcases uV (n:=64*(I.pr a).length) (ws:=I.pr a) (k:=I.np/2 ^ (a+1))with ⟨g1,g2⟩|⟨j,g1,g2,g3,g4,-⟩
 ·exact g1
 ·rw[h2 j g2 g3] at g4;cases g4
structure B7(I:Img)(a m:Nat):Prop where
 lo:∀ x,x<m->x<I.np/2 ^ (a+1)->aC (I.pr a) x=gH I a x
 hi:∀ x,I.np/2 ^ (a+1)<=x->x<m->aC (I.pr a) x=false
theorem PD(I:Img)(V:ImV)(k r:Nat)(hS:Sn9 I k r)(w:World)(hI:ImD w I V):
  Calls prog 106 #[imA I V] w fun e w'=>e=.returned (.int .i64 (eB (r7 I)))/\Kt nO w w':=by
 obtain⟨⟨ma,mc,hm⟩,⟨pa,pc,hp⟩,⟨ra,rc,hr⟩,⟨ha,hc,hh⟩,⟨ta,tc,ht⟩,-⟩:=hI.sl;obtain⟨vm,vp,vr,vh,vt⟩:=V;dsimp only at hm hp hr hh ht;subst hm hp hr hh ht;have IM0:=aA (show ImAt (w.alloc (aE I _)) w.heap.size I _ from⟨nH _ _,hI.keep ((Kt.refl _ w).alloc _)⟩);have K0:=aA (show Kt nO w (w.alloc (aE I _))from(Kt.refl _ w).alloc (aE I ⟨.slice ma I.nm mc,.slice pa I.np pc,.slice ra I.no rc,.slice ha I.hd.length hc,.slice ta I.pt.length tc⟩));obtain⟨c0,c1,c2,c3,c4,c5,c6,c7,c8⟩:=IM0.out.cells;have HNP:=aA hS.np1;have HK8:=aA hS.k8;have HO:=aA hS.ord;have HNO:=aA hS.no;have HS:=aA hS;obtain⟨rr,hrr⟩:=xe (eB (r7 I));rw[<-hrr];have BAD:=aA (show ∀ a p,a<k->(∀ j,j<a->r7k I j=none)->r7k I a=some p->rr=(p:Int)from fun a p h1 h2 h3=>by rw[hrr,r7,AM (by rw[hS.no];exact h1) h2 h3];rfl);have GOOD:=aA (show(∀ j,j<k->r7k I j=none)->rr = -1 from fun h=>by rw[hrr,r7,fstO_ok (fun a ha=>h a (by rw[<-hS.no];exact ha))];rfl);have OP:=aA (fun g o hg W hI=>tT I ⟨.slice ma I.nm mc,.slice pa I.np pc,.slice ra I.no rc,.slice ha I.hd.length hc,.slice ta I.pt.length tc⟩ g o hg W hI);clear hI hrr hS;go_enter func106,ntmps106;go_wp2_with fail;clear c0 c1 c2 c3 c4 c5 c6 c7 c8;generalize w.heap.size=ib at *;generalize w.alloc (aE I ⟨.slice ma I.nm mc,.slice pa I.np pc,.slice ra I.no rc,.slice ha I.hd.length hc,.slice ta I.pt.length tc⟩)=W0 at *;go_loopw [3] (fun iv W=>∃ a:Nat,a<=k/\iv=.int .i64 a/\Hid (Kt nO W0 W/\∀ j,j<a->r7k I j=none)) (fun iv _=>k-(intOf iv).toNat)
 case atStart=>exact⟨0,Nat.zero_le _,rfl,aA ⟨Kt.refl _ _,fun j hj=>by omega⟩⟩
 case round=>
  obtain⟨a,ha',rfl,hG⟩:=hrel;have IMa:=aA (IM0.out.keep hG.out.1);obtain⟨c0,c1,c2,c3,c4,c5,c6,c7,c8⟩:=IMa.out.cells;dsimp only at c5 c6;by_cases hlt:a<k
  ·have hai:(a:Int)<I.ord:=(by rw[HO.out];omega);have HLT:=aA hlt;have BADA:=aA (fun p h=>BAD.out a p hlt hG.out.2 h);have NEXT:=aA (show r7k I a=none->∀ j,j<a+1->r7k I j=none from fun eo j hj=>by
    by_cases e:j=a
    ·rw[e];exact eo
    ·exact hG.out.2 j (by omega))
   have KG:=aA hG.out.1;have HW:=aA (show wrap64 ((a:Int)+1)=((a+1:Nat):Int)by have:=HK8.out;rw[wrap64];omega);obtain⟨Q,hQ⟩:=xe (2 ^ (a+1));have PJ:=aA (fun W=>mL (a+1) (by have:=HK8.out;omega) W);obtain⟨P,hP⟩:=xe (2 ^ a);have PA:=aA (fun W=>mL a (by have:=HK8.out;omega) W);rw[<-hQ] at PJ;rw[<-hP] at PA;have hQ1 : 1<=Q:=(by rw[hQ];exact Nat.two_pow_pos _);have hQ2:Q<=512:=(by rw[hQ];exact mG _ (by have:=HK8.out;omega));have hP2:P<=512:=(by rw[hP];exact mG _ (by have:=HK8.out;omega));obtain⟨pn,hpn⟩:=xe (I.np/Q);have hpnl:pn<=1024:=(by rw[hpn];exact Nat.le_trans (Nat.div_le_self _ _) HNP.out);have HPN:=aA (show pn=I.np/2 ^ (a+1)by rw[hpn,hQ]);have HQP:=aA (show Q=2 ^ (a+1)/\P=2 ^ a/\Q<=512/\P<=512/\pn<=1024 from⟨hQ,hP,hQ2,hP2,hpnl⟩);have s1:IntKind.i64.wrap ((a:Int)+1)=((a+1:Nat):Int):=(by have:=HK8.out;rw[IntKind.wrap_i64];omega);have s2:(I.np:Int).tdiv (Q:Int)=pn:=(by rw[hpn];rfl);have s3:(I.np:Int)/(Q:Int)=pn:=(by rw[hpn];simp);have s4:IntKind.i64.wrap (pn:Int)=pn:=(by rw[IntKind.wrap_i64];omega);have s5:¬(Q:Int)=0:=(by omega);have s6:((Q:Int) == 0)=false:=(by rw[beq_eq_false_iff_ne];omega);have s7:¬(Q:Int) = -1:=(by omega);obtain⟨j1,hj1⟩:=xe (a+1);rw[<-hj1] at s1 PJ;have HJ1:=aA hj1;clear hQ hP hpn hj1 hQ1 hQ2 hP2 hlt ha' hG hpnl;go_wp2_with fail;clear c0 c1 c2 c3 c4 c5 c6 c7 c8;obtain⟨c0,c1,c2,c3,c4,c5,c6,c7,c8⟩:=IMa.out.all;dsimp only at c4 c5 c6 c7 c8;refine bT (by kernel_rfl) (by kernel_rfl) ?_;repeat (go_big_quiet_step (first|(go_at_call 99;exact Calls.kept_of ((PJ.out _).mono fun _ _ ⟨h1,h2⟩=>⟨h1,h2▸Kt.refl _ _⟩))))
   refine wpQuiet_nil ?_;intro x;have IMb:=aA (IMa.out.keep x.k);have KGb:=aA (nT KG.out x.k);clear c0 c1 c2 c3 c4 c5 c6 c7 c8 s1 s2 s3 s4 s5 s6 s7 IMa KG;generalize x.v=wq at *;obtain⟨c0,c1,c2,c3,c4,c5,c6,c7,c8⟩:=IMb.out.cells;dsimp only at c5 c6;go_wp2_with fail;clear c0 c1 c2 c3 c4 c5 c6 c7 c8;obtain⟨L,hL⟩:=xe ((I.pr a).length);have HL:=aA (show L=(I.pr a).length/\pn<=64*L/\L<=17 from⟨hL,by have:=HS.out.pl a HLT.out;rw[eA,<-HPN.out,<-hL] at this;omega,by have:=HS.out.pl a HLT.out;rw[eA,<-HPN.out,<-hL] at this;have:=HQP.out;omega⟩);clear hL;go_loopw [5] (fun mv W=>∃ m:Nat,m<=64*L/\mv=.int .i64 m/\Hid (Kt nO wq W/\B7 I a m)) (fun mv _=>64*L-(intOf mv).toNat)
   case atStart=>exact⟨0,Nat.zero_le _,rfl,aA ⟨Kt.refl _ _,⟨fun x hx=>by omega,fun x h1 h2=>by omega⟩⟩⟩
   case round=>
    obtain⟨m,hm,rfl,hJ⟩:=hrel;have KJ:=aA hJ.out.1;have BJ:=aA hJ.out.2;have IMc:=aA (IMb.out.keep KJ.out);clear hJ;obtain⟨c0,c1,c2,c3,c4,c5,c6,c7,c8⟩:=IMc.out.cells;dsimp only at c5 c6;obtain⟨ws,_,ra',rc',hrv,hr3⟩:=IMc.out.d.prs;injection hrv with e1 e2 e3
    subst e1;have hno:a<I.no:=(by rw[HNO.out];exact HLT.out);rcases hr3 with hr3|⟨bl,o,rfl,_,hcc⟩
    ·omega
    obtain⟨dw,hz1,za,zc,hzv,hzc⟩:=hcc a hno;have hano:(a:Int)<I.no:=(by omega);rw[hzv,<-HL.out.1] at dw;clear hcc e2 e3 hno;obtain⟨L64,hL64⟩:∃ x,x=64*L:=⟨_,rfl⟩;have l1 : 64*(L:Int)=L64:=(by omega);have HL64:=aA hL64;by_cases hlt:m<64*L
    ·have hmi:(m:Int)<L64:=(by omega);have hLL:=HL.out.2.2;have HM:=aA hlt;rcases hzc with hzc|⟨ad,rfl,-,hzc⟩
     ·have:=HL.out.1;rw[hzc] at this;simp at this;omega
     obtain⟨q,hq⟩:=xe (m/64);obtain⟨rm,hrm⟩:∃ q,q=m%64:=⟨_,rfl⟩;have hqL:q<L:=(by omega);have xw:=hzc q (by rw[<-HL.out.1];exact hqL);obtain⟨wv,hwv⟩:∃ x,x=(I.pr a).getD q 0:=⟨_,rfl⟩;have hwl:wv<18446744073709551616:=(by rw[hwv];exact hz1 q);rw[<-hwv] at xw;have BIT:=aA (show aC (I.pr a) m=(wv/2 ^ rm%2 == 1)by unfold aC;rw[hwv,hq,hrm]);have g1:(m:Int)/64=(q:Int):=(by omega);have g2:(m:Int).tdiv 64=(q:Int):=(by rw[hq];rfl);have g3:(m:Int)%64=(rm:Int):=(by omega);have g4:(m:Int).tmod 64=(rm:Int):=(by rw[hrm];rfl);have g5:(q:Int)<L:=(by omega);have hr64:rm<64:=(by omega);have HR64:=aA hr64;have hq17:q<=17:=(by have:=HL.out.2.2;omega);have HWL:=aA hwl;have HW2:=aA (show wrap64 ((m:Int)+1)=((m+1:Nat):Int)by rw[wrap64];omega);clear hz1 hzv hzc hlt hq hrm hwv hL64 hm hqL hwl;go_wp2_with fail;clear c0 c1 c2 c3 c4 c5 c6 c7 c8 xw dw;have KEc:=aA (nT KGb.out KJ.out);obtain⟨wy,hwy⟩:∃ W,W=wr:=⟨_,rfl⟩;rw[<-hwy] at KJ IMc KEc;rw[<-hwy];clear hwy;go_loopw [6,7] (fun bv jv W=>∃ j:Nat,j<=rm/\jv=.int .i64 j/\bv=.int .u64 ((wv/2 ^ j:Nat):Int)/\W=wy) (fun _ jv _=>rm-(intOf jv).toNat)
     case atStart=>exact⟨0,Nat.zero_le _,rfl,by simp,rfl⟩
     case round=>
      obtain⟨j,hj,rfl,rfl,rfl⟩:=hrel;obtain⟨z,hz⟩:=xe (wv/2 ^ j);have hzl:z<18446744073709551616:=(by have:=HWL.out;rw[hz];exact Nat.lt_of_le_of_lt (Nat.div_le_self _ _) this);rw[<-hz];by_cases hlt:j<rm
      ·have hji:(j:Int)<rm:=(by omega);have HZ:=aA (show wv/2 ^ (j+1)=z/2 by rw[hz,Nat.pow_succ,Nat.div_div_eq_div_mul]);have HJR:=aA hlt;have HW5:=aA (show wrap64 ((j:Int)+1)=((j+1:Nat):Int)by have:=HR64.out;rw[wrap64];omega);clear hz hlt hj;go_wp2_with fail;exact⟨⟨j+1,HJR.out,by first|go_num|rw[HW5.out],by rw[HZ.out];simp,by first|rfl|trivial⟩,by have:=HJR.out;have:=HR64.out;first|(rw[HW5.out];simp only[intOf,Int.toNat_natCast];omega)|(simp[intOf];omega)⟩
      ·have hji:¬(j:Int)<rm:=(by omega);obtain⟨bv,hbv⟩:∃ b,b=aC (I.pr a) m:=⟨_,rfl⟩;obtain⟨y,hy⟩:=xe (z%2);have f1:(z:Int)%2=(y:Int):=(by omega);have f2:(z:Int).tmod 2=(y:Int):=(by rw[hy];rfl);have f3:IntKind.u64.wrap (y:Int)=y:=(by rw[wrap_u64];omega);have f4:((y:Int) == 1)=bv:=by
        rw[hbv,BIT.out,show rm=j by omega,<-hz,<-hy];by_cases e:y=1
        ·rw[e];rfl
        ·have:¬(y:Int)=1:=by omega
         rw[beq_eq_false_iff_ne.2 this,beq_eq_false_iff_ne.2 e]
       have BV:=aA hbv.symm;clear hz hzl hlt hj hbv hy;by_cases hmp:m<pn
       case neg=>
        have h2:(pn:Int)<=m:=(by omega);have h3:¬(m:Int)<pn:=(by omega);obtain⟨c0,c1,c2,c3,c4,c5,c6,c7,c8⟩:=IMc.out.cells;dsimp only at c5
        cases bv with
        | true=>
         have er:=BADA.out I.np (YZ (by rw[<-HPN.out];omega) (by rw[<-HL.out.1];exact HM.out) BJ.out.lo BV.out);clear hmp;subst er;go_wp2_with fail;go_ret;exact⟨rfl,nT K0.out KEc.out⟩
        | false=>
         have B2:=aA (show B7 I a (m+1)from⟨fun x hx h=>BJ.out.lo x (by rw[HPN.out] at hmp;omega) h,fun x h1 h2=>by
          by_cases e:x=m
          ·subst e;exact BV.out
          ·exact BJ.out.hi x h1 (by omega)⟩)
         clear hmp;go_wp2_with fail;go_round
         case rel=>exact⟨m+1,HM.out,by first|go_num|rw[HW2.out],aA ⟨KJ.out,B2.out⟩⟩
         case measure=>have:=HM.out;have:=HL.out.2.2;first|(rw[HW2.out];simp only[intOf,Int.toNat_natCast];omega)|(simp[intOf];omega)
       have h2:¬(pn:Int)<=m:=(by omega);have h3:(m:Int)<pn:=(by omega);have HMP:=aA hmp;have HLF:=aA (show m*2 ^ (a+1)+2 ^ a<I.np from half_lt (by rw[<-HPN.out];exact hmp));obtain⟨p9,hp9⟩:∃ p,p=m*Q:=⟨_,rfl⟩;have P9:=aA (show m*Q=p9/\p9+P<I.np/\p9=m*2 ^ (a+1)from⟨hp9.symm,by have:=HLF.out;rw[hp9,HQP.out.1,HQP.out.2.1];exact this,by rw[hp9,HQP.out.1]⟩);have ONF:=aA (show gH I a m=(isF (I.pg p9) (a:Int) != isF (I.pg (p9+P)) (a:Int))by rw[gH,P9.out.2.2,HQP.out.2.1]);obtain⟨b1,hb1⟩:∃ b,b=isF (I.pg p9) (a:Int):=⟨_,rfl⟩;obtain⟨b2,hb2⟩:∃ b,b=isF (I.pg (p9+P)) (a:Int):=⟨_,rfl⟩;have OP1:=aA (fun W hW=>OP.out p9 (a:Int) (by have:=P9.out;omega) W hW);have OP2:=aA (fun W hW=>OP.out (p9+P) (a:Int) P9.out.2.1 W hW);rw[<-hb1] at ONF OP1;rw[<-hb2] at ONF OP2;obtain⟨p2,hp2⟩:∃ p,p=p9+P:=⟨_,rfl⟩;rw[<-hp2] at OP2;have i0:IntKind.i64.wrap ((a:Int)+1)=(j1:Int):=(by have:=HJ1.out;have:=HK8.out;have:=HLT.out;rw[IntKind.wrap_i64];omega);have i1:(a:Int)+1=(j1:Int):=(by have:=HJ1.out;omega);have i2:(m:Int)*(Q:Int)=p9:=(by rw[hp9,Int.natCast_mul]);have hp1024:p9<=1024:=(by have:=P9.out;have:=HNP.out;omega);have ha8:a<=8:=(by have:=HK8.out;have:=HLT.out;omega);have hj9:j1<=9:=(by have:=HJ1.out;omega);obtain⟨c0,c1,c2,c3,c4,c5,c6,c7,c8⟩:=IMc.out.cells;dsimp only at c5;have P2E:=aA hp2;clear hmp hp9 hb1 hb2 hp2;go_wp2_with fail;refine(PJ.out _).mono ?_;rintro e w5 ⟨rfl,rfl⟩;go_wp2_with fail;refine(OP1.out _ IMc.out.d).mono ?_;rintro e w6 ⟨rfl,k6⟩;have IM6:=aA (IMc.out.keep k6);have KJ6:=aA (nT KJ.out k6);clear k6 c0 c1 c2 c3 c4 c5 c6 c7 c8 i0 i1 i2;go_wp2_with fail;obtain⟨c0,c1,c2,c3,c4,c5,c6,c7,c8⟩:=IM6.out.all;dsimp only at c4 c5 c6 c7 c8;have i3:IntKind.i64.wrap ((p9:Int)+(P:Int))=(p2:Int):=(by have:=P2E.out;have:=HQP.out;rw[IntKind.wrap_i64];omega);refine bT (by kernel_rfl) (by kernel_rfl) ?_;repeat (go_big_quiet_step (first|(go_at_call 99;exact Calls.kept_of ((PA.out _).mono fun _ _ ⟨h1,h2⟩=>⟨h1,h2▸Kt.refl _ _⟩))|(go_at_call 147;exact Calls.kept_of (OP2.out _ (IM6.out.keep (KW.k _)).d))))
       refine wpQuiet_nil ?_;intro x;have KJf:=aA (nT KJ6.out x.k);have KEf:=aA (nT KGb.out KJf.out);clear c0 c1 c2 c3 c4 c5 c6 c7 c8 i3 hp1024 ha8 hj9;generalize x.v=wz at *
       cases b1 with
       | false=>
        cases b2 with
        | false=>
         cases bv with
         | false=>
          have B2:=aA (show B7 I a (m+1)from⟨fun x hx h=>by
           by_cases e:x=m
           ·subst e;rw[BV.out,ONF.out];decide
           ·exact BJ.out.lo x (by omega) h,fun x h1 h2=>BJ.out.hi x h1 (by have:=HMP.out;rw[HPN.out] at this;omega)⟩)
          go_wp2_with fail;go_round
          case rel=>exact⟨m+1,HM.out,by first|go_num|rw[HW2.out],aA ⟨KJf.out,B2.out⟩⟩
          case measure=>have:=HM.out;have:=HL.out.2.2;first|(rw[HW2.out];simp only[intOf,Int.toNat_natCast];omega)|(simp[intOf];omega)
         | true=>
          have er:=BADA.out (m*2 ^ (a+1)) (sG (by rw[<-HPN.out];exact HMP.out) BJ.out.lo (by rw[BV.out,ONF.out];decide));rw[show((m*2 ^ (a+1):Nat):Int)=(p9:Int)by rw[<-HQP.out.1,P9.out.1]] at er;subst er;go_wp2_with fail;go_ret;exact⟨rfl,nT K0.out KEf.out⟩
        | true=>
         cases bv with
         | false=>
          have er:=BADA.out (m*2 ^ (a+1)) (sG (by rw[<-HPN.out];exact HMP.out) BJ.out.lo (by rw[BV.out,ONF.out];decide));rw[show((m*2 ^ (a+1):Nat):Int)=(p9:Int)by rw[<-HQP.out.1,P9.out.1]] at er;subst er;go_wp2_with fail;go_ret;exact⟨rfl,nT K0.out KEf.out⟩
         | true=>
          have B2:=aA (show B7 I a (m+1)from⟨fun x hx h=>by
           by_cases e:x=m
           ·subst e;rw[BV.out,ONF.out];decide
           ·exact BJ.out.lo x (by omega) h,fun x h1 h2=>BJ.out.hi x h1 (by have:=HMP.out;rw[HPN.out] at this;omega)⟩)
          go_wp2_with fail;go_round
          case rel=>exact⟨m+1,HM.out,by first|go_num|rw[HW2.out],aA ⟨KJf.out,B2.out⟩⟩
          case measure=>have:=HM.out;have:=HL.out.2.2;first|(rw[HW2.out];simp only[intOf,Int.toNat_natCast];omega)|(simp[intOf];omega)
       | true=>
        cases b2 with
        | false=>
         cases bv with
         | false=>
          have er:=BADA.out (m*2 ^ (a+1)) (sG (by rw[<-HPN.out];exact HMP.out) BJ.out.lo (by rw[BV.out,ONF.out];decide));rw[show((m*2 ^ (a+1):Nat):Int)=(p9:Int)by rw[<-HQP.out.1,P9.out.1]] at er;subst er;go_wp2_with fail;go_ret;exact⟨rfl,nT K0.out KEf.out⟩
         | true=>
          have B2:=aA (show B7 I a (m+1)from⟨fun x hx h=>by
           by_cases e:x=m
           ·subst e;rw[BV.out,ONF.out];decide
           ·exact BJ.out.lo x (by omega) h,fun x h1 h2=>BJ.out.hi x h1 (by have:=HMP.out;rw[HPN.out] at this;omega)⟩)
          go_wp2_with fail;go_round
          case rel=>exact⟨m+1,HM.out,by first|go_num|rw[HW2.out],aA ⟨KJf.out,B2.out⟩⟩
          case measure=>have:=HM.out;have:=HL.out.2.2;first|(rw[HW2.out];simp only[intOf,Int.toNat_natCast];omega)|(simp[intOf];omega)
        | true=>
         cases bv with
         | false=>
          have B2:=aA (show B7 I a (m+1)from⟨fun x hx h=>by
           by_cases e:x=m
           ·subst e;rw[BV.out,ONF.out];decide
           ·exact BJ.out.lo x (by omega) h,fun x h1 h2=>BJ.out.hi x h1 (by have:=HMP.out;rw[HPN.out] at this;omega)⟩)
          go_wp2_with fail;go_round
          case rel=>exact⟨m+1,HM.out,by first|go_num|rw[HW2.out],aA ⟨KJf.out,B2.out⟩⟩
          case measure=>have:=HM.out;have:=HL.out.2.2;first|(rw[HW2.out];simp only[intOf,Int.toNat_natCast];omega)|(simp[intOf];omega)
         | true=>
          have er:=BADA.out (m*2 ^ (a+1)) (sG (by rw[<-HPN.out];exact HMP.out) BJ.out.lo (by rw[BV.out,ONF.out];decide));rw[show((m*2 ^ (a+1):Nat):Int)=(p9:Int)by rw[<-HQP.out.1,P9.out.1]] at er;subst er;go_wp2_with fail;go_ret;exact⟨rfl,nT K0.out KEf.out⟩
    ·have hmi:¬(m:Int)<L64:=(by omega);have hLL:=HL.out.2.2;have EO:=aA (NEXT.out (r7k_good (fun x hx=>BJ.out.lo x (by have:=HL.out.2.1;rw[HPN.out] at this;omega) hx) (fun x h1 h2=>BJ.out.hi x h1 (by rw[<-HL.out.1] at h2;omega))));have KEE:=aA (nT KGb.out KJ.out);clear hlt hm hL64 hz1 hzv hzc;go_wp2_with fail;go_round
     case rel=>exact⟨a+1,by have:=HLT.out;omega,by first|go_num|rw[HW.out],aA ⟨KEE.out,EO.out⟩⟩
     case measure=>have:=HLT.out;have:=HK8.out;first|(rw[HW.out];simp only[intOf,Int.toNat_natCast];omega)|(simp[intOf];omega)
  ·have hai:¬(a:Int)<I.ord:=(by rw[HO.out];omega);have er:=GOOD.out (fun j hj=>hG.out.2 j (by omega));subst er;go_wp2_with fail;go_ret;exact⟨rfl,nT K0.out hG.out.1⟩
end Go.Proofs.YtkfmheelhinjdaaGreatDoor.W
