import Derived.Test.YtkfmheelhinjdaaGreatDoorWr
set_option maxRecDepth 1000000
set_option maxHeartbeats 80000000
namespace Go.Proofs.YtkfmheelhinjdaaGreatDoor.W
open _root_.Go.Proofs.Tryz
open Go.RowKit
set_option linter.unusedVariables false
set_option maxHeartbeats 8000000
set_option maxRecDepth 8000
theorem zjj{k r:Nat}(h8:k<=8)(h:fC k r=true) : 16<=r/\r<=1048576:=by
 unfold fC at h;simp only[Bool.and_eq_true,decide_eq_true_eq] at h;have : 2 ^ k<=2 ^ 8:=Nat.pow_le_pow_right (by decide) h8;omega
theorem RO(I:Img)(V:ImV)(r:Nat)(hr:r<18446744073709551616)(w:World)(hI:ImD w I V):
  Calls prog 27 #[imA I V,.int .u64 r] w fun e w'=>e=.returned (.int .i64 (jT I r))/\Kt nO w w':=by
 obtain⟨⟨ma,mc,hm⟩,⟨pa,pc,hp⟩,⟨ra,rc,hr'⟩,⟨ha,hc,hh⟩,⟨ta,tc,ht⟩,-⟩:=hI.sl;have IM0:=aA (show ImAt (w.alloc (aE I V)) w.heap.size I V from⟨nH _ _,hI.keep ((Kt.refl _ w).alloc _)⟩);have K0:=aA (show Kt nO w (w.alloc (aE I V))from(Kt.refl _ w).alloc _);have HCK:=aA (show Calls prog 63 #[.agg #[.int .u64 I.bS,.int .i64 I.lim,.int .i64 I.ord,.int .i64 I.reg,V.m,V.p,V.r,V.h,V.t]] (w.alloc (aE I V)) fun e w'=>e=.returned (.bool ((chk I).1 == 0))/\Kt nO (w.alloc (aE I V)) w' from zhN I V (w.alloc (aE I V)) IM0.out.d);have HUS:=aA (show ∀ W,ImD W I V->(chk I).1=0->fC I.ord.toNat r=true->Calls prog 67 #[.agg #[.int .u64 I.bS,.int .i64 I.lim,.int .i64 I.ord,.int .i64 I.reg,V.m,V.p,V.r,V.h,V.t],.int .u64 r] W fun e w'=>e=.returned (.int .u64 ((dR I r:Nat):Int))/\Kt nO W w' from fun W h1 h2 h3=>by
  obtain⟨r0,W9⟩:=Ws9.of h2 (fun g hg=>by
   obtain⟨-,oa,oc,-,h0|⟨bl,o,-,-,hc⟩⟩:=h1.pgs
   ·omega
   ·exact(hc g hg).1)
  have hz:=zjj (by have:=W9.hS.k8;exact this) h3;rw[<-uM W9 h3];exact ZW I V r hz.1 hz.2 h2 W h1)
 have HUB:=aA (show(chk I).1=0->fC I.ord.toNat r=true->dR I r<=I.nm from fun h2 h3=>by
  obtain⟨r0,W9⟩:=Ws9.of h2 (fun g hg=>by
   obtain⟨-,oa,oc,-,h0|⟨bl,o,-,-,hc⟩⟩:=hI.pgs
   ·omega
   ·exact(hc g hg).1)
  rw[<-uM W9 h3];exact Nat.le_trans (uE I r _) (Nat.div_mul_le_self _ _))
 have VM:=aA hm;show Calls prog 27 #[.agg #[.int .u64 I.bS,.int .i64 I.lim,.int .i64 I.ord,.int .i64 I.reg,V.m,V.p,V.r,V.h,V.t],.int .u64 r] w _
 rw[hm,hp,hr',hh,ht] at HCK HUS ⊢;have EW:=aA (show(w.alloc (.cells #[.int .u64 I.bS,.int .i64 I.lim,.int .i64 I.ord,.int .i64 I.reg,.slice ma I.nm mc,.slice pa I.np pc,.slice ra I.no rc,.slice ha I.hd.length hc,.slice ta I.pt.length tc] 38 (0,0)))=w.alloc (aE I V)by rw[<-hm,<-hp,<-hr',<-hh,<-ht]);have VS:=aA (show V.p=_/\V.r=_/\V.h=_/\V.t=_ from⟨hp,hr',hh,ht⟩);clear hm hp hr' hh ht hI;by_cases hz:(chk I).1=0
 case neg=>
  have f0:((chk I).1 == 0)=false:=by rw[beq_eq_false_iff_ne];exact hz
  have E:=aA (show jT I r = -1 by unfold jT;rw[if_neg (fun h=>hz h.1)]);rw[E.out];rw[f0] at HCK;clear hz f0;go_enter func27,ntmps27;go_wp2_with fail;rw[EW.out];refine HCK.out.mono ?_;rintro e w1 ⟨rfl,hk1⟩;have K1:=aA (nT K0.out hk1);clear hk1 EW;go_wp2_with fail;go_ret;exact⟨rfl,K1.out⟩
 have f0:((chk I).1 == 0)=true:=by rw[beq_iff_eq];exact hz
 rw[f0] at HCK;obtain⟨_,hS⟩:=kX hz;have hk8:=hS.k8;have hord:=hS.ord;obtain⟨k,hk⟩:=xe (I.ord.toNat);rw[<-hk] at hord hk8 HUS HUB;have EQ:=aA (show jT I r=if fC k r=true then (if I.nm=0 then 0 else ((1000*(I.nm-dR I r)/I.nm:Nat):Int)) else -1 by
  unfold jT;rw[<-hk];by_cases h:fC k r=true
  ·rw[if_pos ⟨hz,h⟩,if_pos h]
  ·rw[if_neg (fun x=>h x.2),if_neg h])
 have HO:=aA hord;have HU:=aA (HUB.out hz);have HUS:=aA (fun W h1=>HUS.out W h1 hz);have nm22:I.nm<=4194304:=by have:=hS.nm;have:=hS.np1;omega
 have SH:=aA (vJ (o:=k) (by omega));obtain⟨Z,hZ⟩:=xe (4096*2 ^ k);have HSZ:=aA (show fC k r=(iT r && (decide (16<=r) && decide (r<=Z)))by rw[hZ];rfl);rw[<-hZ] at SH;clear hz f0 hS hk hord hZ HUB;rw[EQ.out];obtain⟨A,hA⟩:∃ A:Int,A=if fC k r=true then (if I.nm=0 then 0 else ((1000*(I.nm-dR I r)/I.nm:Nat):Int)) else -1:=⟨_,rfl⟩;rw[<-hA];have HA:=aA hA;have AN1:=aA (show fC k r=false->A = -1 from fun h=>by rw[hA,h];rfl);clear EQ hA;obtain⟨r1,hr1⟩:=xe (r-1);obtain⟨an,han⟩:=xe (r &&& r1);have ISP:=aA (show 16<=r->(iT r=true↔an=0)from fun h=>by
  unfold iT;rw[decide_eq_true_eq,han,hr1];exact⟨fun h=>h.2,fun h2=>⟨by omega,h2⟩⟩)
 have AND:=aA (show r<18446744073709551616->r1<18446744073709551616->bits BinOp.and IntKind.u64 (r:Int) (r1:Int)=an from fun h1 h2=>by rw[han];exact u64_and_nat r r1 h1 h2);go_enter func27,ntmps27;go_wp2_with fail;rw[EW.out];refine HCK.out.mono ?_;rintro e w1 ⟨rfl,hk1⟩;have K1:=aA (nT K0.out hk1);have IM1:=aA (IM0.out.keep hk1);clear hk1 EW;generalize w.alloc (aE I V)=W0 at *;generalize w.heap.size=ib at *;by_cases h16 : 16<=r
 case neg=>
  have f1:(r:Int)<16:=by omega
  have A0:=aA (AN1.out (by rw[HSZ.out,decide_eq_false h16];simp));clear h16 hr1 han;go_wp2_with fail;go_ret;exact⟨by rw[A0.out];rfl,K1.out⟩
 have f1:¬(r:Int)<16:=by omega
 have f2:(r:Int)-1=(r1:Int):=by omega
 have f2w:IntKind.u64.wrap (r1:Int)=r1:=by rw[wrap_u64];omega
 have f3:=AND.out hr (by omega);have ISP2:=aA (ISP.out h16);have H16:=aA h16;clear hr1 han h16;by_cases ha:an=0
 case neg=>
  have f4:((an:Int) != 0)=true:=by simp;omega
  have f5:¬(an:Int)=0:=by omega
  have A0:=aA (AN1.out (by
   have:iT r=false:=by
    cases e:iT r with
    | false=>rfl
    | true=>exact absurd (ISP2.out.1 e) ha
   rw[HSZ.out,this];rfl))
  clear ha;go_wp2_with fail;go_ret;exact⟨by rw[A0.out];rfl,K1.out⟩
 have IP:=aA (ISP2.out.2 ha);subst ha;obtain⟨c0,c1,c2,c3,c4,c5,c6,c7,c8⟩:=IM1.out.cells;rw[HO.out] at c2;have f7:=SH.out;by_cases hrz:r<=Z
 case neg=>
  have f6:(Z:Int)<r:=by omega
  have A0:=aA (AN1.out (by rw[HSZ.out,decide_eq_false hrz];simp));clear hrz;go_wp2_with fail;go_ret;exact⟨by rw[A0.out];rfl,K1.out⟩
 have f6:¬(Z:Int)<r:=by omega
 have SZT:=aA (show fC k r=true by rw[HSZ.out,IP.out,decide_eq_true H16.out,decide_eq_true hrz];rfl);have US:=aA (HUS.out w1 IM1.out.d SZT.out);have hu:=HU.out SZT.out;rw[HO.out] at US;rw[VM.out] at c4;rw[VS.out.1] at c5;rw[VS.out.2.1] at c6;rw[VS.out.2.2.1] at c7;rw[VS.out.2.2.2] at c8;obtain⟨nm,hnm⟩:=xe (I.nm);have HA2:=aA (show A=if nm=0 then 0 else ((1000*(nm-dR I r)/nm:Nat):Int)by rw[HA.out,if_pos SZT.out,hnm]);rw[<-hnm] at nm22 hu c4 US VM;have w1c:IntKind.u64.wrap (nm:Int)=nm:=by rw[wrap_u64];omega
 clear hnm hrz;by_cases h0:nm=0
 ·have f0:((nm:Int) == 0)=true:=by rw[beq_iff_eq];omega
  have A0:=aA (show A=0 by rw[HA2.out,if_pos h0]);clear h0;go_wp2_with fail;go_ret;exact⟨by rw[A0.out];rfl,K1.out⟩
 ·have f0:((nm:Int) == 0)=false:=by rw[beq_eq_false_iff_ne];omega
  obtain⟨u,hu2⟩:=xe (dR I r);rw[<-hu2] at US hu;have A1:=aA (show A=((1000*(nm-u)/nm:Nat):Int)by rw[HA2.out,if_neg h0,hu2]);have HUU:=aA hu;have N22:=aA nm22;have H0:=aA h0;have HRR:=aA hr;clear h0 hu2 hu nm22 hr;go_wp2_with fail;refine US.out.mono ?_;rintro e w3 ⟨rfl,hk3⟩;clear hk8;have h0:=H0.out;have hu:=HUU.out;have nm22:=N22.out;obtain⟨d,hd⟩:=xe (nm-u);have w2c:IntKind.u64.wrap ((nm:Int)-(u:Int))=(d:Int):=by rw[wrap_u64];omega
  have w3c:IntKind.u64.wrap ((1000:Int)*(d:Int))=((1000*d:Nat):Int):=by rw[wrap_u64];omega
  obtain⟨y,hy⟩:=xe (1000*d);rw[<-hy] at w3c;obtain⟨z,hzz⟩:=xe (y/nm);have w4c:(y:Int)/(nm:Int)=z:=by rw[hzz];simp
  have hz2:z<=y:=by rw[hzz];exact Nat.div_le_self _ _
  have hyb:y<=4194304000:=by omega
  have W6:=aA (show wrap64 (z:Int)=z by rw[wrap64];omega);have w7c:IntKind.u64.wrap (z:Int)=z:=by rw[wrap_u64];omega
  have n0:¬(nm:Int)=0:=by omega
  have A2:=aA (show A=(z:Int)by rw[A1.out,<-hd,<-hy,hzz]);clear h0 hd hy hzz hu;have K3:=aA (nT K1.out hk3);clear hk3 nm22 hz2 hyb w1c;go_wp2_with fail;go_ret;refine⟨?_,K3.out⟩;show Ending.returned (.int .i64 (wrap64 (z:Int)))=_
  rw[W6.out,A2.out]
theorem JZ{I:Img}{V:ImV}{r:Nat}{w:World}(hI:ImD w I V)(h2:(chk I).1=0)(h3:fC I.ord.toNat r=true):dR I r<=I.nm:=by
 obtain⟨r0,W9⟩:=Ws9.of h2 (fun g hg=>by
  obtain⟨-,oa,oc,-,h0|⟨bl,o,-,-,hc⟩⟩:=hI.pgs
  ·omega
  ·exact(hc g hg).1)
 rw[<-uM W9 h3];exact Nat.le_trans (uE I r _) (Nat.div_mul_le_self _ _)
theorem reportWastes_any(I:Img)(V:ImV)(r:Nat)(hrr:r<18446744073709551616)(w:World)(hI:ImD w I V)(hZ:ImZ I)(hT:jI w)(hP:Tab10 w):
  Calls prog 7 #[imA I V,.int .u64 r] w fun e w'=>e=.returned (.bool true)/\Kt nO w w':=by
 obtain⟨⟨ma,mc,hm⟩,⟨pa,pc,hp⟩,⟨ra,rc,hr⟩,⟨ha,hc,hh⟩,⟨ta,tc,ht⟩,-⟩:=hI.sl;obtain⟨vm,vp,vr,vh,vt⟩:=V;dsimp only at hm hp hr hh ht;subst hm hp hr hh ht;have ka:=(Kt.refl nO w).alloc (aE I ⟨.slice ma I.nm mc,.slice pa I.np pc,.slice ra I.no rc,.slice ha I.hd.length hc,.slice ta I.pt.length tc⟩);have IM0:=aA (show ImAt (w.alloc (aE I ⟨.slice ma I.nm mc,.slice pa I.np pc,.slice ra I.no rc,.slice ha I.hd.length hc,.slice ta I.pt.length tc⟩)) w.heap.size I _ from⟨nH _ _,hI.keep ka⟩);have K0:=aA ka;have CP:=aA (zhx I _ _ IM0.out.d hZ);have HT:=aA hT;have HP:=aA hP;have HZ:=aA hZ;clear hI hZ hT hP ka;go_enter func7,ntmps7;go_wp2_with fail;refine CP.out.mono ?_;rintro e w1 ⟨U,xs,rfl,hc,hk1⟩;obtain⟨⟨ma',mc',hm'⟩,⟨pa',pc',hp'⟩,⟨ra',rc',hr'⟩,⟨ha',hc',hh'⟩,⟨ta',tc',ht'⟩,-⟩:=hc.d.sl;obtain⟨um,up,ur,uh,ut⟩:=U;dsimp only at hm' hp' hr' hh' ht';subst hm' hp' hr' hh' ht';have D1:=aA hc.d;have K1:=aA (nT K0.out hk1);have IM1:=aA (IM0.out.keep hk1);clear hc hk1 CP IM0 K0;go_upto_region 2 with fail;have B2:=aA (show Bx20 w (w1.alloc (aE I ⟨.slice ma' I.nm mc',.slice pa' I.np pc',.slice ra' I.no rc',.slice ha' I.hd.length hc',.slice ta' I.pt.length tc'⟩)) w.heap.size w1.heap.size I ⟨.slice ma I.nm mc,.slice pa I.np pc,.slice ra I.no rc,.slice ha I.hd.length hc,.slice ta I.pt.length tc⟩ ⟨.slice ma' I.nm mc',.slice pa' I.np pc',.slice ra' I.no rc',.slice ha' I.hd.length hc',.slice ta' I.pt.length tc'⟩from⟨IM1.out.keep ((Kt.refl nO w1).alloc _),⟨nH _ _,D1.out.keep ((Kt.refl nO w1).alloc _)⟩,nT K1.out ((Kt.refl nO w1).alloc _)⟩);generalize w1.alloc _=W2 at *;generalize w.heap.size=ib at *;generalize w1.heap.size=xb at *;obtain⟨i0,i1,i2,i3,i4,i5,i6,i7,i8⟩:=B2.out.im.all;obtain⟨x0,x1,x2,x3,x4,x5,x6,x7,x8⟩:=B2.out.cp.all;obtain⟨tx,htx⟩:∃ tx:Int,tx=jT I r:=⟨_,rfl⟩;have PG:=aA (fun x:KW W2=>DH I _ r hrr x.v (B2.out.keep x.k).cp.d (JZ (B2.out.keep x.k).cp.d));have RP:=aA (fun x:KW W2=>RO I _ r hrr x.v (B2.out.keep x.k).im.d);rw[<-htx] at PG RP;have AL:=aA (fun x:KW W2=>ziZ I _ _ x.v (B2.out.keep x.k).cp.d (B2.out.keep x.k).im.d fun i hi=>by have:=HZ.out.u i hi;omega);have AW:=aA (fun x:KW W2=>UV x.v (jI.keep' HT.out (nT B2.out.k x.k)) (Tab10.keep HP.out (nT B2.out.k x.k)));clear htx;refine bT (by kernel_rfl) (by kernel_rfl) ?_;repeat (go_big_quiet_step (first|(go_at_call 15;exact Calls.kept_of (PG.out _))|(go_at_call 27;exact Calls.kept_of (RP.out _))|(go_at_call 25;exact Calls.kept_of (AL.out _))|(go_at_call 10;exact Calls.kept_of (AW.out _))))
 refine wpQuiet_nil ?_;intro x;have KX:=aA (nT B2.out.k x.k);go_wp2_with fail;go_ret;exact⟨rfl,KX.out⟩
end Go.Proofs.YtkfmheelhinjdaaGreatDoor.W
