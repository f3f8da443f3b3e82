import Derived.Test.YtkfmheelhinjdaaGreatDoorZa
import Derived.Test.YtkfmheelhinjdaaGreatDoorWt
import Derived.Test.YtkfmheelhinjdaaGreatDoorRows
import Derived.Test.YtkfmheelhinjdaaGreatDoorCards
import Derived.Test.YtkfmheelhinjdaaGreatDoorTie
import Derived.LaidMore
import Derived.LaidSub
import Derived.ShutString
import Derived.ChangeOld
import Derived.Below
import Derived.Stop.Joined
import Derived.Lib.LaidTab
import Derived.SevenTiedAt
set_option maxRecDepth 1000000
set_option maxHeartbeats 80000000
namespace Go.Proofs.YtkfmheelhinjdaaGreatDoor.W
open _root_.Go.Proofs.Tryz
open Go.RowKit
set_option linter.unusedVariables false
set_option maxHeartbeats 8000000
set_option maxRecDepth 8000
theorem PH{w1 U:World}{hb:Nat}(s:KH w1 U hb 0 [] [] [] qM false):Calls prog 12 #[.pointer (some ⟨hb,0,none⟩),.int .u64 0,.bool false] U fun e w'=>e=tE 65536 0/\KH w1 w' hb 8192 [1] [] [(0,0)] Q1 false:=s.mal_grow 0 rfl 0 (by decide) 4 (by decide) (by decide) 0 (by decide) rfl rfl (by decide)
theorem PF{w1 U:World}{hb:Nat}(s:KH w1 U hb 8192 [1] [] [(0,0)] Q1 false):Calls prog 12 #[.pointer (some ⟨hb,0,none⟩),.int .u64 17,.bool false] U fun e w'=>e=tE 69632 0/\KH w1 w' hb 8192 [] [] [(0,0),(1,0)] Q2 false:=s.mal_here 17 (by decide) false 5 (by decide) (by decide) 1 (by decide) rfl rfl
theorem PD{w1 U:World}{hb:Nat}(s:KH w1 U hb 8192 [] [] [(0,0),(1,0)] Q2 false):Calls prog 12 #[.pointer (some ⟨hb,0,none⟩),.int .u64 4097,.bool false] U fun e w'=>e=tE 73728 0/\KH w1 w' hb 16384 [] [] [(0,0),(1,0),(2,1)] Q2 false:=s.pg_grow 2 rfl 4097 (by decide) (by decide) (by decide)
abbrev iR:List (Nat×Nat):=[(65536,16),(69632,32),(73728,8192)]
theorem IQ{ks:List Nat}(h:oK iR ks):ks=[16,32,8192]:=
 h.uniq ⟨by decide,fun x=>by simp[dR,iR]⟩
theorem vM:(hY iR [16,32,8192]).toArray=#[49,54,32,49,32,49,54,10,51,50,32,49,32,51,50,10,56,49,57,50,32,49,32,56,49,57,50,10]:=by
 have mZ:Lib.decDigits 16=[49,54]:=by simp[Lib.decDigits]
 have e32:Lib.decDigits 32=[51,50]:=by simp[Lib.decDigits]
 have e81:Lib.decDigits 8192=[56,49,57,50]:=by simp[Lib.decDigits]
 have e1:Lib.decDigits 1=[49]:=by simp[Lib.decDigits]
 simp[hY,lF,dR,mZ,e32,e81,e1]
theorem OZ{v:Value}{w:World}(hv:RBk w v iR)(ht:Tab10 w):
  Calls prog 17 #[v] w fun e w'=>e=.returned (.string ⟨#[49,54,32,49,32,49,54,10,51,50,32,49,32,51,50,10,56,49,57,50,32,49,32,56,49,57,50,10]⟩)/\Kt nO w w':=
 (zi3 v iR w (by decide) (by simp[iR,jH]) hv ht).mono fun e w' ⟨ks,hk,he,k⟩=>⟨by rw[he,IQ hk,vM],k⟩
theorem IL{I:Img}(h:Im4 I):(oH I).toArray=#[97,98,10,49,61,10]:=by
 have l0:gA (I.pg 0)=97:=by unfold gA fH;rw[h.p0.1,h.p0.2.1,h.p0.2.2];first|rfl|simp[celN9]
 have l1:gA (I.pg 1)=98:=by unfold gA fH;rw[h.p1.1,h.p1.2.1,h.p1.2.2];first|rfl|simp[celN9]
 have l2:gA (I.pg 2)=49:=by unfold gA fH;rw[h.p2.1,h.p2.2];first|rfl|simp
 have l3:gA (I.pg 3)=61:=by unfold gA fH;rw[h.p3];first|rfl|simp
 unfold oH;rw[h.ck,if_pos rfl,h.np,h.ord];simp[jV,l0,l1,l2,l3]
theorem OY{I:Img}{V:ImV}{w:World}(h:Im4 I)(hI:ImD w I V):
  Calls prog 16 #[imA I V] w fun e w'=>e=.returned (.string ⟨#[97,98,10,49,61,10]⟩)/\Kt nO w w':=
 (zhX I V w hI).mono fun e w' ⟨he,k⟩=>⟨by rw[he,IL h],k⟩
theorem wO{I:Img}(h:Im4 I):jE I 16=4080:=by
 have r0:fX 16 (cL (I.pg 0))=4080:=by unfold fX cL fY;dsimp only;rw[h.p0.1,h.p0.2.1,h.p0.2.2];first|rfl|simp[celN9]
 have r1:fX 16 (cL (I.pg 1))=0:=by unfold fX cL fY;dsimp only;rw[h.p1.1,h.p1.2.1,h.p1.2.2];first|rfl|simp[celN9]
 have r2:fX 16 (cL (I.pg 2))=0:=by unfold fX cL fY;dsimp only;rw[h.p2.1];simp
 have r3:fX 16 (cL (I.pg 3))=0:=by unfold fX cL fY;dsimp only;rw[h.p3];simp
 unfold jE;rw[h.np];simp[List.range_succ,r0,r1,r2,r3]
theorem OX{I:Img}{V:ImV}{w:World}(h:Im4 I)(hI:ImD w I V):
  Calls prog 15 #[imA I V,.int .u64 16] w fun e w'=>e=.returned (.int .i64 750)/\Kt nO w w':=
 (ZS I V 16 (by decide) w hI (fun _ _=>by rw[wO h,h.nm];decide)).mono fun e w' ⟨he,k⟩=>⟨by
  have e1:lX I.ord.toNat 16=true:=by rw[h.ord];decide
  rw[he];unfold oG;rw[if_pos ⟨by rw[h.ck],e1⟩,h.nm,wO h];rfl,k⟩
theorem OU(w:World)(hT:iU w)(hP:Tab10 w):Calls prog 10 #[] w fun e w'=>e=.returned (.bool true)/\Kt nO w w':=by
 have NW:=aA (GK w hT);have TP:=aA hP;clear hT hP;go_enter func10,ntmps10;go_wp2_with fail;refine NW.out.mono ?_;rintro e W0 ⟨hb,rfl,hs⟩;have S0:=aA hs;clear hs NW;go_wp2_with fail;refine(PH S0.out).mono ?_;rintro e W1 ⟨rfl,hs⟩;have S1:=aA hs;clear hs S0;go_wp2_with fail;refine(PF S1.out).mono ?_;rintro e W2 ⟨rfl,hs⟩;have S2:=aA hs;clear hs S1;go_wp2_with fail;refine(PD S2.out).mono ?_;rintro e W3 ⟨rfl,hs⟩;have S3:=aA hs;clear hs S2;go_wp2_with fail;refine S3.out.live.mono ?_;rintro e W4 ⟨vl,rfl,hrb,hk⟩;have S4:=aA (S3.out.keep hk);have RB:=aA hrb;clear hk hrb S3;go_wp2_with fail;refine(OZ RB.out (Tab10.keep TP.out S4.out.kp)).mono ?_;rintro e W5 ⟨rfl,hk⟩;have S5:=aA (S4.out.keep hk);clear hk S4 RB;go_wp2_with fail;refine S5.out.image.mono ?_;rintro e W6 ⟨I,V,rfl,hI,h4,hk⟩;have S6:=aA (S5.out.keep hk);have HI:=aA hI;have H4:=aA h4;clear hk hI h4 S5;go_wp2_with fail;refine(OY H4.out HI.out).mono ?_;rintro e W7 ⟨rfl,hk⟩;have S7:=aA (S6.out.keep hk);clear hk S6 HI H4;go_wp2_with fail;refine S7.out.image.mono ?_;rintro e W8 ⟨I2,V2,rfl,hI,h4,hk⟩;have S8:=aA (S7.out.keep hk);have HI:=aA hI;have H4:=aA h4;clear hk hI h4 S7;go_wp2_with fail;refine(OX H4.out HI.out).mono ?_;rintro e W9 ⟨rfl,hk⟩;have S9:=aA (S8.out.keep hk);clear hk S8 HI H4;go_wp2_with fail;go_ret;exact⟨rfl,S9.out.kp⟩
set_option maxHeartbeats 8000000
set_option maxRecDepth 8000
theorem iU.keep'{w w':World}(h:iU w)(k:Kt nO w w'):iU w':=fun j hj=>k.cell id (h j hj)
structure Bx20(w W:World)(ib xb:Nat)(I:Img)(V U:ImV):Prop where
 im:ImAt W ib I V
 cp:ImAt W xb I U
 k:Kt nO w W
theorem Bx20.keep{w W W':World}{ib xb:Nat}{I:Img}{V U:ImV}(h:Bx20 w W ib xb I V U)(hk:Kt nO W W'):Bx20 w W' ib xb I V U:=⟨h.im.keep hk,h.cp.keep hk,nT h.k hk⟩
set_option maxHeartbeats 8000000
set_option maxRecDepth 8000
def jW(I:Img):Nat:=if (chk I).1=0 then I.ord.toNat+1 else 0
def FX(I:Img)(w U:World)(la:Option Addr)(m a:Nat):Prop:=m=0\/∃ g,la=some ⟨g,0,none⟩/\XR w.heap.size U (.slice (some ⟨g,0,none⟩) m m) m 3 m (fun j=>if j<a then .int .i64 99 else .int .i64 ((jK I j:Nat):Int))
def WX(I:Img)(U:World)(oa:Option Addr)(m:Nat):Prop:=m=0\/∃ g,oa=some ⟨g,0,none⟩/\g<U.heap.size/\∀ j,j<m->U.cell? ⟨g,j,none⟩=some (.int .i64 ((jK I j:Nat):Int))
theorem WX.keep{I:Img}{U U':World}{oa:Option Addr}{m:Nat}(h:WX I U oa m)(k:Kt nO U U'):WX I U' oa m:=by
 rcases h with h|⟨g,h1,h2,h3⟩
 ·exact .inl h
 ·exact .inr ⟨g,h1,Nat.lt_of_lt_of_le h2 k.size,fun j hj=>k.cell id (h3 j hj)⟩
theorem NQ(I:Img)(V:ImV)(w:World)(hI:ImD w I V):Calls prog 14 #[imA I V] w fun e w'=>∃ la lc,e=.returned (.slice la (jW I) lc)/\jW I<=9/\FX I w w' la (jW I) 0/\Kt nO w w':=by
 refine(WY I V w hI).mono ?_;rintro e w' (⟨h1,rfl,k⟩|⟨h1,g,m,hm,h9,rfl,x,k⟩)
 ·have e:jW I=0:=if_neg h1;rw[e];exact⟨none,0,rfl,by decide,.inl rfl,k⟩
 ·have e:jW I=m:=by rw[hm];exact if_pos h1
  rw[e];exact⟨_,_,rfl,h9,.inr ⟨g,rfl,x.congr fun j hj=>by rw[if_neg (Nat.not_lt_zero j)]⟩,k⟩
theorem QJ(I:Img)(V:ImV)(w:World)(hI:ImD w I V):Calls prog 26 #[imA I V] w fun e w'=>∃ oa oc,e=.returned (.slice oa (jW I) oc)/\jW I<=9/\WX I w' oa (jW I)/\Kt nO w w':=by
 refine(zhR I V w hI).mono ?_;rintro e w' (⟨h1,rfl,k⟩|⟨h1,oa,oc,m,hm,h9,rfl,x⟩)
 ·have e:jW I=0:=if_neg h1;rw[e];exact⟨none,0,rfl,by decide,.inl rfl,k⟩
 ·have e:jW I=m:=by rw[hm];exact if_pos h1
  rw[e];refine⟨oa,oc,rfl,h9,?_,x.kp⟩;rcases x.own.2 with ⟨_,h0⟩|⟨g,cap,cur,hv,hb,hg,hnc,hcm,hcs,htake⟩
  ·simp[gX] at h0;omega
  have hv':oa=some ⟨g,0,none⟩:=by injection hv
  refine .inr ⟨g,hv',lH hg,fun j hj=>?_⟩;have e1:((gX I m).map dK)[j]?=some (dK (jK I j)):=by
   unfold gX;rw[List.getElem?_map,List.getElem?_map,List.getElem?_range hj];rfl
  rw[<-htake,List.getElem?_take] at e1;split at e1
  ·simp only[World.cell?,hg];rw[<-Array.getElem?_toList,e1];rfl
  ·cases e1
theorem reportFrees_any(I:Img)(V:ImV)(w:World)(hI:ImD w I V)(hZ:ImZ I)(hT:iU w)(hP:Tab10 w):
  Calls prog 6 #[imA I V] w fun e w'=>e=.returned (.bool true)/\Kt nO w w':=by
 obtain⟨⟨ma,mc,hm⟩,⟨pa,pc,hp⟩,⟨ra,rc,hr⟩,⟨ha,hc,hh⟩,⟨ta,tc,ht⟩,-⟩:=hI.sl;obtain⟨vm,vp,vr,vh,vt⟩:=V;dsimp only at hm hp hr hh ht;subst hm hp hr hh ht;have ka:=(Kt.refl nO w).alloc (aC I ⟨.slice ma I.nm mc,.slice pa I.np pc,.slice ra I.no rc,.slice ha I.hd.length hc,.slice ta I.pt.length tc⟩);have IM0:=aA (show ImAt (w.alloc (aC I ⟨.slice ma I.nm mc,.slice pa I.np pc,.slice ra I.no rc,.slice ha I.hd.length hc,.slice ta I.pt.length tc⟩)) w.heap.size I _ from⟨nH _ _,hI.keep ka⟩);have K0:=aA ka;have CP:=aA (zhc I _ _ IM0.out.d hZ);have HT:=aA hT;have HP:=aA hP;have HZ:=aA hZ;clear hI hZ hT hP ka;go_enter func6,ntmps6;go_wp2_with fail;refine CP.out.mono ?_;rintro e w1 ⟨U,xs,rfl,hc,hk1⟩;obtain⟨⟨ma',mc',hm'⟩,⟨pa',pc',hp'⟩,⟨ra',rc',hr'⟩,⟨ha',hc',hh'⟩,⟨ta',tc',ht'⟩,-⟩:=hc.d.sl;obtain⟨um,up,ur,uh,ut⟩:=U;dsimp only at hm' hp' hr' hh' ht';subst hm' hp' hr' hh' ht';have D1:=aA hc.d;have K1:=aA (nT K0.out hk1);have IM1:=aA (IM0.out.keep hk1);clear hc hk1 CP IM0 K0;go_upto_region 2 with fail;have B2:=aA (show Bx20 w (w1.alloc (aC I ⟨.slice ma' I.nm mc',.slice pa' I.np pc',.slice ra' I.no rc',.slice ha' I.hd.length hc',.slice ta' I.pt.length tc'⟩)) w.heap.size w1.heap.size I ⟨.slice ma I.nm mc,.slice pa I.np pc,.slice ra I.no rc,.slice ha I.hd.length hc,.slice ta I.pt.length tc⟩ ⟨.slice ma' I.nm mc',.slice pa' I.np pc',.slice ra' I.no rc',.slice ha' I.hd.length hc',.slice ta' I.pt.length tc'⟩from⟨IM1.out.keep ((Kt.refl nO w1).alloc _),⟨nH _ _,D1.out.keep ((Kt.refl nO w1).alloc _)⟩,nT K1.out ((Kt.refl nO w1).alloc _)⟩);generalize w1.alloc _=W2 at *;generalize w.heap.size=ib at *;generalize w1.heap.size=xb at *;clear IM1 D1 K1;have RF:=aA (QJ I _ W2 B2.out.im.d);obtain⟨i0,i1,i2,i3,i4,i5,i6,i7,i8⟩:=B2.out.im.cells;go_wp2_with fail;refine RF.out.mono ?_;rintro e w3 ⟨oa,oc,rfl,hm9,hwx,hk3⟩;have B3:=aA (B2.out.keep hk3);have WX3:=aA hwx;obtain⟨m,hm⟩:=xe (jW I);rw[<-hm] at hm9 WX3 ⊢;have HM:=aA hm;clear hk3 hwx RF B2 hm i0 i1 i2 i3 i4 i5 i6 i7 i8;go_wp2_with fail;go_loopw [5] (fun av W=>∃ a:Nat,a<=2/\av=.int .i64 a/\Hid (Bx20 w W ib xb I ⟨.slice ma I.nm mc,.slice pa I.np pc,.slice ra I.no rc,.slice ha I.hd.length hc,.slice ta I.pt.length tc⟩ ⟨.slice ma' I.nm mc',.slice pa' I.np pc',.slice ra' I.no rc',.slice ha' I.hd.length hc',.slice ta' I.pt.length tc'⟩/\WX I W oa m)) (fun av _=>2-(intOf av).toNat)
 case atStart=>exact⟨0,by omega,rfl,aA ⟨B3.out,WX3.out⟩⟩
 case round=>
  clear B3 WX3;obtain⟨a,ha2,rfl,HI⟩:=hrel;obtain⟨wo,hwo⟩:∃ wo:World,wo=wr:=⟨_,rfl⟩;subst hwo;by_cases hlt:a<2
  ·have hai:(a:Int)<2:=(by omega);have RF:=aA (NQ I _ wo HI.out.1.cp.d);rw[<-HM.out] at RF;obtain⟨x0,x1,x2,x3,x4,x5,x6,x7,x8⟩:=HI.out.1.cp.cells;go_wp2_with fail;refine RF.out.mono ?_;rintro e w4 ⟨la,lc,rfl,-,hfx,hk4⟩;have FX4:=aA hfx;have K4:=aA hk4;have hne:((m:Int) != (m:Int))=false:=(by simp);clear hfx hk4 RF x0 x1 x2 x3 x4 x5 x6 x7 x8;go_wp2_with fail;go_loopw [7] (fun iv W=>∃ i:Nat,i<=m/\iv=.int .i64 i/\Hid (FX I wo W la m i/\Kt nO wo W)) (fun iv _=>m-(intOf iv).toNat)
   case atStart=>exact⟨0,Nat.zero_le _,rfl,aA ⟨FX4.out,K4.out⟩⟩
   case round=>
    clear FX4 K4;obtain⟨i,him,rfl,HJ⟩:=hrel;by_cases hil:i<m
    ·have hii:(i:Int)<m:=(by omega);rcases HJ.out.1 with h0|⟨gl,rfl,hx⟩
     ·omega
     rcases HI.out.2.keep HJ.out.2 with h0|⟨gw,rfl,hgw,hw⟩
     ·omega
     have XL:=aA hx;have c1:=fun x:KW wr=>x.k.cell id (hx.cell hil)
     have c2:=fun x:KW wr=>x.k.cell id (hw i hil)
     rw[if_neg (Nat.lt_irrefl i)] at c1;obtain⟨c,hc⟩:=xe (jK I i);rw[<-hc] at c1 c2;have hcc:((c:Int) != (c:Int))=false:=(by simp);have hgl:=aA (show wo.heap.size<gl from by obtain⟨b,cs,q,e,_⟩:=hx;cases e;exact q);have KJ:=aA HJ.out.2;have HI1:=aA (show i+1<=m from hil);clear hx hw hc hgw HJ;go_upto_region 12 with fail;refine bT (by kernel_rfl) (by kernel_rfl) ?_;repeat (go_big_quiet_step (fail))
     refine wpQuiet_nil ?_;intro x;have XX:=aA (XL.out.keep x.k);have c3:=c1 x;have fz:=XX.out.frz i;have KX:=aA (nT KJ.out x.k);have XN:=aA ((XX.out.put hil (.int .i64 99)).congr (G:=fun j=>if j<i+1 then .int .i64 99 else .int .i64 ((jK I j:Nat):Int)) (fun j hj=>by
      show(if j=i then _ else (if j<i then _ else _))=(if j<i+1 then _ else _)
      by_cases e:j=i
      ·rw[if_pos e,if_pos (by omega)]
      ·rw[if_neg e];by_cases e2:j<i
       ·rw[if_pos e2,if_pos (by omega)]
       ·rw[if_neg e2,if_neg (by omega)]))
     have KN:=aA (KX.out.trans ((Kt.refl (fun z=>z=gl) x.v).setCell (p:=⟨gl,i,none⟩) rfl (.int .i64 99)) (fun _ _ e=>e) (fun y hy e=>by have:=hgl.out;omega));clear c1 c2;go_wp2_with fail;refine⟨⟨i+1,HI1.out,by simp,aA ⟨.inr ⟨gl,rfl,XN.out⟩,KN.out⟩⟩,by simp[intOf];omega⟩
    ·have hii:¬(i:Int)<m:=(by omega);have BN:=aA (HI.out.1.keep HJ.out.2);have WN:=aA (HI.out.2.keep HJ.out.2);have HA1:=aA (show a+1<=2 from hlt);clear HI HJ;go_wp2_with fail;refine⟨⟨a+1,HA1.out,by simp,aA ⟨BN.out,WN.out⟩⟩,by simp[intOf];omega⟩
  ·have hai:¬(a:Int)<2:=(by omega);have AL:=aA (ziF I _ _ wo HI.out.1.cp.d HI.out.1.im.d fun i hi=>by have:=HZ.out.u i hi;omega);obtain⟨i0,i1,i2,i3,i4,i5,i6,i7,i8⟩:=HI.out.1.im.cells;obtain⟨x0,x1,x2,x3,x4,x5,x6,x7,x8⟩:=HI.out.1.cp.cells;have KW1:=aA HI.out.1.k;clear HI;go_wp2_with fail;refine AL.out.mono ?_;rintro e w6 ⟨rfl,hk6⟩;have K6:=aA (nT KW1.out hk6);clear hk6 i0 i1 i2 i3 i4 i5 i6 i7 i8 x0 x1 x2 x3 x4 x5 x6 x7 x8;go_wp2_with fail;refine(OU w6 (iU.keep' HT.out K6.out) (Tab10.keep HP.out K6.out)).mono ?_;rintro e w7 ⟨rfl,hk7⟩;have K7:=aA (nT K6.out hk7);clear hk7;go_wp2_with fail;go_ret;exact⟨rfl,K7.out⟩
end Go.Proofs.YtkfmheelhinjdaaGreatDoor.W
namespace Go.Proofs.YtkfmheelhinjdaaGreatDoor.reportFrees
open _root_.Go.Proofs.Tryz
open Go.ChangeShapes Go.WideShapes Go.ChangeAt Go.RowKit Go.Deep
open Go.ChangeMaps (open_string shut_string)
set_option linter.unusedVariables false
theorem own:ownKnob prog.godebug=Option.none:=by kernel_rfl
theorem laidOut:laidOutB prog=true:=by kernel_rfl
theorem gSizes : prog.globalNamed "croft/slab.sizes" = some 0 := by kernel_rfl
theorem door_met (os : Os) (args : Array Value) : laidMetH prog [("math/bits.deBruijn32tab", Rows.laid_math_bits_deBruijn32tab), ("math/bits.deBruijn64tab", Rows.laid_math_bits_deBruijn64tab), ("internal/strconv.uint64pow10", Rows.laid_internal_strconv_uint64pow10), ("croft/slab.sizes", Rows.laid_croft_slab_sizes)] ((World.doorLaid prog 400 os).forCall (fun _ _ => 0) ⟨#[], args, []⟩).memory :=
 laidMetH_of_parts3 (fuel:=8) (laidMet_of_run' 8 (by kernel_rfl) (by kernel_rfl)) (by kernel_rfl) (by kernel_rfl)
theorem vY : prog.globalNamed "internal/strconv.uint64pow10" = some 1 := by kernel_rfl
theorem tab_of {W : World} (h : laidMetH prog [("math/bits.deBruijn32tab", Rows.laid_math_bits_deBruijn32tab), ("math/bits.deBruijn64tab", Rows.laid_math_bits_deBruijn64tab), ("internal/strconv.uint64pow10", Rows.laid_internal_strconv_uint64pow10), ("croft/slab.sizes", Rows.laid_croft_slab_sizes)] W) : iU W := by
 rw[MakeChecks.laidMetH_plain _ _ _ (by kernel_rfl)] at h;have h1 := h.filter (fun x => x.1 == "croft/slab.sizes");have hT : Lib.TabIs prog W "croft/slab.sizes" .u64 [16, 32, 64, 128, 256, 512, 1024, 2048] := Lib.tabIs_of_head gSizes (by kernel_rfl) Tryz.underlying207 Tryz.underlying27 (by kernel_rfl) (by kernel_rfl) h1;intro k hk;have:=hT.cell gSizes k (by simpa using hk);rw[this];rcases (show k=0\/k=1\/k=2\/k=3\/k=4\/k=5\/k=6\/k=7 by omega)with rfl|rfl|rfl|rfl|rfl|rfl|rfl|rfl <;> rfl
theorem UO {W : World} (h : laidMetH prog [("math/bits.deBruijn32tab", Rows.laid_math_bits_deBruijn32tab), ("math/bits.deBruijn64tab", Rows.laid_math_bits_deBruijn64tab), ("internal/strconv.uint64pow10", Rows.laid_internal_strconv_uint64pow10), ("croft/slab.sizes", Rows.laid_croft_slab_sizes)] W) : _root_.Go.Proofs.YtkfmheelhinjdaaGreatDoor.W.Tab10 W := by
 rw[MakeChecks.laidMetH_plain _ _ _ (by kernel_rfl)] at h;have h1 := h.filter (fun x => x.1 == "internal/strconv.uint64pow10");exact Lib.tabIs_of_head vY (by kernel_rfl) Tryz.underlying230 Tryz.underlying27 (by kernel_rfl) (by kernel_rfl) h1
theorem lifted(os:Os)(started:os.Started)(H:Type)(enc:TypeId×Value->H):
  ReturnsInHanded {} Tryz.checked os 6 .any (fun w args => (Rows.reportFreesSpec.pre enc prog Tryz.f6 [] false w args /\ laidMetH prog [("math/bits.deBruijn32tab", Rows.laid_math_bits_deBruijn32tab), ("math/bits.deBruijn64tab", Rows.laid_math_bits_deBruijn64tab), ("internal/strconv.uint64pow10", Rows.laid_internal_strconv_uint64pow10), ("croft/slab.sizes", Rows.laid_croft_slab_sizes)] w) /\ sizedMet enc prog Tryz.f6 (OpenSpec.ofChange Rows.reportFreesSpec) false w args)
   (Rows.reportFreesSpec.post enc prog Tryz.f6 false true false false):=by
 refine returnsInHanded_of_change_and (C := Tryz.checked) (X := fun w _ => laidMetH prog [("math/bits.deBruijn32tab", Rows.laid_math_bits_deBruijn32tab), ("math/bits.deBruijn64tab", Rows.laid_math_bits_deBruijn64tab), ("internal/strconv.uint64pow10", Rows.laid_internal_strconv_uint64pow10), ("croft/slab.sizes", Rows.laid_croft_slab_sizes)] w) (fun _ _ _ hh h => h.of_heap hh) own started (by kernel_rfl) func6
  (ChangeSpec.witness_shaped (enc := enc) (C := Tryz.checked) (os := os) (X := fun w _ => laidMetH prog [("math/bits.deBruijn32tab", Rows.laid_math_bits_deBruijn32tab), ("math/bits.deBruijn64tab", Rows.laid_math_bits_deBruijn64tab), ("internal/strconv.uint64pow10", Rows.laid_internal_strconv_uint64pow10), ("croft/slab.sizes", Rows.laid_croft_slab_sizes)] w) false (World.doorLaid prog 400 os) #[.agg #[.int .u64 0, .int .i64 0, .int .i64 0, .int .i64 0, .slice none 0 0, .slice none 0 0, .slice none 0 0, .slice none 0 0, .slice none 0 0]] 8 rfl (World.shaped_of_RefB (by kernel_rfl) (by kernel_rfl)) (by kernel_rfl) (by kernel_rfl) (by kernel_rfl) (door_met os _)) ?_
 intro UU bS args ds gs before hval0 hW _ hsz0 hL _;have hsz:(DataW.weightsEach prog (Tryz.f6.params.toList ++ Rows.reportFreesSpec.plain.varTypes prog) (ds ++ gs)).all (·<=reachBytes)=true:=hsz0;clear hsz0;have hval:∀ (j:Nat) t v,Tryz.f6.params[j]?=some t->args[j]?=some v->Value.okWide prog UU .any bS t v:=hval0;have hW':=hW;obtain⟨p,q,hA0,hV,rfl,hfz,hnd⟩:=hW;have hA:DataW.TrodAll enc prog UU 0 (fun _=>true) true Tryz.f6.params.toList args.toList ds p:=hA0;rw[Tryz.params6] at hA hval hsz;obtain⟨v0,vs0,d0,ds0,p0,q0,hargs,rfl,rfl,h0,r0⟩:=trodAll_cons hA;obtain⟨rfl,rfl,rfl⟩:=trodAll_nil r0;obtain rfl:args=#[v0]:=by cases args;simp_all
 obtain⟨rfl,rfl⟩:=trodVars_none hV;have hTab:=tab_of hL;have hTab10:=UO hL;have k0:=h0;have lt0:∀ x∈p0,x.block<UU.heap.size:=by obtain⟨m,hm⟩:=k0;exact DataW.trod_lt m _ _ _ hm
 obtain⟨I0,V0,rfl,hI0⟩:=W.image_of (hval 0 38 v0 rfl rfl) h0;have hZ0:=W.image_sized h0 (fun k hk=>by simpa using List.all_eq_true.1 hsz _ (DataW.weights_mem_each (j:=0) rfl rfl k hk)) hI0;clear hA0 hval0;refine(W.reportFrees_any I0 V0 UU  hI0 hZ0 hTab hTab10).mono fun e UU' ⟨he,kp⟩=>?_
 subst he;have bel:Below UU.heap.size UU UU':=kp.below (Nat.le_refl _) (fun x hx=>hx.elim);exact⟨_,rfl,_,_,_,[],_,[],hW',trodAll_mk1 (shut_bool Tryz.underlying4 true),(trodAll_cons_mk (Below.trod laidOut (by kernel_rfl) (of_decide_eq_true (by kernel_rfl)) k0 bel lt0) trodAll_mk0),rfl,bel.frame _,fun h=>by cases h⟩
set_option maxRecDepth 100000
theorem a1:prog.funcNamed Rows.reportFreesRow.func=some 6:=by kernel_rfl
theorem a2:joinedFacts prog 6 Tryz.f6 Rows.reportFreesSpec Rows.reportFreesRow=true:=by kernel_rfl
theorem a3:Tryz.f6.isWrapper prog Rows.reportFreesRow.wrapper Rows.reportFreesRow.mainSum:=by unfold Func.isWrapper;first|(rw[if_pos (by decide +kernel)];kernel_rfl)|(rw[if_neg (by decide +kernel)];exact⟨rfl,rfl⟩)
theorem a5:Tryz.f6.isInstance prog Rows.reportFreesRow.origin Rows.reportFreesRow.targs:=of_decide_eq_true (by kernel_rfl)
theorem over:Rows.reportFreesRow.holds Tryz.pinned (OpenSpec.ofChange Rows.reportFreesSpec):=
 OpenClaim.holds_of_wide 6 Tryz.f6 rfl rfl rfl rfl rfl rfl rfl ⟨rfl,rfl,rfl,rfl,rfl⟩ rfl rfl rfl rfl rfl a1 func6 a2 a5 a3
  (fun os started H enc _=>lifted os started H enc)
end Go.Proofs.YtkfmheelhinjdaaGreatDoor.reportFrees
namespace Go.Proofs.YtkfmheelhinjdaaGreatDoor
open _root_.Go.Proofs.Tryz
open Go
theorem reportFrees_holds:Rows.ReportFreesCardSaid:=
 Claim7.holds_tied_plain_at .later [] [.data,.data,.data,.data] true Rows.reportFreesCard.stood.harness true
  reportFrees.over (fun _ h=>by cases h) (by kernel_rfl) (fun _ h=>by cases h) reportFrees_row_tie rfl ⟨rfl,rfl⟩ (by kernel_rfl) rfl
  (fun f fn hf hfn=>by
   obtain rfl : f = 6 := Option.some.inj ((show prog.funcNamed "croft/croftlaw20.ReportFrees" = some 6 by kernel_rfl).symm.trans hf) |>.symm
   obtain rfl:fn=Tryz.f6:=(Option.some.inj (func6.symm.trans hfn)).symm;exact⟨by kernel_rfl,fun j t ht=>by
    rw[Tryz.params6] at ht;have hm:t∈[38]:=(by simpa using Array.mem_of_getElem? ht);have hall:([38].all fun u=>!prog.wantsStandIn u)=true:=(by kernel_rfl);exact(show prog.wantsStandIn t=false by simpa using List.all_eq_true.1 hall t hm)⟩)
  (by kernel_rfl)
#print axioms reportFrees_holds
end Go.Proofs.YtkfmheelhinjdaaGreatDoor
