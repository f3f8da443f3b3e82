import Derived.Test.YtbgbfpklgfpepaaGreatDoorWr
import Derived.Test.YtbgbfpklgfpepaaGreatDoorXz
set_option maxRecDepth 1000000
set_option maxHeartbeats 80000000
namespace Go.Proofs.YtbgbfpklgfpepaaGreatDoor
open Tryz
open Go.RowKit
open Go.MuLone
open Go.Proofs.YtbgbfpklgfpepaaGreatDoor.M (RS gJ mayB bE)
set_option linter.unusedVariables false
abbrev oP(b:Nat)(l o:Int)(oa:Option Addr)(m oc:Nat):Obj:=.cells #[.int .u64 b,.int .i64 l,.int .i64 o,.slice oa m oc] 46
theorem kY{W:World}{y b:Nat}{l o:Int}{oa:Option Addr}{m oc:Nat}(h:W.heap[y]?=some (oP b l o oa m oc)):W.cell? ⟨y,0,none⟩=some (.int .u64 b)/\W.cell? ⟨y,1,none⟩=some (.int .i64 l)/\W.cell? ⟨y,2,none⟩=some (.int .i64 o)/\W.cell? ⟨y,3,none⟩=some (.slice oa m oc):=by
 refine⟨?_,?_,?_,?_⟩ <;> simp[World.cell?,h]
theorem mE{W W':World}{y b:Nat}{l o:Int}{oa:Option Addr}{m oc:Nat}(h:W.heap[y]?=some (oP b l o oa m oc))(k:Kt nO W W'):W'.heap[y]?=some (oP b l o oa m oc):=(k.block _ (lH h) id).trans h
theorem mR.keep{w W:World}{v:Value}{m:Nat}(h:mR w v m)(k:Kt nO w W):mR W v m:=by
 obtain⟨h1,oa,oc,h2,h3⟩:=h;refine⟨h1,oa,oc,h2,?_⟩;rcases h3 with h3|⟨bl,o,h4,h5,h6⟩
 ·exact .inl h3
 ·refine .inr ⟨bl,o,h4,Nat.lt_of_lt_of_le h5 k.size,fun j hj=>?_⟩;obtain⟨c,g,h7⟩:=h6 j hj;exact⟨c,g,h7.keep k⟩
theorem sT.ph{w1 w':World}{bS lim o:Nat}{e:Ending}(h:sT w1 bS lim o e w'):∃ hb,e=.returned (.tuple #[.pointer (some ⟨hb,0,none⟩),.int .i64 0])/\iZ (fun _=>False) w1 w' hb bS lim o 0 (.slice none 0 0) []:=by
 obtain⟨hb,sb,lw,x,rfl,H,e1,e2,e3,e4,e5⟩:=h;refine⟨hb,rfl,sb,lw,x,_,_,_,_,H,e1,e3,e5,by rw[e4,Nat.zero_mul],⟨BK8.nil _,fun y hy=>?_,fun y hy=>hy.elim⟩,⟨fun a z=>?_,List.nodup_nil⟩,fun h hh=>by cases hh⟩
 ·rcases hy with e|⟨a,ha,_⟩
  ·simp[Value.ownBlock] at e
  ·cases ha
 ·constructor
  ·rintro (⟨g,k,i,hv,_⟩|⟨q,k,hm,_⟩)
   ·exact absurd hv.1 (by unfold qH;simp)
   ·cases hm
  ·intro h
   cases h
theorem iZ.config{E:Nat->Prop}{w1 W:World}{hb bS lim o n:Nat}{v:Value}{l:List He8}(P:iZ E w1 W hb bS lim o n v l):Calls prog 23 #[.pointer (some ⟨hb,0,none⟩)] W fun e w'=>e=.returned (.agg #[.int .u64 bS,.int .i64 lim,.int .i64 o])/\Kt nO W w':=by
 obtain⟨sb,lw,x,t,fr,ls,S,H,rfl,rfl,rfl,hn,A,L,by0⟩:=P;exact VH H
theorem zh7(bS:Nat)(hb64:bS<18446744073709551616)(lim ord:Int)(l1 : -9223372036854775808<=lim)(l2:lim<=9223372036854775807)(o1 : -9223372036854775808<=ord)(o2:ord<=9223372036854775807)(hmay:mayB bS lim ord=false)(oa:Option Addr)(m oc:Nat)(w:World)(hT:lS w):
  Calls prog 4 #[.agg #[.int .u64 bS,.int .i64 lim,.int .i64 ord,.slice oa m oc]] w fun e w'=>e=.returned (.bool true)/\Kt nO w w':=by
 have K1:=aA ((Kt.refl nO w).alloc (oP bS lim ord oa m oc));have X1:=aA (nH w (oP bS lim ord oa m oc));have MY:=aA (fun W=>sX bS hb64 lim ord l1 l2 o1 o2 W);rw[hmay] at MY;have CF:=aA (fun W=>CY bS lim ord W);have NW:=aA (fun W=>WR bS hb64 lim ord l1 l2 o1 o2 hmay W);obtain⟨c0,c1,c2,c3⟩:=kY X1.out;clear hT hmay;go_enter func4,ntmps4;go_wp2_with fail;refine(CF.out _).mono ?_;rintro e V2 ⟨rfl,hk⟩;have K2:=aA (nT K1.out hk);have X2:=aA (mE X1.out hk);clear hk CF c0 c1 c2 c3 X1 K1;obtain⟨c0,c1,c2,c3⟩:=kY X2.out;go_wp2_with fail;refine(NW.out _).mono ?_;rintro e V3 ⟨rfl,hk⟩;have K3:=aA (nT K2.out hk);have X3:=aA (mE X2.out hk);clear hk NW c0 c1 c2 c3 X2 K2;obtain⟨c0,c1,c2,c3⟩:=kY X3.out;go_wp2_with fail;refine(MY.out _).mono ?_;rintro e V4 ⟨rfl,hk⟩;have K4:=aA (nT K3.out hk);have X4:=aA (mE X3.out hk);clear hk MY c0 c1 c2 c3 X3 K3;obtain⟨c0,c1,c2,c3⟩:=kY X4.out;go_wp2_with fail;go_ret;exact⟨rfl,K4.out⟩
theorem zh8(bS:Nat)(hb64:bS<18446744073709551616)(lim o:Nat)(hl1 : 1<=lim)(hl2:lim<=64)(ho:o<=8)(hmay:mayB bS (lim:Int) (o:Int)=true)(oa:Option Addr)(m oc:Nat)(w:World)(hC:mR w (.slice oa m oc) m)(hT:lS w):
  Calls prog 4 #[.agg #[.int .u64 bS,.int .i64 lim,.int .i64 o,.slice oa m oc]] w fun e w'=>e=.returned (.bool true)/\Kt nO w w':=by
 have hb3:bS≠0/\bS%(4096*2 ^ o)=0/\bS+lim*RS o<=9223372036854775808:=by
  have h:=hmay;unfold mayB at h;rw[Bool.and_eq_true,Bool.and_eq_true,Bool.and_eq_true,Bool.and_eq_true] at h;have h3:=of_decide_eq_true h.2.1.2;have h4:=of_decide_eq_true h.2.2;rw[Int.toNat_natCast] at h3;rw[Int.toNat_natCast,Int.toNat_natCast] at h4;exact⟨of_decide_eq_true h.2.1.1,h3,h4⟩
 obtain⟨hb0,hbr,hbe⟩:=hb3;have CC:=aA (show Cn8 bS lim o from⟨hmay,hbe,hl2,ho,hb0⟩);have K1:=aA ((Kt.refl nO w).alloc (oP bS (lim:Int) (o:Int) oa m oc));have X1:=aA (nH w (oP bS (lim:Int) (o:Int) oa m oc));have AW:=aA (fun W (k:Kt nO w W)=>QQ W (fun j hj=>k.cell id (hT j hj)));have MY:=aA (fun W=>GZ bS hb64 lim o ho hl1 hl2 W);rw[hmay] at MY;have CF:=aA (fun W=>CY bS (lim:Int) (o:Int) W);have NW:=aA (fun W (k:Kt nO w W)=>(CN bS hb64 lim o hl2 ho hmay hbr W (fun j hj=>k.cell id (hT j hj))).mono fun e w' h=>sT.ph h);have HC:=aA hC;obtain⟨c0,c1,c2,c3⟩:=kY X1.out;clear hT hmay hbr hb0 hbe hC;go_enter func4,ntmps4;go_wp2_with fail;refine(CF.out _).mono ?_;rintro e V2 ⟨rfl,hk⟩;have K2:=aA (nT K1.out hk);have X2:=aA (mE X1.out hk);clear hk c0 c1 c2 c3 X1 K1;obtain⟨c0,c1,c2,c3⟩:=kY X2.out;go_wp2_with fail;refine(NW.out _ K2.out).mono ?_;rintro e V3 ⟨hb,rfl,hP⟩;have P3:=aA hP;have X3:=aA (mE X2.out hP.kp);clear hP NW c0 c1 c2 c3 X2;obtain⟨c0,c1,c2,c3⟩:=kY X3.out;go_wp2_with fail;refine(MY.out _).mono ?_;rintro e V4 ⟨rfl,hk⟩;have P4:=aA (P3.out.keep hk);have X4:=aA (mE X3.out hk);clear hk MY c0 c1 c2 c3 P3 X3;obtain⟨c0,c1,c2,c3⟩:=kY X4.out;go_wp2_with fail;have CG:=aA (fun V (k:Kt nO V4 V)=>(P4.out.keep k).config);clear c0 c1 c2 c3;have c0':=fun y:KW V4=>(kY (mE X4.out y.k)).1
 have c1':=fun y:KW V4=>(kY (mE X4.out y.k)).2.1
 have c2':=fun y:KW V4=>(kY (mE X4.out y.k)).2.2.1
 refine fC (by kernel_rfl) (by kernel_rfl) ?_;repeat (go_big_quiet_step (first|(go_at_call 23;exact Calls.kept_of (CG.out _ (KW.k _)))|(go_at_call 21;exact Calls.kept_of (CF.out _))))
 refine wpQuiet_nil ?_;intro y;have P5:=aA (P4.out.keep y.k);have X5:=aA (mE X4.out y.k);clear c0' c1' c2' CG CF P4 X4;generalize y.v=V5 at *;obtain⟨c0,c1,c2,c3⟩:=kY X5.out;have PL:=aA (PA CC.out (HC.out.keep K2.out) P5.out);go_wp2_with fail;refine PL.out.mono ?_;rintro e V6 ⟨rfl,hk⟩;have K6:=aA (nT K2.out hk);have AV:=aA (AW.out _ K6.out);clear hk PL P5 X5 c0 c1 c2 c3;go_wp2_with fail;refine AV.out.mono ?_;rintro e V7 ⟨rfl,hk⟩;have K7:=aA (nT K6.out hk);clear hk AV AW;go_wp2_with fail;go_ret;exact⟨rfl,K7.out⟩
theorem TH(bS:Nat)(hb64:bS<18446744073709551616)(lim ord:Int)(l1 : -9223372036854775808<=lim)(l2:lim<=9223372036854775807)(o1 : -9223372036854775808<=ord)(o2:ord<=9223372036854775807)(sv:Value)(m:Nat)(w:World)(hT:lS w)(hC:mR w sv m):
  Calls prog 4 #[.agg #[.int .u64 bS,.int .i64 lim,.int .i64 ord,sv]] w fun e w'=>e=.returned (.bool true)/\Kt nO w w':=by
 obtain⟨_,oa,oc,rfl,_⟩:=id hC
 cases hmay:mayB bS lim ord with
 | false=>exact zh7 bS hb64 lim ord l1 l2 o1 o2 hmay oa m oc w hT
 | true=>
  have hB:gJ lim ord:=by
   unfold mayB at hmay;rw[Bool.and_eq_true,Bool.and_eq_true] at hmay;exact of_decide_eq_true hmay.1.1
  obtain⟨b1,b2,b3,b4⟩:=hB;obtain⟨o,rfl⟩:=Int.eq_ofNat_of_zero_le b1;obtain⟨L,rfl⟩:=Int.eq_ofNat_of_zero_le (show 0<=lim by omega);exact zh8 bS hb64 L o (by omega) (by omega) (by omega) hmay oa m oc w hC hT
end Go.Proofs.YtbgbfpklgfpepaaGreatDoor
