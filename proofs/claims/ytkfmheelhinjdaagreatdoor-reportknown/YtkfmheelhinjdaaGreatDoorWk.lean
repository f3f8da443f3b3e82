import Derived.Test.YtkfmheelhinjdaaGreatDoorZa
import Derived.Test.YtkfmheelhinjdaaGreatDoorWj
set_option maxRecDepth 1000000
set_option maxHeartbeats 80000000
namespace Go.Proofs.YtkfmheelhinjdaaGreatDoor.W
open _root_.Go.Proofs.Tryz
open Go.RowKit
set_option linter.unusedVariables false
set_option maxHeartbeats 8000000
set_option maxRecDepth 8000
theorem xV{w1 U:World}{hb:Nat}(s:KH w1 U hb 0 [] [] [] qC false):Calls prog 12 #[.pointer (some ⟨hb,0,none⟩),.int .u64 0,.bool false] U fun e w'=>e=tE 65536 0/\KH w1 w' hb 8192 [1] [] [(0,0)] Q1 false:=s.mal_grow 0 rfl 0 (by decide) 4 (by decide) (by decide) 0 (by decide) rfl rfl (by decide)
theorem xU{w1 U:World}{hb:Nat}(s:KH w1 U hb 8192 [1] [] [(0,0)] Q1 false):Calls prog 12 #[.pointer (some ⟨hb,0,none⟩),.int .u64 17,.bool false] U fun e w'=>e=tE 69632 0/\KH w1 w' hb 8192 [] [] [(0,0),(1,0)] Q2 false:=s.mal_here 17 (by decide) false 5 (by decide) (by decide) 1 (by decide) rfl rfl
theorem xT{w1 U:World}{hb:Nat}(s:KH w1 U hb 8192 [] [] [(0,0),(1,0)] Q2 false):Calls prog 12 #[.pointer (some ⟨hb,0,none⟩),.int .u64 4097,.bool false] U fun e w'=>e=tE 73728 0/\KH w1 w' hb 16384 [] [] [(0,0),(1,0),(2,1)] Q2 false:=s.pg_grow 2 rfl 4097 (by decide) (by decide) (by decide)
abbrev iR:List (Nat×Nat):=[(65536,16),(69632,32),(73728,8192)]
theorem EI{ks:List Nat}(h:mW iR ks):ks=[16,32,8192]:=
 h.uniq ⟨by decide,fun x=>by simp[dI,iR]⟩
theorem uT:(hZ iR [16,32,8192]).toArray=#[49,54,32,49,32,49,54,10,51,50,32,49,32,51,50,10,56,49,57,50,32,49,32,56,49,57,50,10]:=by
 have mU:Lib.decDigits 16=[49,54]:=by simp[Lib.decDigits]
 have e32:Lib.decDigits 32=[51,50]:=by simp[Lib.decDigits]
 have e81:Lib.decDigits 8192=[56,49,57,50]:=by simp[Lib.decDigits]
 have e1:Lib.decDigits 1=[49]:=by simp[Lib.decDigits]
 simp[hZ,lB,dI,mU,e32,e81,e1]
theorem ML{v:Value}{w:World}(hv:RBk w v iR)(ht:Tab10 w):
  Calls prog 17 #[v] w fun e w'=>e=.returned (.string ⟨#[49,54,32,49,32,49,54,10,51,50,32,49,32,51,50,10,56,49,57,50,32,49,32,56,49,57,50,10]⟩)/\Kt nO w w':=
 (yV v iR w (by decide) (by simp[iR,gI]) hv ht).mono fun e w' ⟨ks,hk,he,k⟩=>⟨by rw[he,EI hk,uT],k⟩
theorem EH{I:Img}(h:Im4 I):(mP I).toArray=#[97,98,10,49,61,10]:=by
 have l0:fZ (I.pg 0)=97:=by unfold fZ fH;rw[h.p0.1,h.p0.2.1,h.p0.2.2];first|rfl|simp[celN9]
 have l1:fZ (I.pg 1)=98:=by unfold fZ fH;rw[h.p1.1,h.p1.2.1,h.p1.2.2];first|rfl|simp[celN9]
 have l2:fZ (I.pg 2)=49:=by unfold fZ fH;rw[h.p2.1,h.p2.2];first|rfl|simp
 have l3:fZ (I.pg 3)=61:=by unfold fZ fH;rw[h.p3];first|rfl|simp
 unfold mP;rw[h.ck,if_pos rfl,h.np,h.ord];simp[jO,l0,l1,l2,l3]
theorem MK{I:Img}{V:ImV}{w:World}(h:Im4 I)(hI:ImD w I V):
  Calls prog 16 #[imA I V] w fun e w'=>e=.returned (.string ⟨#[97,98,10,49,61,10]⟩)/\Kt nO w w':=
 (zY I V w hI).mono fun e w' ⟨he,k⟩=>⟨by rw[he,EH h],k⟩
theorem vQ{I:Img}(h:Im4 I):hY I 16=4080:=by
 have r0:dQ 16 (cE (I.pg 0))=4080:=by unfold dQ cE eR;dsimp only;rw[h.p0.1,h.p0.2.1,h.p0.2.2];first|rfl|simp[celN9]
 have r1:dQ 16 (cE (I.pg 1))=0:=by unfold dQ cE eR;dsimp only;rw[h.p1.1,h.p1.2.1,h.p1.2.2];first|rfl|simp[celN9]
 have r2:dQ 16 (cE (I.pg 2))=0:=by unfold dQ cE eR;dsimp only;rw[h.p2.1];simp
 have r3:dQ 16 (cE (I.pg 3))=0:=by unfold dQ cE eR;dsimp only;rw[h.p3];simp
 unfold hY;rw[h.np];simp[List.range_succ,r0,r1,r2,r3]
theorem MJ{I:Img}{V:ImV}{w:World}(h:Im4 I)(hI:ImD w I V):
  Calls prog 15 #[imA I V,.int .u64 16] w fun e w'=>e=.returned (.int .i64 750)/\Kt nO w w':=
 (rG I V 16 (by decide) w hI (fun _ _=>by rw[vQ h,h.nm];decide)).mono fun e w' ⟨he,k⟩=>⟨by
  have e1:kL I.ord.toNat 16=true:=by rw[h.ord];decide
  rw[he];unfold kY;rw[if_pos ⟨by rw[h.ck],e1⟩,h.nm,vQ h];rfl,k⟩
theorem MI(w:World)(hT:iU w)(hP:Tab10 w):Calls prog 10 #[] w fun e w'=>e=.returned (.bool true)/\Kt nO w w':=by
 have NW:=aA (wB w hT);have TP:=aA hP;clear hT hP;go_enter func10,ntmps10;go_wp2_with fail;refine NW.out.mono ?_;rintro e W0 ⟨hb,rfl,hs⟩;have S0:=aA hs;clear hs NW;go_wp2_with fail;refine(xV S0.out).mono ?_;rintro e W1 ⟨rfl,hs⟩;have S1:=aA hs;clear hs S0;go_wp2_with fail;refine(xU S1.out).mono ?_;rintro e W2 ⟨rfl,hs⟩;have S2:=aA hs;clear hs S1;go_wp2_with fail;refine(xT S2.out).mono ?_;rintro e W3 ⟨rfl,hs⟩;have S3:=aA hs;clear hs S2;go_wp2_with fail;refine S3.out.live.mono ?_;rintro e W4 ⟨vl,rfl,hrb,hk⟩;have S4:=aA (S3.out.keep hk);have RB:=aA hrb;clear hk hrb S3;go_wp2_with fail;refine(ML RB.out (Tab10.keep TP.out S4.out.kp)).mono ?_;rintro e W5 ⟨rfl,hk⟩;have S5:=aA (S4.out.keep hk);clear hk S4 RB;go_wp2_with fail;refine S5.out.image.mono ?_;rintro e W6 ⟨I,V,rfl,hI,h4,hk⟩;have S6:=aA (S5.out.keep hk);have HI:=aA hI;have H4:=aA h4;clear hk hI h4 S5;go_wp2_with fail;refine(MK H4.out HI.out).mono ?_;rintro e W7 ⟨rfl,hk⟩;have S7:=aA (S6.out.keep hk);clear hk S6 HI H4;go_wp2_with fail;refine S7.out.image.mono ?_;rintro e W8 ⟨I2,V2,rfl,hI,h4,hk⟩;have S8:=aA (S7.out.keep hk);have HI:=aA hI;have H4:=aA h4;clear hk hI h4 S7;go_wp2_with fail;refine(MJ H4.out HI.out).mono ?_;rintro e W9 ⟨rfl,hk⟩;have S9:=aA (S8.out.keep hk);clear hk S8 HI H4;go_wp2_with fail;go_ret;exact⟨rfl,S9.out.kp⟩
set_option maxHeartbeats 4000000
set_option maxRecDepth 6000
theorem RBk.two{w:World}{v:Value}{l:List (Nat×Nat)}(h:RBk w v l)(j:Nat)(hj:j<l.length):∃ g oc,v=.slice (some ⟨g,0,none⟩) l.length oc/\w.cell? ⟨g,j*2,none⟩=some (.int .u64 ((l.getD j (0,0)).1:Int))/\w.cell? ⟨g,j*2+1,none⟩=some (.int .u64 ((l.getD j (0,0)).2:Int)):=by
 obtain⟨oa,oc,rfl,h0|⟨g,rfl,-,hc⟩⟩:=h
 ·rw[h0] at hj;simp at hj
 ·exact⟨g,oc,rfl,(hc j hj).1,(hc j hj).2⟩
end Go.Proofs.YtkfmheelhinjdaaGreatDoor.W
