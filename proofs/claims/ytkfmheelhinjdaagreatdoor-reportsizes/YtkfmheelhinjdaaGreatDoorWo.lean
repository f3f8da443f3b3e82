import Derived.Test.YtkfmheelhinjdaaGreatDoorZa
import Derived.Test.YtkfmheelhinjdaaGreatDoorXm
import Derived.Test.YtkfmheelhinjdaaGreatDoorWt
import Derived.Deep.SlicePairs
import Derived.Test.YtkfmheelhinjdaaGreatDoorCards
import Derived.Test.YtkfmheelhinjdaaGreatDoorTie
import Derived.LaidSub
import Derived.ShutString
import Derived.ChangeOld
import Derived.Below
import Derived.Stop.Joined
import Derived.Lib.LaidTab
import Derived.SevenTiedAt
set_option maxRecDepth 1000000
set_option maxHeartbeats 80000000
namespace Go.Proofs.YtkfmheelhinjdaaGreatDoor.W
open _root_.Go.Proofs.Tryz
open Go.RowKit
set_option linter.unusedVariables false
set_option maxHeartbeats 8000000
set_option maxRecDepth 8000
theorem IF{w1 U:World}{hb:Nat}(s:KH w1 U hb 0 [] [] [] pN false):Calls prog 12 #[.pointer (some ⟨hb,0,none⟩),.int .u64 0,.bool false] U fun e w'=>e=tE 65536 0/\KH w1 w' hb 8192 [1] [] [(0,0)] Q1 false:=s.mal_grow 0 rfl 0 (by decide) 4 (by decide) (by decide) 0 (by decide) rfl rfl (by decide)
theorem IE{w1 U:World}{hb:Nat}(s:KH w1 U hb 8192 [1] [] [(0,0)] Q1 false):Calls prog 12 #[.pointer (some ⟨hb,0,none⟩),.int .u64 17,.bool false] U fun e w'=>e=tE 69632 0/\KH w1 w' hb 8192 [] [] [(0,0),(1,0)] Q2 false:=s.mal_here 17 (by decide) false 5 (by decide) (by decide) 1 (by decide) rfl rfl
theorem ID{w1 U:World}{hb:Nat}(s:KH w1 U hb 8192 [] [] [(0,0),(1,0)] Q2 false):Calls prog 12 #[.pointer (some ⟨hb,0,none⟩),.int .u64 4097,.bool false] U fun e w'=>e=tE 73728 0/\KH w1 w' hb 16384 [] [] [(0,0),(1,0),(2,1)] Q2 false:=s.pg_grow 2 rfl 4097 (by decide) (by decide) (by decide)
abbrev iK:List (Nat×Nat):=[(65536,16),(69632,32),(73728,8192)]
theorem DW{ks:List Nat}(h:gR iK ks):ks=[16,32,8192]:=
 h.uniq ⟨by decide,fun x=>by simp[aU,iK]⟩
theorem uL:(bP iK [16,32,8192]).toArray=#[49,54,32,49,32,49,54,10,51,50,32,49,32,51,50,10,56,49,57,50,32,49,32,56,49,57,50,10]:=by
 have mJ:Lib.decDigits 16=[49,54]:=by simp[Lib.decDigits]
 have e32:Lib.decDigits 32=[51,50]:=by simp[Lib.decDigits]
 have e81:Lib.decDigits 8192=[56,49,57,50]:=by simp[Lib.decDigits]
 have e1:Lib.decDigits 1=[49]:=by simp[Lib.decDigits]
 simp[bP,jM,aU,mJ,e32,e81,e1]
theorem IC{v:Value}{w:World}(hv:RBk w v iK)(ht:Tab10 w):
  Calls prog 17 #[v] w fun e w'=>e=.returned (.string ⟨#[49,54,32,49,32,49,54,10,51,50,32,49,32,51,50,10,56,49,57,50,32,49,32,56,49,57,50,10]⟩)/\Kt nO w w':=
 (tH v iK w (by decide) (by simp[iK,eZ]) hv ht).mono fun e w' ⟨ks,hk,he,k⟩=>⟨by rw[he,DW hk,uL],k⟩
theorem DV{I:Img}(h:Im4 I):(nJ I).toArray=#[97,98,10,49,61,10]:=by
 have l0:fX (I.pg 0)=97:=by unfold fX fF;rw[h.p0.1,h.p0.2.1,h.p0.2.2];first|rfl|simp[celN9]
 have l1:fX (I.pg 1)=98:=by unfold fX fF;rw[h.p1.1,h.p1.2.1,h.p1.2.2];first|rfl|simp[celN9]
 have l2:fX (I.pg 2)=49:=by unfold fX fF;rw[h.p2.1,h.p2.2];first|rfl|simp
 have l3:fX (I.pg 3)=61:=by unfold fX fF;rw[h.p3];first|rfl|simp
 unfold nJ;rw[h.ck,if_pos rfl,h.np,h.ord];simp[jJ,l0,l1,l2,l3]
theorem IB{I:Img}{V:ImV}{w:World}(h:Im4 I)(hI:ImD w I V):
  Calls prog 16 #[imA I V] w fun e w'=>e=.returned (.string ⟨#[97,98,10,49,61,10]⟩)/\Kt nO w w':=
 (VP I V w hI).mono fun e w' ⟨he,k⟩=>⟨by rw[he,DV h],k⟩
theorem vH{I:Img}(h:Im4 I):iX I 16=4080:=by
 have r0:fV 16 (cX (I.pg 0))=4080:=by unfold fV cX fW;dsimp only;rw[h.p0.1,h.p0.2.1,h.p0.2.2];first|rfl|simp[celN9]
 have r1:fV 16 (cX (I.pg 1))=0:=by unfold fV cX fW;dsimp only;rw[h.p1.1,h.p1.2.1,h.p1.2.2];first|rfl|simp[celN9]
 have r2:fV 16 (cX (I.pg 2))=0:=by unfold fV cX fW;dsimp only;rw[h.p2.1];simp
 have r3:fV 16 (cX (I.pg 3))=0:=by unfold fV cX fW;dsimp only;rw[h.p3];simp
 unfold iX;rw[h.np];simp[List.range_succ,r0,r1,r2,r3]
theorem KN{I:Img}{V:ImV}{w:World}(h:Im4 I)(hI:ImD w I V):
  Calls prog 15 #[imA I V,.int .u64 16] w fun e w'=>e=.returned (.int .i64 750)/\Kt nO w w':=
 (VV I V 16 (by decide) w hI (fun _ _=>by rw[vH h,h.nm];decide)).mono fun e w' ⟨he,k⟩=>⟨by
  have e1:lK I.ord.toNat 16=true:=by rw[h.ord];decide
  rw[he];unfold nI;rw[if_pos ⟨by rw[h.ck],e1⟩,h.nm,vH h];rfl,k⟩
theorem KM(w:World)(hT:iN w)(hP:Tab10 w):Calls prog 10 #[] w fun e w'=>e=.returned (.bool true)/\Kt nO w w':=by
 have NW:=aA (GO w hT);have TP:=aA hP;clear hT hP;go_enter func10,ntmps10;go_wp2_with fail;refine NW.out.mono ?_;rintro e W0 ⟨hb,rfl,hs⟩;have S0:=aA hs;clear hs NW;go_wp2_with fail;refine(IF S0.out).mono ?_;rintro e W1 ⟨rfl,hs⟩;have S1:=aA hs;clear hs S0;go_wp2_with fail;refine(IE S1.out).mono ?_;rintro e W2 ⟨rfl,hs⟩;have S2:=aA hs;clear hs S1;go_wp2_with fail;refine(ID S2.out).mono ?_;rintro e W3 ⟨rfl,hs⟩;have S3:=aA hs;clear hs S2;go_wp2_with fail;refine S3.out.live.mono ?_;rintro e W4 ⟨vl,rfl,hrb,hk⟩;have S4:=aA (S3.out.keep hk);have RB:=aA hrb;clear hk hrb S3;go_wp2_with fail;refine(IC RB.out (Tab10.keep TP.out S4.out.kp)).mono ?_;rintro e W5 ⟨rfl,hk⟩;have S5:=aA (S4.out.keep hk);clear hk S4 RB;go_wp2_with fail;refine S5.out.image.mono ?_;rintro e W6 ⟨I,V,rfl,hI,h4,hk⟩;have S6:=aA (S5.out.keep hk);have HI:=aA hI;have H4:=aA h4;clear hk hI h4 S5;go_wp2_with fail;refine(IB H4.out HI.out).mono ?_;rintro e W7 ⟨rfl,hk⟩;have S7:=aA (S6.out.keep hk);clear hk S6 HI H4;go_wp2_with fail;refine S7.out.image.mono ?_;rintro e W8 ⟨I2,V2,rfl,hI,h4,hk⟩;have S8:=aA (S7.out.keep hk);have HI:=aA hI;have H4:=aA h4;clear hk hI h4 S7;go_wp2_with fail;refine(KN H4.out HI.out).mono ?_;rintro e W9 ⟨rfl,hk⟩;have S9:=aA (S8.out.keep hk);clear hk S8 HI H4;go_wp2_with fail;go_ret;exact⟨rfl,S9.out.kp⟩
set_option maxHeartbeats 8000000
set_option maxRecDepth 8000
theorem iN.keep'{w w':World}(h:iN w)(k:Kt nO w w'):iN w':=fun j hj=>k.cell id (h j hj)
set_option maxHeartbeats 4000000
set_option maxRecDepth 6000
theorem GB.put20{w0 W:World}{v:Value}{l:List (Nat×Nat)}(h:GB w0 W v l)(a s:Nat)(hn:l.length<=4398046511104):
  ∃ g cap w',(∀ t,(Builtin.append_ #[46,46] t #[v,.slice (some ⟨W.heap.size,0,none⟩) 1 1]).run prog (W.alloc (nM a s))=.ok (.slice (some ⟨g,0,none⟩) (l.length + 1) cap) w')/\GB w0 w' (.slice (some ⟨g,0,none⟩) (l.length + 1) cap) (l ++ [(a,s)])/\Kt (fun b=>v.ownBlock=some b) W w':=by
 obtain⟨i,hi,hzz⟩:=Option.map_eq_some_iff.1 qX;simp only[Prod.mk.injEq] at hzz;have ka:=(Kt.refl nO W).alloc (nM a s);obtain⟨g,cap,w',h1,h2,h5,h6,h7⟩:=(GS.keep h ka).pushM 46 i (.agg #[.int .u64 0,.int .u64 0]) 16 Tryz.underlying46 hi hzz.1 hzz.2.1 hzz.2.2 rfl (by decide) ⟨W.heap.size,0,none⟩ 1 1 (by decide) [.int .u64 a,.int .u64 s] rfl (fun j u hj=>oO (cs:=#[.int .u64 a,.int .u64 s]) j u hj) (by simp[Value.oneCell']) (by simp only[maxLen];omega) (by omega);refine⟨g,cap,w',h1,?_,ka.trans h6 (fun _ _ e=>e.elim) (fun _ _ e=>e)⟩;show GS _ _ _ _ _ (l ++ [(a,s)]).length (blV (l ++ [(a,s)]))
 rw[mZ,List.length_append];exact h2
theorem RBk.two{w:World}{v:Value}{l:List (Nat×Nat)}(h:RBk w v l)(j:Nat)(hj:j<l.length):∃ g oc,v=.slice (some ⟨g,0,none⟩) l.length oc/\w.cell? ⟨g,j*2,none⟩=some (.int .u64 ((l.getD j (0,0)).1:Int))/\w.cell? ⟨g,j*2+1,none⟩=some (.int .u64 ((l.getD j (0,0)).2:Int)):=by
 obtain⟨oa,oc,rfl,h0|⟨g,rfl,-,hc⟩⟩:=h
 ·rw[h0] at hj;simp at hj
 ·exact⟨g,oc,rfl,(hc j hj).1,(hc j hj).2⟩
def jR(w:World)(v:Value)(l:List (Nat×Nat)):Prop:=∃ oa oc,v=.slice oa l.length oc/\(l=[]\/∃ g o,oa=some ⟨g,o,none⟩/\∀ j,j<l.length->w.cell? ⟨g,o+j*2,none⟩=some (.int .u64 ((l.getD j (0,0)).1:Int))/\w.cell? ⟨g,o+j*2+1,none⟩=some (.int .u64 ((l.getD j (0,0)).2:Int)))
theorem jR.keep{w W:World}{v:Value}{l:List (Nat×Nat)}(h:jR w v l)(hk:Kt nO w W):jR W v l:=by
 obtain⟨oa,oc,e,h0|⟨g,o,e2,hc⟩⟩:=h
 ·exact⟨oa,oc,e,.inl h0⟩
 ·exact⟨oa,oc,e,.inr ⟨g,o,e2,fun j hj=>⟨hk.cell id (hc j hj).1,hk.cell id (hc j hj).2⟩⟩⟩
theorem jR.two{w:World}{v:Value}{l:List (Nat×Nat)}(h:jR w v l)(j:Nat)(hj:j<l.length):∃ g o oc,v=.slice (some ⟨g,o,none⟩) l.length oc/\w.cell? ⟨g,o+j*2,none⟩=some (.int .u64 ((l.getD j (0,0)).1:Int))/\w.cell? ⟨g,o+j*2+1,none⟩=some (.int .u64 ((l.getD j (0,0)).2:Int)):=by
 obtain⟨oa,oc,rfl,h0|⟨g,o,rfl,hc⟩⟩:=h
 ·rw[h0] at hj;simp at hj
 ·exact⟨g,o,oc,rfl,(hc j hj).1,(hc j hj).2⟩
theorem zF{l:List (Nat×Nat)}{j:Nat}(h:j<l.length):l.take (j + 1)=l.take j ++ [l.getD j (0,0)]:=by
 rw[List.take_succ_eq_append_getElem h,List.getD_eq_getElem?_getD,List.getElem?_eq_getElem h];rfl
theorem OS(v:Value)(l:List (Nat×Nat))(w:World)(hl:l.length<=2199023255552)(hv:jR w v l):
  Calls prog 19 #[v] w fun e w'=>∃ oa oc,e=.returned (.slice oa (l.length + 8) oc)/\GB w w' (.slice oa (l.length + 8) oc) (l ++ List.replicate 8 (77,78)):=by
 have HV:=aA hv;obtain⟨va,vc,rfl,-⟩:=hv;obtain⟨n,hn⟩:=xe (l.length);rw[<-hn] at hl HV ⊢;have HN:=aA hn;clear hn;go_enter func19,ntmps19;go_wp2_with fail;go_loopw [3,4] (fun tv iv W=>∃ (a:Nat) (oa:Option Addr) (oc:Nat),a<=n/\iv=.int .i64 a/\tv=.slice oa a oc/\Hid (GB w W (.slice oa a oc) (l.take a))) (fun _ iv _=>n-(intOf iv).toNat)
 case atStart=>exact⟨0,none,0,Nat.zero_le _,rfl,rfl,aA (GS.nil _ _ _ _ (Kt.refl _ _))⟩
 case round=>
  obtain⟨a,oa,oc,ha,rfl,rfl,HI⟩:=hrel;have HL:=aA (show(l.take a).length=a by rw[List.length_take,<-HN.out];omega);by_cases hlt:a<n
  ·have hai:(a:Int)<n:=(by omega);obtain⟨g0,o0,oc0,ev,c1,c2⟩:=(HV.out.keep HI.out.kp).two a (by rw[<-HN.out];exact hlt);rw[<-HN.out] at ev;injection ev with e1 e2 e3
   subst e1 e3;have TN:=aA (zF (l:=l) (j:=a) (by rw[<-HN.out];exact hlt));generalize l.getD a (0,0)=b at *;obtain⟨p,s⟩:=b;dsimp only at c1 c2;obtain⟨g4,cap4,w4,ap4,t4,k4⟩:=GB.put20 (show GB w wr (.slice oa a oc) (l.take a)from HI.out) p s (by rw[HL.out];omega);rw[HL.out] at ap4 t4;rw[<-TN.out] at t4;have AP4:=aA ap4;have T4:=aA t4;have HA1:=aA (show a+1<=n from hlt);clear ap4 t4 k4;go_wp2_with (at_builtin;refine Lib.wpList_append_run _ rfl _ _ _ _ rfl (.slice oa a oc) _ rfl rfl _ _ (AP4.out _) ?_)
   exact⟨⟨a+1,some ⟨g4,0,none⟩,cap4,HA1.out,by simp,rfl,T4⟩,by simp[intOf];omega⟩
  ·have hai:¬(a:Int)<n:=(by omega);have ea:a=n:=(by omega);subst ea;have L0:=aA (show GB w wr (.slice oa (a + 0) oc) (l ++ List.replicate 0 (77,78))from by
    have:=HI.out;rw[List.take_of_length_le (by rw[<-HN.out];omega)] at this;simpa using this)
   clear HI HV;go_wp2_with fail;go_loopw [3,5] (fun tv iv W=>∃ (j:Nat) (oa:Option Addr) (oc:Nat),j<=8/\iv=.int .i64 j/\tv=.slice oa (a + j) oc/\Hid (GB w W (.slice oa (a + j) oc) (l ++ List.replicate j (77,78)))) (fun _ iv _=>8-(intOf iv).toNat)
   case atStart=>exact⟨0,oa,oc,by omega,rfl,rfl,L0⟩
   case round=>
    clear L0;obtain⟨j,ob,oc',hj,rfl,rfl,HJ⟩:=hrel;have HL2:=aA (show(l ++ List.replicate j ((77:Nat),(78:Nat))).length=a + j by rw[List.length_append,List.length_replicate,<-HN.out]);by_cases hlj:j<8
    ·have hjj:(j:Int)<8:=(by omega);obtain⟨g4,cap4,w4,ap4,t4,k4⟩:=GB.put20 (show GB w wr (.slice ob (a + j) oc') (l ++ List.replicate j (77,78))from by have:=HJ.out;exact this) 77 78 (by rw[HL2.out];omega);rw[HL2.out] at ap4 t4;rw[List.append_assoc,<-List.replicate_succ'] at t4;have AP4:=aA ap4;have T4:=aA t4;have HA1:=aA (show j+1<=8 from hlj);clear ap4 t4 k4;go_wp2_with (at_builtin;refine Lib.wpList_append_run _ rfl _ _ _ _ rfl (.slice ob (a+j) oc') _ rfl rfl _ _ (AP4.out _) ?_)
     exact⟨⟨j+1,some ⟨g4,0,none⟩,cap4,HA1.out,by simp,rfl,T4⟩,by simp[intOf];omega⟩
    ·have hjj:¬(j:Int)<8:=(by omega);have ej:j=8:=(by omega);subst ej;have HF:=aA (show GB w wr (.slice ob (a + 8) oc') (l ++ List.replicate 8 (77,78))from HJ.out);clear HJ;go_wp2_with fail;go_ret;exact⟨ob,oc',rfl,HF.out⟩
theorem OQ(v:Value)(l:List (Nat×Nat))(w:World)(hl:l.length<=2199023255552)(hv:jR w v l):
  Calls prog 22 #[v] w fun e w'=>∃ oa oc,e=.returned (.slice oa l.length oc)/\GB w w' (.slice oa l.length oc) l.reverse:=by
 have HV:=aA hv;obtain⟨va,vc,rfl,-⟩:=hv;obtain⟨n,hn⟩:=xe (l.length);rw[<-hn] at hl HV ⊢;have HN:=aA hn;clear hn;go_enter func22,ntmps22;go_wp2_with fail;go_loopw [3,4] (fun tv iv W=>∃ (a:Nat) (oa:Option Addr) (oc:Nat),a<=n/\iv=.int .i64 ((n:Int)-1-(a:Int))/\tv=.slice oa a oc/\Hid (GB w W (.slice oa a oc) (l.reverse.take a))) (fun _ iv _=>(intOf iv+1).toNat)
 case atStart=>exact⟨0,none,0,Nat.zero_le _,by simp,rfl,aA (GS.nil _ _ _ _ (Kt.refl _ _))⟩
 case round=>
  obtain⟨a,oa,oc,ha,rfl,rfl,HI⟩:=hrel;have HL:=aA (show(l.reverse.take a).length=a by rw[List.length_take,List.length_reverse,<-HN.out];omega);by_cases hlt:a<n
  ·obtain⟨z,hz⟩:=xe (n-1-a);have ez:(n:Int)-1-(a:Int)=z:=(by omega);have hzn:z<n:=(by omega);obtain⟨g0,o0,oc0,ev,c1,c2⟩:=(HV.out.keep HI.out.kp).two z (by rw[<-HN.out];omega);rw[<-HN.out] at ev;injection ev with e1 e2 e3
   subst e1 e3;have TN:=aA (show l.reverse.take (a + 1)=l.reverse.take a ++ [l.getD z (0,0)] from by
    rw[zF (by rw[List.length_reverse,<-HN.out];exact hlt)];congr 2
    rw[List.getD_eq_getElem?_getD,List.getD_eq_getElem?_getD,List.getElem?_reverse (by rw[<-HN.out];exact hlt),hz,HN.out])
   generalize l.getD z (0,0)=b at *;obtain⟨p,s⟩:=b;dsimp only at c1 c2;obtain⟨g4,cap4,w4,ap4,t4,k4⟩:=GB.put20 (show GB w wr (.slice oa a oc) (l.reverse.take a)from HI.out) p s (by rw[HL.out];omega);rw[HL.out] at ap4 t4;rw[<-TN.out] at t4;have AP4:=aA ap4;have T4:=aA t4;have HA1:=aA (show a+1<=n/\(z:Int)-1=(n:Int)-1-((a+1:Nat):Int)/\((z:Int)-1+1).toNat<((z:Int)+1).toNat from⟨hlt,by omega,by omega⟩);rw[ez];clear ap4 t4 k4 hz ez;go_wp2_with (at_builtin;refine Lib.wpList_append_run _ rfl _ _ _ _ rfl (.slice oa a oc) _ rfl rfl _ _ (AP4.out _) ?_)
   exact⟨⟨a+1,some ⟨g4,0,none⟩,cap4,HA1.out.1,by rw[HA1.out.2.1],rfl,T4⟩,HA1.out.2.2⟩
  ·have ea:a=n:=(by omega);subst ea;rw[show(a:Int)-1-(a:Int) = -1 by omega];have HF:=aA (show GB w wr (.slice oa a oc) l.reverse from by have:=HI.out;rw[List.take_of_length_le (by rw[List.length_reverse,<-HN.out];omega)] at this;exact this);clear HI HV;go_wp2_with fail;go_ret;exact⟨oa,oc,rfl,HF.out⟩
set_option maxHeartbeats 4000000
set_option maxRecDepth 6000
theorem xL{l m:List (Nat×Nat)}{j:Nat}(h:j<l.length):(l ++ m).getD j (0,0)=l.getD j (0,0):=by
 rw[List.getD_eq_getElem?_getD,List.getD_eq_getElem?_getD,List.getElem?_append_left h]
theorem OU{l:List (Nat×Nat)}{j:Nat}(h:l.length<=j)(h8:j<l.length + 8):(l ++ List.replicate 8 ((77:Nat),(78:Nat))).getD j (0,0)=(77,78):=by
 rw[List.getD_eq_getElem?_getD,List.getElem?_append_right h,List.getElem?_replicate,if_pos (by omega)];rfl
theorem CT(v u:Value)(l:List (Nat×Nat))(w:World)(hl:l.length<=2199023255552)(hv:RBk w v (l ++ List.replicate 8 (77,78)))(hu:jR w u l):
  Calls prog 21 #[v,u] w fun e w'=>e=.returned (.bool true)/\Kt nO w w':=by
 have HV:=aA hv;have HU:=aA hu;obtain⟨va,vc,rfl,-⟩:=hv;obtain⟨ua,uc,rfl,-⟩:=hu;obtain⟨n,hn⟩:=xe (l.length);have hm:(l ++ List.replicate 8 ((77:Nat),(78:Nat))).length=n + 8:=by rw[List.length_append,List.length_replicate,hn]
 rw[hm] at HV ⊢;rw[<-hn] at hl HU ⊢;have HN:=aA hn;have HM:=aA hm;clear hn hm;go_enter func21,ntmps21;go_wp2_with fail;go_loopw [5] (fun iv W=>∃ a:Nat,a<=n/\iv=.int .i64 a/\Hid (Kt nO w W)) (fun iv _=>n-(intOf iv).toNat)
 case atStart=>exact⟨0,Nat.zero_le _,rfl,aA (Kt.refl _ _)⟩
 case round=>
  obtain⟨a,ha,rfl,HK⟩:=hrel;by_cases hlt:a<n
  ·have hai:(a:Int)<n:=(by omega);obtain⟨g0,oc0,ev,c1,c2⟩:=(HV.out.keep HK.out).two a (by rw[HM.out];omega);rw[HM.out] at ev;injection ev with e1 e2 e3
   subst e1 e3;obtain⟨g1,o1,oc1,eu,d1,d2⟩:=(HU.out.keep HK.out).two a (by rw[<-HN.out];exact hlt);rw[<-HN.out] at eu;injection eu with e1 e2 e3
   subst e1 e3;rw[xL (by rw[<-HN.out];exact hlt)] at c1 c2;generalize l.getD a (0,0)=b at *;obtain⟨p,s⟩:=b;dsimp only at c1 c2 d1 d2;have k1:=fun x:KW wr=>x.k.cell id c1
   have k2:=fun x:KW wr=>x.k.cell id c2
   have k3:=fun x:KW wr=>x.k.cell id d1
   have k4:=fun x:KW wr=>x.k.cell id d2
   have hpp:((p:Int) == (p:Int))=true:=(by simp);have hss:((s:Int) == (s:Int))=true:=(by simp);have HA1:=aA (show a+1<=n from hlt);clear c1 c2 d1 d2;have ha8:(a:Int)<((n+8:Nat):Int):=(by omega);go_upto_region 4 with fail;refine dN (by kernel_rfl) (by kernel_rfl) ?_;repeat (go_big_quiet_step (fail))
   refine wpQuiet_nil ?_;intro x;have KX:=aA (nT HK.out x.k);go_wp2_with fail;exact⟨⟨a+1,HA1.out,by simp,KX⟩,by simp[intOf];omega⟩
  ·have ea:a=n:=(by omega);subst ea;go_wp2_with fail;go_loopw [6] (fun iv W=>∃ j:Nat,j<=8/\iv=.int .i64 ((a+j:Nat):Int)/\Hid (Kt nO w W)) (fun iv _=>(a+8)-(intOf iv).toNat)
   case atStart=>exact⟨0,by omega,rfl,HK⟩
   case round=>
    clear HK;obtain⟨j,hj,rfl,HK⟩:=hrel;obtain⟨z,hz⟩:=xe (a+j);rw[<-hz];by_cases hlj:j<8
    ·have hjj:(z:Int)<((a+8:Nat):Int):=(by omega);obtain⟨g0,oc0,ev,c1,c2⟩:=(HV.out.keep HK.out).two z (by rw[HM.out];omega);rw[HM.out] at ev;injection ev with e1 e2 e3
     subst e1 e3;rw[OU (by rw[<-HN.out];omega) (by rw[<-HN.out];omega)] at c1 c2;dsimp only at c1 c2;have HA1:=aA (show j+1<=8/\(z:Int)+1=((a+(j+1):Nat):Int)/\a+8-((z:Int)+1).toNat<a+8-(z:Int).toNat from⟨hlj,by omega,by omega⟩);clear hz;go_wp2_with fail;exact⟨⟨j+1,HA1.out.1,by rw[HA1.out.2.1],HK⟩,HA1.out.2.2⟩
    ·have hjj:¬(z:Int)<((a+8:Nat):Int):=(by omega);clear hz;go_wp2_with fail;go_ret;exact⟨rfl,HK.out⟩
set_option maxHeartbeats 8000000
set_option maxRecDepth 6000
theorem vE(b:ByteArray):∀ n i r,b.size-i=n->r≠[]->ByteArray.toList.loop b i r≠[]
 | n,i,r,hn,hr=>by
  unfold ByteArray.toList.loop;by_cases h:i<b.size
  ·rw[if_pos h];exact vE b (b.size-(i+1)) (i+1) _ rfl (by simp)
  ·rw[if_neg h];simpa using hr
 termination_by n=>n
theorem DX{b:ByteArray}(h : 0<b.size):¬b.toList=[]:=by
 unfold ByteArray.toList;unfold ByteArray.toList.loop;rw[if_pos h];exact vE b _ _ _ rfl (by simp)
theorem LJ(l:List (Nat×Nat))(ks:List Nat)(m:Nat):(bP l (ks.take m)).length<=(bP l ks).length:=by
 have e:bP l ks=bP l (ks.take m) ++ bP l (ks.drop m):=by
  unfold bP;rw[<-List.flatten_append,<-List.map_append,List.take_append_drop]
 rw[e,List.length_append];omega
def uO:Value->Nat
 | .string b=>b.size
 | _=>0
def uY:Value->Nat
 | .bool true=>1
 | _=>0
theorem wS{l:List (Nat×Nat)}{i:Nat}(h:i<l.length):(aU l).getD i 0=(l.getD i (0,0)).2:=by
 unfold aU;rw[List.getD_eq_getElem?_getD,List.getElem?_map,List.getD_eq_getElem?_getD,List.getElem?_eq_getElem h];rfl
theorem XD{xs:List Nat}{i z:Nat}(h:i<xs.length):(xs.take (i+1)).count z=(xs.take i).count z+if xs.getD i 0=z then 1 else 0:=by
 rw[List.take_succ_eq_append_getElem h,List.count_append,List.count_singleton,List.getD_eq_getElem?_getD,List.getElem?_eq_getElem h];by_cases e:xs[i]=z
 ·rw[show((some xs[i]).getD 0)=xs[i] from rfl,if_pos e,e];simp
 ·rw[show((some xs[i]).getD 0)=xs[i] from rfl,if_neg e,if_neg (by simpa using e)]
theorem XB(v:Value)(l:List (Nat×Nat))(ks:List Nat)(w:World)(hl:l.length<=2199023255552)(hb:∀ b∈l,eZ b.2)(hv:jR w v l)(hk:gR l ks):
  Calls prog 20 #[v] w fun e w'=>e=.returned (.string ⟨(bP l ks).toArray⟩)/\Kt nO w w':=by
 have HV:=aA hv;obtain⟨va,vc,rfl,-⟩:=hv;obtain⟨n,hn⟩:=xe (l.length);rw[<-hn] at hl HV ⊢;have HN:=aA hn;have HB:=aA hb;have HK:=aA hk;clear hn hb hk;go_enter func20,ntmps20;go_wp2_with fail;have HKL:=aA (show ks.length<=n from by
  rw[HN.out];have:=tJ ks (aU l) (HK.out.1.imp fun h=>Nat.ne_of_lt h) fun x hx=>(HK.out.2 x).1 hx
  simpa [aU] using this)
 have HKB:=aA (show ∀ x∈ks,x<18446744073709551616 from fun x hx=>by
  obtain⟨b,h1,h2⟩:=List.mem_map.1 ((HK.out.2 x).1 hx);rw[<-h2];exact HB.out b h1)
 have HSL:=aA (show(aU l).length=n from by rw[HN.out];simp[aU]);have HZN:=aA (fun (t:Nat) (ht:t<=ks.length)=>show(bP l (ks.take t)).length<=63*t from by
  have:=sM l (ks.take t) (fun x hx=>HKB.out x (List.mem_of_mem_take hx)) (by rw[<-HN.out];omega);rw[List.length_take] at this;omega)
 go_loopw [3,4,5] (fun sv lv mv W=>∃ (t:Nat) (d:Bool) (sb:ByteArray) (le:Nat),t<=ks.length/\sv=.string sb/\lv=.int .u64 le/\mv=.bool d/\Hid (le=mG ks t/\sb=⟨(bP l (ks.take t)).toArray⟩/\(d=false->t=ks.length)/\Kt nO w W)) (fun sv _ mv _=>((bP l ks).length-uO sv)+uY mv)
 case atStart=>exact⟨0,true,⟨#[]⟩,0,Nat.zero_le _,rfl,rfl,rfl,aA ⟨rfl,by simp[bP],(fun h=>by cases h),Kt.refl _ _⟩⟩
 case round=>
  obtain⟨t,d,sb,le,ht,rfl,rfl,rfl,HX⟩:=hrel
  cases d with
  | false=>
   have HF:=aA (show sb=⟨(bP l ks).toArray⟩/\Kt nO w wr from⟨by rw[HX.out.2.1,HX.out.2.2.1 rfl,List.take_length],HX.out.2.2.2⟩);clear HX HV;go_wp2_with fail;go_ret;exact⟨congrArg (fun s=>Ending.returned (.string s)) HF.out.1,HF.out.2⟩
  | true=>
   have hsz:sb.size<=138538465099776:=by
    rw[HX.out.2.1];show(bP l (ks.take t)).toArray.size<=_
    rw[List.size_toArray];have:=HZN.out t ht;have:=HKL.out;omega
   have hle64:le<18446744073709551616:=by
    rw[HX.out.1];unfold mG;by_cases h0:t=0
    ·rw[if_pos h0];decide
    ·rw[if_neg h0];exact HKB.out _ (gZ (by omega))
   go_wp2_with fail;go_loop [5,6,7] (fun mv zv iv=>∃ i:Nat,i<=n/\iv=.int .i64 i/\((mv=.bool false/\zv=.int .u64 0/\Hid (eY (eJ ks t) (aU l) i=none))\/(∃ z:Nat,mv=.bool true/\zv=.int .u64 z/\z<18446744073709551616/\Hid (eY (eJ ks t) (aU l) i=some z)))) (fun _ _ iv=>n-(intOf iv).toNat)
   case atStart=>exact⟨0,Nat.zero_le _,rfl,.inl ⟨rfl,rfl,aA rfl⟩⟩
   case round=>
    obtain⟨i,hi,rfl,hm⟩:=hrel;by_cases hlt:i<n
    ·have hii:(i:Int)<n:=(by omega);obtain⟨g0,o0,oc0,ev,c1,c2⟩:=(HV.out.keep HX.out.2.2.2).two i (by rw[<-HN.out];exact hlt);rw[<-HN.out] at ev;injection ev with e1 e2 e3
     subst e1 e3;have BG:=aA (wS (l:=l) (i:=i) (by rw[<-HN.out];exact hlt));have SN:=aA (show eY (eJ ks t) (aU l) (i+1)=rL (eJ ks t) (eY (eJ ks t) (aU l) i) ((aU l).getD i 0)from rfl);have b64:(l.getD i (0,0)).2<18446744073709551616:=HB.out _ (by rw[List.getD_eq_getElem?_getD,List.getElem?_eq_getElem (by rw[<-HN.out];exact hlt)];exact List.getElem_mem _);rw[BG.out] at SN;clear BG;generalize l.getD i (0,0)=b at *;obtain⟨p,b⟩:=b;dsimp only at c1 c2 b64 SN;have HI1:=aA (show i+1<=n from hlt);have EL:=aA (show eJ ks t b=true↔t=0\/le<b from by unfold eJ;rw[<-HX.out.1];simp);by_cases p1:le<b
     ·have g1:(le:Int)<b:=(by omega);have EB:=aA (EL.out.2 (.inr p1));rcases hm with ⟨rfl,rfl,hs⟩|⟨z,rfl,rfl,hz64,hs⟩
      ·have SS:=aA (show eY (eJ ks t) (aU l) (i+1)=some b from by rw[SN.out,hs.out,pP,if_pos EB.out]);clear EL;go_wp2_with fail;exact⟨⟨i+1,HI1.out,by simp,.inr ⟨b,rfl,rfl,b64,SS⟩⟩,by simp[intOf];omega⟩
      ·by_cases p2:b<z
       ·have g2:(b:Int)<z:=(by omega);have SS:=aA (show eY (eJ ks t) (aU l) (i+1)=some b from by rw[SN.out,hs.out,mS,if_pos ⟨EB.out,p2⟩]);clear EL;go_wp2_with fail;exact⟨⟨i+1,HI1.out,by simp,.inr ⟨b,rfl,rfl,b64,SS⟩⟩,by simp[intOf];omega⟩
       ·have g2:¬(b:Int)<z:=(by omega);have SS:=aA (show eY (eJ ks t) (aU l) (i+1)=some z from by rw[SN.out,hs.out,mS,if_neg (fun h=>p2 h.2)]);clear EL;go_wp2_with fail;exact⟨⟨i+1,HI1.out,by simp,.inr ⟨z,rfl,rfl,hz64,SS⟩⟩,by simp[intOf];omega⟩
     ·have g1:¬(le:Int)<b:=(by omega);by_cases h0:t=0
      ·have EB:=aA (EL.out.2 (.inl h0));have hl0:le=0:=(by rw[HX.out.1];unfold mG;rw[if_pos h0]);have hse:sb=⟨#[]⟩:=(by rw[HX.out.2.1,h0];rfl);have hb0:b=0:=(by omega);subst hl0 hb0;subst hse;rcases hm with ⟨rfl,rfl,hs⟩|⟨z,rfl,rfl,hz64,hs⟩
       ·have SS:=aA (show eY (eJ ks t) (aU l) (i+1)=some 0 from by rw[SN.out,hs.out,pP,if_pos EB.out]);clear EL;go_wp2_with fail;exact⟨⟨i+1,HI1.out,by simp,.inr ⟨0,rfl,rfl,b64,SS⟩⟩,by simp[intOf];omega⟩
       ·by_cases p2 : 0<z
        ·have g2:(0:Int)<(z:Int):=(by omega);have SS:=aA (show eY (eJ ks t) (aU l) (i+1)=some 0 from by rw[SN.out,hs.out,mS,if_pos ⟨EB.out,p2⟩]);clear EL;go_wp2_with fail;exact⟨⟨i+1,HI1.out,by simp,.inr ⟨0,rfl,rfl,b64,SS⟩⟩,by simp[intOf];omega⟩
        ·have g2:¬(0:Int)<(z:Int):=(by omega);have SS:=aA (show eY (eJ ks t) (aU l) (i+1)=some z from by rw[SN.out,hs.out,mS,if_neg (fun h=>p2 h.2)]);clear EL;go_wp2_with fail;exact⟨⟨i+1,HI1.out,by simp,.inr ⟨z,rfl,rfl,hz64,SS⟩⟩,by simp[intOf];omega⟩
      ·have EB:=aA (show ¬eJ ks t b=true from fun h=>by rcases EL.out.1 h with h|h <;> omega);have hse:¬sb.toList=[]:=DX (by
        rcases Nat.eq_zero_or_pos sb.size with h9|h9
        ·exfalso
         rw[HX.out.2.1] at h9;have h2:bP l (ks.take t)=[]:=List.eq_nil_of_length_eq_zero (by
          have h3:(bP l (ks.take t)).toArray.size=0:=h9;rw[List.size_toArray] at h3;exact h3)
         have h4:=(EZ (fun x hx=>HKB.out x (List.mem_of_mem_take hx)) (by rw[<-HN.out];omega)).1 h2;have h5:=congrArg List.length h4;rw[List.length_take] at h5;simp only[List.length_nil] at h5;omega
        ·exact h9)
       rcases hm with ⟨rfl,rfl,hs⟩|⟨z,rfl,rfl,hz64,hs⟩
       ·have SS:=aA (show eY (eJ ks t) (aU l) (i+1)=none from by rw[SN.out,hs.out,pP,if_neg EB.out]);clear EL;go_wp2_with fail;exact⟨⟨i+1,HI1.out,by simp,.inl ⟨rfl,rfl,SS⟩⟩,by simp[intOf];omega⟩
       ·have SS:=aA (show eY (eJ ks t) (aU l) (i+1)=some z from by rw[SN.out,hs.out,mS,if_neg (fun h=>EB.out h.1)]);clear EL;go_wp2_with fail;exact⟨⟨i+1,HI1.out,by simp,.inr ⟨z,rfl,rfl,hz64,SS⟩⟩,by simp[intOf];omega⟩
    ·have hii:¬(i:Int)<n:=(by omega);have ei:i=n:=(by omega);have SA:=aA (show eY (eJ ks t) (aU l) i=ks[t]? from by have:=IN HK.out ht;rw[HSL.out,<-ei] at this;exact this);rcases hm with ⟨rfl,rfl,hs⟩|⟨z,rfl,rfl,hz64,hs⟩
     ·have HF:=aA (show le=mG ks t/\sb=⟨(bP l (ks.take t)).toArray⟩/\(false=false->t=ks.length)/\Kt nO w wr from⟨HX.out.1,HX.out.2.1,fun _=>by
       have h1:=SA.out;rw[hs.out] at h1;have:=List.getElem?_eq_none_iff.1 h1.symm;omega,HX.out.2.2.2⟩)
      clear HX SA ei;go_wp2_with fail;exact⟨⟨t,false,sb,le,ht,rfl,rfl,rfl,HF⟩,Nat.lt_succ_self _⟩
     ·have HZK:=aA (show ks[t]?=some z from by rw[<-SA.out];exact hs.out);have ht1:=aA (show t<ks.length from by
       rcases Nat.lt_or_ge t ks.length with h|h
       ·exact h
       ·have:=HZK.out;rw[List.getElem?_eq_none h] at this;cases this)
      clear SA ei hs hii hi;go_wp2_with fail;go_loop [9,10] (fun cv jv=>∃ j c:Nat,j<=n/\jv=.int .i64 j/\cv=.int .u64 c/\c<=j/\Hid (c=((aU l).take j).count z)) (fun _ jv=>n-(intOf jv).toNat)
      case atStart=>exact⟨0,0,Nat.zero_le _,rfl,rfl,Nat.zero_le _,aA (by simp)⟩
      case round=>
       obtain⟨j,c,hj,rfl,rfl,hcj,hc⟩:=hrel;by_cases hlt:j<n
       ·have hjj:(j:Int)<n:=(by omega);obtain⟨g0,o0,oc0,ev,c1,c2⟩:=(HV.out.keep HX.out.2.2.2).two j (by rw[<-HN.out];exact hlt);rw[<-HN.out] at ev;injection ev with e1 e2 e3
        subst e1 e3;have CN:=aA (XD (xs:=aU l) (i:=j) (z:=z) (by rw[HSL.out];exact hlt));have BG:=aA (wS (l:=l) (i:=j) (by rw[<-HN.out];exact hlt));rw[BG.out] at CN;clear BG;generalize l.getD j (0,0)=b at *;obtain⟨p,b⟩:=b;dsimp only at c1 c2 CN;have HI1:=aA (show j+1<=n from hlt);by_cases eb:b=z
        ·have e1:((b:Int) == (z:Int))=true:=(by rw[eb];simp);have CC:=aA (show c+1=((aU l).take (j+1)).count z from by rw[CN.out,if_pos eb,<-hc.out]);clear eb;go_wp2_with fail;exact⟨⟨j+1,c+1,HI1.out,by simp,by simp,by omega,CC⟩,by simp[intOf];omega⟩
        ·have e1:((b:Int) == (z:Int))=false:=(by rw[beq_eq_false_iff_ne];omega);have CC:=aA (show c=((aU l).take (j+1)).count z from by rw[CN.out,if_neg eb,<-hc.out];rfl);clear eb;go_wp2_with fail;exact⟨⟨j+1,c,HI1.out,by simp,rfl,by omega,CC⟩,by simp[intOf];omega⟩
       ·have hjj:¬(j:Int)<n:=(by omega);have HC:=aA (show c=(aU l).count z from by rw[hc.out,List.take_of_length_le (by rw[HSL.out];omega)]);obtain⟨m,hm⟩:=xe (z*c%18446744073709551616);have mulw:IntKind.u64.wrap ((z:Int)*(c:Int))=(m:Int):=(by rw[wrap_u64,hm];simp);have m64:m<18446744073709551616:=(by rw[hm];exact Nat.mod_lt _ (by decide));have c64:c<18446744073709551616:=(by omega);obtain⟨D1,hD1⟩:∃ D:ByteArray,D=⟨(Lib.decDigits z).toArray⟩:=⟨_,rfl⟩;obtain⟨D2,hD2⟩:∃ D:ByteArray,D=⟨(Lib.decDigits c).toArray⟩:=⟨_,rfl⟩;obtain⟨D3,hD3⟩:∃ D:ByteArray,D=⟨(Lib.decDigits m).toArray⟩:=⟨_,rfl⟩;have C1:=aA (fun W=>tV z hz64 W);have C2:=aA (fun W=>tV c c64 W);have C3:=aA (fun W=>tV m m64 W);rw[<-hD1] at C1;rw[<-hD2] at C2;rw[<-hD3] at C3;have d1:D1.size<=20:=(by rw[hD1];exact(show(Lib.decDigits z).toArray.size<=20 by rw[List.size_toArray];exact jU z hz64));have d2:D2.size<=20:=(by rw[hD2];exact(show(Lib.decDigits c).toArray.size<=20 by rw[List.size_toArray];exact jU c c64));have d3:D3.size<=20:=(by rw[hD3];exact(show(Lib.decDigits m).toArray.size<=20 by rw[List.size_toArray];exact jU m m64));have RES:=aA (show sb ++ D1 ++ ⟨#[32]⟩ ++ D2 ++ ⟨#[32]⟩ ++ D3 ++ ⟨#[10]⟩=(⟨(bP l (ks.take (t + 1))).toArray⟩:ByteArray)from by
         have e:ks.take (t + 1)=ks.take t ++ [z]:=(by rw[List.take_add_one,HZK.out];rfl);rw[e,qF,<-HC.out,HX.out.2.1,hD1,hD2,hD3];unfold jM;rw[<-hm,lB];refine(congrArg (fun q:ByteArray=>q ++ ⟨#[32]⟩ ++ (⟨(Lib.decDigits m).toArray⟩:ByteArray) ++ ⟨#[10]⟩) ((congrArg (· ++ (⟨(Lib.decDigits c).toArray⟩:ByteArray)) (lB _ [32])).trans (lB _ _))).trans ?_;refine(congrArg (fun q:ByteArray=>q ++ ⟨#[10]⟩) ((congrArg (· ++ (⟨(Lib.decDigits m).toArray⟩:ByteArray)) (lB _ [32])).trans (lB _ _))).trans ((lB _ [10]).trans ?_);simp)
        clear hD1 hD2 hD3 hm hc hcj;go_wp2_with fail;refine(C1.out _).mono ?_;rintro e W1 ⟨rfl,rfl⟩;go_wp2_with fail;refine(C2.out _).mono ?_;rintro e W2 ⟨rfl,rfl⟩;go_wp2_with fail;refine(C3.out _).mono ?_;rintro e W3 ⟨rfl,rfl⟩;go_wp2_with fail;refine⟨⟨t+1,true,_,z,ht1.out,rfl,rfl,rfl,aA ⟨?_,RES.out,(fun h=>by cases h),HX.out.2.2.2⟩⟩,?_⟩
        ·unfold mG;rw[if_neg (by omega),List.getD_eq_getElem?_getD,Nat.add_sub_cancel,HZK.out];rfl
        ·rw[RES.out];show(bP l ks).length-(bP l (ks.take (t+1))).toArray.size+1<(bP l ks).length-sb.size+1
         have hsb:sb.size=(bP l (ks.take t)).length:=by
          have h1:=HX.out.2.1;rw[h1];exact List.size_toArray
         have e:ks.take (t + 1)=ks.take t ++ [z]:=(by rw[List.take_add_one,HZK.out];rfl);have h1:=LJ l ks (t+1);have h2:=(sN z ((aU l).count z) hz64 (by rw[<-HC.out];exact c64)).1;rw[List.size_toArray,hsb,e,qF,List.length_append];rw[e,qF,List.length_append] at h1;omega
set_option maxHeartbeats 8000000
set_option maxRecDepth 8000
theorem vT(x:Nat):∀ ks:List Nat,ks.Pairwise (·<·)->∃ ks':List Nat,ks'.Pairwise (·<·)/\∀ y,y∈ks'↔y=x\/y∈ks
 | [],_=>⟨[x],by simp,by simp⟩
 | k :: ks,h=>by
  obtain⟨h1,h2⟩:=List.pairwise_cons.1 h;rcases Nat.lt_trichotomy x k with q|q|q
  ·refine⟨x :: k :: ks,List.pairwise_cons.2 ⟨fun a ha=>?_,h⟩,fun y=>by simp⟩;rcases List.mem_cons.1 ha with rfl|ha
   ·exact q
   ·have:=h1 a ha;omega
  ·exact⟨k :: ks,h,fun y=>by subst q;simp⟩
  ·obtain⟨ks',g1,g2⟩:=vT x ks h2;refine⟨k :: ks',List.pairwise_cons.2 ⟨fun a ha=>?_,g1⟩,fun y=>?_⟩
   ·rcases (g2 a).1 ha with rfl|ha
    ·exact q
    ·exact h1 a ha
   ·rw[List.mem_cons,g2,List.mem_cons];constructor
    ·rintro (h|h|h)
     ·exact .inr (.inl h)
     ·exact .inl h
     ·exact .inr (.inr h)
    ·rintro (h|h|h)
     ·exact .inr (.inl h)
     ·exact .inl h
     ·exact .inr (.inr h)
theorem GH(l:List (Nat×Nat)):∃ ks,gR l ks:=by
 have key:∀ xs:List Nat,∃ ks:List Nat,ks.Pairwise (·<·)/\∀ x,x∈ks↔x∈xs:=fun xs=>by
  induction xs with
  | nil=>exact⟨[],by simp,by simp⟩
  | cons x xs ih=>
   obtain⟨ks,h1,h2⟩:=ih;obtain⟨ks',g1,g2⟩:=vT x ks h1;exact⟨ks',g1,fun y=>by rw[g2,h2,List.mem_cons]⟩
 exact key (aU l)
theorem RBk.cut{w:World}{oa:Option Addr}{n k oc:Nat}{l m:List (Nat×Nat)}(h:RBk w (.slice oa k oc) (l ++ m))(hn:n=l.length)(hm:m≠[]):RBk w (.slice oa n oc) l:=by
 obtain⟨oa',oc',e,h0|⟨g,rfl,hg,hc⟩⟩:=h
 ·exact absurd (List.append_eq_nil_iff.1 h0).2 hm
 ·injection e with e1 e2 e3
  subst e1 e3 hn;refine⟨_,_,rfl,.inr ⟨g,rfl,hg,fun j hj=>?_⟩⟩;have:=hc j (by rw[List.length_append];omega);rw[xL hj] at this;exact this
theorem GS.cap{w0 W:World}{e:TypeId}{size n:Nat}{oa:Option Addr}{k oc:Nat}{xs:List Value}(h:GS w0 W e size (.slice oa k oc) n xs)(hn : 0<n):n<=oc:=by
 rcases h.own.2 with ⟨e1,e2⟩|⟨g,cap,cur,e1,_,_,hc,_⟩
 ·omega
 ·injection e1 with a1 a2 a3
  subst a3;exact hc
theorem reportSizes_any(v:Value)(l:List (Nat×Nat))(w:World)(hl:l.length<=2199023255552)(hb:∀ b∈l,eZ b.2)(hv:jR w v l)(hT:iN w)(hP:Tab10 w):
  Calls prog 4 #[v] w fun e w'=>e=.returned (.bool true)/\Kt nO w w':=by
 obtain⟨ks,hks⟩:=GH l;have KS:=aA hks;have CP:=aA (OS v l w hl hv);have HV:=aA hv;obtain⟨va,vc,rfl,-⟩:=hv;have HT:=aA hT;have HP:=aA hP;have HB:=aA hb;have HL:=aA hl;obtain⟨tx,htx⟩:∃ tx:ByteArray,tx=⟨(bP l ks).toArray⟩:=⟨_,rfl⟩;have TX1:=aA htx;obtain⟨n,hn⟩:=xe (l.length);rw[<-hn] at HV CP hl ⊢;have HN:=aA hn;clear hT hP hb hks htx hn;go_enter func4,ntmps4;go_wp2_with fail;refine CP.out.mono ?_;rintro e w1 ⟨oa,oc,rfl,hg⟩;have G1:=aA hg;have K1:=aA hg.kp;have hoc:=GS.cap hg (by rw[List.length_append,List.length_replicate];omega);rw[List.length_append,List.length_replicate,<-HN.out] at hoc;clear hg CP;have RS:=aA (XB _ l ks w1 HL.out HB.out (HV.out.keep K1.out) KS.out);rw[<-TX1.out] at RS;go_wp2_with fail;refine RS.out.mono ?_;rintro e w2 ⟨rfl,hk2⟩;have G2:=aA (GS.keep G1.out hk2);have K2:=aA (nT K1.out hk2);clear hk2 RS G1;have SA:=aA (tH (.slice oa n oc) l w2 HL.out HB.out (RBk.cut (GB.rb G2.out) HN.out (by decide)) (Tab10.keep HP.out K2.out));go_wp2_with fail;refine SA.out.mono ?_;rintro e w3 ⟨ks3,hs3,rfl,hk3⟩;have e3:=gR.uniq hs3 KS.out;subst e3;have G3:=aA (GS.keep G2.out hk3);have K3:=aA (nT K2.out hk3);clear hk3 SA G2 hs3;rw[<-TX1.out];have LF:=aA (CT (.slice oa (n+8) oc) (.slice va n vc) l w3 HL.out (GB.rb G3.out) (HV.out.keep K3.out));go_wp2_with fail;refine LF.out.mono ?_;rintro e w4 ⟨rfl,hk4⟩;have K4:=aA (nT K3.out hk4);clear hk4 LF G3;have TN:=aA (OQ (.slice va n vc) l w4 HL.out (HV.out.keep K4.out));rw[<-HN.out] at TN;go_wp2_with fail;refine TN.out.mono ?_;rintro e w5 ⟨ob,oc5,rfl,hg5⟩;have K5:=aA (nT K4.out hg5.kp);have R5:=aA (GB.rb hg5);clear hg5 TN;have SB:=aA (tH (.slice ob n oc5) l.reverse w5 (by rw[List.length_reverse];exact HL.out) (fun b hb=>HB.out b (List.mem_reverse.1 hb)) R5.out (Tab10.keep HP.out K5.out));go_wp2_with fail;refine SB.out.mono ?_;rintro e w6 ⟨ks6,hs6,rfl,hk6⟩;have e6:=gR.uniq (gR.perm hs6 l.reverse_perm) KS.out;subst e6;have K6:=aA (nT K5.out hk6);clear hk6 SB hs6 R5;rw[OY l.reverse_perm,<-TX1.out];have AW:=aA (KM w6 (iN.keep' HT.out K6.out) (Tab10.keep HP.out K6.out));go_wp2_with fail;refine AW.out.mono ?_;rintro e w7 ⟨rfl,hk7⟩;have K7:=aA (nT K6.out hk7);clear hk7 AW;go_wp2_with fail;go_ret;exact⟨rfl,K7.out⟩
end Go.Proofs.YtkfmheelhinjdaaGreatDoor.W
namespace Go.Proofs.YtkfmheelhinjdaaGreatDoor.W
open _root_.Go.Proofs.Tryz
open Go.RowKit Go.Deep
set_option linter.unusedVariables false
set_option maxRecDepth 8000
theorem blocks_of{H:Type}{enc:TypeId×Value->H}{W:World}{fuel:Nat}{v:Value}{x:DataW H×List MemPlace}
  (hf:DataW.trod enc prog W 0 (fun _=>true) true fuel 46 [v]=some x):∃ l:List (Nat×Nat),jR W v l/\(∀ b∈l,eZ b.1/\eZ b.2)/\(l=[]\/∃ D E,x.1=.slice D E/\D.length=l.length):=by
 rcases open_slice_pairs Tryz.underlying46 Tryz.underlying45 (by kernel_rfl) rfl rfl (by kernel_rfl) (by kernel_rfl) hf with ⟨hcs,hx⟩|⟨a,len,cap,m,n,V0,V1,D0,D1,P0,P1,hcs,hb,hl,hm,hmm,hx,hc⟩
 ·simp at hcs;subst hcs;exact⟨[],⟨none,0,rfl,.inl rfl⟩,(fun b h=>by cases h),.inl rfl⟩
 ·simp at hcs;subst hcs;simp only[if_true] at hmm;subst hmm;have key:∀ k,k<len->∃ q:Nat×Nat,eZ q.1/\eZ q.2/\W.cell? (a.add (k*2))=some (.int .u64 q.1)/\W.cell? (a.add (k*2+1))=some (.int .u64 q.2):=by
   intro k hk;obtain⟨h1,h2,h3,h4⟩:=hc k (by omega);obtain⟨x0,e0,_,w0⟩:=DataW.trod_int Tryz.underlying27 h3;obtain⟨x1,e1,_,w1⟩:=DataW.trod_int Tryz.underlying27 h4;simp at e0 e1;rw[e0] at h1;rw[e1] at h2;have b0:=bounds_u64 w0;have b1:=bounds_u64 w1;obtain⟨n0,rfl⟩:=Int.eq_ofNat_of_zero_le b0.1;obtain⟨n1,rfl⟩:=Int.eq_ofNat_of_zero_le b1.1;exact⟨(n0,n1),by show n0<_;omega,by show n1<_;omega,h1,h2⟩
  obtain⟨pg,hpg⟩:∃ pg:Nat->Nat×Nat,∀ k,k<len->eZ (pg k).1/\eZ (pg k).2/\W.cell? (a.add (k*2))=some (.int .u64 ((pg k).1:Int))/\W.cell? (a.add (k*2+1))=some (.int .u64 ((pg k).2:Int)):=
   ⟨fun k=>if h:k<len then (key k h).choose else (0,0),fun k hk=>by simp only[hk,dite_true];exact(key k hk).choose_spec⟩
  have hlen:((List.range len).map pg).length=len:=by simp
  refine⟨(List.range len).map pg,⟨some a,m,by rw[hlen],?_⟩,fun b hb=>?_,.inr ⟨_,_,congrArg Prod.fst hx,by simp⟩⟩
  ·by_cases h0:len=0
   ·exact .inl (by rw[h0];rfl)
   ·right
    have g0:=(hpg 0 (by omega)).2.2.1;have e0:a.add (0*2)=a:=(by simp[Addr.add]);rw[e0] at g0;obtain⟨bb,o,rfl,hb⟩:=KQ g0;refine⟨bb,o,rfl,fun k hk=>?_⟩;rw[hlen] at hk;have ek:((List.range len).map pg).getD k (0,0)=pg k:=by
     rw[List.getD_eq_getElem?_getD,List.getElem?_map,List.getElem?_range hk];rfl
    rw[ek];obtain⟨-,-,g1,g2⟩:=hpg k hk;rw[Addr.add_lit] at g1 g2;exact⟨g1,g2⟩
  ·obtain⟨k,hk,rfl⟩:=List.mem_map.1 hb;exact⟨(hpg k (List.mem_range.1 hk)).1,(hpg k (List.mem_range.1 hk)).2.1⟩
end Go.Proofs.YtkfmheelhinjdaaGreatDoor.W
namespace Go.Proofs.YtkfmheelhinjdaaGreatDoor.reportSizes
open _root_.Go.Proofs.Tryz
open Go.ChangeShapes Go.WideShapes Go.ChangeAt Go.RowKit Go.Deep
open Go.ChangeMaps (open_string shut_string)
set_option linter.unusedVariables false
theorem own:ownKnob prog.godebug=Option.none:=by kernel_rfl
theorem laidOut:laidOutB prog=true:=by kernel_rfl
theorem gSizes : prog.globalNamed "croft/slab.sizes" = some 0 := by kernel_rfl
theorem door_met (os : Os) (args : Array Value) : laidMetH prog [("math/bits.deBruijn32tab", Rows.laid_math_bits_deBruijn32tab), ("math/bits.deBruijn64tab", Rows.laid_math_bits_deBruijn64tab), ("internal/strconv.uint64pow10", Rows.laid_internal_strconv_uint64pow10), ("croft/slab.sizes", Rows.laid_croft_slab_sizes)] ((World.doorLaid prog 400 os).forCall (fun _ _ => 0) ⟨#[], args, []⟩).memory :=
 laidMetH_of_parts3 (fuel:=8) (laidMet_of_run' 8 (by kernel_rfl) (by kernel_rfl)) (by kernel_rfl) (by kernel_rfl)
theorem uW : prog.globalNamed "internal/strconv.uint64pow10" = some 1 := by kernel_rfl
theorem tab_of {W : World} (h : laidMetH prog [("math/bits.deBruijn32tab", Rows.laid_math_bits_deBruijn32tab), ("math/bits.deBruijn64tab", Rows.laid_math_bits_deBruijn64tab), ("internal/strconv.uint64pow10", Rows.laid_internal_strconv_uint64pow10), ("croft/slab.sizes", Rows.laid_croft_slab_sizes)] W) : iN W := by
 rw[MakeChecks.laidMetH_plain _ _ _ (by kernel_rfl)] at h;have h1 := h.filter (fun x => x.1 == "croft/slab.sizes");have hT : Lib.TabIs prog W "croft/slab.sizes" .u64 [16, 32, 64, 128, 256, 512, 1024, 2048] := Lib.tabIs_of_head gSizes (by kernel_rfl) Tryz.underlying207 Tryz.underlying27 (by kernel_rfl) (by kernel_rfl) h1;intro k hk;have:=hT.cell gSizes k (by simpa using hk);rw[this];rcases (show k=0\/k=1\/k=2\/k=3\/k=4\/k=5\/k=6\/k=7 by omega)with rfl|rfl|rfl|rfl|rfl|rfl|rfl|rfl <;> rfl
theorem RY {W : World} (h : laidMetH prog [("math/bits.deBruijn32tab", Rows.laid_math_bits_deBruijn32tab), ("math/bits.deBruijn64tab", Rows.laid_math_bits_deBruijn64tab), ("internal/strconv.uint64pow10", Rows.laid_internal_strconv_uint64pow10), ("croft/slab.sizes", Rows.laid_croft_slab_sizes)] W) : _root_.Go.Proofs.YtkfmheelhinjdaaGreatDoor.W.Tab10 W := by
 rw[MakeChecks.laidMetH_plain _ _ _ (by kernel_rfl)] at h;have h1 := h.filter (fun x => x.1 == "internal/strconv.uint64pow10");exact Lib.tabIs_of_head uW (by kernel_rfl) Tryz.underlying230 Tryz.underlying27 (by kernel_rfl) (by kernel_rfl) h1
theorem lifted(os:Os)(started:os.Started)(H:Type)(enc:TypeId×Value->H)(Fi:Stop.Interp):
  ReturnsInHanded {} Tryz.checked os 4 .any (fun w args => ((Rows.OpenSpec.upto Rows.reportSizesSpec).pre enc prog Tryz.f4 [] false w args /\ laidMetH prog [("math/bits.deBruijn32tab", Rows.laid_math_bits_deBruijn32tab), ("math/bits.deBruijn64tab", Rows.laid_math_bits_deBruijn64tab), ("internal/strconv.uint64pow10", Rows.laid_internal_strconv_uint64pow10), ("croft/slab.sizes", Rows.laid_croft_slab_sizes)] w) /\ sizedMet enc prog Tryz.f4 (Rows.OpenSpec.upto Rows.reportSizesSpec) false w args)
   (((Rows.OpenSpec.upto Rows.reportSizesSpec).at Fi).post enc prog Tryz.f4 false true false false):=by
 refine YB (C := Tryz.checked) (X := fun w _ => laidMetH prog [("math/bits.deBruijn32tab", Rows.laid_math_bits_deBruijn32tab), ("math/bits.deBruijn64tab", Rows.laid_math_bits_deBruijn64tab), ("internal/strconv.uint64pow10", Rows.laid_internal_strconv_uint64pow10), ("croft/slab.sizes", Rows.laid_croft_slab_sizes)] w) (fun _ _ _ hh h => h.of_heap hh) own started (by kernel_rfl) func4
  (YS (enc := enc) (C := Tryz.checked) (os := os) (X := fun w _ => laidMetH prog [("math/bits.deBruijn32tab", Rows.laid_math_bits_deBruijn32tab), ("math/bits.deBruijn64tab", Rows.laid_math_bits_deBruijn64tab), ("internal/strconv.uint64pow10", Rows.laid_internal_strconv_uint64pow10), ("croft/slab.sizes", Rows.laid_croft_slab_sizes)] w) (World.doorLaid prog 400 os) #[.slice none 0 0] 8 rfl (World.shaped_of_RefB (by kernel_rfl) (by kernel_rfl)) (by kernel_rfl) (x := ([.nil], [], [])) (by kernel_rfl) (by simp [Rows.uptoBulkAll, Rows.uptoBulk]) (by kernel_rfl) (door_met os _)) ?_
 intro UU bS args ds gs before hval0 hW hbk hL;have hW':=hW;obtain⟨p,q,hA0,hV,rfl,hfz,hnd⟩:=hW;have hA:DataW.TrodAll enc prog UU 0 (fun _=>true) true Tryz.f4.params.toList args.toList ds p:=hA0;have hval:∀ (j:Nat) t v,Tryz.f4.params[j]?=some t->args[j]?=some v->Value.okWide prog UU .any bS t v:=hval0;rw[Tryz.params4] at hA hval;obtain⟨v0,vs0,d0,ds0,p0,q0,hargs,rfl,rfl,h0,r0⟩:=trodAll_cons hA;obtain⟨rfl,rfl,rfl⟩:=trodAll_nil r0;obtain rfl:args=#[v0]:=by cases args;simp_all
 obtain⟨rfl,rfl⟩:=trodVars_none hV;have hTab:=tab_of hL;have hTab10:=RY hL;have k0:=h0;have lt0:∀ x∈p0,x.block<UU.heap.size:=by obtain⟨m,hm⟩:=k0;exact DataW.trod_lt m _ _ _ hm
 obtain⟨a0,len0,cap0,rfl⟩:=okWide_slice Tryz.underlying46 (hval 0 46 v0 rfl rfl);obtain⟨fu0,hf0⟩:=h0;obtain⟨l0,hl0,ho0,hd0⟩:=W.blocks_of hf0;have hb0:l0.length<=1048576:=by
  rcases hd0 with rfl|⟨D,E,e,hlen⟩
  ·exact Nat.zero_le _
  ·have e':d0=.slice D E:=e;rw[e'] at hbk;have:=(WL hbk).1;omega
 replace hbk:=VT hbk;clear hA0 hval0;refine(W.reportSizes_any _ l0 UU (by omega) (fun b hb=>(ho0 b hb).2) hl0 hTab hTab10).mono fun e UU' ⟨he,kp⟩=>?_
 subst he;have bel:Below UU.heap.size UU UU':=kp.below (Nat.le_refl _) (fun x hx=>hx.elim);exact⟨_,rfl,_,_,_,[],_,[],hW',trodAll_mk1 (shut_bool Tryz.underlying4 true),(trodAll_cons_mk (Below.trod laidOut (by kernel_rfl) (of_decide_eq_true (by kernel_rfl)) k0 bel lt0) trodAll_mk0),rfl,bel.frame _,fun h=>by cases h⟩
set_option maxRecDepth 100000
theorem a1:prog.funcNamed Rows.reportSizesUptoRow.func=some 4:=by kernel_rfl
theorem a2:joinedFacts prog 4 Tryz.f4 (Rows.OpenSpec.upto Rows.reportSizesSpec).bare Rows.reportSizesUptoRow=true:=by kernel_rfl
theorem a3:Tryz.f4.isWrapper prog Rows.reportSizesUptoRow.wrapper Rows.reportSizesUptoRow.mainSum:=by unfold Func.isWrapper;first|(rw[if_pos (by decide +kernel)];kernel_rfl)|(rw[if_neg (by decide +kernel)];exact⟨rfl,rfl⟩)
theorem a5:Tryz.f4.isInstance prog Rows.reportSizesUptoRow.origin Rows.reportSizesUptoRow.targs:=of_decide_eq_true (by kernel_rfl)
theorem over:Rows.reportSizesUptoRow.holds Tryz.pinned (Rows.OpenSpec.upto Rows.reportSizesSpec):=
 OpenClaim.holds_of_cond 4 Tryz.f4 rfl rfl rfl rfl rfl rfl rfl ⟨rfl,rfl,rfl,rfl,rfl⟩ rfl rfl rfl rfl rfl a1 func4 a2 a5 a3
  (fun os started H enc _ Fi=>lifted os started H enc Fi)
end Go.Proofs.YtkfmheelhinjdaaGreatDoor.reportSizes
namespace Go.Proofs.YtkfmheelhinjdaaGreatDoor
open _root_.Go.Proofs.Tryz
open Go
theorem reportSizesUpto_holds:Rows.ReportSizesUptoCardSaid:=
 Claim7.holds_tied_plain_at .later [] [.data,.data,.data,.data] true Rows.reportSizesUptoCard.stood.harness true
  reportSizes.over (fun _ h=>by cases h) (by kernel_rfl) (fun _ h=>by cases h) reportSizesUpto_row_tie rfl ⟨rfl,rfl⟩ (by kernel_rfl) rfl
  (fun f fn hf hfn=>by
   obtain rfl : f = 4 := Option.some.inj ((show prog.funcNamed "croft/croftlaw20.ReportSizes" = some 4 by kernel_rfl).symm.trans hf) |>.symm
   obtain rfl:fn=Tryz.f4:=(Option.some.inj (func4.symm.trans hfn)).symm;exact⟨by kernel_rfl,fun j t ht=>by
    rw[Tryz.params4] at ht;have hm:t∈[46]:=(by simpa using Array.mem_of_getElem? ht);have hall:([46].all fun u=>!prog.wantsStandIn u)=true:=(by kernel_rfl);exact(show prog.wantsStandIn t=false by simpa using List.all_eq_true.1 hall t hm)⟩)
  (by kernel_rfl)
#print axioms reportSizesUpto_holds
end Go.Proofs.YtkfmheelhinjdaaGreatDoor
