import Derived.Test.YtkfmheelhinjdaaGreatDoorZa
import Derived.Test.YtkfmheelhinjdaaGreatDoorWh
import Derived.Test.YtkfmheelhinjdaaGreatDoorWg
import Derived.ProofKit
import Derived.OpenShut
import Derived.Deep.Slices
import Derived.Deep.Strs
import Derived.Test.YtkfmheelhinjdaaGreatDoorRows
import Derived.Deep.SlicePairs
import Derived.Shelf.GgSortFunc.RowK
import Derived.Shelf.SlSortCmp.QuietGrown
import Derived.SizedLaws
set_option maxRecDepth 1000000
set_option maxHeartbeats 80000000
namespace Go.Proofs.YtkfmheelhinjdaaGreatDoor.W
open _root_.Go.Proofs.Tryz
open Go.RowKit
set_option linter.unusedVariables false
set_option maxHeartbeats 8000000
set_option maxRecDepth 8000
theorem MV{w1 U:World}{hb:Nat}(s:KH w1 U hb 0 [] [] [] qA false):Calls prog 12 #[.pointer (some ⟨hb,0,none⟩),.int .u64 0,.bool false] U fun e w'=>e=tE 65536 0/\KH w1 w' hb 8192 [1] [] [(0,0)] Q1 false:=s.mal_grow 0 rfl 0 (by decide) 4 (by decide) (by decide) 0 (by decide) rfl rfl (by decide)
theorem MU{w1 U:World}{hb:Nat}(s:KH w1 U hb 8192 [1] [] [(0,0)] Q1 false):Calls prog 12 #[.pointer (some ⟨hb,0,none⟩),.int .u64 17,.bool false] U fun e w'=>e=tE 69632 0/\KH w1 w' hb 8192 [] [] [(0,0),(1,0)] Q2 false:=s.mal_here 17 (by decide) false 5 (by decide) (by decide) 1 (by decide) rfl rfl
theorem MT{w1 U:World}{hb:Nat}(s:KH w1 U hb 8192 [] [] [(0,0),(1,0)] Q2 false):Calls prog 12 #[.pointer (some ⟨hb,0,none⟩),.int .u64 4097,.bool false] U fun e w'=>e=tE 73728 0/\KH w1 w' hb 16384 [] [] [(0,0),(1,0),(2,1)] Q2 false:=s.pg_grow 2 rfl 4097 (by decide) (by decide) (by decide)
abbrev iU:List (Nat×Nat):=[(65536,16),(69632,32),(73728,8192)]
theorem EV{ks:List Nat}(h:nZ iU ks):ks=[16,32,8192]:=
 h.uniq ⟨by decide,fun x=>by simp[dN,iU]⟩
theorem uX:(iF iU [16,32,8192]).toArray=#[49,54,32,49,32,49,54,10,51,50,32,49,32,51,50,10,56,49,57,50,32,49,32,56,49,57,50,10]:=by
 have mU:Lib.decDigits 16=[49,54]:=by simp[Lib.decDigits]
 have e32:Lib.decDigits 32=[51,50]:=by simp[Lib.decDigits]
 have e81:Lib.decDigits 8192=[56,49,57,50]:=by simp[Lib.decDigits]
 have e1:Lib.decDigits 1=[49]:=by simp[Lib.decDigits]
 simp[iF,lC,dN,mU,e32,e81,e1]
theorem MS{v:Value}{w:World}(hv:RBk w v iU)(ht:Tab10 w):
  Calls prog 17 #[v] w fun e w'=>e=.returned (.string ⟨#[49,54,32,49,32,49,54,10,51,50,32,49,32,51,50,10,56,49,57,50,32,49,32,56,49,57,50,10]⟩)/\Kt nO w w':=
 (VU v iU w (by decide) (by simp[iU,fC]) hv ht).mono fun e w' ⟨ks,hk,he,k⟩=>⟨by rw[he,EV hk,uX],k⟩
theorem EU{I:Img}(h:Im4 I):(nW I).toArray=#[97,98,10,49,61,10]:=by
 have l0:gD (I.pg 0)=97:=by unfold gD fJ;rw[h.p0.1,h.p0.2.1,h.p0.2.2];first|rfl|simp[celN9]
 have l1:gD (I.pg 1)=98:=by unfold gD fJ;rw[h.p1.1,h.p1.2.1,h.p1.2.2];first|rfl|simp[celN9]
 have l2:gD (I.pg 2)=49:=by unfold gD fJ;rw[h.p2.1,h.p2.2];first|rfl|simp
 have l3:gD (I.pg 3)=61:=by unfold gD fJ;rw[h.p3];first|rfl|simp
 unfold nW;rw[h.ck,if_pos rfl,h.np,h.ord];simp[jP,l0,l1,l2,l3]
theorem MR{I:Img}{V:ImV}{w:World}(h:Im4 I)(hI:ImD w I V):
  Calls prog 16 #[imA I V] w fun e w'=>e=.returned (.string ⟨#[97,98,10,49,61,10]⟩)/\Kt nO w w':=
 (XP I V w hI).mono fun e w' ⟨he,k⟩=>⟨by rw[he,EU h],k⟩
theorem wA{I:Img}(h:Im4 I):jD I 16=4080:=by
 have r0:gA 16 (cX (I.pg 0))=4080:=by unfold gA cX gB;dsimp only;rw[h.p0.1,h.p0.2.1,h.p0.2.2];first|rfl|simp[celN9]
 have r1:gA 16 (cX (I.pg 1))=0:=by unfold gA cX gB;dsimp only;rw[h.p1.1,h.p1.2.1,h.p1.2.2];first|rfl|simp[celN9]
 have r2:gA 16 (cX (I.pg 2))=0:=by unfold gA cX gB;dsimp only;rw[h.p2.1];simp
 have r3:gA 16 (cX (I.pg 3))=0:=by unfold gA cX gB;dsimp only;rw[h.p3];simp
 unfold jD;rw[h.np];simp[List.range_succ,r0,r1,r2,r3]
theorem MQ{I:Img}{V:ImV}{w:World}(h:Im4 I)(hI:ImD w I V):
  Calls prog 15 #[imA I V,.int .u64 16] w fun e w'=>e=.returned (.int .i64 750)/\Kt nO w w':=
 (VC I V 16 (by decide) w hI (fun _ _=>by rw[wA h,h.nm];decide)).mono fun e w' ⟨he,k⟩=>⟨by
  have e1:lT I.ord.toNat 16=true:=by rw[h.ord];decide
  rw[he];unfold nV;rw[if_pos ⟨by rw[h.ck],e1⟩,h.nm,wA h];rfl,k⟩
theorem MO(w:World)(hT:lG w)(hP:Tab10 w):Calls prog 10 #[] w fun e w'=>e=.returned (.bool true)/\Kt nO w w':=by
 have NW:=aA (DU w hT);have TP:=aA hP;clear hT hP;go_enter func10,ntmps10;go_wp2_with fail;refine NW.out.mono ?_;rintro e W0 ⟨hb,rfl,hs⟩;have S0:=aA hs;clear hs NW;go_wp2_with fail;refine(MV S0.out).mono ?_;rintro e W1 ⟨rfl,hs⟩;have S1:=aA hs;clear hs S0;go_wp2_with fail;refine(MU S1.out).mono ?_;rintro e W2 ⟨rfl,hs⟩;have S2:=aA hs;clear hs S1;go_wp2_with fail;refine(MT S2.out).mono ?_;rintro e W3 ⟨rfl,hs⟩;have S3:=aA hs;clear hs S2;go_wp2_with fail;refine S3.out.live.mono ?_;rintro e W4 ⟨vl,rfl,hrb,hk⟩;have S4:=aA (S3.out.keep hk);have RB:=aA hrb;clear hk hrb S3;go_wp2_with fail;refine(MS RB.out (Tab10.keep TP.out S4.out.kp)).mono ?_;rintro e W5 ⟨rfl,hk⟩;have S5:=aA (S4.out.keep hk);clear hk S4 RB;go_wp2_with fail;refine S5.out.image.mono ?_;rintro e W6 ⟨I,V,rfl,hI,h4,hk⟩;have S6:=aA (S5.out.keep hk);have HI:=aA hI;have H4:=aA h4;clear hk hI h4 S5;go_wp2_with fail;refine(MR H4.out HI.out).mono ?_;rintro e W7 ⟨rfl,hk⟩;have S7:=aA (S6.out.keep hk);clear hk S6 HI H4;go_wp2_with fail;refine S7.out.image.mono ?_;rintro e W8 ⟨I2,V2,rfl,hI,h4,hk⟩;have S8:=aA (S7.out.keep hk);have HI:=aA hI;have H4:=aA h4;clear hk hI h4 S7;go_wp2_with fail;refine(MQ H4.out HI.out).mono ?_;rintro e W9 ⟨rfl,hk⟩;have S9:=aA (S8.out.keep hk);clear hk S8 HI H4;go_wp2_with fail;go_ret;exact⟨rfl,S9.out.kp⟩
set_option maxHeartbeats 4000000
set_option maxRecDepth 6000
theorem GB.put20{w0 W:World}{v:Value}{l:List (Nat×Nat)}(h:GB w0 W v l)(a s:Nat)(hn:l.length<=8796093022207):
  ∃ g cap w',(∀ t,(Builtin.append_ #[46,46] t #[v,.slice (some ⟨W.heap.size,0,none⟩) 1 1]).run prog (W.alloc (bP a s))=.ok (.slice (some ⟨g,0,none⟩) (l.length + 1) cap) w')/\GB w0 w' (.slice (some ⟨g,0,none⟩) (l.length + 1) cap) (l ++ [(a,s)])/\Kt (fun b=>v.ownBlock=some b) W w':=by
 obtain⟨i,hi,hzz⟩:=Option.map_eq_some_iff.1 nR;simp only[Prod.mk.injEq] at hzz;have ka:=(Kt.refl nO W).alloc (bP a s);obtain⟨g,cap,w',h1,h2,h5,h6,h7⟩:=(GS.keep h ka).pushM 46 i (.agg #[.int .u64 0,.int .u64 0]) 16 Tryz.underlying46 hi hzz.1 hzz.2.1 hzz.2.2 rfl (by decide) ⟨W.heap.size,0,none⟩ 1 1 (by decide) [.int .u64 a,.int .u64 s] rfl (fun j u hj=>kK (cs:=#[.int .u64 a,.int .u64 s]) j u hj) (by simp[Value.oneCell']) (by simp only[maxLen];omega) (by omega);refine⟨g,cap,w',h1,?_,ka.trans h6 (fun _ _ e=>e.elim) (fun _ _ e=>e)⟩;show GS _ _ _ _ _ (l ++ [(a,s)]).length (blV (l ++ [(a,s)]))
 rw[mJ,List.length_append];exact h2
theorem RBk.two{w:World}{v:Value}{l:List (Nat×Nat)}(h:RBk w v l)(j:Nat)(hj:j<l.length):∃ g oc,v=.slice (some ⟨g,0,none⟩) l.length oc/\w.cell? ⟨g,j*2,none⟩=some (.int .u64 ((l.getD j (0,0)).1:Int))/\w.cell? ⟨g,j*2+1,none⟩=some (.int .u64 ((l.getD j (0,0)).2:Int)):=by
 obtain⟨oa,oc,rfl,h0|⟨g,rfl,-,hc⟩⟩:=h
 ·rw[h0] at hj;simp at hj
 ·exact⟨g,oc,rfl,(hc j hj).1,(hc j hj).2⟩
def gY(w:World)(v:Value)(l:List (Nat×Nat)):Prop:=∃ oa oc,v=.slice oa l.length oc/\(l=[]\/∃ g o,oa=some ⟨g,o,none⟩/\∀ j,j<l.length->w.cell? ⟨g,o+j*2,none⟩=some (.int .u64 ((l.getD j (0,0)).1:Int))/\w.cell? ⟨g,o+j*2+1,none⟩=some (.int .u64 ((l.getD j (0,0)).2:Int)))
theorem gY.keep{w W:World}{v:Value}{l:List (Nat×Nat)}(h:gY w v l)(hk:Kt nO w W):gY W v l:=by
 obtain⟨oa,oc,e,h0|⟨g,o,e2,hc⟩⟩:=h
 ·exact⟨oa,oc,e,.inl h0⟩
 ·exact⟨oa,oc,e,.inr ⟨g,o,e2,fun j hj=>⟨hk.cell id (hc j hj).1,hk.cell id (hc j hj).2⟩⟩⟩
theorem gY.two{w:World}{v:Value}{l:List (Nat×Nat)}(h:gY w v l)(j:Nat)(hj:j<l.length):∃ g o oc,v=.slice (some ⟨g,o,none⟩) l.length oc/\w.cell? ⟨g,o+j*2,none⟩=some (.int .u64 ((l.getD j (0,0)).1:Int))/\w.cell? ⟨g,o+j*2+1,none⟩=some (.int .u64 ((l.getD j (0,0)).2:Int)):=by
 obtain⟨oa,oc,rfl,h0|⟨g,o,rfl,hc⟩⟩:=h
 ·rw[h0] at hj;simp at hj
 ·exact⟨g,o,oc,rfl,(hc j hj).1,(hc j hj).2⟩
theorem uN{l:List (Nat×Nat)}{j:Nat}(h:j<l.length):l.take (j + 1)=l.take j ++ [l.getD j (0,0)]:=by
 rw[List.take_succ_eq_append_getElem h,List.getD_eq_getElem?_getD,List.getElem?_eq_getElem h];rfl
theorem zP(v:Value)(l:List (Nat×Nat))(w:World)(hl:l.length<=8796093021952)(hv:gY w v l):
  Calls prog 19 #[v] w fun e w'=>∃ oa oc,e=.returned (.slice oa (l.length + 8) oc)/\GB w w' (.slice oa (l.length + 8) oc) (l ++ List.replicate 8 (77,78)):=by
 have HV:=aA hv;obtain⟨va,vc,rfl,-⟩:=hv;obtain⟨n,hn⟩:=xe (l.length);rw[<-hn] at hl HV ⊢;have HN:=aA hn;clear hn;go_enter func19,ntmps19;go_wp2_with fail;go_loopw [3,4] (fun tv iv W=>∃ (a:Nat) (oa:Option Addr) (oc:Nat),a<=n/\iv=.int .i64 a/\tv=.slice oa a oc/\Hid (GB w W (.slice oa a oc) (l.take a))) (fun _ iv _=>n-(intOf iv).toNat)
 case atStart=>exact⟨0,none,0,Nat.zero_le _,rfl,rfl,aA (GS.nil _ _ _ _ (Kt.refl _ _))⟩
 case round=>
  obtain⟨a,oa,oc,ha,rfl,rfl,HI⟩:=hrel;have HL:=aA (show(l.take a).length=a by rw[List.length_take,<-HN.out];omega);by_cases hlt:a<n
  ·have hai:(a:Int)<n:=(by omega);obtain⟨g0,o0,oc0,ev,c1,c2⟩:=(HV.out.keep HI.out.kp).two a (by rw[<-HN.out];exact hlt);rw[<-HN.out] at ev;injection ev with e1 e2 e3
   subst e1 e3;have TN:=aA (uN (l:=l) (j:=a) (by rw[<-HN.out];exact hlt));generalize l.getD a (0,0)=b at *;obtain⟨p,s⟩:=b;dsimp only at c1 c2;obtain⟨g4,cap4,w4,ap4,t4,k4⟩:=GB.put20 (show GB w wr (.slice oa a oc) (l.take a)from HI.out) p s (by rw[HL.out];omega);rw[HL.out] at ap4 t4;rw[<-TN.out] at t4;have AP4:=aA ap4;have T4:=aA t4;have HA1:=aA (show a+1<=n from hlt);clear ap4 t4 k4;go_wp2_with (at_builtin;refine Lib.wpList_append_run _ rfl _ _ _ _ rfl (.slice oa a oc) _ rfl rfl _ _ (AP4.out _) ?_)
   exact⟨⟨a+1,some ⟨g4,0,none⟩,cap4,HA1.out,by simp,rfl,T4⟩,by simp[intOf];omega⟩
  ·have hai:¬(a:Int)<n:=(by omega);have ea:a=n:=(by omega);subst ea;have L0:=aA (show GB w wr (.slice oa (a + 0) oc) (l ++ List.replicate 0 (77,78))from by
    have:=HI.out;rw[List.take_of_length_le (by rw[<-HN.out];omega)] at this;simpa using this)
   clear HI HV;go_wp2_with fail;go_loopw [3,5] (fun tv iv W=>∃ (j:Nat) (oa:Option Addr) (oc:Nat),j<=8/\iv=.int .i64 j/\tv=.slice oa (a + j) oc/\Hid (GB w W (.slice oa (a + j) oc) (l ++ List.replicate j (77,78)))) (fun _ iv _=>8-(intOf iv).toNat)
   case atStart=>exact⟨0,oa,oc,by omega,rfl,rfl,L0⟩
   case round=>
    clear L0;obtain⟨j,ob,oc',hj,rfl,rfl,HJ⟩:=hrel;have HL2:=aA (show(l ++ List.replicate j ((77:Nat),(78:Nat))).length=a + j by rw[List.length_append,List.length_replicate,<-HN.out]);by_cases hlj:j<8
    ·have hjj:(j:Int)<8:=(by omega);obtain⟨g4,cap4,w4,ap4,t4,k4⟩:=GB.put20 (show GB w wr (.slice ob (a + j) oc') (l ++ List.replicate j (77,78))from by have:=HJ.out;exact this) 77 78 (by rw[HL2.out];omega);rw[HL2.out] at ap4 t4;rw[List.append_assoc,<-List.replicate_succ'] at t4;have AP4:=aA ap4;have T4:=aA t4;have HA1:=aA (show j+1<=8 from hlj);clear ap4 t4 k4;go_wp2_with (at_builtin;refine Lib.wpList_append_run _ rfl _ _ _ _ rfl (.slice ob (a+j) oc') _ rfl rfl _ _ (AP4.out _) ?_)
     exact⟨⟨j+1,some ⟨g4,0,none⟩,cap4,HA1.out,by simp,rfl,T4⟩,by simp[intOf];omega⟩
    ·have hjj:¬(j:Int)<8:=(by omega);have ej:j=8:=(by omega);subst ej;have HF:=aA (show GB w wr (.slice ob (a + 8) oc') (l ++ List.replicate 8 (77,78))from HJ.out);clear HJ;go_wp2_with fail;go_ret;exact⟨ob,oc',rfl,HF.out⟩
theorem yS(v:Value)(l:List (Nat×Nat))(w:World)(hl:l.length<=8796093021952)(hv:gY w v l):
  Calls prog 22 #[v] w fun e w'=>∃ oa oc,e=.returned (.slice oa l.length oc)/\GB w w' (.slice oa l.length oc) l.reverse:=by
 have HV:=aA hv;obtain⟨va,vc,rfl,-⟩:=hv;obtain⟨n,hn⟩:=xe (l.length);rw[<-hn] at hl HV ⊢;have HN:=aA hn;clear hn;go_enter func22,ntmps22;go_wp2_with fail;go_loopw [3,4] (fun tv iv W=>∃ (a:Nat) (oa:Option Addr) (oc:Nat),a<=n/\iv=.int .i64 ((n:Int)-1-(a:Int))/\tv=.slice oa a oc/\Hid (GB w W (.slice oa a oc) (l.reverse.take a))) (fun _ iv _=>(intOf iv+1).toNat)
 case atStart=>exact⟨0,none,0,Nat.zero_le _,by simp,rfl,aA (GS.nil _ _ _ _ (Kt.refl _ _))⟩
 case round=>
  obtain⟨a,oa,oc,ha,rfl,rfl,HI⟩:=hrel;have HL:=aA (show(l.reverse.take a).length=a by rw[List.length_take,List.length_reverse,<-HN.out];omega);by_cases hlt:a<n
  ·obtain⟨z,hz⟩:=xe (n-1-a);have ez:(n:Int)-1-(a:Int)=z:=(by omega);have hzn:z<n:=(by omega);obtain⟨g0,o0,oc0,ev,c1,c2⟩:=(HV.out.keep HI.out.kp).two z (by rw[<-HN.out];omega);rw[<-HN.out] at ev;injection ev with e1 e2 e3
   subst e1 e3;have TN:=aA (show l.reverse.take (a + 1)=l.reverse.take a ++ [l.getD z (0,0)] from by
    rw[uN (by rw[List.length_reverse,<-HN.out];exact hlt)];congr 2
    rw[List.getD_eq_getElem?_getD,List.getD_eq_getElem?_getD,List.getElem?_reverse (by rw[<-HN.out];exact hlt),hz,HN.out])
   generalize l.getD z (0,0)=b at *;obtain⟨p,s⟩:=b;dsimp only at c1 c2;obtain⟨g4,cap4,w4,ap4,t4,k4⟩:=GB.put20 (show GB w wr (.slice oa a oc) (l.reverse.take a)from HI.out) p s (by rw[HL.out];omega);rw[HL.out] at ap4 t4;rw[<-TN.out] at t4;have AP4:=aA ap4;have T4:=aA t4;have HA1:=aA (show a+1<=n/\(z:Int)-1=(n:Int)-1-((a+1:Nat):Int)/\((z:Int)-1+1).toNat<((z:Int)+1).toNat from⟨hlt,by omega,by omega⟩);rw[ez];clear ap4 t4 k4 hz ez;go_wp2_with (at_builtin;refine Lib.wpList_append_run _ rfl _ _ _ _ rfl (.slice oa a oc) _ rfl rfl _ _ (AP4.out _) ?_)
   exact⟨⟨a+1,some ⟨g4,0,none⟩,cap4,HA1.out.1,by rw[HA1.out.2.1],rfl,T4⟩,HA1.out.2.2⟩
  ·have ea:a=n:=(by omega);subst ea;rw[show(a:Int)-1-(a:Int) = -1 by omega];have HF:=aA (show GB w wr (.slice oa a oc) l.reverse from by have:=HI.out;rw[List.take_of_length_le (by rw[List.length_reverse,<-HN.out];omega)] at this;exact this);clear HI HV;go_wp2_with fail;go_ret;exact⟨oa,oc,rfl,HF.out⟩
end Go.Proofs.YtkfmheelhinjdaaGreatDoor.W
namespace Go.Proofs.YtkfmheelhinjdaaGreatDoor.W
open _root_.Go.Proofs.Tryz
open Go.ChangeShapes Go.WideShapes Go.ChangeAt Go.RowKit Go.Deep
set_option linter.unusedVariables false
theorem IF{w:World}{a:Addr}{v:Value}(h:w.cell? a=some v):∃ b o,a=⟨b,o,none⟩/\b<w.heap.size:=by
 obtain⟨b,o,s⟩:=a;unfold World.cell? at h;split at h
 ·rename_i hh;have hb:=(Array.getElem?_eq_some_iff.1 hh).1
  cases s with
  | none=>exact⟨b,o,rfl,hb⟩
  | some s=>simp at h
 ·cases h
end Go.Proofs.YtkfmheelhinjdaaGreatDoor.W
namespace Go.Proofs.YtkfmheelhinjdaaGreatDoor.W
open _root_.Go.Proofs.Tryz
open Go.RowKit Go.Deep
set_option linter.unusedVariables false
set_option maxRecDepth 8000
theorem blocks_of{H:Type}{enc:TypeId×Value->H}{W:World}{fuel:Nat}{v:Value}{x:DataW H×List MemPlace}
  (hf:DataW.trod enc prog W 0 (fun _=>true) true fuel 46 [v]=some x):∃ l:List (Nat×Nat),gY W v l/\(∀ b∈l,fC b.1/\fC b.2)/\(l=[]\/∃ D E,x.1=.slice D E/\D.length=l.length):=by
 rcases open_slice_pairs Tryz.underlying46 Tryz.underlying45 (by kernel_rfl) rfl rfl (by kernel_rfl) (by kernel_rfl) hf with ⟨hcs,hx⟩|⟨a,len,cap,m,n,V0,V1,D0,D1,P0,P1,hcs,hb,hl,hm,hmm,hx,hc⟩
 ·simp at hcs;subst hcs;exact⟨[],⟨none,0,rfl,.inl rfl⟩,(fun b h=>by cases h),.inl rfl⟩
 ·simp at hcs;subst hcs;simp only[if_true] at hmm;subst hmm;have key:∀ k,k<len->∃ q:Nat×Nat,fC q.1/\fC q.2/\W.cell? (a.add (k*2))=some (.int .u64 q.1)/\W.cell? (a.add (k*2+1))=some (.int .u64 q.2):=by
   intro k hk;obtain⟨h1,h2,h3,h4⟩:=hc k (by omega);obtain⟨x0,e0,_,w0⟩:=DataW.trod_int Tryz.underlying27 h3;obtain⟨x1,e1,_,w1⟩:=DataW.trod_int Tryz.underlying27 h4;simp at e0 e1;rw[e0] at h1;rw[e1] at h2;have b0:=bounds_u64 w0;have b1:=bounds_u64 w1;obtain⟨n0,rfl⟩:=Int.eq_ofNat_of_zero_le b0.1;obtain⟨n1,rfl⟩:=Int.eq_ofNat_of_zero_le b1.1;exact⟨(n0,n1),by show n0<_;omega,by show n1<_;omega,h1,h2⟩
  obtain⟨pg,hpg⟩:∃ pg:Nat->Nat×Nat,∀ k,k<len->fC (pg k).1/\fC (pg k).2/\W.cell? (a.add (k*2))=some (.int .u64 ((pg k).1:Int))/\W.cell? (a.add (k*2+1))=some (.int .u64 ((pg k).2:Int)):=
   ⟨fun k=>if h:k<len then (key k h).choose else (0,0),fun k hk=>by simp only[hk,dite_true];exact(key k hk).choose_spec⟩
  have hlen:((List.range len).map pg).length=len:=by simp
  refine⟨(List.range len).map pg,⟨some a,m,by rw[hlen],?_⟩,fun b hb=>?_,.inr ⟨_,_,congrArg Prod.fst hx,by simp⟩⟩
  ·by_cases h0:len=0
   ·exact .inl (by rw[h0];rfl)
   ·right
    have g0:=(hpg 0 (by omega)).2.2.1;have e0:a.add (0*2)=a:=(by simp[Addr.add]);rw[e0] at g0;obtain⟨bb,o,rfl,hb⟩:=IF g0;refine⟨bb,o,rfl,fun k hk=>?_⟩;rw[hlen] at hk;have ek:((List.range len).map pg).getD k (0,0)=pg k:=by
     rw[List.getD_eq_getElem?_getD,List.getElem?_map,List.getElem?_range hk];rfl
    rw[ek];obtain⟨-,-,g1,g2⟩:=hpg k hk;rw[Addr.add_lit] at g1 g2;exact⟨g1,g2⟩
  ·obtain⟨k,hk,rfl⟩:=List.mem_map.1 hb;exact⟨(hpg k (List.mem_range.1 hk)).1,(hpg k (List.mem_range.1 hk)).2.1⟩
end Go.Proofs.YtkfmheelhinjdaaGreatDoor.W
namespace Go.Proofs.YtkfmheelhinjdaaGreatDoor.W
open _root_.Go.Proofs.Tryz
open Go.RowKit
set_option linter.unusedVariables false
set_option maxHeartbeats 4000000
set_option maxRecDepth 6000
theorem yV{l m:List (Nat×Nat)}{j:Nat}(h:j<l.length):(l ++ m).getD j (0,0)=l.getD j (0,0):=by
 rw[List.getD_eq_getElem?_getD,List.getD_eq_getElem?_getD,List.getElem?_append_left h]
theorem PS{l:List (Nat×Nat)}{j:Nat}(h:l.length<=j)(h8:j<l.length + 8):(l ++ List.replicate 8 ((77:Nat),(78:Nat))).getD j (0,0)=(77,78):=by
 rw[List.getD_eq_getElem?_getD,List.getElem?_append_right h,List.getElem?_replicate,if_pos (by omega)];rfl
theorem qL(v u:Value)(l:List (Nat×Nat))(w:World)(hl:l.length<=8796093021952)(hv:RBk w v (l ++ List.replicate 8 (77,78)))(hu:gY w u l):
  Calls prog 21 #[v,u] w fun e w'=>e=.returned (.bool true)/\Kt nO w w':=by
 have HV:=aA hv;have HU:=aA hu;obtain⟨va,vc,rfl,-⟩:=hv;obtain⟨ua,uc,rfl,-⟩:=hu;obtain⟨n,hn⟩:=xe (l.length);have hm:(l ++ List.replicate 8 ((77:Nat),(78:Nat))).length=n + 8:=by rw[List.length_append,List.length_replicate,hn]
 rw[hm] at HV ⊢;rw[<-hn] at hl HU ⊢;have HN:=aA hn;have HM:=aA hm;clear hn hm;go_enter func21,ntmps21;go_wp2_with fail;go_loopw [5] (fun iv W=>∃ a:Nat,a<=n/\iv=.int .i64 a/\Hid (Kt nO w W)) (fun iv _=>n-(intOf iv).toNat)
 case atStart=>exact⟨0,Nat.zero_le _,rfl,aA (Kt.refl _ _)⟩
 case round=>
  obtain⟨a,ha,rfl,HK⟩:=hrel;by_cases hlt:a<n
  ·have hai:(a:Int)<n:=(by omega);obtain⟨g0,oc0,ev,c1,c2⟩:=(HV.out.keep HK.out).two a (by rw[HM.out];omega);rw[HM.out] at ev;injection ev with e1 e2 e3
   subst e1 e3;obtain⟨g1,o1,oc1,eu,d1,d2⟩:=(HU.out.keep HK.out).two a (by rw[<-HN.out];exact hlt);rw[<-HN.out] at eu;injection eu with e1 e2 e3
   subst e1 e3;rw[yV (by rw[<-HN.out];exact hlt)] at c1 c2;generalize l.getD a (0,0)=b at *;obtain⟨p,s⟩:=b;dsimp only at c1 c2 d1 d2;have k1:=fun x:KW wr=>x.k.cell id c1
   have k2:=fun x:KW wr=>x.k.cell id c2
   have k3:=fun x:KW wr=>x.k.cell id d1
   have k4:=fun x:KW wr=>x.k.cell id d2
   have hpp:((p:Int) == (p:Int))=true:=(by simp);have hss:((s:Int) == (s:Int))=true:=(by simp);have HA1:=aA (show a+1<=n from hlt);clear c1 c2 d1 d2;have ha8:(a:Int)<((n+8:Nat):Int):=(by omega);go_upto_region 4 with fail;refine cI (by kernel_rfl) (by kernel_rfl) ?_;repeat (go_big_quiet_step (fail))
   refine wpQuiet_nil ?_;intro x;have KX:=aA (nT HK.out x.k);go_wp2_with fail;exact⟨⟨a+1,HA1.out,by simp,KX⟩,by simp[intOf];omega⟩
  ·have ea:a=n:=(by omega);subst ea;go_wp2_with fail;go_loopw [6] (fun iv W=>∃ j:Nat,j<=8/\iv=.int .i64 ((a+j:Nat):Int)/\Hid (Kt nO w W)) (fun iv _=>(a+8)-(intOf iv).toNat)
   case atStart=>exact⟨0,by omega,rfl,HK⟩
   case round=>
    clear HK;obtain⟨j,hj,rfl,HK⟩:=hrel;obtain⟨z,hz⟩:=xe (a+j);rw[<-hz];by_cases hlj:j<8
    ·have hjj:(z:Int)<((a+8:Nat):Int):=(by omega);obtain⟨g0,oc0,ev,c1,c2⟩:=(HV.out.keep HK.out).two z (by rw[HM.out];omega);rw[HM.out] at ev;injection ev with e1 e2 e3
     subst e1 e3;rw[PS (by rw[<-HN.out];omega) (by rw[<-HN.out];omega)] at c1 c2;dsimp only at c1 c2;have HA1:=aA (show j+1<=8/\(z:Int)+1=((a+(j+1):Nat):Int)/\a+8-((z:Int)+1).toNat<a+8-(z:Int).toNat from⟨hlj,by omega,by omega⟩);clear hz;go_wp2_with fail;exact⟨⟨j+1,HA1.out.1,by rw[HA1.out.2.1],HK⟩,HA1.out.2.2⟩
    ·have hjj:¬(z:Int)<((a+8:Nat):Int):=(by omega);clear hz;go_wp2_with fail;go_ret;exact⟨rfl,HK.out⟩
end Go.Proofs.YtkfmheelhinjdaaGreatDoor.W
namespace Go.Proofs.YtkfmheelhinjdaaGreatDoor.W
open _root_.Go.Proofs.Tryz
open Go.RowKit Go.Sort
set_option linter.unusedVariables false
set_option maxHeartbeats 8000000
set_option maxRecDepth 6000
def fA(x y:Nat×Nat):Int:=if aX x.1 y.1=0 then aX x.2 y.2 else aX x.1 y.1
theorem AB(x y:Nat):aX x y=0↔x=y:=by unfold aX;split <;> (try split) <;> omega
theorem zU(x y:Nat):aX x y<0↔x<y:=by unfold aX;split <;> (try split) <;> omega
theorem gW(x y:Nat×Nat):ltOf fA x y=decide (dT x y):=by
 unfold ltOf fA dT;by_cases h:aX x.1 y.1=0
 ·have h1:=(AB _ _).1 h;rw[if_pos h];have h2:=zU x.2 y.2;by_cases h3:aX x.2 y.2<0
  ·have:=h2.1 h3;simp[h3,h1,this]
  ·have:¬x.2<y.2:=fun h4=>h3 (h2.2 h4)
   simp[h3,h1,this]
 ·have h1:¬x.1=y.1:=fun e=>h ((AB _ _).2 e)
  rw[if_neg h];have h2:=zU x.1 y.1;by_cases h3:aX x.1 y.1<0
  ·have:=h2.1 h3;simp[h3,this]
  ·have:¬x.1<y.1:=fun h4=>h3 (h2.2 h4)
   simp[h3,h1,this]
theorem vB:SWO (ltOf fA) where
 irrefl x:=by rw[gW];unfold dT;simp
 trans x y z h1 h2:=by rw[gW] at *;simp only[decide_eq_true_eq] at *;unfold dT at *;omega
 ntrans x y z h1 h2:=by rw[gW] at *;simp only[decide_eq_false_iff_not] at *;unfold dT at *;omega
theorem uZ(x y:Nat×Nat)(h1:ltOf fA x y=false)(h2:ltOf fA y x=false):x=y:=by
 rw[gW] at h1 h2;simp only[decide_eq_false_iff_not] at h1 h2;unfold dT at h1 h2;exact Prod.ext (by omega) (by omega)
theorem or2(g:Nat)(a b:Int)(w:World)(h0:w.cell? ⟨g,0,none⟩=some (.int .i64 a))(h1:w.cell? ⟨g,1,none⟩=some (.int .i64 b)):
  Calls prog 98 #[.slice (some ⟨g,0,none⟩) 2 2] w fun e w'=>e=.returned (.int .i64 (if a=0 then b else a))/\w'=w:=by
 by_cases ha:a=0
 ·have ha1:(a == 0)=true:=by simp[ha]
  by_cases hb:b=0
  ·have hb1:(b == 0)=true:=(by simp[hb]);have E:=aA (show(if a=0 then b else a)=0 by rw[if_pos ha,hb]);rw[E.out];subst ha hb;go_enter func98,ntmps98;go_wp2_with fail;refine wp_loop_rounds 3 ?_;rw[rounds_succ];go_wp2_with fail;rw[rounds_succ];go_wp2_with fail;rw[rounds_succ];go_wp2_with fail;go_ret;exact⟨rfl,rfl⟩
  ·have hb1:(b == 0)=false:=(by simp[hb]);have E:=aA (show(if a=0 then b else a)=b by rw[if_pos ha]);rw[E.out];subst ha;go_enter func98,ntmps98;go_wp2_with fail;refine wp_loop_rounds 2 ?_;rw[rounds_succ];go_wp2_with fail;rw[rounds_succ];go_wp2_with fail;go_ret;exact⟨rfl,rfl⟩
 ·have ha1:(a == 0)=false:=by simp[ha]
  have E:=aA (show(if a=0 then b else a)=a by rw[if_neg ha]);rw[E.out];go_enter func98,ntmps98;go_wp2_with fail;refine wp_loop_rounds 1 ?_;rw[rounds_succ];go_wp2_with fail;go_ret;exact⟨rfl,rfl⟩
def GG(a b:World):Prop:=∃ q os,b=grow (a.drewN q) os
theorem GG.refl(a:World):GG a a:=⟨0,#[],by rw[grow_empty];rfl⟩
theorem GG.trans{a b c:World}(h:GG a b)(k:GG b c):GG a c:=by
 obtain⟨q,os,rfl⟩:=h;obtain⟨q',os',rfl⟩:=k;exact⟨q + q',os ++ os',by show grow (grow ((a.drewN q).drewN q') os) os'=_;rw[grow_grow,World.drewN_drewN]⟩
theorem GG.alloc(a:World)(o:Obj):GG a (a.alloc o):=⟨0,#[o],by rw[alloc_eq_grow];rfl⟩
theorem GG.drew(a:World):GG a a.drew:=⟨1,#[],by rw[grow_empty];rfl⟩
theorem GG.size{a b:World}(h:GG a b):a.heap.size<=b.heap.size:=by
 obtain⟨q,os,rfl⟩:=h;rw[size_grow];exact Nat.le_add_right _ _
theorem GG.cell{a b:World}(h:GG a b){x:Addr}{v:Value}(hx:x.block<a.heap.size)(hc:a.cell? x=some v):b.cell? x=some v:=by
 obtain⟨q,os,rfl⟩:=h;exact cell_grown hx hc q os
def RO(A B:Int):Value->World->Prop:=fun u W=>∃ b,u=.slice (some ⟨b,0,none⟩) 2 2/\b<W.heap.size/\W.cell? ⟨b,0,none⟩=some (.int .i64 A)/\W.cell? ⟨b,1,none⟩=some (.int .i64 B)
def Lr(g h p s p' s':Nat)(A B cv:Int):List (Value->World->Prop):=[bR (.pointer (some ⟨g,0,none⟩)),bR (.int .u64 p),bR (.pointer (some ⟨h,0,none⟩)),bR (.int .u64 p'),bR (.int .i64 A),bR (.pointer (some ⟨g,1,none⟩)),bR (.int .u64 s),bR (.pointer (some ⟨h,1,none⟩)),bR (.int .u64 s'),bR (.int .i64 B),RO A B,bR (.int .i64 cv)]
theorem FK{g h p s p' s':Nat}{A B cv:Int}(i:Nat):∀ u W W',((Lr g h p s p' s' A B cv).getD i bY) u W->GG W W'->((Lr g h p s p' s' A B cv).getD i bY) u W':=by
 have key:∀ r∈Lr g h p s p' s' A B cv,∀ u W W',r u W->GG W W'->r u W':=by
  have h1:∀ v,∀ u W W',bR v u W->GG W W'->bR v u W':=fun v u W W' h _=>h
  have h2:∀ u W W',RO A B u W->GG W W'->RO A B u W':=fun u W W' ⟨b,h3,h4,h5,h6⟩ k=>⟨b,h3,Nat.lt_of_lt_of_le h4 k.size,k.cell h4 h5,k.cell h4 h6⟩
  unfold Lr;repeat refine List.forall_mem_cons.2 ⟨by first|exact h1 _|exact h2,?_⟩
  exact fun r hr=>by cases hr
 rw[List.getD_eq_getElem?_getD]
 cases e:(Lr g h p s p' s' A B cv)[i]? with
 | none=>exact fun _ _ _ h _=>h
 | some r=>exact key r (List.mem_of_getElem? e)
theorem RX(x y:Nat×Nat)(W:World):Calls prog 61 #[eB x,eB y] W fun e w'=>e=.returned (.int .i64 (fA x y))/\∃ q os',w'=grow (W.drewN q) os':=by
 obtain⟨p,s⟩:=x;obtain⟨p',s'⟩:=y;obtain⟨cv,hcv⟩:∃ cv,(if aX p p'=0 then aX s s' else aX p p')=cv:=⟨_,rfl⟩;have E:=aA (show fA (p,s) (p',s')=cv from hcv);rw[E.out];obtain⟨A,hA⟩:∃ A,aX p p'=A:=⟨_,rfl⟩;obtain⟨B,hB⟩:∃ B,aX s s'=B:=⟨_,rfl⟩;have CA:=aA (fun W=>uL p p' W);have CB:=aA (fun W=>uL s s' W);rw[hA] at CA;rw[hB] at CB;have OR:=aA (fun g w h0 h1=>or2 g A B w h0 h1);rw[hA,hB] at hcv;rw[hcv] at OR;clear hcv hA hB E;have B1:=aA (mB (show((W.alloc (bP p s)).alloc (bP p' s')).heap[W.heap.size]?=some (bP p s)from by rw[Below.heap_alloc _ _ _ (by simp)];exact nH _ _));have B2:=aA (mB (show((W.alloc (bP p s)).alloc (bP p' s')).heap[W.heap.size+1]?=some (bP p' s')from by have:=nH (W.alloc (bP p s)) (bP p' s');simpa using this));have Z1:=aA (show W.heap.size<((W.alloc (bP p s)).alloc (bP p' s')).heap.size/\W.heap.size+1<((W.alloc (bP p s)).alloc (bP p' s')).heap.size by simp;omega);have G0:=aA ((GG.alloc W (bP p s)).trans (GG.alloc _ (bP p' s')));go_enter func61,ntmps61;go_upto_region 1 with fail;generalize (W.alloc (bP p s)).alloc (bP p' s')=W2 at *;generalize W.heap.size+1=h1 at *;generalize W.heap.size=g1 at *;refine rX (w1:=W2) (by kernel_rfl) (fun v=>⟨#[eB (p,s),eB (p',s'),.pointer (some ⟨g1,0,none⟩),.pointer (some ⟨h1,0,none⟩),.int .i64 0,v 0,v 1,v 2,v 3,v 4,v 5,v 6,v 7,v 8,v 9,v 10,v 11],[]⟩) (fun i=>undef) GG (fun _ _ _=>GG.trans) (fun i=>(Lr g1 h1 p s p' s' A B cv).getD i bY) (fun i=>FK i) 12 rfl (by kernel_rfl) (by kernel_rfl) (GG.drew _) ?_ ?_
 ·intro i o ho hi v W kW hd;have c0:=kW.cell Z1.out.1 B1.out.1;have c1:=kW.cell Z1.out.1 B1.out.2;have d0:=kW.cell Z1.out.2 B2.out.1;have d1:=kW.cell Z1.out.2 B2.out.2;match i,hi with
  | 0,_=>
   clear hd ho;refine aO rfl ?_;go_wp2_with fail;exact⟨.pointer (some ⟨g1,0,none⟩),(by simp[aB]),rfl,GG.refl _⟩
  | 1,_=>
   have e0:v 0=.pointer (some ⟨g1,0,none⟩):=hd 0 (by kernel_rfl);clear hd ho;refine aO rfl ?_;go_wp2_with fail;exact⟨.int .u64 p,(by simp[aB,e0]),rfl,GG.refl _⟩
  | 2,_=>
   clear hd ho;refine aO rfl ?_;go_wp2_with fail;exact⟨.pointer (some ⟨h1,0,none⟩),(by simp[aB]),rfl,GG.refl _⟩
  | 3,_=>
   have e2:v 2=.pointer (some ⟨h1,0,none⟩):=hd 2 (by kernel_rfl);clear hd ho;refine aO rfl ?_;go_wp2_with fail;exact⟨.int .u64 p',(by simp[aB,e2]),rfl,GG.refl _⟩
  | 4,_=>
   have e1:v 1=.int .u64 p:=hd 1 (by kernel_rfl);have e3:v 3=.int .u64 p':=hd 3 (by kernel_rfl);clear hd ho;refine aO rfl ?_;go_wp2_with (go_at_call 56;(refine(CA.out _).mono ?_);rintro e wX ⟨rfl,rfl⟩)
   exact⟨.int .i64 A,(by simp[aB,e1,e3]),rfl,GG.refl _⟩
  | 5,_=>
   clear hd ho;refine aO rfl ?_;go_wp2_with fail;exact⟨.pointer (some ⟨g1,1,none⟩),(by simp[aB]),rfl,GG.refl _⟩
  | 6,_=>
   have e5:v 5=.pointer (some ⟨g1,1,none⟩):=hd 5 (by kernel_rfl);clear hd ho;refine aO rfl ?_;go_wp2_with fail;exact⟨.int .u64 s,(by simp[aB,e5]),rfl,GG.refl _⟩
  | 7,_=>
   clear hd ho;refine aO rfl ?_;go_wp2_with fail;exact⟨.pointer (some ⟨h1,1,none⟩),(by simp[aB]),rfl,GG.refl _⟩
  | 8,_=>
   have e7:v 7=.pointer (some ⟨h1,1,none⟩):=hd 7 (by kernel_rfl);clear hd ho;refine aO rfl ?_;go_wp2_with fail;exact⟨.int .u64 s',(by simp[aB,e7]),rfl,GG.refl _⟩
  | 9,_=>
   have e6:v 6=.int .u64 s:=hd 6 (by kernel_rfl);have e8:v 8=.int .u64 s':=hd 8 (by kernel_rfl);clear hd ho;refine aO rfl ?_;go_wp2_with (go_at_call 56;(refine(CB.out _).mono ?_);rintro e wX ⟨rfl,rfl⟩)
   exact⟨.int .i64 B,(by simp[aB,e6,e8]),rfl,GG.refl _⟩
  | 10,_=>
   have e4:v 4=.int .i64 A:=hd 4 (by kernel_rfl);have e9:v 9=.int .i64 B:=hd 9 (by kernel_rfl);clear hd ho;refine aO rfl ?_;go_wp2_with fail;refine⟨.slice (some ⟨W.heap.size,0,none⟩) 2 2,(by simp[aB,e4,e9]),⟨_,rfl,?_,?_,?_⟩,GG.alloc _ _⟩
   ·simp
   ·have h0:=kK (w:=W) (t:=3) (cs:=#[.int .i64 A,.int .i64 B]) 0 _ rfl;rw[Addr.add_lit,Nat.zero_add] at h0;exact h0
   ·have h0:=kK (w:=W) (t:=3) (cs:=#[.int .i64 A,.int .i64 B]) 1 _ rfl;rw[Addr.add_lit,Nat.zero_add] at h0;exact h0
  | 11,_=>
   obtain⟨b,e10,hb,b0,b1⟩:=(show RO A B (v 10) W from hd 10 (by kernel_rfl));have OX:=aA (OR.out b W b0 b1);clear hd ho;refine aO rfl ?_;go_wp2_with (go_at_call 98;(refine OX.out.mono ?_);rintro e wX ⟨rfl,rfl⟩)
   exact⟨.int .i64 cv,(by simp[aB,e10]),rfl,GG.refl _⟩
 ·intro o ho v W kW hd;have e11:v 11=.int .i64 cv:=hd 11 (by decide);have KF:=aA (G0.out.trans kW);clear hd ho;refine aO rfl ?_;go_wp2_with fail;go_ret;exact⟨rfl,KF.out⟩
def gE(b:Nat×Nat):List Value:=[.int .u64 b.1,.int .u64 b.2]
theorem vY(l:List (Nat×Nat)):flatK gE 2 l.toArray=(blV l).toArray:=by
 refine ext_get! (by simp[kX]) fun t ht=>?_
 have ht':t<l.length*2:=by simpa using ht
 rw[get_flatK _ _ _ t (by simpa using ht')];obtain⟨e1,e2⟩:=blV_get l (t/2) (by omega);have hd:l.toArray[t/2]! =l.getD (t/2) (0,0):=by
  rw[List.getElem!_toArray,List.getD_eq_getElem?_getD,List.getElem!_eq_getElem?_getD];rfl
 rw[hd];generalize l.getD (t/2) (0,0)=b at *;rcases Nat.mod_two_eq_zero_or_one t with h|h
 ·rw[h];have:(blV l)[t]?=some (.int .u64 b.1):=by rw[<-e1];congr 1;omega
  have h9:(blV l).toArray[t]! =.int .u64 b.1:=by rw[List.getElem!_toArray,List.getElem!_eq_getElem?_getD,this];rfl
  rw[h9];rfl
 ·rw[h];have:(blV l)[t]?=some (.int .u64 b.2):=by rw[<-e2];congr 1;omega
  have h9:(blV l).toArray[t]! =.int .u64 b.2:=by rw[List.getElem!_toArray,List.getElem!_eq_getElem?_getD,this];rfl
  rw[h9];rfl
theorem GS.sortedK{w0 W:World}{e:TypeId}{sz gb cap n:Nat}{xs:List Value}(h:GS w0 W e sz (.slice (some ⟨gb,0,none⟩) n cap) n xs):
  Holds id W gb 0 xs.toArray/\gb<W.heap.size/\∀ m (ys:List Value) os,ys.length=xs.length->
   GS w0 (sortWorld id W gb 0 m ys.toArray os) e sz (.slice (some ⟨gb,0,none⟩) n cap) n ys/\Kt (fun x=>x=gb) W (sortWorld id W gb 0 m ys.toArray os):=by
 have hlen:xs.length=n*sz:=h.own.1;rcases h.own.2 with ⟨h0,_⟩|⟨g,cap',cur,hv,hb,hg,hnc,hcm,hcs,htake⟩
 ·cases h0
 simp only[Value.slice.injEq,Option.some.injEq,Addr.mk.injEq,true_and,and_true] at hv;obtain⟨rfl,rfl⟩:=hv;have hgl:=lH hg;refine⟨fun j hj=>?_,hgl,fun m ys os hl2=>?_⟩
 ·have hj':j<xs.length:=by simpa using hj
  obtain⟨u,hu⟩:∃ u,xs[j]?=some u:=⟨_,List.getElem?_eq_getElem hj'⟩;have e1:=hu;rw[<-htake,List.getElem?_take] at e1;split at e1
  ·constructor
   ·rw[Nat.zero_add];simp only[World.cell?,hg];rw[<-Array.getElem?_toList,e1];simp[hu]
   ·simp[World.frozen?,hg]
  ·cases e1
 ·have hk:Kt (fun x=>x=gb) W (sortWorld id W gb 0 m ys.toArray os):=by
   refine⟨rfl,rfl,rfl,?_,fun i hi hne=>?_⟩
   ·show W.heap.size<=(grow _ _).heap.size
    rw[size_grow,size_putRow];exact Nat.le_add_right _ _
   ·show(grow (putRow id (Sort.ahead W m) gb 0 ys.toArray) os).heap[i]?=_
    rw[heap_grow_old _ _ (by rw[size_putRow];exact hi)];show(W.heap.modify gb _)[i]?=_
    rw[Array.getElem?_modify,if_neg (fun e=>hne e.symm)]
  refine⟨⟨⟨by omega,.inr ⟨gb,cap,putCells id 0 ys.toArray cur,rfl,Nat.zero_le _,?_,hnc,hcm,by simp[putCells,hcs],?_⟩⟩,h.new,h.kp.trans hk (fun _ _ e=>e) (fun x hx e=>?_)⟩,hk⟩
  ·show(grow (putRow id (Sort.ahead W m) gb 0 ys.toArray) os).heap[gb]?=_
   rw[heap_grow_old _ _ (by rw[size_putRow];exact hgl)];show(W.heap.modify gb _)[gb]?=_
   rw[Array.getElem?_modify,if_pos rfl,hg];rfl
  ·have hcl:n*sz<=cur.size:=by
    have:=congrArg List.length htake;rw[List.length_take,hlen] at this;simp at this;omega
   apply List.ext_getElem?
   intro j;rw[List.getElem?_take];by_cases hj:j<ys.length
   ·rw[if_pos (by omega),List.getElem?_eq_getElem hj,Array.getElem?_toList];unfold putCells;rw[Array.getElem?_mapIdx,Array.getElem?_eq_getElem (by omega)];simp[hj]
   ·rw[if_neg (by omega),List.getElem?_eq_none (by omega)]
  ·have:=h.new gb cap rfl
   cases e
   omega
theorem GB.sorted{w0 W:World}{gb cap:Nat}{l:List (Nat×Nat)}(h:GB w0 W (.slice (some ⟨gb,0,none⟩) l.length cap) l):HoldsK gE 2 W gb 0 l.toArray/\gb<W.heap.size/\∀ n (l2:List (Nat×Nat)) os,l2.length=l.length->
   GB w0 (sortWorldK gE 2 W gb 0 n l2.toArray os) (.slice (some ⟨gb,0,none⟩) l2.length cap) l2/\Kt (fun x=>x=gb) W (sortWorldK gE 2 W gb 0 n l2.toArray os):=by
 obtain⟨a,b,c⟩:=GS.sortedK h;refine⟨?_,b,fun n l2 os hl=>?_⟩
 ·unfold HoldsK;rw[vY];exact a
 ·unfold sortWorldK putRowK;rw[vY];have:=c n (blV l2) os (by rw[kX,kX,hl]);rw[<-hl] at this;exact this
set_option maxHeartbeats 8000000
set_option maxRecDepth 6000
theorem GB.put21{w0 W:World}{v:Value}{l:List (Nat×Nat)}(h:GB w0 W v l)(a s:Nat)(hn:l.length<=8796093022207):
  ∃ g cap w',(∀ t,(Builtin.append_ #[46,46] t #[v,.slice (some ⟨W.heap.size,0,none⟩) 1 1]).run prog (W.alloc (bP a s))=.ok (.slice (some ⟨g,0,none⟩) (l.length + 1) cap) w')/\GB w0 w' (.slice (some ⟨g,0,none⟩) (l.length + 1) cap) (l ++ [(a,s)])/\Kt (fun b=>v.ownBlock=some b) W w'/\(v.ownBlock=some g\/W.heap.size<=g):=by
 obtain⟨i,hi,hzz⟩:=Option.map_eq_some_iff.1 nR;simp only[Prod.mk.injEq] at hzz;have ka:=(Kt.refl nO W).alloc (bP a s);obtain⟨g,cap,w',h1,h2,h5,h6,h7⟩:=(GS.keep h ka).pushM 46 i (.agg #[.int .u64 0,.int .u64 0]) 16 Tryz.underlying46 hi hzz.1 hzz.2.1 hzz.2.2 rfl (by decide) ⟨W.heap.size,0,none⟩ 1 1 (by decide) [.int .u64 a,.int .u64 s] rfl (fun j u hj=>kK (cs:=#[.int .u64 a,.int .u64 s]) j u hj) (by simp[Value.oneCell']) (by simp only[maxLen];omega) (by omega);refine⟨g,cap,w',h1,?_,ka.trans h6 (fun _ _ e=>e.elim) (fun _ _ e=>e),h7.imp id (fun h=>by simp at h;omega)⟩;show GS _ _ _ _ _ (l ++ [(a,s)]).length (blV (l ++ [(a,s)]))
 rw[mJ,List.length_append];exact h2
theorem GB.ownT{w0 W:World}{v:Value}{l:List (Nat×Nat)}(h:GB w0 W v l){x:Nat}(hx:v.ownBlock=some x):(∃ cs,W.heap[x]?=some (.cells cs 45 (0,0)))/\w0.heap.size<=x:=by
 rcases h.own.2 with ⟨rfl,_⟩|⟨g,cap,cur,rfl,hb,hg,h3⟩
 ·simp[Value.ownBlock] at hx
 ·simp[Value.ownBlock] at hx;rw[<-hx];exact⟨⟨cur,hg⟩,h.new g cap rfl⟩
theorem GB.iter{w W W':World}{v:Value}{l:List (Nat×Nat)}{r:Nat}(h:GB w W v l)(hk:Kt (fun x=>x=r) W W')(hr:w.heap.size<=r)(hi:∃ m s n q,W.heap[r]?=some (.mapIter m s n q)):GB w W' v l:=by
 refine⟨⟨h.own.1,?_⟩,h.new,h.kp.trans hk (fun _ _ e=>e) (fun x hx e=>by omega)⟩;rcases h.own.2 with h0|⟨g,cap,cur,rfl,hb,hg,h3⟩
 ·exact .inl h0
 ·refine .inr ⟨g,cap,cur,rfl,hb,(hk.block g (lH hg) (fun e=>?_)).trans hg,h3⟩;subst e;obtain⟨_,_,_,_,q2⟩:=hi;rw[hg] at q2
  cases q2
structure SrB(w W:World)(g r:Nat)(D:List (Nat×Nat))(c:Nat×Nat->Nat)(done rest:List (Nat×Nat))(v:Value):Prop where
 rg:RC eB W g r D c rest
 pm:D.Perm (done ++ rest)
 gs:GB w W v done
 gl:g<w.heap.size
 rn:w.heap.size<=r
theorem SrB.next{w W w1 w2:World}{g r:Nat}{D:List (Nat×Nat)}{c:Nat×Nat->Nat}{done rest rest':List (Nat×Nat)}{v v':Value}{x:Nat×Nat}(h:SrB w W g r D c done rest v)(hp:rest.Perm (x :: rest'))(hr:RC eB w1 g r D c rest')(g1:GB w w1 v done)(k2:Kt (fun b=>v.ownBlock=some b) w1 w2)(g2:GB w w2 v' (done ++ [x])):SrB w w2 g r D c (done ++ [x]) rest' v':=by
 refine⟨hr.kept k2 (fun e=>?_) (fun e=>?_),h.pm.trans ?_,g2,h.gl,h.rn⟩
 ·have:=(GB.ownT g1 e).2;have:=h.gl;omega
 ·obtain⟨⟨cs,q⟩,-⟩:=GB.ownT g1 e;obtain⟨_,_,_,_,q2⟩:=RC.iter hr;rw[q] at q2
  cases q2
 ·rw[List.append_assoc];exact List.Perm.append_left _ hp
def BoP(w:World)(D:List (Nat×Nat))(e:Ending)(w':World):Prop:=∃ oa oc,∃ ks:List (Nat×Nat),e=.returned (.slice oa ks.length oc)/\GB w w' (.slice oa ks.length oc) ks/\ks.Perm D/\ks.Pairwise dU
theorem PJ(g:Nat)(D:List (Nat×Nat))(c:Nat×Nat->Nat)(w:World)(hm:MC eB gC w g D c)(hl:D.length<=8796093021952):
  Calls prog 97 #[.map (some g),.func (.func 61) #[] #[]] w (BoP w D):=by
 have eg:∀ args w,(callFunc 61 args).run prog w=.ok (.enter 61 args) w:=enters_of func61 (by kernel_rfl) rfl;obtain⟨n,hn⟩:=xe (D.length);rw[<-hn] at hl;obtain⟨i,hi,hzz⟩:=Option.map_eq_some_iff.1 nR;simp only[Prod.mk.injEq] at hzz;obtain⟨w1,mk1,own1,gr1⟩:=run_make_own (P:=prog) w 0 46 45 i (.agg #[.int .u64 0,.int .u64 0]) 2 Tryz.underlying46 hi hzz.1 hzz.2.1 .i64 .i64 n (by rw[hzz.2.2];omega) (by unfold maxLen;omega) (Nat.zero_le _);have K1:=aA (show Kt nO w w1 from(kZ gr1).mono fun _ _ e=>by cases e);have G1:=aA (show GB w w1 (.slice (some ⟨w.heap.size,0,none⟩) 0 n) [] from⟨own1,fun g cap e=>by simp at e;omega,K1.out⟩);have M0:=aA hm;have M1:=aA (hm.kept K1.out (fun x=>x));have GL:=aA hm.ltsz;have HN:=aA hn;have len0:∀ ty,(Builtin.len_ #[112] ty #[.map (some g)]).run prog w=.ok (.int .i64 n) w:=fun ty=>by rw[hn];exact hm.len Tryz.underlying112 ty
 clear hi hzz own1 gr1 hm hn;go_enter func97,ntmps97;go_wp2_with (first|(at_range;refine tT _ rfl _ 112 rfl 45 3 Tryz.underlying112 g rfl M1.out ?_;intro w0 hrg0 hk0 hs0))
 have I0:=aA (show SrB w w0 g w1.heap.size D c [] D (.slice (some ⟨w.heap.size,0,none⟩) 0 n)from⟨hrg0,by simp,G1.out.keep (hk0.mono fun _ _ e=>e.elim),GL.out,K1.out.size⟩);generalize w1.heap.size=rx at *;clear hrg0 hk0 hs0 mk1 len0;simp only[Act.put,List.setIfInBounds_toArray,List.set_cons_succ,List.set_cons_zero];go_loopw [5] (fun tv W=>∃ (done rest:List (Nat×Nat)) (gb cap:Nat),tv=.slice (some ⟨gb,0,none⟩) done.length cap/\Hid (SrB w W g rx D c done rest (.slice (some ⟨gb,0,none⟩) done.length cap))) (fun _ W=>W.rangeLeft g rx)
 case atStart=>exact⟨[],D,_,n,rfl,I0⟩
 case round=>
  clear I0 K1 M1 G1 M0;obtain⟨done,rest,gb,cap,rfl,HI⟩:=hrel;have HRL:=aA HI.out.rg.left_eq;have DL:=aA (show done.length+rest.length=n by have:=HI.out.pm.length_eq;rw[List.length_append] at this;rw[HN.out];omega);go_wp2_with (first|(at_next;refine tP _ rfl _ rfl g rx rest rfl HI.out.rg ?_ ?_))
  ·intro hd;obtain⟨hH,hgl,hS⟩:=GB.sorted HI.out.gs;have hcon:=AnyQ.slices_SortFunc_total EK 2 Tryz.isAgg45 Tryz.sizeOf45 gE (fun _=>rfl) (fun x v hv=>by simp[gE] at hv;rcases hv with rfl|rfl <;> rfl) fA vB 61 #[] gb 0 cap done.toArray wr eg (fun _ _ _ _ x y=>RX x y _) hH hgl (by have:=DL.out;simp;omega) uZ;obtain⟨ks,hks⟩:=xe (done.mergeSort fun x y=>!(ltOf fA) y x);have SC:=aA (show Calls prog 142 #[.slice (some ⟨gb,0,none⟩) done.length cap,.func (.func 61) #[] #[]] wr fun e w'=>e=.returned (.tuple #[])/\∃ n os,w'=sortWorldK gE 2 wr gb 0 n ks.toArray os from by rw[hks];exact hcon);have KL:=aA (show ks.length=done.length by rw[hks,List.length_mergeSort]);have KP:=aA (show ks.Perm D by
    rw[hks];have:=HI.out.pm;rw[hd,List.append_nil] at this;exact(List.mergeSort_perm _ _).trans this.symm)
   have KW:=aA (show ks.Pairwise dU by
    rw[hks];have:=List.pairwise_mergeSort (le:=fun x y=>!(ltOf fA) y x) (fun a b c h1 h2=>by simp only[gW,Bool.not_eq_true',decide_eq_false_iff_not] at *;unfold dT at *;omega) (fun a b=>by simp only[gW,Bool.or_eq_true,Bool.not_eq_true',decide_eq_false_iff_not];unfold dT;omega) done;refine this.imp fun {a b} h=>?_
    rw[gW] at h;simp only[Bool.not_eq_true',decide_eq_false_iff_not] at h;exact BN h)
   have HS:=aA (fun n os=>hS n ks os KL.out);clear hcon hH hgl hS hks hd;go_wp2_with fail;refine SC.out.mono ?_;rintro e w9 ⟨rfl,q,os,rfl⟩;have FIN:=aA (HS.out q os).1;generalize sortWorldK gE 2 wr gb 0 q ks.toArray os=W9 at *;rw[<-KL.out];go_wp2_with fail;go_ret;exact⟨_,_,ks,rfl,FIN.out,KP.out,KW.out⟩
  ·intro p s rest' w2 hp hrg hk hz hen;have G2:=aA (GB.iter HI.out.gs hk HI.out.rn (RC.iter HI.out.rg));have RL:=aA (show rest.length=rest'.length+1 by rw[hp.length_eq];rfl);have R2:=aA hrg;have P2:=aA hp;have HEN:=aA hen;clear hp hrg hk hz hen;have hen:=HEN.out;obtain⟨g4,cap4,w4,ap4,t4,k4,-⟩:=GB.put21 (G2.out.keep ((Kt.refl nO w2).alloc (bP p s))) p s (by have:=DL.out;omega);rw[show(w2.alloc (bP p s)).heap.size=w2.heap.size+1 by simp] at ap4;have AP4:=aA ap4;have N4:=aA (HI.out.next P2.out R2.out G2.out (((Kt.refl nO w2).alloc (bP p s)).trans k4 (fun _ _ e=>e.elim) (fun _ _ e=>e)) t4);clear ap4 t4 k4;go_wp2_with (at_builtin;refine Lib.wpList_append_run _ rfl _ _ _ _ rfl (.slice (some ⟨gb,0,none⟩) done.length cap) _ rfl rfl _ _ (AP4.out _) ?_)
   refine⟨⟨done ++ [(p,s)],rest',g4,cap4,by simp,aA (by have:=N4.out;simpa using this)⟩,?_⟩;have h1:=N4.out.rg.left_eq;have h2:=RL.out;have h3:=HRL.out;omega
end Go.Proofs.YtkfmheelhinjdaaGreatDoor.W
namespace Go.Proofs.YtkfmheelhinjdaaGreatDoor.W
open _root_.Go.Proofs.Tryz
open Go.RowKit
set_option linter.unusedVariables false
set_option maxHeartbeats 4000000
set_option maxRecDepth 6000
theorem RBk.o{w:World}{v:Value}{l:List (Nat×Nat)}(h:RBk w v l):gY w v l:=by
 obtain⟨oa,oc,e,h0|⟨g,e2,-,hc⟩⟩:=h
 ·exact⟨oa,oc,e,.inl h0⟩
 ·refine⟨oa,oc,e,.inr ⟨g,0,e2,fun j hj=>?_⟩⟩;rw[Nat.zero_add];exact hc j hj
theorem QT{l:List (Nat×Nat)}{j:Nat}(b:Nat×Nat)(h:j<l.length):(l.take (j+1)).count b=(l.take j).count b+if l.getD j (0,0)=b then 1 else 0:=by
 rw[uN h,List.count_append,List.count_singleton];congr 1
 by_cases e:l.getD j (0,0)=b
 ·rw[if_pos e,e];simp
 ·rw[if_neg e,if_neg (by simpa using e)]
theorem tA(v:Value)(l:List (Nat×Nat))(p s:Nat)(w:World)(hl:l.length<=8796093021952)(hv:gY w v l):
  Calls prog 68 #[v,.agg #[.int .u64 p,.int .u64 s]] w fun e w'=>e=.returned (.int .i64 ((l.count (p,s):Nat):Int))/\Kt nO w w':=by
 have HV:=aA hv;obtain⟨va,vc,rfl,-⟩:=hv;obtain⟨n,hn⟩:=xe (l.length);rw[<-hn] at hl HV ⊢;have HN:=aA hn;clear hn;go_enter func68,ntmps68;go_wp2_with fail;have K0:=aA (show Kt nO w (w.alloc (Obj.cells #[.int .u64 p,.int .u64 s] 45))from(Kt.refl nO w).alloc _);have B0:=aA (show(w.alloc (Obj.cells #[.int .u64 p,.int .u64 s] 45)).cell? ⟨w.heap.size,0,none⟩=some (.int .u64 p)/\(w.alloc (Obj.cells #[.int .u64 p,.int .u64 s] 45)).cell? ⟨w.heap.size,1,none⟩=some (.int .u64 s)from by
  have h0:=kK (w:=w) (t:=45) (cs:=#[.int .u64 p,.int .u64 s]) 0 _ rfl;have h1:=kK (w:=w) (t:=45) (cs:=#[.int .u64 p,.int .u64 s]) 1 _ rfl;rw[Addr.add_lit,Nat.zero_add] at h0 h1;exact⟨h0,h1⟩)
 generalize w.alloc _=W0 at *;generalize w.heap.size=xb at *;go_loopw [5,6] (fun cv iv W=>∃ j c:Nat,j<=n/\iv=.int .i64 j/\cv=.int .i64 c/\c<=j/\Hid (c=(l.take j).count (p,s)/\Kt nO W0 W)) (fun _ iv _=>n-(intOf iv).toNat)
 case atStart=>exact⟨0,0,Nat.zero_le _,rfl,rfl,Nat.le_refl _,aA ⟨by simp,Kt.refl _ _⟩⟩
 case round=>
  obtain⟨j,c,hj,rfl,rfl,hcj,HC⟩:=hrel;by_cases hlt:j<n
  ·have hjj:(j:Int)<n:=(by omega);obtain⟨g0,o0,oc0,ev,c1,c2⟩:=(HV.out.keep (nT K0.out HC.out.2)).two j (by rw[<-HN.out];exact hlt);rw[<-HN.out] at ev;injection ev with e1 e2 e3
   subst e1 e3;have CN:=aA (QT (l:=l) (p,s) (j:=j) (by rw[<-HN.out];exact hlt));generalize l.getD j (0,0)=b at *;obtain⟨p',s'⟩:=b;dsimp only at c1 c2;have k1:=fun x:KW wr=>x.k.cell id c1
   have k2:=fun x:KW wr=>x.k.cell id c2
   have k3:=fun x:KW wr=>(nT HC.out.2 x.k).cell id B0.out.1
   have k4:=fun x:KW wr=>(nT HC.out.2 x.k).cell id B0.out.2
   have HI1:=aA (show j+1<=n from hlt);clear c1 c2;by_cases ep:p'=p
   ·by_cases es:s'=s
    ·have hpp:((p':Int) == (p:Int))=true:=(by rw[ep];simp);have hss:((s':Int) == (s:Int))=true:=(by rw[es];simp);have CC:=aA (show c+1=(l.take (j+1)).count (p,s)from by rw[CN.out,if_pos (by rw[ep,es]),<-HC.out.1]);clear ep es;go_upto_region 5 with fail;refine cI (by kernel_rfl) (by kernel_rfl) ?_;repeat (go_big_quiet_step (fail))
     refine wpQuiet_nil ?_;intro x;have KX:=aA (nT HC.out.2 x.k);go_wp2_with fail;exact⟨⟨j+1,c+1,HI1.out,by simp,by simp,by omega,aA ⟨CC.out,KX.out⟩⟩,by simp[intOf];omega⟩
    ·have hpp:((p':Int) == (p:Int))=true:=(by rw[ep];simp);have hss:((s':Int) == (s:Int))=false:=(by rw[beq_eq_false_iff_ne];omega);have CC:=aA (show c=(l.take (j+1)).count (p,s)from by rw[CN.out,if_neg (fun e=>es (congrArg Prod.snd e)),<-HC.out.1];rfl);clear ep es;go_upto_region 5 with fail;refine cI (by kernel_rfl) (by kernel_rfl) ?_;repeat (go_big_quiet_step (fail))
     refine wpQuiet_nil ?_;intro x;have KX:=aA (nT HC.out.2 x.k);go_wp2_with fail;exact⟨⟨j+1,c,HI1.out,by simp,rfl,by omega,aA ⟨CC.out,KX.out⟩⟩,by simp[intOf];omega⟩
   ·have hpp:((p':Int) == (p:Int))=false:=(by rw[beq_eq_false_iff_ne];omega);have CC:=aA (show c=(l.take (j+1)).count (p,s)from by rw[CN.out,if_neg (fun e=>ep (congrArg Prod.fst e)),<-HC.out.1];rfl);clear ep;go_upto_region 5 with fail;refine cI (by kernel_rfl) (by kernel_rfl) ?_;repeat (go_big_quiet_step (fail))
    refine wpQuiet_nil ?_;intro x;have KX:=aA (nT HC.out.2 x.k);go_wp2_with fail;exact⟨⟨j+1,c,HI1.out,by simp,rfl,by omega,aA ⟨CC.out,KX.out⟩⟩,by simp[intOf];omega⟩
  ·have hjj:¬(j:Int)<n:=(by omega);have HF:=aA (show c=l.count (p,s)/\Kt nO w wr from⟨by rw[HC.out.1,List.take_of_length_le (by rw[<-HN.out];omega)],nT K0.out HC.out.2⟩);clear HC;go_wp2_with fail;go_ret;exact⟨congrArg (fun n:Nat=>Ending.returned (.int .i64 n)) HF.out.1,HF.out.2⟩
end Go.Proofs.YtkfmheelhinjdaaGreatDoor.W
namespace Go.Proofs.YtkfmheelhinjdaaGreatDoor.W
open _root_.Go.Proofs.Tryz
open Go.ChangeShapes Go.WideShapes Go.ChangeAt Go.RowKit Go.Deep
set_option linter.unusedVariables false
theorem sl_wt{H:Type}{enc:TypeId×Value->H}{W:World}{t e:TypeId}(hu:prog.underlying t=some (.slice e)){fuel:Nat}{v:Value}{x:DataW H×List MemPlace}
  (hf:DataW.trod enc prog W 0 (fun _=>true) true fuel t [v]=some x) (hw:∀ k∈x.1.weights prog t,k<=reachBytes) {a:Option Addr} {n c:Nat} (hv:v=.slice a n c):n*prog.bytesOf e<=reachBytes:=by
 rcases open_slice hu hf with ⟨hcs,_⟩|⟨x',len,cap,m,nn,D,Pl,hcs,_,hl,hm,hmm,hx,_⟩
 ·simp at hcs;rw[hcs] at hv
  cases hv
  omega
 ·simp at hcs;rw[hcs] at hv
  cases hv
  subst hx;have:=hw ((n+(m-n))*prog.bytesOf e) (by simp[DataW.weights,hu]);exact Nat.le_trans (Nat.mul_le_mul_right _ (Nat.le_add_right n (m-n))) this
end Go.Proofs.YtkfmheelhinjdaaGreatDoor.W
