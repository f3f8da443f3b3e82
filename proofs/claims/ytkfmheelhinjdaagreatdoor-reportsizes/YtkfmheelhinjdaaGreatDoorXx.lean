import Derived.Test.YtkfmheelhinjdaaGreatDoorXw
import Derived.RangeFuncNested
import Derived.RangeFuncBound
import Derived.RangeFuncCalls
import Derived.RangeFuncLeaves
import Derived.Shelf.Abstract
import Derived.Shelf.RegionOpen
import Derived.WalkMore
import Derived.OwnWalkIn
import Derived.TacticsInMore
import Derived.LoopNIn
import Derived.LoopIn
import Derived.Maps.AppendAt
import Derived.ArgAppend
import Derived.Laws.OwnMore
set_option maxRecDepth 1000000
set_option maxHeartbeats 80000000
namespace Go.Proofs.YtkfmheelhinjdaaGreatDoor.M
open Tryz
open Go.RowKit
set_option linter.unusedVariables false
def lown(c b:Nat)(ao:Option Nat):Nat->Prop:=fun x=>x=c\/own b ao x
theorem ListAt.apart{w c b b' hd ao bS R lim n f}(hL:ListAt w c b' hd)(hS:SpA w b ao bS R lim n f):¬own b ao c:=by
 obtain⟨cap,hb,hr⟩:=hS.ex;have hc:=hL.hc;rintro (rfl|e)
 ·rw[hc] at hb;simp at hb
 ·subst e;obtain⟨_,rs,_,hg,_⟩:=hr;rw[hc] at hg;simp at hg
def jD(bS:Nat)(f:Nat->Nat)(hd p:Nat):Nat->Nat:=if hd=0 then dM bS (dM bS f p hd) (p+8) 0 else dM bS (dM bS (dM bS f p hd) (p+8) 0) (hd+8) p
def pushR(bS n:Nat)(f:Nat->Nat)(hd p:Nat):(Nat->Nat)×Nat×Nat:=
 if In bS n p 16 then (if fO bS n f hd 0 then (jD bS f hd p,p,0) else (f,hd,8)) else (f,hd,4)
theorem Kt.lown{w w':World}{c b:Nat}{ao:Option Nat}(h:Kt nO w w'):Kt (lown c b ao) w w':=h.mono (fun _ _ x=>x.elim)
theorem Kt.lown'{w w':World}{c b:Nat}{ao:Option Nat}(h:Kt (own b ao) w w'):Kt (Go.Proofs.YtkfmheelhinjdaaGreatDoor.M.lown c b ao) w w':=h.mono (fun _ _ x=>Or.inr x)
theorem kP{a b' c':World}{c b:Nat}{ao:Option Nat}(h:Kt (lown c b ao) a b')(k:Kt (lown c b ao) b' c'):Kt (lown c b ao) a c':=h.trans k (fun _ _ x=>x) (fun _ _ x=>x)
structure LS(w:World)(c b:Nat)(ao:Option Nat)(bS R lim n:Nat)(f:Nat->Nat)(hd:Nat):Prop where
 s:SpA w b ao bS R lim n f
 l:ListAt w c b hd
theorem LS.keep{w w' c b ao bS R lim n f hd}(h:LS w c b ao bS R lim n f hd)(k:Kt nO w w'):LS w' c b ao bS R lim n f hd:=⟨h.s.keep k,h.l.keep k⟩
theorem LS.stored{w w' c b ao bS R lim n f f' hd}(h:LS w c b ao bS R lim n f hd)(hS:SpA w' b ao bS R lim n f')(k:Kt (own b ao) w w'):LS w' c b ao bS R lim n f' hd:=⟨hS,h.l.kept k (h.l.apart h.s)⟩
theorem LS.head{w c b ao bS R lim n f hd}(h:LS w c b ao bS R lim n f hd)(hd':Nat)(h':hd'<18446744073709551616):LS (w.setCell ⟨c,1,none⟩ (.int .u64 hd')) c b ao bS R lim n f hd':=
 ⟨h.s.kept ((Kt.refl (fun x=>x=c) w).setCell (fun _=>rfl) _) (fun x hx e=>h.l.apart h.s (e▸hx)),h.l.set hd' h'⟩
theorem LS.keptHead{w0 w:World}{c b:Nat}{ao:Option Nat}(k:Kt (lown c b ao) w0 w)(v:Value):Kt (lown c b ao) w0 (w.setCell ⟨c,1,none⟩ v):=k.setCell (fun _=>Or.inl rfl) v
theorem Push_any(c b ao bS R lim n f hd)(p:Nat)(hp:p<18446744073709551616)(w:World)(h:LS w c b ao bS R lim n f hd):
  Calls prog 287 #[.pointer (some ⟨c,0,none⟩),.int .u64 p] w fun e w'=>e=.returned (.int .i64 ((pushR bS n f hd p).2.2:Int))/\LS w' c b ao bS R lim n (pushR bS n f hd p).1 (pushR bS n f hd p).2.1/\Kt (lown c b ao) w w':=by
 have h64:=h.l.h64;have A:=aA (fun w' (k:Kt nO w w')=>iU c b ao bS R lim n f hd p hp w' (h.keep k).s (h.keep k).l);have C:=aA (fun w' (k:Kt nO w w')=>AM c b ao bS R lim n f hd hd 0 h64 (by decide) w' (h.keep k).s (h.keep k).l);rw[show((0:Nat):Int)=0 by rfl] at C;have H:=aA h;obtain⟨u,hu⟩:=xe (kI bS n f p);obtain⟨v,hv⟩:=xe (kG bS n f p);by_cases hin:In bS n p 16
 ·rw[<-hu,<-hv,decide_eq_true hin] at A;by_cases hca:fO bS n f hd 0=true
  ·rw[hca] at C;obtain⟨g,rfl⟩:=h.s.has (by decide) hin;have hpe:pushR bS n f hd p=(jD bS f hd p,p,0):=(by unfold pushR;rw[if_pos hin,if_pos hca]);rw[hpe];have I1:=aA (show In bS n p 8 by unfold In at hin ⊢;omega);have I2:=aA (show In bS n (p+8) 8 by unfold In at hin ⊢;omega);by_cases h0:hd=0
   ·subst h0;have HF:=aA (show jD bS f 0 p=dM bS (dM bS f p 0) (p+8) 0 by simp[jD]);have hc1:=h.l.c1;clear h hu hv hin hca hpe;go_enter func287,ntmps287;go_wp2_with fail;refine(A.out _ (Kt.refl _ w)).mono ?_;rintro e w1 ⟨rfl,k1⟩;have K1:=aA (k1.alloc (.cells #[.int .u64 u,.int .u64 v] 287));have hc1:=(H.out.keep K1.out).l.c1;clear k1;go_wp2_with fail;refine(C.out _ K1.out).mono ?_;rintro e w2 ⟨rfl,k2⟩;have K2:=aA (nT K1.out k2);clear k2 hc1;go_wp2_with fail;refine(rE c b g bS R lim n f 0 p 0 (by decide) _ (H.out.keep K2.out).s (H.out.keep K2.out).l I1.out).mono ?_;rintro e w3 ⟨rfl,hS,hK⟩;have H3:=aA ((H.out.keep K2.out).stored hS hK);have K3:=aA (kP K2.out.lown (hK.lown' (c:=c)));clear hS hK;go_wp2_with fail;refine(oU c b g bS R lim n _ 0 p 0 (by decide) _ H3.out.s H3.out.l I2.out).mono ?_;rintro e w4 ⟨rfl,hS,hK⟩;have H4:=aA (H3.out.stored hS hK);have K4:=aA (kP K3.out (hK.lown' (c:=c)));have hz:=H4.out.l.fz 1;have hc1:=H4.out.l.c1;clear hS hK;go_wp2_with fail;go_ret;refine⟨rfl,?_,LS.keptHead K4.out _⟩;rw[HF.out];exact H4.out.head p hp
   ·have HF:=aA (show jD bS f hd p=dM bS (dM bS (dM bS f p hd) (p+8) 0) (hd+8) p by simp[jD,h0]);have h0i:((hd:Int) == 0)=false:=beq_eq_false_iff_ne.2 (by omega);have I3:=aA (show In bS n (hd+8) 8 by
     unfold fO at hca;have:=of_decide_eq_true hca;rcases this with e|⟨e,_⟩
     ·exact absurd e h0
     ·unfold In at e ⊢;omega)
    have hc1:=h.l.c1;clear h hu hv hin hca hpe;go_enter func287,ntmps287;go_wp2_with fail;refine(A.out _ (Kt.refl _ w)).mono ?_;rintro e w1 ⟨rfl,k1⟩;have K1:=aA (k1.alloc (.cells #[.int .u64 u,.int .u64 v] 287));have hc1:=(H.out.keep K1.out).l.c1;clear k1;go_wp2_with fail;refine(C.out _ K1.out).mono ?_;rintro e w2 ⟨rfl,k2⟩;have K2:=aA (nT K1.out k2);clear k2 hc1;go_wp2_with fail;refine(rE c b g bS R lim n f hd p hd h64 _ (H.out.keep K2.out).s (H.out.keep K2.out).l I1.out).mono ?_;rintro e w3 ⟨rfl,hS,hK⟩;have H3:=aA ((H.out.keep K2.out).stored hS hK);have K3:=aA (kP K2.out.lown (hK.lown' (c:=c)));clear hS hK;go_wp2_with fail;refine(oU c b g bS R lim n _ hd p 0 (by decide) _ H3.out.s H3.out.l I2.out).mono ?_;rintro e w4 ⟨rfl,hS,hK⟩;have H4:=aA (H3.out.stored hS hK);have K4:=aA (kP K3.out (hK.lown' (c:=c)));clear hS hK;go_wp2_with fail;refine(oU c b g bS R lim n _ hd hd p hp _ H4.out.s H4.out.l I3.out).mono ?_;rintro e w5 ⟨rfl,hS,hK⟩;have H5:=aA (H4.out.stored hS hK);have K5:=aA (kP K4.out (hK.lown' (c:=c)));have hz:=H5.out.l.fz 1;have hc1:=H5.out.l.c1;clear hS hK;go_wp2_with fail;go_ret;refine⟨rfl,?_,LS.keptHead K5.out _⟩;rw[HF.out];exact H5.out.head p hp
  ·have hpe:pushR bS n f hd p=(f,hd,8):=(by unfold pushR;rw[if_pos hin,if_neg hca]);rw[hpe];rw[Bool.eq_false_iff.2 hca] at C;have hc1:=h.l.c1;clear h hu hv hin hca hpe;go_enter func287,ntmps287;go_wp2_with fail;refine(A.out _ (Kt.refl _ w)).mono ?_;rintro e w1 ⟨rfl,k1⟩;have K1:=aA (k1.alloc (.cells #[.int .u64 u,.int .u64 v] 287));have hc1:=(H.out.keep K1.out).l.c1;clear k1;go_wp2_with fail;refine(C.out _ K1.out).mono ?_;rintro e w2 ⟨rfl,k2⟩;have K2:=aA (nT K1.out k2);clear k2 hc1;go_wp2_with fail;go_ret;exact⟨rfl,H.out.keep K2.out,K2.out.lown⟩
 ·have hpe:pushR bS n f hd p=(f,hd,4):=by unfold pushR;rw[if_neg hin]
  rw[hpe];rw[<-hu,<-hv,decide_eq_false hin] at A;clear h hu hv hin hpe;go_enter func287,ntmps287;go_wp2_with fail;refine(A.out _ (Kt.refl _ w)).mono ?_;rintro e w1 ⟨rfl,k1⟩;have K1:=aA (k1.alloc (.cells #[.int .u64 u,.int .u64 v] 287));clear k1;go_wp2_with fail;go_ret;exact⟨rfl,H.out.keep K1.out,K1.out.lown⟩
def iV(bS:Nat)(f:Nat->Nat)(p:Nat):Nat->Nat:=
 let q:=pv bS f p;let m:=nx bS f p
 let f1:=if q=0 then f else dM bS f q m
 if m=0 then f1 else dM bS f1 (m+8) q
def removeR(bS n:Nat)(f:Nat->Nat)(hd p:Nat):(Nat->Nat)×Nat×Nat:=
 if In bS n p 16 then (if gK bS n f hd (pv bS f p) p && fO bS n f (nx bS f p) p then (iV bS f p,(if pv bS f p=0 then nx bS f p else hd),0) else (f,hd,8)) else (f,hd,4)
theorem UH{bS n f hd q p}(h:gK bS n f hd q p=true)(h0:q≠0):In bS n q 16:=by
 unfold gK at h;split at h
 ·exact absurd (of_decide_eq_true h).1 h0
 ·exact(of_decide_eq_true h).1
theorem RU{bS n f q p}(h:fO bS n f q p=true)(h0:q≠0):In bS n q 16:=by
 unfold fO at h;rcases of_decide_eq_true h with e|⟨e,_⟩
 ·exact absurd e h0
 ·exact e
theorem Remove_any(c b ao bS R lim n f hd)(p:Nat)(hp:p<18446744073709551616)(w:World)(h:LS w c b ao bS R lim n f hd):
  Calls prog 257 #[.pointer (some ⟨c,0,none⟩),.int .u64 p] w fun e w'=>e=.returned (.int .i64 ((removeR bS n f hd p).2.2:Int))/\LS w' c b ao bS R lim n (removeR bS n f hd p).1 (removeR bS n f hd p).2.1/\Kt (lown c b ao) w w':=by
 have h64:=h.l.h64;have H:=aA h;have A:=aA (fun w' (k:Kt nO w w')=>iU c b ao bS R lim n f hd p hp w' (h.keep k).s (h.keep k).l);by_cases hin:In bS n p 16
 ·have eu:kI bS n f p=nx bS f p:=by unfold kI;rw[if_pos hin]
  have ev:kG bS n f p=pv bS f p:=by unfold kG;rw[if_pos hin]
  have hu64:=h.s.nx_lt p hin;have hv64:=h.s.pv_lt p hin;rw[eu,ev,decide_eq_true hin] at A;have L:=aA (fun w' (k:Kt nO w w')=>XO c b ao bS R lim n f hd (pv bS f p) p hv64 hp w' (h.keep k).s (h.keep k).l);have C:=aA (fun w' (k:Kt nO w w')=>AM c b ao bS R lim n f hd (nx bS f p) p hu64 hp w' (h.keep k).s (h.keep k).l);have hR:removeR bS n f hd p=if gK bS n f hd (pv bS f p) p && fO bS n f (nx bS f p) p then (iV bS f p,(if pv bS f p=0 then nx bS f p else hd),0) else (f,hd,8):=by unfold removeR;rw[if_pos hin]
  have hF:iV bS f p=(let f1:=if pv bS f p=0 then f else dM bS f (pv bS f p) (nx bS f p);if nx bS f p=0 then f1 else dM bS f1 (nx bS f p+8) (pv bS f p)):=rfl;have hI:gK bS n f hd (pv bS f p) p=true->pv bS f p≠0->In bS n (pv bS f p) 16:=UH;have hJ:fO bS n f (nx bS f p) p=true->nx bS f p≠0->In bS n (nx bS f p) 16:=RU;obtain⟨g,rfl⟩:=h.s.has (by decide) hin;rw[hR,hF];clear hR hF eu ev hin h;generalize nx bS f p=u at *;generalize pv bS f p=v at *;generalize hlb:gK bS n f hd v p=lb at *;generalize hcb:fO bS n f u p=cb at *;clear hlb hcb
  cases lb with
  | false=>
   simp only[Bool.false_and,Bool.false_eq_true,if_false];clear C hI hJ;go_enter func257,ntmps257;go_wp2_with fail;refine(A.out _ (Kt.refl _ w)).mono ?_;rintro e w1 ⟨rfl,k1⟩;have K1:=aA (k1.alloc (.cells #[.int .u64 u,.int .u64 v] 287));have hP:=cJ.box (w:=w1) u v;have hp0:=hP.c0;have hp1:=hP.c1;clear k1 hP;go_wp2_with fail;refine(L.out _ K1.out).mono ?_;rintro e w2 ⟨rfl,k2⟩;have K2:=aA (nT K1.out k2);clear k2;go_wp2_with fail;go_ret;exact⟨rfl,H.out.keep K2.out,K2.out.lown⟩
  | true=>
   cases cb with
   | false=>
    simp only[Bool.and_false,Bool.false_eq_true,if_false];clear hI hJ;go_enter func257,ntmps257;go_wp2_with fail;refine(A.out _ (Kt.refl _ w)).mono ?_;rintro e w1 ⟨rfl,k1⟩;have K1:=aA (k1.alloc (.cells #[.int .u64 u,.int .u64 v] 287));have hP:=cJ.box (w:=w1) u v;have hp0:=hP.c0;have hp1:=hP.c1;have HP:=aA hP;clear k1 hP;go_wp2_with fail;refine(L.out _ K1.out).mono ?_;rintro e w2 ⟨rfl,k2⟩;have K2:=aA (nT K1.out k2);have hP2:=HP.out.keep k2;have hp0:=hP2.c0;have hp1:=hP2.c1;clear k2 hP2;go_wp2_with fail;refine(C.out _ K2.out).mono ?_;rintro e w3 ⟨rfl,k3⟩;have K3:=aA (nT K2.out k3);clear k3;go_wp2_with fail;go_ret;exact⟨rfl,H.out.keep K3.out,K3.out.lown⟩
   | true=>
    simp only[Bool.and_true,if_true];have hI1:=hI rfl;have hJ1:=hJ rfl;clear hI hJ;by_cases hv0:v=0
    ·by_cases hu0:u=0
     ·subst hv0;subst hu0;simp only[if_true];clear hI1 hJ1;go_enter func257,ntmps257;go_wp2_with fail;refine(A.out _ (Kt.refl _ w)).mono ?_;rintro e w1 ⟨rfl,k1⟩;have K1:=aA (k1.alloc (.cells #[.int .u64 ((0:Nat):Int),.int .u64 ((0:Nat):Int)] 287));have hP:=cJ.box (w:=w1) 0 0;have hp0:=hP.c0;have hp1:=hP.c1;have HP:=aA hP;clear k1 hP;have HNE:=aA (show ¬w1.heap.size=c by intro e;have:=(H.out.keep K1.out).l.hc;rw[<-e,nH] at this;simp at this);have HNO:=aA (show ¬own b (some g) w1.heap.size by
       intro e;obtain⟨cap,hb,hr⟩:=(H.out.keep K1.out).s.ex;rcases e with e|e
       ·rw[<-e,nH] at hb;simp at hb
       ·cases e
        obtain⟨_,rs,_,hg,_⟩:=hr;rw[nH] at hg;simp at hg)
      go_wp2_with fail;refine(L.out _ K1.out).mono ?_;rintro e w2 ⟨rfl,k2⟩;have K2:=aA (nT K1.out k2);have HP2:=aA (HP.out.keep k2);have hp0:=HP2.out.c0;have hp1:=HP2.out.c1;clear k2 HP;go_wp2_with fail;refine(C.out _ K2.out).mono ?_;rintro e w3 ⟨rfl,k3⟩;have K3:=aA (nT K2.out k3);have H3:=aA (H.out.keep K3.out);have HP3:=aA (HP2.out.keep k3);have hp0:=HP3.out.c0;have hp1:=HP3.out.c1;have hz:=H3.out.l.fz 1;have hc1:=H3.out.l.c1;clear k3 HP2;have HP4:=aA (HP3.out.kept ((Kt.refl (fun x=>x=c) w3).setCell (p:=⟨c,1,none⟩) (fun _=>rfl) (.int .u64 ((0:Nat):Int))) HNE.out);have H4:=aA (H3.out.head 0 (by first|decide|assumption));have K4:=aA (LS.keptHead (K3.out.lown (c:=c) (b:=b) (ao:=some g)) (.int .u64 ((0:Nat):Int)));have hq0:=HP4.out.c0;have hq1:=HP4.out.c1;go_wp2_with fail;go_ret;exact⟨rfl,H4.out,K4.out⟩
     ·subst hv0;have hu0i:((u:Int) == 0)=false:=beq_eq_false_iff_ne.2 (by omega);have IU:=aA (show In bS n (u+8) 8 by have:=hJ1 hu0;unfold In at this ⊢;omega);simp only[if_neg hu0];simp only[if_true];clear hI1 hJ1 hu0;go_enter func257,ntmps257;go_wp2_with fail;refine(A.out _ (Kt.refl _ w)).mono ?_;rintro e w1 ⟨rfl,k1⟩;have K1:=aA (k1.alloc (.cells #[.int .u64 u,.int .u64 ((0:Nat):Int)] 287));have hP:=cJ.box (w:=w1) u 0;have hp0:=hP.c0;have hp1:=hP.c1;have HP:=aA hP;clear k1 hP;have HNE:=aA (show ¬w1.heap.size=c by intro e;have:=(H.out.keep K1.out).l.hc;rw[<-e,nH] at this;simp at this);have HNO:=aA (show ¬own b (some g) w1.heap.size by
       intro e;obtain⟨cap,hb,hr⟩:=(H.out.keep K1.out).s.ex;rcases e with e|e
       ·rw[<-e,nH] at hb;simp at hb
       ·cases e
        obtain⟨_,rs,_,hg,_⟩:=hr;rw[nH] at hg;simp at hg)
      go_wp2_with fail;refine(L.out _ K1.out).mono ?_;rintro e w2 ⟨rfl,k2⟩;have K2:=aA (nT K1.out k2);have HP2:=aA (HP.out.keep k2);have hp0:=HP2.out.c0;have hp1:=HP2.out.c1;clear k2 HP;go_wp2_with fail;refine(C.out _ K2.out).mono ?_;rintro e w3 ⟨rfl,k3⟩;have K3:=aA (nT K2.out k3);have H3:=aA (H.out.keep K3.out);have HP3:=aA (HP2.out.keep k3);have hp0:=HP3.out.c0;have hp1:=HP3.out.c1;have hz:=H3.out.l.fz 1;have hc1:=H3.out.l.c1;clear k3 HP2;have HP4:=aA (HP3.out.kept ((Kt.refl (fun x=>x=c) w3).setCell (p:=⟨c,1,none⟩) (fun _=>rfl) (.int .u64 u)) HNE.out);have H4:=aA (H3.out.head u (by first|decide|assumption));have K4:=aA (LS.keptHead (K3.out.lown (c:=c) (b:=b) (ao:=some g)) (.int .u64 u));have hq0:=HP4.out.c0;have hq1:=HP4.out.c1;clear HP3 H3 K3;go_wp2_with fail;refine(oU c b g bS R lim n _ _ u 0 (by first|decide|assumption) _ H4.out.s H4.out.l IU.out).mono ?_;rintro e w5 ⟨rfl,hS,hK⟩;have H5:=aA (H4.out.stored hS hK);have K5:=aA (kP K4.out (hK.lown' (c:=c)));clear hS hK;go_wp2_with fail;go_ret;exact⟨rfl,H5.out,K5.out⟩
    ·by_cases hu0:u=0
     ·have hv0i:((v:Int) == 0)=false:=beq_eq_false_iff_ne.2 (by omega);have IV:=aA (show In bS n v 8 by have:=hI1 hv0;unfold In at this ⊢;omega);simp only[if_neg hv0];subst hu0;simp only[if_true];clear hI1 hJ1 hv0;go_enter func257,ntmps257;go_wp2_with fail;refine(A.out _ (Kt.refl _ w)).mono ?_;rintro e w1 ⟨rfl,k1⟩;have K1:=aA (k1.alloc (.cells #[.int .u64 ((0:Nat):Int),.int .u64 v] 287));have hP:=cJ.box (w:=w1) 0 v;have hp0:=hP.c0;have hp1:=hP.c1;have HP:=aA hP;clear k1 hP;have HNE:=aA (show ¬w1.heap.size=c by intro e;have:=(H.out.keep K1.out).l.hc;rw[<-e,nH] at this;simp at this);have HNO:=aA (show ¬own b (some g) w1.heap.size by
       intro e;obtain⟨cap,hb,hr⟩:=(H.out.keep K1.out).s.ex;rcases e with e|e
       ·rw[<-e,nH] at hb;simp at hb
       ·cases e
        obtain⟨_,rs,_,hg,_⟩:=hr;rw[nH] at hg;simp at hg)
      go_wp2_with fail;refine(L.out _ K1.out).mono ?_;rintro e w2 ⟨rfl,k2⟩;have K2:=aA (nT K1.out k2);have HP2:=aA (HP.out.keep k2);have hp0:=HP2.out.c0;have hp1:=HP2.out.c1;clear k2 HP;go_wp2_with fail;refine(C.out _ K2.out).mono ?_;rintro e w3 ⟨rfl,k3⟩;have K3:=aA (nT K2.out k3);have H3:=aA (H.out.keep K3.out);have HP3:=aA (HP2.out.keep k3);have hp0:=HP3.out.c0;have hp1:=HP3.out.c1;have hz:=H3.out.l.fz 1;have hc1:=H3.out.l.c1;clear k3 HP2;go_wp2_with fail;refine(rE c b g bS R lim n f hd v 0 (by first|decide|assumption) _ H3.out.s H3.out.l IV.out).mono ?_;rintro e w4 ⟨rfl,hS,hK⟩;have H4:=aA (H3.out.stored hS hK);have K4:=aA (kP K3.out.lown (hK.lown' (c:=c)));have HP4:=aA (HP3.out.kept hK HNO.out);have hq0:=HP4.out.c0;have hq1:=HP4.out.c1;clear hS hK HP3 H3 K3;go_wp2_with fail;go_ret;exact⟨rfl,H4.out,K4.out⟩
     ·have hv0i:((v:Int) == 0)=false:=beq_eq_false_iff_ne.2 (by omega);have IV:=aA (show In bS n v 8 by have:=hI1 hv0;unfold In at this ⊢;omega);simp only[if_neg hv0];have hu0i:((u:Int) == 0)=false:=beq_eq_false_iff_ne.2 (by omega);have IU:=aA (show In bS n (u+8) 8 by have:=hJ1 hu0;unfold In at this ⊢;omega);simp only[if_neg hu0];clear hI1 hJ1 hv0 hu0;go_enter func257,ntmps257;go_wp2_with fail;refine(A.out _ (Kt.refl _ w)).mono ?_;rintro e w1 ⟨rfl,k1⟩;have K1:=aA (k1.alloc (.cells #[.int .u64 u,.int .u64 v] 287));have hP:=cJ.box (w:=w1) u v;have hp0:=hP.c0;have hp1:=hP.c1;have HP:=aA hP;clear k1 hP;have HNE:=aA (show ¬w1.heap.size=c by intro e;have:=(H.out.keep K1.out).l.hc;rw[<-e,nH] at this;simp at this);have HNO:=aA (show ¬own b (some g) w1.heap.size by
       intro e;obtain⟨cap,hb,hr⟩:=(H.out.keep K1.out).s.ex;rcases e with e|e
       ·rw[<-e,nH] at hb;simp at hb
       ·cases e
        obtain⟨_,rs,_,hg,_⟩:=hr;rw[nH] at hg;simp at hg)
      go_wp2_with fail;refine(L.out _ K1.out).mono ?_;rintro e w2 ⟨rfl,k2⟩;have K2:=aA (nT K1.out k2);have HP2:=aA (HP.out.keep k2);have hp0:=HP2.out.c0;have hp1:=HP2.out.c1;clear k2 HP;go_wp2_with fail;refine(C.out _ K2.out).mono ?_;rintro e w3 ⟨rfl,k3⟩;have K3:=aA (nT K2.out k3);have H3:=aA (H.out.keep K3.out);have HP3:=aA (HP2.out.keep k3);have hp0:=HP3.out.c0;have hp1:=HP3.out.c1;have hz:=H3.out.l.fz 1;have hc1:=H3.out.l.c1;clear k3 HP2;go_wp2_with fail;refine(rE c b g bS R lim n f hd v u (by first|decide|assumption) _ H3.out.s H3.out.l IV.out).mono ?_;rintro e w4 ⟨rfl,hS,hK⟩;have H4:=aA (H3.out.stored hS hK);have K4:=aA (kP K3.out.lown (hK.lown' (c:=c)));have HP4:=aA (HP3.out.kept hK HNO.out);have hq0:=HP4.out.c0;have hq1:=HP4.out.c1;clear hS hK HP3 H3 K3;go_wp2_with fail;refine(oU c b g bS R lim n _ _ u v (by first|decide|assumption) _ H4.out.s H4.out.l IU.out).mono ?_;rintro e w5 ⟨rfl,hS,hK⟩;have H5:=aA (H4.out.stored hS hK);have K5:=aA (kP K4.out (hK.lown' (c:=c)));clear hS hK;go_wp2_with fail;go_ret;exact⟨rfl,H5.out,K5.out⟩
 ·have hpe:removeR bS n f hd p=(f,hd,4):=by unfold removeR;rw[if_neg hin]
  rw[hpe];rw[decide_eq_false hin] at A;generalize kI bS n f p=u at *;generalize kG bS n f p=v at *;clear h hin hpe;go_enter func257,ntmps257;go_wp2_with fail;refine(A.out _ (Kt.refl _ w)).mono ?_;rintro e w1 ⟨rfl,k1⟩;have K1:=aA (k1.alloc (.cells #[.int .u64 u,.int .u64 v] 287));clear k1;go_wp2_with fail;go_ret;exact⟨rfl,H.out.keep K1.out,K1.out.lown⟩
def popR(bS n:Nat)(f:Nat->Nat)(hd:Nat):(Nat->Nat)×Nat×Nat×Nat:=
 if hd=0 then (f,hd,0,9) else if (removeR bS n f hd hd).2.2=0 then ((removeR bS n f hd hd).1,(removeR bS n f hd hd).2.1,hd,0) else (f,hd,0,(removeR bS n f hd hd).2.2)
theorem AR{bS n f hd p}(h:(removeR bS n f hd p).2.2≠0):(removeR bS n f hd p).1=f/\(removeR bS n f hd p).2.1=hd:=by
 revert h
 unfold removeR;split
 ·split
  ·intro h;exact absurd rfl h
  ·intro _;exact⟨rfl,rfl⟩
 ·intro _;exact⟨rfl,rfl⟩
theorem WZ(bS n f hd p):(removeR bS n f hd p).2.2<=8:=by
 unfold removeR;split
 ·split
  ·exact Nat.zero_le _
  ·exact Nat.le_refl _
 ·exact(by omega : 4<=8)
theorem Pop_any(c b ao bS R lim n f hd)(w:World)(h:LS w c b ao bS R lim n f hd):
  Calls prog 206 #[.pointer (some ⟨c,0,none⟩)] w fun e w'=>e=.returned (.tuple #[.int .u64 ((popR bS n f hd).2.2.1:Int),.int .i64 ((popR bS n f hd).2.2.2:Int)])/\LS w' c b ao bS R lim n (popR bS n f hd).1 (popR bS n f hd).2.1/\Kt (lown c b ao) w w':=by
 have h64:=h.l.h64;have hc1:=h.l.c1;by_cases h0:hd=0
 ·subst h0;have hpe:popR bS n f 0=(f,0,0,9):=by simp[popR]
  rw[hpe];have H:=aA h;clear h hpe;go_enter func206,ntmps206;go_wp2
  exact⟨rfl,_,by simp[results,results206,go_sem],rfl,H.out,Kt.refl _ _⟩
 ·have h0i:((hd:Int) == 0)=false:=beq_eq_false_iff_ne.2 (by omega);have A:=aA (Remove_any c b ao bS R lim n f hd hd h64 w h);by_cases he:(removeR bS n f hd hd).2.2=0
  ·have hpe:popR bS n f hd=((removeR bS n f hd hd).1,(removeR bS n f hd hd).2.1,hd,0):=(by unfold popR;rw[if_neg h0,if_pos he]);rw[hpe];rw[he] at A;generalize (removeR bS n f hd hd).1=f' at *;generalize (removeR bS n f hd hd).2.1=hd' at *;clear h hpe he h0;go_enter func206,ntmps206;go_wp2_with fail;refine A.out.mono ?_;rintro e w1 ⟨rfl,h1,k1⟩;have H1:=aA h1;have K1:=aA k1;clear h1 k1;go_wp2_with fail;exact⟨rfl,_,by simp[results,results206,go_sem],rfl,H1.out,K1.out⟩
  ·have hpe:popR bS n f hd=(f,hd,0,(removeR bS n f hd hd).2.2):=(by unfold popR;rw[if_neg h0,if_neg he]);rw[hpe];rw[(AR he).1,(AR he).2] at A;have hle:=WZ bS n f hd hd;generalize (removeR bS n f hd hd).2.2=x at *;have hxi:((x:Int) == 0)=false:=beq_eq_false_iff_ne.2 (by omega);clear h hpe he h0;go_enter func206,ntmps206;go_wp2_with fail;refine A.out.mono ?_;rintro e w1 ⟨rfl,h1,k1⟩;have H1:=aA h1;have K1:=aA k1;clear h1 k1;go_wp2_with fail;exact⟨rfl,_,by simp[results,results206,go_sem],rfl,H1.out,K1.out⟩
theorem Byte_any(b ao bS R lim n f)(p:Nat)(hp:p<18446744073709551616)(w:World)(h:SpA w b ao bS R lim n f):
  Calls prog 256 #[.pointer (some ⟨b,0,none⟩),.int .u64 p] w fun e w'=>e=.returned (.tuple #[.int .u8 ((if In bS n p 1 then f (p-bS) else 0:Nat):Int),.int .i64 (if In bS n p 1 then 0 else 4)])/\Kt nO w w':=by
 by_cases hin:In bS n p 1
 ·obtain⟨g,rfl⟩:=h.has (by decide) hin;refine(JJ b g bS R lim n f p w h hin).mono ?_;rintro e w' ⟨rfl,k⟩;rw[if_pos hin,if_pos hin];exact⟨rfl,k⟩
 ·refine(OH b ao bS R lim n f p 1 0 none 0 w h hp (by decide) (by decide) hin).mono ?_;rintro e w' ⟨rfl,k⟩;rw[if_neg hin,if_neg hin];exact⟨rfl,k⟩
end Go.Proofs.YtkfmheelhinjdaaGreatDoor.M
namespace Go.Proofs.YtkfmheelhinjdaaGreatDoor.M
open Tryz
open Go.RowKit Go.Shelf
set_option linter.unusedVariables false
attribute [local go_sem] Oper.semAt_some
open Classical in
attribute [local go_sem] Oper.semAt_some
attribute [local go_sem] Oper.semAt_some
end Go.Proofs.YtkfmheelhinjdaaGreatDoor.M
