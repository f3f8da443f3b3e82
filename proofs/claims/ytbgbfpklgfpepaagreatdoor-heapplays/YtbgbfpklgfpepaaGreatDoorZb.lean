import Derived.Test.YtbgbfpklgfpepaaGreatDoorZa
import Derived.RangeFuncNested
import Derived.RangeFuncBound
import Derived.RangeFuncCalls
import Derived.RangeFuncLeaves
import Derived.Shelf.Abstract
import Derived.Shelf.RegionOpen
import Derived.WalkMore
import Derived.OwnWalkIn
import Derived.TacticsInMore
import Derived.LoopNIn
import Derived.LoopIn
import Derived.Maps.AppendAt
import Derived.ArgAppend
import Derived.Laws.OwnMore
set_option maxRecDepth 1000000
set_option maxHeartbeats 80000000
namespace Go.Proofs.YtbgbfpklgfpepaaGreatDoor.M
open Tryz
open Go.RowKit
set_option linter.unusedVariables false
instance (bS n p k:Nat):Decidable (In bS n p k):=inferInstanceAs (Decidable (_/\_))
structure ListAt(w:World)(c b hd:Nat):Prop where
 hc:w.heap[c]?=some (.cells #[.pointer (some ⟨b,0,none⟩),.int .u64 hd] 250 (0,0))
 h64:hd<18446744073709551616
theorem ListAt.lt{w c b hd}(h:ListAt w c b hd):c<w.heap.size:=(Array.getElem?_eq_some_iff.1 h.hc).1
theorem ListAt.c0{w c b hd}(h:ListAt w c b hd):w.cell? ⟨c,0,none⟩=some (.pointer (some ⟨b,0,none⟩)):=by simp[World.cell?,h.hc]
theorem ListAt.c1{w c b hd}(h:ListAt w c b hd):w.cell? ⟨c,1,none⟩=some (.int .u64 hd):=by simp[World.cell?,h.hc]
theorem ListAt.fz{w c b hd}(h:ListAt w c b hd)(i:Nat):w.frozen? ⟨c,i,none⟩=false:=by simp[World.frozen?,h.hc]
theorem ListAt.kept{w w' c b hd}{S:Nat->Prop}(h:ListAt w c b hd)(k:Kt S w w')(hS:¬S c):ListAt w' c b hd:=⟨(k.block c h.lt hS).trans h.hc,h.h64⟩
theorem ListAt.keep{w w' c b hd}(h:ListAt w c b hd)(k:Kt nO w w'):ListAt w' c b hd:=h.kept k (fun x=>x)
theorem bB{w:World}{k:Nat}{cs:Array Value}{t:TypeId}{z:Nat×Nat}(h:w.heap[k]?=some (.cells cs t z))(i:Nat)(u:Value):(w.setCell ⟨k,i,none⟩ u).heap[k]?=some (.cells (cs.setIfInBounds i u) t z):=by
 obtain⟨hlt,hk⟩:=Array.getElem?_eq_some_iff.1 h;show(w.heap.modify k _)[k]?=_
 rw[Array.getElem?_eq_getElem (by rw[Array.size_modify];exact hlt),Array.getElem_modify_self,hk];rfl
theorem ListAt.set{w c b hd}(h:ListAt w c b hd)(hd':Nat)(h':hd'<18446744073709551616):ListAt (w.setCell ⟨c,1,none⟩ (.int .u64 hd')) c b hd':=⟨bB h.hc 1 _,h'⟩
def dG(w:World)(k:Nat)(x y:Nat):Prop:=w.heap[k]?=some (.cells #[.int .u64 x,.int .u64 y] 252 (0,0))
theorem dG.lt{w k x y}(h:dG w k x y):k<w.heap.size:=(Array.getElem?_eq_some_iff.1 h).1
theorem dG.c0{w k x y}(h:dG w k x y):w.cell? ⟨k,0,none⟩=some (.int .u64 x):=by simp[World.cell?,show w.heap[k]?=_ from h]
theorem dG.c1{w k x y}(h:dG w k x y):w.cell? ⟨k,1,none⟩=some (.int .u64 y):=by simp[World.cell?,show w.heap[k]?=_ from h]
theorem dG.fz{w k x y}(h:dG w k x y)(i:Nat):w.frozen? ⟨k,i,none⟩=false:=by simp[World.frozen?,show w.heap[k]?=_ from h]
theorem dG.kept{w w' k x y}{S:Nat->Prop}(h:dG w k x y)(hk:Kt S w w')(hS:¬S k):dG w' k x y:=(hk.block k h.lt hS).trans h
theorem dG.keep{w w' k x y}(h:dG w k x y)(hk:Kt nO w w'):dG w' k x y:=h.kept hk (fun x=>x)
theorem dG.new(w:World):dG (w.alloc (.cells #[.int .u64 0,.int .u64 0] 252)) w.heap.size 0 0:=nH _ _
theorem dG.set{w k x y}(h:dG w k x y)(x' y':Nat):dG ((w.setCell ⟨k,0,none⟩ (.int .u64 x')).setCell ⟨k,1,none⟩ (.int .u64 y')) k x' y':=by
 exact bB (bB h 0 _) 1 _
def nx(bS:Nat)(f:Nat->Nat)(p:Nat):Nat:=word f (p-bS)
def pv(bS:Nat)(f:Nat->Nat)(p:Nat):Nat:=word f (p+8-bS)
def fE(bS:Nat)(f:Nat->Nat)(p v:Nat):Nat->Nat:=upd f (p-bS) 8 (byteOf v)
theorem word_lt(f:Nat->Nat)(o:Nat)(h:∀ i,i<8->f (o+i)<256):word f o<18446744073709551616:=wordTo_lt (fun i=>f (o+i)) 8 h
theorem SpA.word_lt{w b ao bS R lim n f}(h:SpA w b ao bS R lim n f)(o:Nat)(ho:o+8<=n):word f o<18446744073709551616:=by
 cases ao with
 | none=>
  obtain⟨cap,_,h0,_⟩:=h.ex;omega
 | some g=>exact Go.Proofs.YtbgbfpklgfpepaaGreatDoor.M.word_lt f o (fun i hi=>h.f256 _ (by omega))
theorem SpA.nx_lt{w b ao bS R lim n f}(h:SpA w b ao bS R lim n f)(p:Nat)(hp:In bS n p 16):nx bS f p<18446744073709551616:=h.word_lt _ (by unfold In at hp;omega)
theorem SpA.pv_lt{w b ao bS R lim n f}(h:SpA w b ao bS R lim n f)(p:Nat)(hp:In bS n p 16):pv bS f p<18446744073709551616:=h.word_lt _ (by unfold In at hp;omega)
theorem SpA.end_le{w b ao bS R lim n f}(h:SpA w b ao bS R lim n f):bS+n<=9223372036854775808:=by
 have:=h.nle;have:=h.cfg.be;omega
theorem SpA.has{w b ao bS R lim n f}(h:SpA w b ao bS R lim n f){p k:Nat}(hk : 0<k)(hp:In bS n p k):∃ g,ao=Option.some g:=by
 cases ao with
 | none=>
  obtain⟨cap,_,h0,_⟩:=h.ex;unfold In at hp;omega
 | some g=>exact⟨g,rfl⟩
theorem rE(b ao bS R lim n f)(p:Nat)(hp:p<18446744073709551616)(w:World)(h:SpA w b ao bS R lim n f):
  Calls prog 56 #[.pointer (some ⟨b,0,none⟩),.int .u64 p] w fun e w'=>e=.returned (.tuple #[.int .u64 ((if In bS n p 8 then word f (p-bS) else 0:Nat):Int),.int .i64 (if In bS n p 8 then 0 else 4)])/\Kt nO w w':=by
 by_cases hin:In bS n p 8
 ·obtain⟨g,rfl⟩:=h.has (by decide) hin;refine(Word_in b g bS R lim n f p w h hin).mono ?_;rintro e w' ⟨rfl,k⟩;rw[if_pos hin,if_pos hin];exact⟨rfl,k⟩
 ·refine(WN b ao bS R lim n f p 8 0 none 0 w h hp (by decide) (by decide) hin).mono ?_;rintro e w' ⟨rfl,k⟩;rw[if_neg hin,if_neg hin];exact⟨rfl,k⟩
theorem Kt.new2{w w':World}(h:Kt nO w w')(k:Nat)(hk:w.heap.size<=k)(u v:Value):Kt nO w ((w'.setCell ⟨k,0,none⟩ u).setCell ⟨k,1,none⟩ v):=
 (h.setCell (fun e=>absurd e (by simp;omega)) _).setCell (fun e=>absurd e (by simp;omega)) _
theorem nT{a b c:World}(h:Kt nO a b)(k:Kt nO b c):Kt nO a c:=h.trans k (fun _ _ x=>x) (fun _ _ x=>x)
theorem FA(c b ao bS R lim n f hd)(p:Nat)(w:World)(hS:SpA w b ao bS R lim n f)(hL:ListAt w c b hd)(hin:In bS n p 16):
  Calls prog 210 #[.pointer (some ⟨c,0,none⟩),.int .u64 p] w fun e w'=>e=.returned (.tuple #[.agg #[.int .u64 (nx bS f p:Int),.int .u64 (pv bS f p:Int)],.bool true])/\Kt nO w w':=by
 have hend:=hS.end_le;have hp64:p+8<18446744073709551616:=by unfold In at hin;omega
 have i1:In bS n p 8:=by unfold In at hin ⊢;omega
 have i2:In bS n (p+8) 8:=by unfold In at hin ⊢;omega
 have W1:=aA (fun w' (k:Kt nO w w')=>rE b ao bS R lim n f p (by omega) w' (hS.keep k));have W2:=aA (fun w' (k:Kt nO w w')=>rE b ao bS R lim n f (p+8) (by omega) w' (hS.keep k));rw[if_pos i1,if_pos i1] at W1;rw[if_pos i2,if_pos i2] at W2;have E8:=aA (show((p+8:Nat):Int)=(p:Int)+8 by omega);obtain⟨x,hx⟩:=xe (nx bS f p);obtain⟨y,hy⟩:=xe (pv bS f p);have ex:word f (p-bS)=x:=hx.symm;have ey:word f (p+8-bS)=y:=hy.symm;rw[<-hx,<-hy];rw[ex] at W1;rw[ey,E8.out] at W2;have HL:=aA hL;have hc0:=(hL.keep ((Kt.refl _ w).alloc (.cells #[.int .u64 0,.int .u64 0] 252))).c0;clear hS hL hin i1 i2 ex ey hx hy E8 hend;go_enter func210,ntmps210;go_wp2_with fail;refine(W1.out _ ((Kt.refl _ w).alloc _)).mono ?_;rintro e w1 ⟨rfl,k1⟩;have K1:=aA k1;have hc1:=(HL.out.keep ((Kt.refl _ w).alloc _)).keep k1 |>.c0
 clear k1 hc0;go_wp2_with fail;refine(W2.out _ (nT ((Kt.refl _ w).alloc _) K1.out)).mono ?_;rintro e w2 ⟨rfl,k2⟩;have hP:=((dG.new w).keep K1.out).keep k2;have K2:=aA (nT (nT ((Kt.refl nO w).alloc _) K1.out) k2);have hz0:=hP.fz 0;have hz1:=hP.fz 1;have hd0:=hP.c0;have hd1:=hP.c1;have HP:=aA hP;clear k2 hP;go_wp2_with fail;have h2:=HP.out.set x y;exact⟨rfl,_,by simp[results,results210,go_sem,h2.c0,h2.c1],rfl,K2.out.new2 w.heap.size (Nat.le_refl _) _ _⟩
theorem BF(c b ao bS R lim n f hd)(p:Nat)(hp:p<18446744073709551616)(w:World)(hS:SpA w b ao bS R lim n f)(hL:ListAt w c b hd)(hin:¬In bS n p 16):
  Calls prog 210 #[.pointer (some ⟨c,0,none⟩),.int .u64 p] w fun e w'=>e=.returned (.tuple #[.agg #[.int .u64 0,.int .u64 0],.bool false])/\Kt nO w w':=by
 have hend:=hS.end_le;by_cases i1:In bS n p 8
 ·have hp64:p+8<18446744073709551616:=by unfold In at i1;omega
  have i2:¬In bS n (p+8) 8:=by unfold In at hin i1 ⊢;omega
  have W1:=aA (fun w' (k:Kt nO w w')=>rE b ao bS R lim n f p (by omega) w' (hS.keep k));have W2:=aA (fun w' (k:Kt nO w w')=>rE b ao bS R lim n f (p+8) (by omega) w' (hS.keep k));rw[if_pos i1,if_pos i1] at W1;rw[if_neg i2,if_neg i2] at W2;have E8:=aA (show((p+8:Nat):Int)=(p:Int)+8 by omega);obtain⟨x,hx⟩:=xe (nx bS f p);have ex:word f (p-bS)=x:=hx.symm;rw[ex] at W1;rw[E8.out] at W2;have HL:=aA hL;have hc0:=(hL.keep ((Kt.refl _ w).alloc (.cells #[.int .u64 0,.int .u64 0] 252))).c0;clear hS hL hin i1 i2 ex hx E8 hend;go_enter func210,ntmps210;go_wp2_with fail;refine(W1.out _ ((Kt.refl _ w).alloc _)).mono ?_;rintro e w1 ⟨rfl,k1⟩;have K1:=aA k1;have hc1:=(HL.out.keep ((Kt.refl _ w).alloc _)).keep k1 |>.c0
  clear k1 hc0;go_wp2_with fail;refine(W2.out _ (nT ((Kt.refl _ w).alloc _) K1.out)).mono ?_;rintro e w2 ⟨rfl,k2⟩;have hP:=((dG.new w).keep K1.out).keep k2;have K2:=aA (nT (nT ((Kt.refl nO w).alloc _) K1.out) k2);have hz0:=hP.fz 0;have hz1:=hP.fz 1;have hd0:=hP.c0;have hd1:=hP.c1;have HP:=aA hP;clear k2 hP;go_wp2_with fail;have h2:=HP.out.set 0 0;exact⟨rfl,_,by simp[results,results210,go_sem,hd0,hd1],rfl,K2.out.new2 w.heap.size (Nat.le_refl _) _ _⟩
 ·have W1:=aA (fun w' (k:Kt nO w w')=>rE b ao bS R lim n f p hp w' (hS.keep k));rw[if_neg i1,if_neg i1] at W1;have hc0:=(hL.keep ((Kt.refl _ w).alloc (.cells #[.int .u64 0,.int .u64 0] 252))).c0;clear hS hL hin i1 hend;go_enter func210,ntmps210;go_wp2_with fail;refine(W1.out _ ((Kt.refl _ w).alloc _)).mono ?_;rintro e w2 ⟨rfl,k2⟩;have hP:=(dG.new w).keep k2;have K2:=aA (nT ((Kt.refl nO w).alloc _) k2);have hz0:=hP.fz 0;have hz1:=hP.fz 1;have hd0:=hP.c0;have hd1:=hP.c1;have HP:=aA hP;clear k2 hP;go_wp2_with fail;have h2:=HP.out.set 0 0;exact⟨rfl,_,by simp[results,results210,go_sem,hd0,hd1],rfl,K2.out.new2 w.heap.size (Nat.le_refl _) _ _⟩
def mI(bS n:Nat)(f:Nat->Nat)(p:Nat):Nat:=if In bS n p 16 then nx bS f p else 0
def mH(bS n:Nat)(f:Nat->Nat)(p:Nat):Nat:=if In bS n p 16 then pv bS f p else 0
theorem jR(c b ao bS R lim n f hd)(p:Nat)(hp:p<18446744073709551616)(w:World)(hS:SpA w b ao bS R lim n f)(hL:ListAt w c b hd):
  Calls prog 210 #[.pointer (some ⟨c,0,none⟩),.int .u64 p] w fun e w'=>e=.returned (.tuple #[.agg #[.int .u64 (mI bS n f p:Int),.int .u64 (mH bS n f p:Int)],.bool (decide (In bS n p 16))])/\Kt nO w w':=by
 by_cases hin:In bS n p 16
 ·refine(FA c b ao bS R lim n f hd p w hS hL hin).mono ?_;rintro e w' ⟨rfl,k⟩;refine⟨?_,k⟩;unfold mI mH;rw[if_pos hin,if_pos hin,decide_eq_true hin]
 ·refine(BF c b ao bS R lim n f hd p hp w hS hL hin).mono ?_;rintro e w' ⟨rfl,k⟩;refine⟨?_,k⟩;unfold mI mH;rw[if_neg hin,if_neg hin,decide_eq_false hin];rfl
theorem dG.box{w:World}(x y:Nat):dG (w.alloc (.cells #[.int .u64 x,.int .u64 y] 252)) w.heap.size x y:=nH _ _
def iI(bS n:Nat)(f:Nat->Nat)(q b:Nat):Bool:=decide (q=0\/(In bS n q 16/\pv bS f q=b))
theorem JZ(c b ao bS R lim n f hd)(q x:Nat)(hq:q<18446744073709551616)(hx:x<18446744073709551616)(w:World)(hS:SpA w b ao bS R lim n f)(hL:ListAt w c b hd):
  Calls prog 211 #[.pointer (some ⟨c,0,none⟩),.int .u64 q,.int .u64 x] w fun e w'=>e=.returned (.bool (iI bS n f q x))/\Kt nO w w':=by
 by_cases h0:q=0
 ·subst h0;clear hS hL;go_enter func211,ntmps211;go_wp2
  go_ret;exact⟨by simp[iI],Kt.refl _ _⟩
 ·have A:=aA (jR c b ao bS R lim n f hd q hq w hS hL);have h0i:((q:Int) == 0)=false:=beq_eq_false_iff_ne.2 (by omega);obtain⟨u,hu⟩:=xe (mI bS n f q);obtain⟨v,hv⟩:=xe (mH bS n f q);have HB:=aA (show iI bS n f q x=decide (In bS n q 16/\v=x)by
   unfold iI;congr 1
   rw[hv];unfold mH;by_cases hi:In bS n q 16
   ·simp[h0,hi]
   ·simp[h0,hi])
  obtain⟨t,ht⟩:=xe (decide (In bS n q 16));have HT:=aA (show decide (In bS n q 16/\v=x)=(t && decide (v=x))by rw[ht];simp);rw[<-hu,<-hv,<-ht] at A;clear hS hL hu hv ht;rw[HB.out,HT.out];clear HB HT;by_cases hvx:v=x
  ·have hvxi:((v:Int) == (x:Int))=true:=beq_iff_eq.2 (by omega)
   cases t
   all_goals
    go_enter func211,ntmps211;go_wp2_with fail;refine A.out.mono ?_;rintro e w1 ⟨rfl,k1⟩;have HK:=aA k1;have hP:=dG.box (w:=w1) u v;have hp0:=hP.c0;have hp1:=hP.c1;clear k1 hP;go_wp2_with fail;go_ret;exact⟨by simp[hvx],HK.out.alloc _⟩
  ·have hvxi:((v:Int) == (x:Int))=false:=beq_eq_false_iff_ne.2 (by omega)
   cases t
   all_goals
    go_enter func211,ntmps211;go_wp2_with fail;refine A.out.mono ?_;rintro e w1 ⟨rfl,k1⟩;have HK:=aA k1;have hP:=dG.box (w:=w1) u v;have hp0:=hP.c0;have hp1:=hP.c1;clear k1 hP;go_wp2_with fail;go_ret;exact⟨by simp[hvx],HK.out.alloc _⟩
def jF(bS n:Nat)(f:Nat->Nat)(hd q p:Nat):Bool:=if q=0\/p=hd then decide (q=0/\p=hd) else decide (In bS n q 16/\nx bS f q=p)
theorem zf1(c b ao bS R lim n f hd)(q p:Nat)(hq:q<18446744073709551616)(hp:p<18446744073709551616)(w:World)(hS:SpA w b ao bS R lim n f)(hL:ListAt w c b hd):
  Calls prog 217 #[.pointer (some ⟨c,0,none⟩),.int .u64 q,.int .u64 p] w fun e w'=>e=.returned (.bool (jF bS n f hd q p))/\Kt nO w w':=by
 have hc1:=hL.c1;have h64:=hL.h64;by_cases h0:q=0
 ·subst h0;obtain⟨t,ht⟩:∃ t,((p:Int) == (hd:Int))=t:=⟨_,rfl⟩;have HT:=aA (show jF bS n f hd 0 p=t by
   rw[<-ht];by_cases hph:p=hd
   ·simp[jF,hph]
   ·have:((p:Int) == (hd:Int))=false:=beq_eq_false_iff_ne.2 (by omega);simp[jF,hph,this])
  rw[HT.out];clear hS hL HT;go_enter func217,ntmps217;go_wp2
  go_ret;exact⟨rfl,Kt.refl _ _⟩
 ·have h0i:((q:Int) == 0)=false:=beq_eq_false_iff_ne.2 (by omega);by_cases hph:p=hd
  ·subst hph;clear hS hL;go_enter func217,ntmps217;go_wp2
   go_ret;exact⟨by simp[jF,h0],Kt.refl _ _⟩
  ·have hphi:((p:Int) == (hd:Int))=false:=beq_eq_false_iff_ne.2 (by omega);have A:=aA (jR c b ao bS R lim n f hd q hq w hS hL);obtain⟨u,hu⟩:=xe (mI bS n f q);obtain⟨v,hv⟩:=xe (mH bS n f q);obtain⟨t,ht⟩:=xe (decide (In bS n q 16));have HB:=aA (show jF bS n f hd q p=(t && decide (u=p))by
    unfold jF;rw[if_neg (by simp[h0,hph]),hu,ht];unfold mI;by_cases hi:In bS n q 16
    ·simp[hi]
    ·simp[hi])
   rw[<-hu,<-hv,<-ht] at A;clear hS hL hu hv ht;rw[HB.out];clear HB;by_cases hvx:u=p
   ·have hvxi:((u:Int) == (p:Int))=true:=beq_iff_eq.2 (by omega)
    cases t
    all_goals
     go_enter func217,ntmps217;go_wp2_with fail;refine A.out.mono ?_;rintro e w1 ⟨rfl,k1⟩;have HK:=aA k1;have hP:=dG.box (w:=w1) u v;have hp0:=hP.c0;have hp1:=hP.c1;clear k1 hP;go_wp2_with fail;go_ret;exact⟨by simp[hvx],HK.out.alloc _⟩
   ·have hvxi:((u:Int) == (p:Int))=false:=beq_eq_false_iff_ne.2 (by omega)
    cases t
    all_goals
     go_enter func217,ntmps217;go_wp2_with fail;refine A.out.mono ?_;rintro e w1 ⟨rfl,k1⟩;have HK:=aA k1;have hP:=dG.box (w:=w1) u v;have hp0:=hP.c0;have hp1:=hP.c1;clear k1 hP;go_wp2_with fail;go_ret;exact⟨by simp[hvx],HK.out.alloc _⟩
theorem uY(c b g bS R lim n f hd)(p v:Nat)(hv:v<18446744073709551616)(w:World)(hS:SpA w b (some g) bS R lim n f)(hL:ListAt w c b hd)(hin:In bS n p 8):
  Calls prog 212 #[.pointer (some ⟨c,0,none⟩),.int .u64 p,.int .u64 v] w fun e w'=>e=.returned (.tuple #[])/\SpA w' b (some g) bS R lim n (fE bS f p v)/\Kt (own b (some g)) w w':=by
 have hc0:=hL.c0;have A:=aA (SetWord_in b g bS R lim n f p v hv w hS hin);clear hS hL hin;go_enter func212,ntmps212;go_wp2_with fail;refine A.out.mono ?_;rintro e w1 ⟨rfl,hS,hK⟩;have HS:=aA hS;have HK:=aA hK;clear hS hK;go_wp2_with fail;first|go_ret|skip
 first|exact⟨rfl,HS.out,HK.out⟩|exact⟨rfl,_,by simp[results,results212,go_sem],rfl,HS.out,HK.out⟩
theorem rP(c b g bS R lim n f hd)(p v:Nat)(hv:v<18446744073709551616)(w:World)(hS:SpA w b (some g) bS R lim n f)(hL:ListAt w c b hd)(hin:In bS n (p+8) 8):
  Calls prog 213 #[.pointer (some ⟨c,0,none⟩),.int .u64 p,.int .u64 v] w fun e w'=>e=.returned (.tuple #[])/\SpA w' b (some g) bS R lim n (fE bS f (p+8) v)/\Kt (own b (some g)) w w':=by
 have hc0:=hL.c0;have hend:=hS.end_le;have hp64:p+8<18446744073709551616:=by unfold In at hin;omega
 have A:=aA (SetWord_in b g bS R lim n f (p+8) v hv w hS hin);rw[show((p+8:Nat):Int)=(p:Int)+8 by omega] at A;clear hS hL hin hend;go_enter func213,ntmps213;go_wp2_with fail;refine A.out.mono ?_;rintro e w1 ⟨rfl,hS,hK⟩;have HS:=aA hS;have HK:=aA hK;clear hS hK;go_wp2_with fail;first|go_ret|skip
 first|exact⟨rfl,HS.out,HK.out⟩|exact⟨rfl,_,by simp[results,results213,go_sem],rfl,HS.out,HK.out⟩
theorem newList_any(b hd:Nat)(h64:hd<18446744073709551616)(w:World):
  Calls prog 162 #[.pointer (some ⟨b,0,none⟩),.int .u64 hd] w fun e w'=>∃ c,e=.returned (.pointer (some ⟨c,0,none⟩))/\ListAt w' c b hd/\Kt nO w w'/\w.heap.size<=c:=by
 go_enter func162,ntmps162;go_wp2
 go_ret;exact⟨_,rfl,⟨nH _ _,h64⟩,(Kt.refl _ _).alloc _,Nat.le_refl _⟩
theorem Head_any(c b hd:Nat)(w:World)(hL:ListAt w c b hd):
  Calls prog 196 #[.pointer (some ⟨c,0,none⟩)] w fun e w'=>e=.returned (.int .u64 hd)/\w'=w:=by
 have hc1:=hL.c1;clear hL;go_enter func196,ntmps196;go_wp2
 go_ret;exact⟨rfl,rfl⟩
def lown(c b:Nat)(ao:Option Nat):Nat->Prop:=fun x=>x=c\/own b ao x
theorem ListAt.apart{w c b b' hd ao bS R lim n f}(hL:ListAt w c b' hd)(hS:SpA w b ao bS R lim n f):¬own b ao c:=by
 obtain⟨cap,hb,hr⟩:=hS.ex;have hc:=hL.hc;rintro (rfl|e)
 ·rw[hc] at hb;simp at hb
 ·subst e;obtain⟨_,rs,_,hg,_⟩:=hr;rw[hc] at hg;simp at hg
def lC(bS:Nat)(f:Nat->Nat)(hd p:Nat):Nat->Nat:=if hd=0 then fE bS (fE bS f p hd) (p+8) 0 else fE bS (fE bS (fE bS f p hd) (p+8) 0) (hd+8) p
def pushR(bS n:Nat)(f:Nat->Nat)(hd p:Nat):(Nat->Nat)×Nat×Nat:=
 if In bS n p 16 then (if iI bS n f hd 0 then (lC bS f hd p,p,0) else (f,hd,8)) else (f,hd,4)
theorem Kt.lown{w w':World}{c b:Nat}{ao:Option Nat}(h:Kt nO w w'):Kt (lown c b ao) w w':=h.mono (fun _ _ x=>x.elim)
theorem Kt.lown'{w w':World}{c b:Nat}{ao:Option Nat}(h:Kt (own b ao) w w'):Kt (Go.Proofs.YtbgbfpklgfpepaaGreatDoor.M.lown c b ao) w w':=h.mono (fun _ _ x=>Or.inr x)
theorem mU{a b' c':World}{c b:Nat}{ao:Option Nat}(h:Kt (lown c b ao) a b')(k:Kt (lown c b ao) b' c'):Kt (lown c b ao) a c':=h.trans k (fun _ _ x=>x) (fun _ _ x=>x)
structure LS(w:World)(c b:Nat)(ao:Option Nat)(bS R lim n:Nat)(f:Nat->Nat)(hd:Nat):Prop where
 s:SpA w b ao bS R lim n f
 l:ListAt w c b hd
theorem LS.keep{w w' c b ao bS R lim n f hd}(h:LS w c b ao bS R lim n f hd)(k:Kt nO w w'):LS w' c b ao bS R lim n f hd:=⟨h.s.keep k,h.l.keep k⟩
theorem LS.kept{w w' c b ao bS R lim n f hd}{S:Nat->Prop}(h:LS w c b ao bS R lim n f hd)(k:Kt S w w')(hS:∀ x,lown c b ao x->¬S x):LS w' c b ao bS R lim n f hd:=⟨h.s.kept k (fun x hx=>hS x (Or.inr hx)),h.l.kept k (hS c (Or.inl rfl))⟩
theorem LS.lt{w c b ao bS R lim n f hd}(h:LS w c b ao bS R lim n f hd)(x:Nat)(hx:lown c b ao x):x<w.heap.size:=by
 rcases hx with rfl|hx
 ·exact h.l.lt
 ·exact h.s.own_lt x hx
theorem LS.stored{w w' c b ao bS R lim n f f' hd}(h:LS w c b ao bS R lim n f hd)(hS:SpA w' b ao bS R lim n f')(k:Kt (own b ao) w w'):LS w' c b ao bS R lim n f' hd:=⟨hS,h.l.kept k (h.l.apart h.s)⟩
theorem LS.head{w c b ao bS R lim n f hd}(h:LS w c b ao bS R lim n f hd)(hd':Nat)(h':hd'<18446744073709551616):LS (w.setCell ⟨c,1,none⟩ (.int .u64 hd')) c b ao bS R lim n f hd':=
 ⟨h.s.kept ((Kt.refl (fun x=>x=c) w).setCell (fun _=>rfl) _) (fun x hx e=>h.l.apart h.s (e▸hx)),h.l.set hd' h'⟩
theorem LS.keptHead{w0 w:World}{c b:Nat}{ao:Option Nat}(k:Kt (lown c b ao) w0 w)(v:Value):Kt (lown c b ao) w0 (w.setCell ⟨c,1,none⟩ v):=k.setCell (fun _=>Or.inl rfl) v
theorem Push_any(c b ao bS R lim n f hd)(p:Nat)(hp:p<18446744073709551616)(w:World)(h:LS w c b ao bS R lim n f hd):
  Calls prog 181 #[.pointer (some ⟨c,0,none⟩),.int .u64 p] w fun e w'=>e=.returned (.int .i64 ((pushR bS n f hd p).2.2:Int))/\LS w' c b ao bS R lim n (pushR bS n f hd p).1 (pushR bS n f hd p).2.1/\Kt (lown c b ao) w w':=by
 have h64:=h.l.h64;have A:=aA (fun w' (k:Kt nO w w')=>jR c b ao bS R lim n f hd p hp w' (h.keep k).s (h.keep k).l);have C:=aA (fun w' (k:Kt nO w w')=>JZ c b ao bS R lim n f hd hd 0 h64 (by decide) w' (h.keep k).s (h.keep k).l);rw[show((0:Nat):Int)=0 by rfl] at C;have H:=aA h;obtain⟨u,hu⟩:=xe (mI bS n f p);obtain⟨v,hv⟩:=xe (mH bS n f p);by_cases hin:In bS n p 16
 ·rw[<-hu,<-hv,decide_eq_true hin] at A;by_cases hca:iI bS n f hd 0=true
  ·rw[hca] at C;obtain⟨g,rfl⟩:=h.s.has (by decide) hin;have hpe:pushR bS n f hd p=(lC bS f hd p,p,0):=(by unfold pushR;rw[if_pos hin,if_pos hca]);rw[hpe];have I1:=aA (show In bS n p 8 by unfold In at hin ⊢;omega);have I2:=aA (show In bS n (p+8) 8 by unfold In at hin ⊢;omega);by_cases h0:hd=0
   ·subst h0;have HF:=aA (show lC bS f 0 p=fE bS (fE bS f p 0) (p+8) 0 by simp[lC]);have hc1:=h.l.c1;clear h hu hv hin hca hpe;go_enter func181,ntmps181;go_wp2_with fail;refine(A.out _ (Kt.refl _ w)).mono ?_;rintro e w1 ⟨rfl,k1⟩;have K1:=aA (k1.alloc (.cells #[.int .u64 u,.int .u64 v] 252));have hc1:=(H.out.keep K1.out).l.c1;clear k1;go_wp2_with fail;refine(C.out _ K1.out).mono ?_;rintro e w2 ⟨rfl,k2⟩;have K2:=aA (nT K1.out k2);clear k2 hc1;go_wp2_with fail;refine(uY c b g bS R lim n f 0 p 0 (by decide) _ (H.out.keep K2.out).s (H.out.keep K2.out).l I1.out).mono ?_;rintro e w3 ⟨rfl,hS,hK⟩;have H3:=aA ((H.out.keep K2.out).stored hS hK);have K3:=aA (mU K2.out.lown (hK.lown' (c:=c)));clear hS hK;go_wp2_with fail;refine(rP c b g bS R lim n _ 0 p 0 (by decide) _ H3.out.s H3.out.l I2.out).mono ?_;rintro e w4 ⟨rfl,hS,hK⟩;have H4:=aA (H3.out.stored hS hK);have K4:=aA (mU K3.out (hK.lown' (c:=c)));have hz:=H4.out.l.fz 1;have hc1:=H4.out.l.c1;clear hS hK;go_wp2_with fail;go_ret;refine⟨rfl,?_,LS.keptHead K4.out _⟩;rw[HF.out];exact H4.out.head p hp
   ·have HF:=aA (show lC bS f hd p=fE bS (fE bS (fE bS f p hd) (p+8) 0) (hd+8) p by simp[lC,h0]);have h0i:((hd:Int) == 0)=false:=beq_eq_false_iff_ne.2 (by omega);have I3:=aA (show In bS n (hd+8) 8 by
     unfold iI at hca;have:=of_decide_eq_true hca;rcases this with e|⟨e,_⟩
     ·exact absurd e h0
     ·unfold In at e ⊢;omega)
    have hc1:=h.l.c1;clear h hu hv hin hca hpe;go_enter func181,ntmps181;go_wp2_with fail;refine(A.out _ (Kt.refl _ w)).mono ?_;rintro e w1 ⟨rfl,k1⟩;have K1:=aA (k1.alloc (.cells #[.int .u64 u,.int .u64 v] 252));have hc1:=(H.out.keep K1.out).l.c1;clear k1;go_wp2_with fail;refine(C.out _ K1.out).mono ?_;rintro e w2 ⟨rfl,k2⟩;have K2:=aA (nT K1.out k2);clear k2 hc1;go_wp2_with fail;refine(uY c b g bS R lim n f hd p hd h64 _ (H.out.keep K2.out).s (H.out.keep K2.out).l I1.out).mono ?_;rintro e w3 ⟨rfl,hS,hK⟩;have H3:=aA ((H.out.keep K2.out).stored hS hK);have K3:=aA (mU K2.out.lown (hK.lown' (c:=c)));clear hS hK;go_wp2_with fail;refine(rP c b g bS R lim n _ hd p 0 (by decide) _ H3.out.s H3.out.l I2.out).mono ?_;rintro e w4 ⟨rfl,hS,hK⟩;have H4:=aA (H3.out.stored hS hK);have K4:=aA (mU K3.out (hK.lown' (c:=c)));clear hS hK;go_wp2_with fail;refine(rP c b g bS R lim n _ hd hd p hp _ H4.out.s H4.out.l I3.out).mono ?_;rintro e w5 ⟨rfl,hS,hK⟩;have H5:=aA (H4.out.stored hS hK);have K5:=aA (mU K4.out (hK.lown' (c:=c)));have hz:=H5.out.l.fz 1;have hc1:=H5.out.l.c1;clear hS hK;go_wp2_with fail;go_ret;refine⟨rfl,?_,LS.keptHead K5.out _⟩;rw[HF.out];exact H5.out.head p hp
  ·have hpe:pushR bS n f hd p=(f,hd,8):=(by unfold pushR;rw[if_pos hin,if_neg hca]);rw[hpe];rw[Bool.eq_false_iff.2 hca] at C;have hc1:=h.l.c1;clear h hu hv hin hca hpe;go_enter func181,ntmps181;go_wp2_with fail;refine(A.out _ (Kt.refl _ w)).mono ?_;rintro e w1 ⟨rfl,k1⟩;have K1:=aA (k1.alloc (.cells #[.int .u64 u,.int .u64 v] 252));have hc1:=(H.out.keep K1.out).l.c1;clear k1;go_wp2_with fail;refine(C.out _ K1.out).mono ?_;rintro e w2 ⟨rfl,k2⟩;have K2:=aA (nT K1.out k2);clear k2 hc1;go_wp2_with fail;go_ret;exact⟨rfl,H.out.keep K2.out,K2.out.lown⟩
 ·have hpe:pushR bS n f hd p=(f,hd,4):=by unfold pushR;rw[if_neg hin]
  rw[hpe];rw[<-hu,<-hv,decide_eq_false hin] at A;clear h hu hv hin hpe;go_enter func181,ntmps181;go_wp2_with fail;refine(A.out _ (Kt.refl _ w)).mono ?_;rintro e w1 ⟨rfl,k1⟩;have K1:=aA (k1.alloc (.cells #[.int .u64 u,.int .u64 v] 252));clear k1;go_wp2_with fail;go_ret;exact⟨rfl,H.out.keep K1.out,K1.out.lown⟩
def kX(bS:Nat)(f:Nat->Nat)(p:Nat):Nat->Nat:=
 let q:=pv bS f p;let m:=nx bS f p
 let f1:=if q=0 then f else fE bS f q m
 if m=0 then f1 else fE bS f1 (m+8) q
def removeR(bS n:Nat)(f:Nat->Nat)(hd p:Nat):(Nat->Nat)×Nat×Nat:=
 if In bS n p 16 then (if jF bS n f hd (pv bS f p) p && iI bS n f (nx bS f p) p then (kX bS f p,(if pv bS f p=0 then nx bS f p else hd),0) else (f,hd,8)) else (f,hd,4)
theorem ZY{bS n f hd q p}(h:jF bS n f hd q p=true)(h0:q≠0):In bS n q 16:=by
 unfold jF at h;split at h
 ·exact absurd (of_decide_eq_true h).1 h0
 ·exact(of_decide_eq_true h).1
theorem VY{bS n f q p}(h:iI bS n f q p=true)(h0:q≠0):In bS n q 16:=by
 unfold iI at h;rcases of_decide_eq_true h with e|⟨e,_⟩
 ·exact absurd e h0
 ·exact e
theorem Remove_any(c b ao bS R lim n f hd)(p:Nat)(hp:p<18446744073709551616)(w:World)(h:LS w c b ao bS R lim n f hd):
  Calls prog 188 #[.pointer (some ⟨c,0,none⟩),.int .u64 p] w fun e w'=>e=.returned (.int .i64 ((removeR bS n f hd p).2.2:Int))/\LS w' c b ao bS R lim n (removeR bS n f hd p).1 (removeR bS n f hd p).2.1/\Kt (lown c b ao) w w':=by
 have h64:=h.l.h64;have H:=aA h;have A:=aA (fun w' (k:Kt nO w w')=>jR c b ao bS R lim n f hd p hp w' (h.keep k).s (h.keep k).l);by_cases hin:In bS n p 16
 ·have eu:mI bS n f p=nx bS f p:=by unfold mI;rw[if_pos hin]
  have ev:mH bS n f p=pv bS f p:=by unfold mH;rw[if_pos hin]
  have hu64:=h.s.nx_lt p hin;have hv64:=h.s.pv_lt p hin;rw[eu,ev,decide_eq_true hin] at A;have L:=aA (fun w' (k:Kt nO w w')=>zf1 c b ao bS R lim n f hd (pv bS f p) p hv64 hp w' (h.keep k).s (h.keep k).l);have C:=aA (fun w' (k:Kt nO w w')=>JZ c b ao bS R lim n f hd (nx bS f p) p hu64 hp w' (h.keep k).s (h.keep k).l);have hR:removeR bS n f hd p=if jF bS n f hd (pv bS f p) p && iI bS n f (nx bS f p) p then (kX bS f p,(if pv bS f p=0 then nx bS f p else hd),0) else (f,hd,8):=by unfold removeR;rw[if_pos hin]
  have hF:kX bS f p=(let f1:=if pv bS f p=0 then f else fE bS f (pv bS f p) (nx bS f p);if nx bS f p=0 then f1 else fE bS f1 (nx bS f p+8) (pv bS f p)):=rfl;have hI:jF bS n f hd (pv bS f p) p=true->pv bS f p≠0->In bS n (pv bS f p) 16:=ZY;have hJ:iI bS n f (nx bS f p) p=true->nx bS f p≠0->In bS n (nx bS f p) 16:=VY;obtain⟨g,rfl⟩:=h.s.has (by decide) hin;rw[hR,hF];clear hR hF eu ev hin h;generalize nx bS f p=u at *;generalize pv bS f p=v at *;generalize hlb:jF bS n f hd v p=lb at *;generalize hcb:iI bS n f u p=cb at *;clear hlb hcb
  cases lb with
  | false=>
   simp only[Bool.false_and,Bool.false_eq_true,if_false];clear C hI hJ;go_enter func188,ntmps188;go_wp2_with fail;refine(A.out _ (Kt.refl _ w)).mono ?_;rintro e w1 ⟨rfl,k1⟩;have K1:=aA (k1.alloc (.cells #[.int .u64 u,.int .u64 v] 252));have hP:=dG.box (w:=w1) u v;have hp0:=hP.c0;have hp1:=hP.c1;clear k1 hP;go_wp2_with fail;refine(L.out _ K1.out).mono ?_;rintro e w2 ⟨rfl,k2⟩;have K2:=aA (nT K1.out k2);clear k2;go_wp2_with fail;go_ret;exact⟨rfl,H.out.keep K2.out,K2.out.lown⟩
  | true=>
   cases cb with
   | false=>
    simp only[Bool.and_false,Bool.false_eq_true,if_false];clear hI hJ;go_enter func188,ntmps188;go_wp2_with fail;refine(A.out _ (Kt.refl _ w)).mono ?_;rintro e w1 ⟨rfl,k1⟩;have K1:=aA (k1.alloc (.cells #[.int .u64 u,.int .u64 v] 252));have hP:=dG.box (w:=w1) u v;have hp0:=hP.c0;have hp1:=hP.c1;have HP:=aA hP;clear k1 hP;go_wp2_with fail;refine(L.out _ K1.out).mono ?_;rintro e w2 ⟨rfl,k2⟩;have K2:=aA (nT K1.out k2);have hP2:=HP.out.keep k2;have hp0:=hP2.c0;have hp1:=hP2.c1;clear k2 hP2;go_wp2_with fail;refine(C.out _ K2.out).mono ?_;rintro e w3 ⟨rfl,k3⟩;have K3:=aA (nT K2.out k3);clear k3;go_wp2_with fail;go_ret;exact⟨rfl,H.out.keep K3.out,K3.out.lown⟩
   | true=>
    simp only[Bool.and_true,if_true];have hI1:=hI rfl;have hJ1:=hJ rfl;clear hI hJ;by_cases hv0:v=0
    ·by_cases hu0:u=0
     ·subst hv0;subst hu0;simp only[if_true];clear hI1 hJ1;go_enter func188,ntmps188;go_wp2_with fail;refine(A.out _ (Kt.refl _ w)).mono ?_;rintro e w1 ⟨rfl,k1⟩;have K1:=aA (k1.alloc (.cells #[.int .u64 ((0:Nat):Int),.int .u64 ((0:Nat):Int)] 252));have hP:=dG.box (w:=w1) 0 0;have hp0:=hP.c0;have hp1:=hP.c1;have HP:=aA hP;clear k1 hP;have HNE:=aA (show ¬w1.heap.size=c by intro e;have:=(H.out.keep K1.out).l.hc;rw[<-e,nH] at this;simp at this);have HNO:=aA (show ¬own b (some g) w1.heap.size by
       intro e;obtain⟨cap,hb,hr⟩:=(H.out.keep K1.out).s.ex;rcases e with e|e
       ·rw[<-e,nH] at hb;simp at hb
       ·cases e
        obtain⟨_,rs,_,hg,_⟩:=hr;rw[nH] at hg;simp at hg)
      go_wp2_with fail;refine(L.out _ K1.out).mono ?_;rintro e w2 ⟨rfl,k2⟩;have K2:=aA (nT K1.out k2);have HP2:=aA (HP.out.keep k2);have hp0:=HP2.out.c0;have hp1:=HP2.out.c1;clear k2 HP;go_wp2_with fail;refine(C.out _ K2.out).mono ?_;rintro e w3 ⟨rfl,k3⟩;have K3:=aA (nT K2.out k3);have H3:=aA (H.out.keep K3.out);have HP3:=aA (HP2.out.keep k3);have hp0:=HP3.out.c0;have hp1:=HP3.out.c1;have hz:=H3.out.l.fz 1;have hc1:=H3.out.l.c1;clear k3 HP2;have HP4:=aA (HP3.out.kept ((Kt.refl (fun x=>x=c) w3).setCell (p:=⟨c,1,none⟩) (fun _=>rfl) (.int .u64 ((0:Nat):Int))) HNE.out);have H4:=aA (H3.out.head 0 (by first|decide|assumption));have K4:=aA (LS.keptHead (K3.out.lown (c:=c) (b:=b) (ao:=some g)) (.int .u64 ((0:Nat):Int)));have hq0:=HP4.out.c0;have hq1:=HP4.out.c1;go_wp2_with fail;go_ret;exact⟨rfl,H4.out,K4.out⟩
     ·subst hv0;have hu0i:((u:Int) == 0)=false:=beq_eq_false_iff_ne.2 (by omega);have IU:=aA (show In bS n (u+8) 8 by have:=hJ1 hu0;unfold In at this ⊢;omega);simp only[if_neg hu0];simp only[if_true];clear hI1 hJ1 hu0;go_enter func188,ntmps188;go_wp2_with fail;refine(A.out _ (Kt.refl _ w)).mono ?_;rintro e w1 ⟨rfl,k1⟩;have K1:=aA (k1.alloc (.cells #[.int .u64 u,.int .u64 ((0:Nat):Int)] 252));have hP:=dG.box (w:=w1) u 0;have hp0:=hP.c0;have hp1:=hP.c1;have HP:=aA hP;clear k1 hP;have HNE:=aA (show ¬w1.heap.size=c by intro e;have:=(H.out.keep K1.out).l.hc;rw[<-e,nH] at this;simp at this);have HNO:=aA (show ¬own b (some g) w1.heap.size by
       intro e;obtain⟨cap,hb,hr⟩:=(H.out.keep K1.out).s.ex;rcases e with e|e
       ·rw[<-e,nH] at hb;simp at hb
       ·cases e
        obtain⟨_,rs,_,hg,_⟩:=hr;rw[nH] at hg;simp at hg)
      go_wp2_with fail;refine(L.out _ K1.out).mono ?_;rintro e w2 ⟨rfl,k2⟩;have K2:=aA (nT K1.out k2);have HP2:=aA (HP.out.keep k2);have hp0:=HP2.out.c0;have hp1:=HP2.out.c1;clear k2 HP;go_wp2_with fail;refine(C.out _ K2.out).mono ?_;rintro e w3 ⟨rfl,k3⟩;have K3:=aA (nT K2.out k3);have H3:=aA (H.out.keep K3.out);have HP3:=aA (HP2.out.keep k3);have hp0:=HP3.out.c0;have hp1:=HP3.out.c1;have hz:=H3.out.l.fz 1;have hc1:=H3.out.l.c1;clear k3 HP2;have HP4:=aA (HP3.out.kept ((Kt.refl (fun x=>x=c) w3).setCell (p:=⟨c,1,none⟩) (fun _=>rfl) (.int .u64 u)) HNE.out);have H4:=aA (H3.out.head u (by first|decide|assumption));have K4:=aA (LS.keptHead (K3.out.lown (c:=c) (b:=b) (ao:=some g)) (.int .u64 u));have hq0:=HP4.out.c0;have hq1:=HP4.out.c1;clear HP3 H3 K3;go_wp2_with fail;refine(rP c b g bS R lim n _ _ u 0 (by first|decide|assumption) _ H4.out.s H4.out.l IU.out).mono ?_;rintro e w5 ⟨rfl,hS,hK⟩;have H5:=aA (H4.out.stored hS hK);have K5:=aA (mU K4.out (hK.lown' (c:=c)));clear hS hK;go_wp2_with fail;go_ret;exact⟨rfl,H5.out,K5.out⟩
    ·by_cases hu0:u=0
     ·have hv0i:((v:Int) == 0)=false:=beq_eq_false_iff_ne.2 (by omega);have IV:=aA (show In bS n v 8 by have:=hI1 hv0;unfold In at this ⊢;omega);simp only[if_neg hv0];subst hu0;simp only[if_true];clear hI1 hJ1 hv0;go_enter func188,ntmps188;go_wp2_with fail;refine(A.out _ (Kt.refl _ w)).mono ?_;rintro e w1 ⟨rfl,k1⟩;have K1:=aA (k1.alloc (.cells #[.int .u64 ((0:Nat):Int),.int .u64 v] 252));have hP:=dG.box (w:=w1) 0 v;have hp0:=hP.c0;have hp1:=hP.c1;have HP:=aA hP;clear k1 hP;have HNE:=aA (show ¬w1.heap.size=c by intro e;have:=(H.out.keep K1.out).l.hc;rw[<-e,nH] at this;simp at this);have HNO:=aA (show ¬own b (some g) w1.heap.size by
       intro e;obtain⟨cap,hb,hr⟩:=(H.out.keep K1.out).s.ex;rcases e with e|e
       ·rw[<-e,nH] at hb;simp at hb
       ·cases e
        obtain⟨_,rs,_,hg,_⟩:=hr;rw[nH] at hg;simp at hg)
      go_wp2_with fail;refine(L.out _ K1.out).mono ?_;rintro e w2 ⟨rfl,k2⟩;have K2:=aA (nT K1.out k2);have HP2:=aA (HP.out.keep k2);have hp0:=HP2.out.c0;have hp1:=HP2.out.c1;clear k2 HP;go_wp2_with fail;refine(C.out _ K2.out).mono ?_;rintro e w3 ⟨rfl,k3⟩;have K3:=aA (nT K2.out k3);have H3:=aA (H.out.keep K3.out);have HP3:=aA (HP2.out.keep k3);have hp0:=HP3.out.c0;have hp1:=HP3.out.c1;have hz:=H3.out.l.fz 1;have hc1:=H3.out.l.c1;clear k3 HP2;go_wp2_with fail;refine(uY c b g bS R lim n f hd v 0 (by first|decide|assumption) _ H3.out.s H3.out.l IV.out).mono ?_;rintro e w4 ⟨rfl,hS,hK⟩;have H4:=aA (H3.out.stored hS hK);have K4:=aA (mU K3.out.lown (hK.lown' (c:=c)));have HP4:=aA (HP3.out.kept hK HNO.out);have hq0:=HP4.out.c0;have hq1:=HP4.out.c1;clear hS hK HP3 H3 K3;go_wp2_with fail;go_ret;exact⟨rfl,H4.out,K4.out⟩
     ·have hv0i:((v:Int) == 0)=false:=beq_eq_false_iff_ne.2 (by omega);have IV:=aA (show In bS n v 8 by have:=hI1 hv0;unfold In at this ⊢;omega);simp only[if_neg hv0];have hu0i:((u:Int) == 0)=false:=beq_eq_false_iff_ne.2 (by omega);have IU:=aA (show In bS n (u+8) 8 by have:=hJ1 hu0;unfold In at this ⊢;omega);simp only[if_neg hu0];clear hI1 hJ1 hv0 hu0;go_enter func188,ntmps188;go_wp2_with fail;refine(A.out _ (Kt.refl _ w)).mono ?_;rintro e w1 ⟨rfl,k1⟩;have K1:=aA (k1.alloc (.cells #[.int .u64 u,.int .u64 v] 252));have hP:=dG.box (w:=w1) u v;have hp0:=hP.c0;have hp1:=hP.c1;have HP:=aA hP;clear k1 hP;have HNE:=aA (show ¬w1.heap.size=c by intro e;have:=(H.out.keep K1.out).l.hc;rw[<-e,nH] at this;simp at this);have HNO:=aA (show ¬own b (some g) w1.heap.size by
       intro e;obtain⟨cap,hb,hr⟩:=(H.out.keep K1.out).s.ex;rcases e with e|e
       ·rw[<-e,nH] at hb;simp at hb
       ·cases e
        obtain⟨_,rs,_,hg,_⟩:=hr;rw[nH] at hg;simp at hg)
      go_wp2_with fail;refine(L.out _ K1.out).mono ?_;rintro e w2 ⟨rfl,k2⟩;have K2:=aA (nT K1.out k2);have HP2:=aA (HP.out.keep k2);have hp0:=HP2.out.c0;have hp1:=HP2.out.c1;clear k2 HP;go_wp2_with fail;refine(C.out _ K2.out).mono ?_;rintro e w3 ⟨rfl,k3⟩;have K3:=aA (nT K2.out k3);have H3:=aA (H.out.keep K3.out);have HP3:=aA (HP2.out.keep k3);have hp0:=HP3.out.c0;have hp1:=HP3.out.c1;have hz:=H3.out.l.fz 1;have hc1:=H3.out.l.c1;clear k3 HP2;go_wp2_with fail;refine(uY c b g bS R lim n f hd v u (by first|decide|assumption) _ H3.out.s H3.out.l IV.out).mono ?_;rintro e w4 ⟨rfl,hS,hK⟩;have H4:=aA (H3.out.stored hS hK);have K4:=aA (mU K3.out.lown (hK.lown' (c:=c)));have HP4:=aA (HP3.out.kept hK HNO.out);have hq0:=HP4.out.c0;have hq1:=HP4.out.c1;clear hS hK HP3 H3 K3;go_wp2_with fail;refine(rP c b g bS R lim n _ _ u v (by first|decide|assumption) _ H4.out.s H4.out.l IU.out).mono ?_;rintro e w5 ⟨rfl,hS,hK⟩;have H5:=aA (H4.out.stored hS hK);have K5:=aA (mU K4.out (hK.lown' (c:=c)));clear hS hK;go_wp2_with fail;go_ret;exact⟨rfl,H5.out,K5.out⟩
 ·have hpe:removeR bS n f hd p=(f,hd,4):=by unfold removeR;rw[if_neg hin]
  rw[hpe];rw[decide_eq_false hin] at A;generalize mI bS n f p=u at *;generalize mH bS n f p=v at *;clear h hin hpe;go_enter func188,ntmps188;go_wp2_with fail;refine(A.out _ (Kt.refl _ w)).mono ?_;rintro e w1 ⟨rfl,k1⟩;have K1:=aA (k1.alloc (.cells #[.int .u64 u,.int .u64 v] 252));clear k1;go_wp2_with fail;go_ret;exact⟨rfl,H.out.keep K1.out,K1.out.lown⟩
def popR(bS n:Nat)(f:Nat->Nat)(hd:Nat):(Nat->Nat)×Nat×Nat×Nat:=
 if hd=0 then (f,hd,0,9) else if (removeR bS n f hd hd).2.2=0 then ((removeR bS n f hd hd).1,(removeR bS n f hd hd).2.1,hd,0) else (f,hd,0,(removeR bS n f hd hd).2.2)
theorem ag{bS n f hd p}(h:(removeR bS n f hd p).2.2≠0):(removeR bS n f hd p).1=f/\(removeR bS n f hd p).2.1=hd:=by
 revert h
 unfold removeR;split
 ·split
  ·intro h;exact absurd rfl h
  ·intro _;exact⟨rfl,rfl⟩
 ·intro _;exact⟨rfl,rfl⟩
theorem zhG(bS n f hd p):(removeR bS n f hd p).2.2<=8:=by
 unfold removeR;split
 ·split
  ·exact Nat.zero_le _
  ·exact Nat.le_refl _
 ·exact(by omega : 4<=8)
theorem Pop_any(c b ao bS R lim n f hd)(w:World)(h:LS w c b ao bS R lim n f hd):
  Calls prog 197 #[.pointer (some ⟨c,0,none⟩)] w fun e w'=>e=.returned (.tuple #[.int .u64 ((popR bS n f hd).2.2.1:Int),.int .i64 ((popR bS n f hd).2.2.2:Int)])/\LS w' c b ao bS R lim n (popR bS n f hd).1 (popR bS n f hd).2.1/\Kt (lown c b ao) w w':=by
 have h64:=h.l.h64;have hc1:=h.l.c1;by_cases h0:hd=0
 ·subst h0;have hpe:popR bS n f 0=(f,0,0,9):=by simp[popR]
  rw[hpe];have H:=aA h;clear h hpe;go_enter func197,ntmps197;go_wp2
  exact⟨rfl,_,by simp[results,results197,go_sem],rfl,H.out,Kt.refl _ _⟩
 ·have h0i:((hd:Int) == 0)=false:=beq_eq_false_iff_ne.2 (by omega);have A:=aA (Remove_any c b ao bS R lim n f hd hd h64 w h);by_cases he:(removeR bS n f hd hd).2.2=0
  ·have hpe:popR bS n f hd=((removeR bS n f hd hd).1,(removeR bS n f hd hd).2.1,hd,0):=(by unfold popR;rw[if_neg h0,if_pos he]);rw[hpe];rw[he] at A;generalize (removeR bS n f hd hd).1=f' at *;generalize (removeR bS n f hd hd).2.1=hd' at *;clear h hpe he h0;go_enter func197,ntmps197;go_wp2_with fail;refine A.out.mono ?_;rintro e w1 ⟨rfl,h1,k1⟩;have H1:=aA h1;have K1:=aA k1;clear h1 k1;go_wp2_with fail;exact⟨rfl,_,by simp[results,results197,go_sem],rfl,H1.out,K1.out⟩
  ·have hpe:popR bS n f hd=(f,hd,0,(removeR bS n f hd hd).2.2):=(by unfold popR;rw[if_neg h0,if_neg he]);rw[hpe];rw[(ag he).1,(ag he).2] at A;have hle:=zhG bS n f hd hd;generalize (removeR bS n f hd hd).2.2=x at *;have hxi:((x:Int) == 0)=false:=beq_eq_false_iff_ne.2 (by omega);clear h hpe he h0;go_enter func197,ntmps197;go_wp2_with fail;refine A.out.mono ?_;rintro e w1 ⟨rfl,h1,k1⟩;have H1:=aA h1;have K1:=aA k1;clear h1 k1;go_wp2_with fail;exact⟨rfl,_,by simp[results,results197,go_sem],rfl,H1.out,K1.out⟩
theorem Byte_any(b ao bS R lim n f)(p:Nat)(hp:p<18446744073709551616)(w:World)(h:SpA w b ao bS R lim n f):
  Calls prog 55 #[.pointer (some ⟨b,0,none⟩),.int .u64 p] w fun e w'=>e=.returned (.tuple #[.int .u8 ((if In bS n p 1 then f (p-bS) else 0:Nat):Int),.int .i64 (if In bS n p 1 then 0 else 4)])/\Kt nO w w':=by
 by_cases hin:In bS n p 1
 ·obtain⟨g,rfl⟩:=h.has (by decide) hin;refine(Byte_in b g bS R lim n f p w h hin).mono ?_;rintro e w' ⟨rfl,k⟩;rw[if_pos hin,if_pos hin];exact⟨rfl,k⟩
 ·refine(WP b ao bS R lim n f p 1 0 none 0 w h hp (by decide) (by decide) hin).mono ?_;rintro e w' ⟨rfl,k⟩;rw[if_neg hin,if_neg hin];exact⟨rfl,k⟩
theorem zeI(b ao bS R lim n f)(o:Nat)(ho:o<=8)(hR:R=4096*2 ^ o)(w:World)(h:SpA w b ao bS R lim n f):
  Calls prog 233 #[.pointer (some ⟨b,0,none⟩)] w fun e w'=>e=.returned (.int .u64 n)/\Kt nO w w':=by
 have HH:=aA h;obtain⟨k,hn,hk⟩:=h.kn;have hk64:k<=64:=Nat.le_trans hk h.cfg.l2;have hend:=h.end_le;have r1:=h.cfg.r1;have hb1:=h.cfg.b1;have hq:n/R=k:=by rw[hn];exact Nat.mul_div_cancel _ (by omega)
 have HRG:=aA (fun w' (kk:Kt nO w w')=>regions_any b ao bS R lim n f w' (h.keep kk));rw[hq] at HRG;have HEN:=aA (fun w' (kk:Kt nO w w')=>end_any b ao bS R lim n f w' (h.keep kk));obtain⟨E,hE⟩:=xe (bS+n);rw[<-hE] at HEN hend;have HBY:=aA (fun p (hp:p<18446744073709551616) w' (kk:Kt nO w w')=>Byte_any b ao bS R lim n f p hp w' (h.keep kk));have HN:=aA (show n=k*(4096*2 ^ o)by rw[hn,hR]);have HE:=aA (show E=bS+n from hE);clear h hn hk hq hE hR;go_enter func233,ntmps233;go_wp2_with fail;refine(HRG.out _ (Kt.refl _ w)).mono ?_;rintro e w1 ⟨rfl,m1,rfl⟩;go_wp2_with fail;refine(HEN.out _ ((Kt.refl _ w).drewN m1)).mono ?_;rintro e w2 ⟨rfl,m2,rfl⟩;have K2:=aA (((Kt.refl nO w).drewN m1).drewN m2);generalize (w.drewN m1).drewN m2=w2 at *;go_wp2_with fail;go_loopw [5] (fun i wr=>∃ j:Int,-1<=j/\j<=8/\i=.int .i64 j/\(k≠0->(o:Int)<=j)/\Kt nO w wr) (fun i _=>(intOf i+1).toNat)
 case atStart=>exact⟨8,by omega,by omega,rfl,fun _=>by omega,K2.out⟩
 case round=>
  obtain⟨j,hj1,hj2,rfl,hjo,kr⟩:=hrel;have KR:=aA kr;clear kr K2;by_cases hneg:j<0
  ·have hk0:k=0:=by
    rcases Nat.eq_zero_or_pos k with e|e
    ·exact e
    ·have:=hjo (by omega);omega
   have hn0:=HN.out;rw[hk0,Nat.zero_mul] at hn0;have HN0:=aA hn0;clear hn0;have hji:¬ 0<=j:=(by omega);go_wp2_with fail;go_ret;exact⟨eJ (by rw[HN0.out];rfl),KR.out⟩
  ·obtain⟨t,rfl⟩:∃ t:Nat,j=(t:Int):=⟨j.toNat,by omega⟩;have ht:t<=8:=(by omega);obtain⟨P,hP⟩:=xe (2 ^ t);have hP8:=bE t (by omega);rw[<-hP] at hP8;obtain⟨S,hS⟩:=xe (k*4096*P);have hS2:S<=67108864:=by
    rw[hS];exact Nat.le_trans (Nat.mul_le_mul (Nat.mul_le_mul_right 4096 hk64) hP8.2) (by decide)
   have hK4:k*4096<=262144:=(by omega);have HW:=aA (show IntKind.u64.wrap ((k:Int)*4096*2 ^ t)=(S:Int)by
    have e:((2:Int) ^ t)=((2 ^ t:Nat):Int):=(by simp);have e2:(k:Int)*4096*((P:Nat):Int)=(S:Int):=(by rw[hS];simp);rw[e,<-hP,e2,wrap_u64];omega)
   have hx:∃ q:Nat,q<18446744073709551616/\IntKind.u64.wrap ((E:Int)-(S:Int))=(q:Int)/\(In bS n q 1↔(k≠0/\t=o))/\(k≠0->t=o->S=n):=by
    have hn:=HN.out;have hE:=HE.out;have hSn:k≠0->t=o->S=n:=by
     rintro _ rfl;rw[hS,hn,hP,Nat.mul_assoc]
    by_cases hc:S<=E
    ·refine⟨E-S,by omega,by rw[wrap_u64];omega,?_,hSn⟩;constructor
     ·intro hi;unfold In at hi;rcases Nat.eq_zero_or_pos k with e|e
      ·rw[e,Nat.zero_mul] at hn;omega
      ·refine⟨by omega,?_⟩;rcases Nat.lt_or_ge o t with hlt|hge
       ·exfalso
        have h2 : 2 ^ o*2<=P:=(by rw[hP,<-Nat.pow_succ];exact Nat.pow_le_pow_right (by decide) hlt);have h3:k*(4096*2 ^ o)*2<=S:=by
         rw[hS,Nat.mul_assoc k 4096 P,Nat.mul_assoc k];exact Nat.mul_le_mul_left k (by rw[Nat.mul_assoc];exact Nat.mul_le_mul_left _ h2)
        have h4 : 1<=k*(4096*2 ^ o):=Nat.mul_pos e (Nat.mul_pos (by decide) (Nat.pow_pos (by decide)));omega
       ·have:=hjo (by omega);omega
     ·rintro ⟨h1,rfl⟩;have:=hSn h1 rfl;have h4 : 1<=k*(4096*2 ^ t):=Nat.mul_pos (by omega) (Nat.mul_pos (by decide) (Nat.pow_pos (by decide)));unfold In;omega
    ·refine⟨18446744073709551616+E-S,by omega,by rw[wrap_u64];omega,?_,hSn⟩;constructor
     ·intro hi;unfold In at hi;omega
     ·rintro ⟨h1,h2⟩;have:=hSn h1 h2;omega
   obtain⟨q,hq64,hqe,hqi,hqS⟩:=hx;have HQ:=aA hqe;have HI:=aA hqi;have HSN:=aA hqS;clear hqe hqi hqS hS hP hP8;go_wp2_with fail;rw[HW.out,HQ.out];refine(HBY.out q hq64 _ KR.out).mono ?_;rintro e w3 ⟨rfl,k3⟩;have K3:=aA (nT KR.out k3);clear k3;by_cases hin:In bS n q 1
   ·have hh:=HI.out.1 hin;have hSn:=aA (HSN.out hh.1 hh.2);rw[if_pos hin,if_pos hin];clear hh hin;go_wp2_with fail;go_ret;exact⟨eJ (by rw[hSn.out]),K3.out⟩
   ·rw[if_neg hin,if_neg hin];have hno:=aA (fun hk:k≠0=>show ¬t=o from fun e=>hin (HI.out.2 ⟨hk,e⟩));clear hin;go_wp2_with fail;refine⟨⟨(t:Int)-1,by omega,by omega,rfl,fun hk=>?_,K3.out⟩,by simp[intOf]⟩;have h1:=hjo hk;have h2:=hno.out hk;omega
theorem All_any(c:Nat)(w:World):
  Calls prog 227 #[.pointer (some ⟨c,0,none⟩)] w fun e w'=>e=.returned (.func (.func 232) #[] #[.pointer (some ⟨w.heap.size,0,none⟩)])/\w'=w.alloc (.cells #[.pointer (some ⟨c,0,none⟩)] 224):=by
 have hmf:=jM;go_enter func227,ntmps227;go_wp2
 go_ret;exact⟨rfl,rfl⟩
theorem ZX(c:Nat)(w:World):
  Calls prog 234 #[.pointer (some ⟨c,0,none⟩)] w fun e w'=>e=.returned (.func (.func 236) #[] #[.pointer (some ⟨w.heap.size,0,none⟩)])/\w'=w.alloc (.cells #[.pointer (some ⟨c,0,none⟩)] 224):=by
 have hmf:=jM;go_enter func234,ntmps234;go_wp2
 go_ret;exact⟨rfl,rfl⟩
end Go.Proofs.YtbgbfpklgfpepaaGreatDoor.M
namespace Go.Proofs.YtbgbfpklgfpepaaGreatDoor.M
open Tryz
open Go.RowKit Go.Shelf
set_option linter.unusedVariables false
abbrev gM(fn:FuncId)(tmps:Array Value)(ps:Array Tmp)(assign body:Code)(D:Nat)(st:LoopState)(pe:Option Code):Loop:=
 { state:=st,pending:=pe,fn:=fn,tmps:=tmps,params:=ps,assign:=assign,body:=body,defers:=D }
def gH(w:World)(l:Nat)(r:Loop):Prop:=w.heap[l]?=some (.loop r)
def kO(w:World)(d:Nat):Prop:=w.heap[d]?=some (.deferred (some []))
theorem gH.lt{w l r}(h:gH w l r):l<w.heap.size:=(Array.getElem?_eq_some_iff.1 h).1
theorem kO.lt{w d}(h:kO w d):d<w.heap.size:=(Array.getElem?_eq_some_iff.1 h).1
theorem gH.kept{w w' l r}{S:Nat->Prop}(h:gH w l r)(k:Kt S w w')(hS:¬S l):gH w' l r:=(k.block l h.lt hS).trans h
theorem kO.kept{w w' d}{S:Nat->Prop}(h:kO w d)(k:Kt S w w')(hS:¬S d):kO w' d:=(k.block d h.lt hS).trans h
theorem Kt.putObj{S:Nat->Prop}{a b:World}(h:Kt S a b){l:Nat}(hl:l<a.heap.size->S l)(o:Obj):Kt S a (b.putObj l o):=
 ⟨h.os,h.tape,h.output,by rw[World.putObj_size];exact h.size,fun i hi hU=>(World.putObj_heap_other (fun e=>hU (by rw[e];exact hl (e▸hi)))).trans (h.block i hi hU)⟩
theorem gH.put{w l r}(h:gH w l r)(r':Loop):gH (w.putObj l (.loop r')) l r':=World.putObj_heap_same h.lt
def LD(l:Nat)(rc:LoopState->Option Code->Loop)(R:Ending->World->Prop):Exit->Act->World->Prop
 | .normal,_,w=>gH w l (rc .busy none)/\R (.returned (.bool true)) (w.putObj l (.loop (rc .ready none)))
 | .ret,_,w=>gH w l (rc .busy none)/\R (.returned (.bool false)) (w.putObj l (.loop (rc .done (some .ret))))
 | .exit id,_,w=>gH w l (rc .busy none)/\R (.returned (.bool false)) (w.putObj l (.loop (rc .done (some (.exit id)))))
 | _,_,_=>False
theorem IM{P:Program}{m l:Nat}{fn:FuncId}{tmps:Array Value}{ps:Array Tmp}{assign body:Code}{D:Nat}{args:Array Value}{W:World}{R:Ending->World->Prop}
  (hl:gH W l (gM fn tmps ps assign body D .ready none)) (hs:args.size=ps.size)
  (h:assign.wpIn (Fence.wide.inRound l) m P (Exit.then (fun a₁ w₁=>gH w₁ l (gM fn tmps ps assign body D .ready none)/\
    body.wpIn (Fence.wide.inRound l) m P (LD l (gM fn tmps ps assign body D) R) a₁ (w₁.putObj l (.loop (gM fn tmps ps assign body D .busy none)))) (fun _ _ _=>False))
   { tmps:=(ps.zip args).foldl (fun t (p,v)=>t.setIfInBounds p v) tmps,defers:=[] } W):
  YieldAt Fence.wide m P l args W R:=by
 have hy:=run_yield (P:=P) (args:=args) hl hs;refine⟨fn,_,assign,body,hy,roundIn_of_wpIn trivial (wpIn_mono h ?_)⟩;rintro e a₁ w₁ hq
 cases e with
 | normal=>
  obtain⟨hr,hb⟩:=hq;refine⟨_,run_beginRound hr rfl,wpIn_mono hb ?_⟩;rintro e a₂ w₂ hq
  cases e with
  | normal=>exact⟨_,_,run_endRound none hq.1,hq.2⟩
  | ret=>exact⟨_,_,run_endRound (some .ret) hq.1,hq.2⟩
  | exit id=>exact⟨_,_,run_endRound (some (.exit id)) hq.1,hq.2⟩
  | goto t=>exact hq.elim
  | panic ch=>exact hq.elim
  | outgrown=>exact hq.elim
 | ret=>exact hq
 | exit id=>exact hq
 | goto t=>exact hq
 | panic ch=>exact hq
 | outgrown=>exact hq
def EZ(P:Program)(w:World)(l:Nat)(rc:LoopState->Option Code->Loop)(N:World->Prop)(X:Code->World->Prop):Ending->World->Prop:=fun e W2=>
 (∃ v,e=.returned v)/\∃ st pe,st≠.busy/\gH W2 l (rc st pe)/\(pe=none->N (W2.putObj l (.loop (rc .exhausted pe))))/\(∀ c,pe=some c->X c (W2.putObj l (.loop (rc .exhausted pe))))
theorem zhH{F:Fence}{P:Program}{g:Operand}{ps:Array Tmp}{assign body:Code}{Q:Exit->Act->World->Prop}{a:Act}{w:World}
  (hro:F.round=none) (hF:∀ f,F.fn f) (hdep:F.depth.isSome=false)
  {gf:Nat} {lb:Array Value} (hg:a.eval g=.func (.func gf) #[] lb) (eg:∀ args w,(callFunc gf args).run P w=.ok (.enter gf args) w)
  (h:∀ fn,CallsIn F 0 P gf (#[.func (.yield (w.heap.size + 1)) #[] #[]] ++ lb) ((w.alloc (.deferred (some []))).alloc (.loop (gM fn a.tmps ps assign body w.heap.size .ready none)))
   (EZ P w (w.heap.size+1) (gM fn a.tmps ps assign body w.heap.size) (Q .normal { a with defers:={ target:=.collected w.heap.size,args:=#[] } :: a.defers })
    (fun c=>c.wpIn F 0 P Q { a with defers:={ target:=.collected w.heap.size,args:=#[] } :: a.defers }))):
  (Code.rangeFunc g ps assign body).wpIn F 0 P Q a w:=by
 refine wpIn_rangeFunc ?_;intro fn hfn;rw[hro];refine⟨w.heap.size+1,[{ target:=.collected w.heap.size,args:=#[] }],(w.alloc (.deferred (some []))).alloc (.loop (gM fn a.tmps ps assign body w.heap.size .ready none)),{ target:=.fn (.func gf) lb,args:=#[.func (.yield (w.heap.size+1)) #[] #[]] },(w.alloc (.deferred (some []))).alloc (.loop (gM fn a.tmps ps assign body w.heap.size .ready none)),gf,
  #[.func (.yield (w.heap.size + 1)) #[] #[]] ++ lb,(w.alloc (.deferred (some []))).alloc (.loop (gM fn a.tmps ps assign body w.heap.size .ready none)),?_,?_,fun f' _=>hF f',?_,fun h=>(by rw[hdep] at h;cases h),?_⟩
 ·exact run_enterLoop_outer _ _ _ _ _
 ·simp only[resolve,hg];simp[go_sem]
 ·simp[invoke,go_sem,eg]
 ·refine CallsIn.mono (h fn) ?_;rintro e W2 ⟨⟨v,rfl⟩,st,pe,hst,hr,hq1,hq2⟩;refine⟨pe,_,run_endLoop hr hst,?_⟩
  cases pe with
  | none=>exact hq1 rfl
  | some c=>exact hq2 c rfl
theorem EY{P:Program}{g:Operand}{ps:Array Tmp}{assign body:Code}{Q:Exit->Act->World->Prop}{a:Act}{w:World}
  {gf:Nat} {lb:Array Value} (hg:a.eval g=.func (.func gf) #[] lb) (eg:∀ args w,(callFunc gf args).run P w=.ok (.enter gf args) w)
  (h:∀ fn rc,rc=gM fn a.tmps ps assign body w.heap.size->Calls P gf (#[.func (.yield (w.heap.size + 1)) #[] #[]] ++ lb) ((w.alloc (.deferred (some []))).alloc (.loop (rc .ready none)))
   (EZ P w (w.heap.size+1) rc (Q .normal { a with defers:={ target:=.collected w.heap.size,args:=#[] } :: a.defers })
    (fun c=>c.wp P Q { a with defers:={ target:=.collected w.heap.size,args:=#[] } :: a.defers }))):
  (Code.rangeFunc g ps assign body).wp P Q a w:=by
 refine(wpIn_wide (n:=0)).1 (zhH rfl (fun _=>trivial) rfl hg eg (fun fn=>callsIn_wide.2 ((h fn _ rfl).mono ?_)));rintro e W2 ⟨hv,st,pe,hst,hr,hq1,hq2⟩;exact⟨hv,st,pe,hst,hr,hq1,fun c hc=>wpIn_wide.2 (hq2 c hc)⟩
theorem IL{P:Program}{f:FuncId}{fn:Func}{c:Code}{args:Array Value}{w:World}{R:Ending->World->Prop}
  (hf:P.funcs[f]?=some fn) (hb:fn.body=some c)
  (h:c.wp P (bodyPostM Fence.wide 0 P fn R) { tmps:=args ++ Array.replicate (fn.ntmps-args.size) undef,defers:=[] } w):Calls P f args w R:=
 callsIn_wide.1 (callsIn_of_wp_marks hf hb trivial (wpIn_wide.2 h) rfl)
attribute [local go_sem] Oper.semAt_some
theorem xJ{Q:Nat->Prop}(h:∃ m,Q m):∃ m,Q m/\∀ k,Q k->m<=k:=by
 obtain⟨m,hm⟩:=h;induction m using Nat.strongRecOn with
 | _ m ih=>
  by_cases hx:∃ k,k<m/\Q k
  ·obtain⟨k,hk,hq⟩:=hx;exact ih k hk hq
  ·exact⟨m,hm,fun k hq=>Nat.le_of_not_lt fun hl=>hx ⟨k,hl,hq⟩⟩
open Classical in
noncomputable def pP(Q:Nat->Prop):Nat:=if h:∃ m,Q m then Classical.choose (xJ h) else 0
theorem zhI{Q:Nat->Prop}(h:∃ m,Q m):Q (pP Q):=by
 unfold pP;rw[dif_pos h];exact(Classical.choose_spec (xJ h)).1
theorem VX{Q:Nat->Prop}{k:Nat}(h:Q k):pP Q<=k:=by
 unfold pP;rw[dif_pos ⟨k,h⟩];exact(Classical.choose_spec (xJ ⟨k,h⟩)).2 k h
def PtrB(w:World)(k c:Nat):Prop:=w.heap[k]?=some (.cells #[.pointer (some ⟨c,0,none⟩)] 224 (0,0))
theorem PtrB.lt{w k c}(h:PtrB w k c):k<w.heap.size:=(Array.getElem?_eq_some_iff.1 h).1
theorem PtrB.c0{w k c}(h:PtrB w k c):w.cell? ⟨k,0,none⟩=some (.pointer (some ⟨c,0,none⟩)):=by simp[World.cell?,show w.heap[k]?=_ from h]
theorem PtrB.kept{w w' k c}{S:Nat->Prop}(h:PtrB w k c)(hk:Kt S w w')(hS:¬S k):PtrB w' k c:=(hk.block k h.lt hS).trans h
theorem PtrB.keep{w w' k c}(h:PtrB w k c)(hk:Kt nO w w'):PtrB w' k c:=h.kept hk (fun x=>x)
theorem zhJ(k l c b:Nat)(ao:Option Nat)(bS R lim n:Nat)(J:Nat->Nat->(Nat->Nat)->(Nat->Prop)->World->Prop)(Jx:World->Prop)
  (hJ:∀ m p f S W,J m p f S W->p<18446744073709551616/\PtrB W k c/\(∃ hd,LS W c b ao bS R lim n f hd)/\∀ x,S x->x<W.heap.size)
  (hK:∀ m p f S W W',J m p f S W->Kt nO W W'->J m p f S W')
  (hY:∀ m p f S W,J m p f S W->p≠0->In bS n p 16->YieldAt Fence.wide 0 prog l #[.int .u64 p,.agg #[.int .u64 (nx bS f p:Int),.int .u64 (pv bS f p:Int)]] W fun e W'=>
   (e=.returned (.bool true)/\(∃ m' f' S',m'<m/\J m' (nx bS f p) f' S' W')/\Kt S W W')\/(e=.returned (.bool false)/\Jx W'))
  (m0 hd:Nat) (f:Nat->Nat) (S:Nat->Prop) (w:World) (h:LS w c b ao bS R lim n f hd) (h0:J m0 hd f S w):
  Calls prog 236 #[.func (.yield l) #[] #[],.pointer (some ⟨k,0,none⟩)] w fun e W'=>(∃ v,e=.returned v)/\
   ((∃ m p f S,J m p f S W'/\(p=0\/¬In bS n p 16))\/Jx W'):=by
 have hk0:=(hJ _ _ _ _ _ h0).2.1.c0;have hc1:=h.l.c1;have HJ:=aA hJ;have HK:=aA hK;have HY:=aA hY;have H0:=aA h0;clear hJ hK hY h h0;refine(callsIn_wide (n:=0)).1 ?_;refine callsIn_of_wp func236 rfl trivial ?_ rfl;simp only[ntmps236,List.size_toArray,List.length_cons,List.length_nil,Nat.reduceAdd,Nat.reduceSub,Array.replicate_succ,Array.replicate_zero,List.push_toArray,List.append_toArray,List.nil_append,List.cons_append];gi_wp2
 gi_loopw [3] (fun p wr=>∃ m pp f S,p=.int .u64 ((pp:Nat):Int)/\J m pp f S wr) (fun p wr=>pP (fun m=>∃ pp f S,p=.int .u64 ((pp:Nat):Int)/\J m pp f S wr))
 case atStart=>exact⟨m0,hd,f,S,rfl,H0.out⟩
 case round=>
  have hls:=zhI hrel;obtain⟨M,hM⟩:=xe (pP (fun m=>∃ pp f S,u3=.int .u64 ((pp:Nat):Int)/\J m pp f S wr));rw[<-hM] at hls;obtain⟨pp,f,S,rfl,hJs⟩:=hls;have HM:=aA hM;have HS:=aA hJs;obtain⟨hp64,hk0,⟨hd',hL⟩,hSl⟩:=HJ.out _ _ _ _ _ hJs;have hk0:=hk0.c0;have HL:=aA hL;clear hrel hJs hM hSl;by_cases h0:pp=0
  ·subst h0;clear hL;gi_wp2
   go_end0
   exact⟨⟨_,rfl⟩,.inl ⟨_,_,_,_,HS.out,.inl rfl⟩⟩
  ·have h0i:((pp:Int) == 0)=false:=beq_eq_false_iff_ne.2 (by omega);by_cases hin:In bS n pp 16
   ·have A:=aA (FA c b ao bS R lim n f hd' pp wr hL.s hL.l hin);have HI:=aA hin;clear hL hin;gi_wp2_with fail
    refine⟨trivial,rfl,?_⟩;refine(callsIn_wide.2 A.out).mono ?_;rintro e w1 ⟨rfl,k1⟩;have hP:=dG.box (w:=w1) (nx bS f pp) (pv bS f pp);obtain⟨W,hW⟩:=xe (w1.alloc (.cells #[.int .u64 (nx bS f pp:Int),.int .u64 (pv bS f pp:Int)] 252));have hJW:J M pp f S W:=(by rw[hW];exact HK.out _ _ _ _ _ _ HS.out (k1.alloc _));have hSP:¬S w1.heap.size:=fun hs=>by
     have h1:=(HJ.out _ _ _ _ _ HS.out).2.2.2 _ hs;have h2:=k1.size;omega
    rw[<-hW] at hP;have hy:=HY.out M pp f S W hJW h0 HI.out;have hq0:=hP.c0;have hq1:=hP.c1;have HP:=aA hP;have HSP:=aA hSP;have HJW:=aA hJW;generalize nx bS f pp=x at *;generalize pv bS f pp=y at *;obtain⟨fn,tmps,assign,body,hyr,hR⟩:=hy;clear hP hSP k1 hJW;gi_wp2_with fail
    rw[<-hW,hyr];refine⟨fun h=>absurd h (by decide),?_⟩;refine hR.mono ?_;rintro e W' (⟨rfl,hJ',hk⟩|⟨rfl,hJx⟩)
    ·have hP2:=HP.out.kept hk HSP.out;have hq0:=hP2.c0;obtain⟨m',f',S',hlt,hJ'⟩:=hJ';have HJ':=aA hJ';have HLT:=aA hlt;clear hk hP2 hlt hJ' hR hyr hW;gi_wp2_with fail
     go_roundw
     case rel=>exact⟨m',x,f',S',rfl,HJ'.out⟩
     case measure=>
      refine Nat.lt_of_le_of_lt (VX (k:=m') ⟨x,f',S',rfl,HJ'.out⟩) ?_;rw[<-HM.out];exact HLT.out
    ·have HX:=aA hJx;clear hJx hR hyr hW;gi_wp2_with fail
     refine bodyPost_ret (results_none rfl _ _ _) rfl ?_;exact⟨⟨_,rfl⟩,.inr HX.out⟩
   ·have A:=aA (BF c b ao bS R lim n f hd' pp hp64 wr hL.s hL.l hin);have HI:=aA hin;clear hL hin;gi_wp2_with fail
    refine⟨trivial,rfl,?_⟩;refine(callsIn_wide.2 A.out).mono ?_;rintro e w1 ⟨rfl,k1⟩;gi_wp2_with fail
    refine⟨fun _ h=>(by cases h),?_⟩;gi_wp2_with fail
    refine bodyPost_ret (results_none rfl _ _ _) rfl ?_;exact⟨⟨_,rfl⟩,.inl ⟨_,_,_,_,HK.out _ _ _ _ _ _ HS.out (k1.alloc _),.inr HI.out⟩⟩
attribute [local go_sem] Oper.semAt_some
structure Six(W:World)(y lf la kb D L:Nat)(l left q c:Nat)(rc:Loop):Prop where
 hy:W.heap[y]?=some (.cells #[.func (.yield l) #[] #[]] 56 (0,0))
 hlf:W.heap[lf]?=some (.cells #[.int .u64 left] 27 (0,0))
 hla:W.heap[la]?=some (.cells #[.int .u64 q] 27 (0,0))
 hkb:PtrB W kb c
 hL:gH W L rc
 hD:kO W D
def dJ(y lf la kb D L:Nat):Nat->Prop:=fun x=>x=y\/x=lf\/x=la\/x=kb\/x=D\/x=L
theorem Six.kept{W W' y lf la kb D L l left q c rc}{S:Nat->Prop}(h:Six W y lf la kb D L l left q c rc)(k:Kt S W W')(hS:∀ x,dJ y lf la kb D L x->¬S x):Six W' y lf la kb D L l left q c rc:=
 ⟨(k.block y (Array.getElem?_eq_some_iff.1 h.hy).1 (hS _ (.inl rfl))).trans h.hy,(k.block lf (Array.getElem?_eq_some_iff.1 h.hlf).1 (hS _ (.inr (.inl rfl)))).trans h.hlf,
  (k.block la (Array.getElem?_eq_some_iff.1 h.hla).1 (hS _ (.inr (.inr (.inl rfl))))).trans h.hla,h.hkb.kept k (hS _ (.inr (.inr (.inr (.inl rfl))))),h.hL.kept k (hS _ (.inr (.inr (.inr (.inr (.inr rfl)))))),h.hD.kept k (hS _ (.inr (.inr (.inr (.inr (.inl rfl)))))) ⟩
theorem Six.lt{W y lf la kb D L l left q c rc}(h:Six W y lf la kb D L l left q c rc)(x:Nat)(hx:dJ y lf la kb D L x):x<W.heap.size:=by
 rcases hx with rfl|rfl|rfl|rfl|rfl|rfl
 ·exact(Array.getElem?_eq_some_iff.1 h.hy).1
 ·exact(Array.getElem?_eq_some_iff.1 h.hlf).1
 ·exact(Array.getElem?_eq_some_iff.1 h.hla).1
 ·exact h.hkb.lt
 ·exact h.hD.lt
 ·exact h.hL.lt
theorem Six.looped{W y lf la kb D L l left q c rc}(h:Six W y lf la kb D L l left q c rc)(h1:y≠L)(h2:lf≠L)(h3:la≠L)(h4:kb≠L)(h5:D≠L)(r:Loop):Six (W.putObj L (.loop r)) y lf la kb D L l left q c r:=
 ⟨(World.putObj_heap_other h1).trans h.hy,(World.putObj_heap_other h2).trans h.hlf,(World.putObj_heap_other h3).trans h.hla,(World.putObj_heap_other h4).trans h.hkb,h.hL.put r,(World.putObj_heap_other h5).trans h.hD⟩
theorem Six.step{W y lf la kb D L l left q c rc}(h:Six W y lf la kb D L l left q c rc)(h1:y<lf)(h2:lf<la)(h3:la<kb)(h4:kb<D)(h5:D<L)(left' q':Nat):
  Six ((W.setCell ⟨la,0,none⟩ (.int .u64 q')).setCell ⟨lf,0,none⟩ (.int .u64 left')) y lf la kb D L l left' q' c rc:=by
 have k:Kt (fun x=>x=la\/x=lf) W ((W.setCell ⟨la,0,none⟩ (.int .u64 q')).setCell ⟨lf,0,none⟩ (.int .u64 left')):=((Kt.refl _ W).setCell (fun _=>Or.inl rfl) _).setCell (fun _=>Or.inr rfl) _;refine⟨(k.block y (Array.getElem?_eq_some_iff.1 h.hy).1 (by omega)).trans h.hy,?_,?_,h.hkb.kept k (by omega),h.hL.kept k (by omega),h.hD.kept k (by omega)⟩
 ·exact bB ((((Kt.refl (fun x=>x=la) W).setCell (p:=⟨la,0,none⟩) (fun _=>rfl) _).block lf (Array.getElem?_eq_some_iff.1 h.hlf).1 (by omega)).trans h.hlf) 0 _
 ·have h7:=bB h.hla 0 (.int .u64 q');exact(((Kt.refl (fun x=>x=lf) _).setCell (p:=⟨lf,0,none⟩) (fun _=>rfl) _).block la (Array.getElem?_eq_some_iff.1 h7).1 (by omega)).trans h7
theorem mS{W:World}{k:Nat}{v:Value}{t:TypeId}(h:W.heap[k]?=some (.cells #[v] t (0,0))):W.cell? ⟨k,0,none⟩=some v:=by simp[World.cell?,h]
theorem xO{W:World}{k:Nat}{cs:Array Value}{t:TypeId}(h:W.heap[k]?=some (.cells cs t (0,0))):W.frozen? ⟨k,0,none⟩=false:=by simp[World.frozen?,h]
theorem rZ(w:World)(A B:Obj):((w.alloc A).alloc B).heap[w.heap.size+1]?=some B:=by
 have:=nH (w.alloc A) B;rwa [World.size_alloc] at this
def sR(K:Nat->Nat->Nat->(Nat->Nat)->(Nat->Prop)->World->Prop)(N l c y lf la kb D L:Nat)(rc:LoopState->Option Code->Loop)(m p:Nat)(f:Nat->Nat)(S':Nat->Prop)(W:World):Prop:=
 ∃ i q S,m+i=N/\K i q p f S W/\Six W y lf la kb D L l m q c (rc .ready none)/\(∀ x,S x->¬dJ y lf la kb D L x)/\S'=fun x=>S x\/dJ y lf la kb D L x
def sQ(K:Nat->Nat->Nat->(Nat->Nat)->(Nat->Prop)->World->Prop)(Kx:(Nat->Prop)->World->Prop)(N bS D L:Nat)(rc:LoopState->Option Code->Loop)(W:World):Prop:=
 gH W L (rc .done (some (.exit 0)))/\kO W D/\((∃ i q p f S,K i q p f S W/\i<=N/\(pv bS f p≠q\/i=N)/\¬S D/\¬S L)\/∃ S,Kx S W/\¬S D/\¬S L)
theorem VW(k l c b:Nat)(ao:Option Nat)(bS R lim n o:Nat)(ho:o<=8)(hR:R=4096*2 ^ o)(B:Nat)(K:Nat->Nat->Nat->(Nat->Nat)->(Nat->Prop)->World->Prop)(Kx:(Nat->Prop)->World->Prop)
  (hK1:∀ i q p f S W,K i q p f S W->p<18446744073709551616/\q<18446744073709551616/\(∃ hd,LS W c b ao bS R lim n f hd)/\(∀ x,S x->x<W.heap.size)/\PtrB W k c)
  (hK2:∀ i q p f S T W W',K i q p f S W->Kt T W W'->(∀ x,T x->B<=x/\¬S x)->K i q p f S W')
  (hX2:∀ S T W W',Kx S W->Kt T W W'->(∀ x,T x->B<=x/\¬S x)->Kx S W')
  (hY:∀ i q p f S W,K i q p f S W->i<n/16->p≠0->In bS n p 16->pv bS f p=q->YieldAt Fence.wide 0 prog l #[.int .u64 p] W fun e W'=>
   (e=.returned (.bool true)/\∃ f' S',K (i+1) p (nx bS f p) f' S' W'/\Kt S W W'/\∀ x,S' x->S x\/W.heap.size<=x)\/
   (e=.returned (.bool false)/\∃ S',Kx S' W'/\Kt S W W'/\∀ x,S' x->S x\/W.heap.size<=x))
  (hd:Nat) (f:Nat->Nat) (S:Nat->Prop) (w:World) (hB:B<=w.heap.size) (h:LS w c b ao bS R lim n f hd) (h0:K 0 0 hd f S w):
  Calls prog 232 #[.func (.yield l) #[] #[],.pointer (some ⟨k,0,none⟩)] w fun e W'=>(∃ v,e=.returned v)/\
   ((∃ i q p f S,K i q p f S W'/\i<=n/16/\(p=0\/¬In bS n p 16\/pv bS f p≠q\/i=n/16))\/∃ S,Kx S W'):=by
 have A:=aA (fun w' (kk:Kt nO w w')=>zeI b ao bS R lim n f o ho hR w' (h.keep kk).s);have HH:=aA h;have H0:=aA h0;have HK1:=aA hK1;have HK2:=aA hK2;have HX2:=aA hX2;have HY:=aA hY;have hn:n<=4194304:=Nat.le_trans h.s.nle h.s.cfg.lr;obtain⟨N,hN⟩:=xe (n/16);have HN:=aA (show(n:Int)/16=(N:Int)by rw[hN];simp);have hNl:N<=4194304:=by omega
 rw[<-hN] at HY ⊢;have hSlt:=(hK1 _ _ _ _ _ _ h0).2.2.2.1;have hPk:=(hK1 _ _ _ _ _ _ h0).2.2.2.2;have HP:=aA hPk;clear hK1 hK2 hX2 hY h0 hN h;have hk0:=(hPk.keep ((Kt.refl nO w).alloc (.cells #[.func (.yield l) #[] #[]] 56))).c0;have hc0:=(HH.out.l.keep ((Kt.refl nO w).alloc (.cells #[.func (.yield l) #[] #[]] 56))).c0;clear hPk;refine IL func232 rfl ?_;simp only[ntmps232,List.size_toArray,List.length_cons,List.length_nil,Nat.reduceAdd,Nat.reduceSub,Array.replicate_succ,Array.replicate_zero,List.push_toArray,List.append_toArray,List.nil_append,List.cons_append];go_wp2_with fail;apply wp_scope_straight
 go_wp2_with fail;refine(A.out _ ((Kt.refl nO w).alloc _)).mono ?_;rintro e w1 ⟨rfl,k1⟩;have hk1:=(HP.out.keep (nT ((Kt.refl nO w).alloc (.cells #[.func (.yield l) #[] #[]] 56)) k1)).keep (((Kt.refl nO w1).alloc (.cells #[.int .u64 N] 27)).alloc (.cells #[.int .u64 0] 27));have hk1:=hk1.c0;clear hk0 hc0;go_wp2_with fail;rw[HN.out];apply wp_label
 go_wp2_with fail;refine(ZX c _).mono ?_;rintro e w2 ⟨rfl,hw2⟩;rw[World.size_alloc,World.size_alloc];have KW:=aA (show Kt nO w w2 by rw[hw2];exact(((nT ((Kt.refl nO w).alloc _) k1).alloc _).alloc _).alloc _);have F1:=aA (show w2.heap[w.heap.size]?=some (.cells #[.func (.yield l) #[] #[]] 56 (0,0))by
  have hlt:w.heap.size<w1.heap.size:=by have:=k1.size;simp at this;omega
  rw[hw2,Below.heap_alloc _ _ _ (by simp;omega),Below.heap_alloc _ _ _ (by simp;omega),Below.heap_alloc _ _ _ (by omega)];exact(k1.block _ (by simp) (fun x=>x)).trans (nH _ _))
 have F2:=aA (show w2.heap[w1.heap.size]?=some (.cells #[.int .u64 N] 27 (0,0))by
  rw[hw2,Below.heap_alloc _ _ _ (by simp;omega),Below.heap_alloc _ _ _ (by simp)];exact nH _ _)
 have F3:=aA (show w2.heap[w1.heap.size+1]?=some (.cells #[.int .u64 ((0:Nat):Int)] 27 (0,0))by
  rw[hw2,Below.heap_alloc _ _ _ (by simp)];exact rZ _ _ _)
 have F4:=aA (show PtrB w2 (w1.heap.size+2) c by
  rw[hw2];have:=nH ((w1.alloc (.cells #[.int .u64 N] 27)).alloc (.cells #[.int .u64 0] 27)) (.cells #[.pointer (some ⟨c,0,none⟩)] 224);rw[World.size_alloc,World.size_alloc] at this;exact this)
 have hz2:w2.heap.size=w1.heap.size+3:=by rw[hw2];simp
 have hz1:w.heap.size<w1.heap.size:=by have:=k1.size;simp at this;omega
 have H2:=aA (HH.out.keep KW.out);have K2:=aA (HK2.out _ _ _ _ _ _ _ _ H0.out KW.out (fun x hx=>hx.elim));clear hk1 k1 hw2 A;generalize w1.heap.size=z at *;go_wp2_with fail;refine EY (gf:=236) (lb:=#[.pointer (some ⟨z+2,0,none⟩)]) rfl (enters_of func236 (by kernel_rfl) rfl) ?_;intro fn rc hrc;have HRC:=aA hrc;clear hrc;rw[hz2];obtain⟨W3,hW3⟩:=xe ((w2.alloc (.deferred (some []))).alloc (.loop (rc .ready none)));have KW3:=aA (show Kt nO w2 W3 by rw[hW3];exact((Kt.refl nO w2).alloc _).alloc _);have X6:=aA (show Six W3 w.heap.size z (z+1) (z+2) (z+3) (z+4) l N 0 c (rc .ready none)from by
  refine⟨?_,?_,?_,F4.out.keep KW3.out,?_,?_⟩
  ·exact(KW3.out.block _ (by omega) (fun x=>x)).trans F1.out
  ·exact(KW3.out.block _ (by omega) (fun x=>x)).trans F2.out
  ·exact(KW3.out.block _ (by omega) (fun x=>x)).trans F3.out
  ·rw[hW3];have:=rZ w2 (.deferred (some [])) (.loop (rc .ready none));rw[hz2] at this;exact this
  ·rw[hW3];have:=(Below.heap_alloc (w2.alloc (.deferred (some []))) (.loop (rc .ready none)) w2.heap.size (by simp)).trans (nH w2 _);rw[hz2] at this;exact this)
 rw[<-hW3];have hS6:∀ x,S x->¬dJ w.heap.size z (z+1) (z+2) (z+3) (z+4) x:=fun x hx h6=>by
  have:=hSlt x hx;unfold dJ at h6;omega
 have J0:=aA (show sR K N l c w.heap.size z (z+1) (z+2) (z+3) (z+4) rc N hd f (fun x=>S x\/dJ w.heap.size z (z+1) (z+2) (z+3) (z+4) x) W3 from
  ⟨0,0,S,rfl,HK2.out _ _ _ _ _ _ _ _ K2.out KW3.out (fun x hx=>hx.elim),X6.out,hS6,rfl⟩)
 have HB:=aA (show ∀ x,dJ w.heap.size z (z+1) (z+2) (z+3) (z+4) x->B<=x from fun x hx=>by unfold dJ at hx;omega);have HNE:=aA (show ∀ x,x≠z->x≠z+1->x≠z+4->dJ w.heap.size z (z+1) (z+2) (z+3) (z+4) x->x≠z/\x≠z+1/\x≠z+4 from fun x h1 h2 h3 _=>⟨h1,h2,h3⟩);have HY1:=aA (show w.heap.size<z from hz1);refine(zhJ (z+2) (z+4) c b ao bS R lim n (sR K N l c w.heap.size z (z+1) (z+2) (z+3) (z+4) rc) (sQ K Kx N bS (z+3) (z+4) rc) ?hJ ?hK ?hY N hd f _ W3 (H2.out.keep KW3.out) J0.out).mono ?hend
 case hJ=>
  rintro m p f' S' W ⟨i,q,S,hmi,hk,h6,hS,rfl⟩;obtain⟨h1,h2,h3,h4,h5⟩:=HK1.out _ _ _ _ _ _ hk;refine⟨h1,h6.hkb,h3,?_⟩;rintro x (hx|hx)
  ·exact h4 x hx
  ·exact h6.lt x hx
 case hK=>
  rintro m p f' S' W W' ⟨i,q,S,hmi,hk,h6,hS,rfl⟩ hKK;exact⟨i,q,S,hmi,HK2.out _ _ _ _ _ _ _ _ hk hKK (fun x hx=>hx.elim),h6.kept hKK (fun _ _ x=>x),hS,rfl⟩
 case hend=>
  rintro e W' ⟨hv,hq⟩;refine⟨hv,?_⟩;rcases hq with ⟨m,p,f',S',⟨i,q,S,hmi,hk,h6,hS,rfl⟩,hp⟩|⟨hr,hD,hx⟩
  ·refine⟨.ready,none,by simp,h6.hL,fun _=>?_,fun c hc=>by cases hc⟩;have hD:=h6.hD;have hD2:kO (W'.putObj (z+4) (.loop (rc .exhausted none))) (z+3):=(World.putObj_heap_other (by omega)).trans hD;have HF:=aA (show ∃ i q p f S,K i q p f S ((W'.putObj (z+4) (.loop (rc .exhausted none))).putObj (z+3) (.deferred none))/\i<=N/\(p=0\/¬In bS n p 16\/pv bS f p≠q\/i=N)from by
    refine⟨i,q,p,f',S,HK2.out _ _ _ _ _ (fun x=>x=z+3\/x=z+4) _ _ hk ((((Kt.refl _ W').putObj (fun _=>Or.inr rfl) _)).putObj (fun _=>Or.inl rfl) _) ?_,by omega,?_⟩
    ·rintro x (rfl|rfl)
     ·exact⟨HB.out _ (by unfold dJ;omega),fun hs=>hS _ hs (by unfold dJ;omega)⟩
     ·exact⟨HB.out _ (by unfold dJ;omega),fun hs=>hS _ hs (by unfold dJ;omega)⟩
    ·rcases hp with hp|hp
     ·exact .inl hp
     ·exact .inr (.inl hp))
   clear hk h6 hS hp;go_wp2_with fail;refine⟨by simp,.inl ⟨_,_,rfl,run_takeDeferred hD2,?_⟩⟩;exact⟨_,results_none rfl _ _ _,⟨_,rfl⟩,.inl HF.out⟩
  ·refine⟨.done,some (.exit 0),by simp,hr,fun h=>(by cases h),fun c hc=>?_⟩
   cases hc
   have hD2:kO (W'.putObj (z+4) (.loop (rc .exhausted (some (.exit 0))))) (z+3):=(World.putObj_heap_other (by omega)).trans hD;have hkk:Kt (fun x=>x=z+3\/x=z+4) W' ((W'.putObj (z+4) (.loop (rc .exhausted (some (.exit 0))))).putObj (z+3) (.deferred none)):=((Kt.refl _ W').putObj (fun _=>Or.inr rfl) _).putObj (fun _=>Or.inl rfl) _;have HF:=aA (show(∃ i q p f S,K i q p f S ((W'.putObj (z+4) (.loop (rc .exhausted (some (.exit 0))))).putObj (z+3) (.deferred none))/\i<=N/\(p=0\/¬In bS n p 16\/pv bS f p≠q\/i=N))\/∃ S,Kx S ((W'.putObj (z+4) (.loop (rc .exhausted (some (.exit 0))))).putObj (z+3) (.deferred none))from by
    rcases hx with ⟨i,q,p,f',S,hk,hi,hp,hsd,hsl⟩|⟨S,hk,hsd,hsl⟩
    ·refine .inl ⟨i,q,p,f',S,HK2.out _ _ _ _ _ _ _ _ hk hkk ?_,hi,.inr (.inr hp)⟩;rintro x (rfl|rfl)
     ·exact⟨HB.out _ (by unfold dJ;omega),hsd⟩
     ·exact⟨HB.out _ (by unfold dJ;omega),hsl⟩
    ·refine .inr ⟨S,HX2.out _ _ _ _ hk hkk ?_⟩;rintro x (rfl|rfl)
     ·exact⟨HB.out _ (by unfold dJ;omega),hsd⟩
     ·exact⟨HB.out _ (by unfold dJ;omega),hsl⟩)
   clear hx hkk;go_wp2_with fail;refine⟨by simp,.inl ⟨_,_,rfl,run_takeDeferred hD2,?_⟩⟩;exact⟨_,results_none rfl _ _ _,⟨_,rfl⟩,HF.out⟩
 case hY=>
  rintro m p f' S' W ⟨i,q,S,hmi,hk,h6,hS,rfl⟩ hp0 hin;have hL:=h6.hL;rw[HRC.out] at hL;have hp64:=(HK1.out _ _ _ _ _ _ hk).1;have hq64:=(HK1.out _ _ _ _ _ _ hk).2.1;have hSl:=(HK1.out _ _ _ _ _ _ hk).2.2.2.1;refine IM hL rfl ?_;rw[<-HRC.out];clear hL;have H6:=aA h6;have HK:=aA hk;have HSl:=aA hSl;have HS:=aA hS;clear h6 hk hSl hS;have HHS:=aA (show ∀ x,S x->x≠z+4 from fun x hx e=>HS.out x hx (by unfold dJ;omega));gi_wp2_with fail
  refine⟨H6.out.hL.kept ((Kt.refl nO W).alloc _) (fun x=>x),?_⟩;obtain⟨W2,hW2⟩:=xe ((W.alloc (.cells #[.int .u64 (nx bS f' p:Int),.int .u64 (pv bS f' p:Int)] 252)).putObj (z+4) (.loop (rc .busy none)));have hLW:=H6.out.hL.lt;have KW2:=aA (show Kt (fun x=>x=z+4) W W2 by rw[hW2];exact((Kt.refl (fun x=>x=z+4) W).alloc _).putObj (fun _=>rfl) _);have X2:=aA (show Six W2 w.heap.size z (z+1) (z+2) (z+3) (z+4) l m q c (rc .busy none)by
   rw[hW2];exact(H6.out.kept ((Kt.refl nO W).alloc _) (fun _ _ x=>x)).looped (by omega) (by omega) (by omega) (by omega) (by omega) _)
  have P2:=aA (show dG W2 W.heap.size (nx bS f' p) (pv bS f' p)by
   rw[hW2];exact(World.putObj_heap_other (by omega)).trans (dG.box _ _))
  have KK2:=aA (HK2.out _ _ _ _ _ _ _ _ HK.out KW2.out (fun x hx=>by subst hx;exact⟨HB.out _ (by unfold dJ;omega),fun hs=>HHS.out _ hs rfl⟩));have hc1:=P2.out.c1;have hc2:=mS X2.out.hla;have hc3:=mS X2.out.hlf;have hc4:=mS X2.out.hy;have hm64:m<=4194304:=by omega
  rw[<-hW2];clear hW2 hLW;have HD:=aA (show ¬S (z+3)from fun hs=>HS.out _ hs (by unfold dJ;omega));have HL4:=aA (show ¬S (z+4)from fun hs=>HS.out _ hs (by unfold dJ;omega));have HOUT:=aA (show(pv bS f' p≠q\/i=N)->sQ K Kx N bS (z+3) (z+4) rc (W2.putObj (z+4) (.loop (rc .done (some (.exit 0)))))from fun hor=>by
   refine⟨X2.out.hL.put _,(World.putObj_heap_other (by omega)).trans X2.out.hD,.inl ⟨i,q,p,f',S,HK2.out _ _ _ _ _ (fun x=>x=z+4) _ _ KK2.out ((Kt.refl (fun x=>x=z+4) W2).putObj (fun _=>rfl) _) ?_,by omega,hor,HD.out,HL4.out⟩⟩;rintro x rfl;exact⟨HB.out _ (by unfold dJ;omega),HL4.out⟩)
  obtain⟨y,hy⟩:=xe (pv bS f' p);rw[<-hy] at hc1;by_cases hyq:y=q
  ·have hyqi:((y:Int) == (q:Int))=true:=beq_iff_eq.2 (by omega);by_cases hm0:m=0
   ·have hm0i:((m:Int) == 0)=true:=beq_iff_eq.2 (by omega);have hi:i=N:=(by omega);have HI:=aA hi;clear hi hy;gi_wp2_with fail
    exact⟨X2.out.hL,.inr ⟨rfl,HOUT.out (.inr HI.out)⟩⟩
   ·have hm0i:((m:Int) == 0)=false:=beq_eq_false_iff_ne.2 (by omega);have hY:=HY.out i q p f' S W2 KK2.out (by omega) hp0 hin (by rw[<-hy];exact hyq);obtain⟨fn',tmps',assign',body',hyr,hR'⟩:=hY;obtain⟨m',rfl⟩:∃ m',m=m'+1:=⟨m-1,by omega⟩;clear hy;gi_wp2_with fail
    refine⟨rfl,?_⟩;refine RoundIn.mono (F:=Fence.wide.inRound (z+4)) hR' ?_;rintro e W3 (⟨rfl,f2,S2,hk3,hkk,hs⟩|⟨rfl,S2,hx3,hkk,hs⟩)
    ·have X3:=aA (X2.out.kept hkk (fun x hx hsx=>HS.out x hsx hx));have HK3:=aA hk3;have HKK:=aA hkk;have HSS:=aA (show ∀ x,S2 x->¬dJ w.heap.size z (z+1) (z+2) (z+3) (z+4) x from fun x hx h6x=>by
      rcases hs x hx with h1|h1
      ·exact HS.out x h1 h6x
      ·have:=X2.out.lt x h6x;omega)
     have hd1:=mS X3.out.hla;have hd2:=xO X3.out.hla;have hd3:=mS X3.out.hlf;have hd4:=xO X3.out.hlf;have k5:Kt (fun x=>x=z+1) W3 (W3.setCell ⟨z+1,0,none⟩ (.int .u64 p)):=(Kt.refl (fun x=>x=z+1) W3).setCell (fun _=>rfl) _;have hd5:=k5.cell (p:=⟨z,0,none⟩) (by simp) hd3;clear hk3 hkk hs hR' hyr k5 hc1 hc2 hc3 hc4;gi_wp2_with fail
     have X4:=X3.out.step HY1.out (by omega) (by omega) (by omega) (by omega) m' p;have k6:Kt (dJ w.heap.size z (z+1) (z+2) (z+3) (z+4)) W3 (((W3.setCell ⟨z+1,0,none⟩ (.int .u64 p)).setCell ⟨z,0,none⟩ (.int .u64 m')).putObj (z+4) (.loop (rc .ready none))):=
      (((Kt.refl _ W3).setCell (fun _=>by unfold dJ;simp) _).setCell (fun _=>by unfold dJ;simp) _).putObj (fun _=>by unfold dJ;simp) _
     refine⟨X4.hL,.inl ⟨rfl,⟨m',by omega,f2,_,i+1,p,S2,by omega,HK2.out _ _ _ _ _ _ _ _ HK3.out k6 (fun x hx=>⟨HB.out x hx,fun h=>HSS.out x h hx⟩),X4.looped (by omega) (by omega) (by omega) (by omega) (by omega) _,HSS.out,rfl⟩,?_⟩⟩;refine((KW2.out.trans (U:=fun x=>S x\/dJ w.heap.size z (z+1) (z+2) (z+3) (z+4) x) HKK.out (fun x _ hx=>.inr (by subst hx;unfold dJ;simp)) (fun x _ hx=>.inl hx))).trans k6 (fun x _ hx=>hx) (fun x _ hx=>.inr hx)
    ·have X3:=aA (X2.out.kept hkk (fun x hx hsx=>HS.out x hsx hx));have HX3:=aA hx3;have HSS:=aA (show ∀ x,S2 x->¬dJ w.heap.size z (z+1) (z+2) (z+3) (z+4) x from fun x hx h6x=>by
      rcases hs x hx with h1|h1
      ·exact HS.out x h1 h6x
      ·have:=X2.out.lt x h6x;omega)
     clear hx3 hkk hs hR' hyr hc1 hc2 hc3 hc4;gi_wp2_with fail
     refine⟨X3.out.hL,.inr ⟨rfl,X3.out.hL.put _,(World.putObj_heap_other (by omega)).trans X3.out.hD,.inr ⟨S2,HX2.out _ (fun x=>x=z+4) _ _ HX3.out ((Kt.refl (fun x=>x=z+4) W3).putObj (fun _=>rfl) _) ?_,fun h=>HSS.out _ h (by unfold dJ;omega),fun h=>HSS.out _ h (by unfold dJ;omega)⟩⟩⟩;rintro x rfl;exact⟨HB.out _ (by unfold dJ;omega),fun h=>HSS.out _ h (by unfold dJ;omega)⟩
  ·have hyqi:((y:Int) == (q:Int))=false:=beq_eq_false_iff_ne.2 (by omega);have HYQ:=aA (show pv bS f' p≠q by rw[<-hy];exact hyq);clear hyq hy;gi_wp2_with fail
   exact⟨X2.out.hL,.inr ⟨rfl,HOUT.out (.inl HYQ.out)⟩⟩
def iW(x:Nat):Value:=.int .u64 x
structure Lst(w:World)(v:Value)(xs:List Nat):Prop where
 lt:∀ x∈xs,x<18446744073709551616
 own:w.ownsRow 0 27 1 v xs.length (xs.map iW)
def Wds(w:World)(v:Value)(xs:List Nat):Prop:=
 (∀ x∈xs,x<18446744073709551616)/\∃ ao cap,v=.slice (adr ao) xs.length cap/\(xs≠[]->∃ g,ao=some g)/\∀ g,ao=some g->g<w.heap.size/\xs.length<=cap/\∀ i,i<xs.length->w.cell? ⟨g,i,none⟩=some (iW (xs.getD i 0))
theorem Lst.wds{w v xs}(h:Lst w v xs):Wds w v xs:=by
 refine⟨h.lt,?_⟩;rcases h.own.2 with ⟨rfl,h0⟩|⟨g,cap,cur,rfl,hb,hg,hnc,hcm,hcs,htake⟩
 ·have:xs=[]:=List.eq_nil_of_length_eq_zero h0;subst this;exact⟨none,0,rfl,fun h=>absurd rfl h,fun g hg=>by cases hg⟩
 ·refine⟨some g,cap,rfl,fun _=>⟨g,rfl⟩,fun g' e=>?_⟩
  cases e
  refine⟨(Array.getElem?_eq_some_iff.1 hg).1,hnc,fun i hi=>?_⟩;have hti:(cur.toList.take (xs.length*1))[i]?=(xs.map iW)[i]?:=by rw[htake]
  rw[List.getElem?_take,if_pos (by omega)] at hti;rw[List.getElem?_map] at hti;simp only[World.cell?,hg];rw[<-Array.getElem?_toList,hti,List.getElem?_eq_getElem hi];simp[hi,List.getD]
theorem Wds.lt{w v xs r}(h:Wds w v xs)(hr:v.ownBlock=some r):r<w.heap.size:=by
 obtain⟨h1,ao,cap,rfl,h2,h3⟩:=h
 cases ao with
 | none=>simp[adr,Value.ownBlock] at hr
 | some g=>simp[adr,Value.ownBlock] at hr;subst hr;exact(h3 g rfl).1
theorem Lst.kept{w w' v xs}{S:Nat->Prop}(h:Lst w v xs)(k:Kt S w w')(hS:∀ r,v.ownBlock=some r->¬S r):Lst w' v xs:=by
 refine⟨h.lt,h.own.1,?_⟩;rcases h.own.2 with h0|⟨g,cap,cur,rfl,hb,hg,h3⟩
 ·exact .inl h0
 ·exact .inr ⟨g,cap,cur,rfl,hb,(k.block g (Array.getElem?_eq_some_iff.1 hg).1 (hS g rfl)).trans hg,h3⟩
theorem Lst.keep{w w' v xs}(h:Lst w v xs)(k:Kt nO w w'):Lst w' v xs:=h.kept k (fun _ _ x=>x)
theorem Lst.nil(w:World):Lst w (.slice none 0 0) []:=⟨fun _ h=>(by cases h),World.ownsRow_nil _ _ _ _⟩
theorem Lst.blk{w v xs r}(h:Lst w v xs)(hr:v.ownBlock=some r):∃ cs,w.heap[r]?=some (.cells cs 27 (0,0)):=by
 rcases h.own.2 with ⟨rfl,_⟩|⟨g,cap,cur,rfl,hb,hg,h3⟩
 ·simp[Value.ownBlock] at hr
 ·simp[Value.ownBlock] at hr;subst hr;exact⟨_,hg⟩
theorem uT:(prog.info? 27).map (fun i=>(i.zero,i.size,i.bytes))=some (some (.int .u64 0),1,8):=by kernel_rfl
theorem lX{w w':World}{row:Option Nat}(h:w.grownBy w' row):Kt (fun b=>row=some b) w w':=⟨h.os,h.tape,h.output,h.size,fun k hk hn=>h.block k hk (fun e=>hn e.symm)⟩
theorem VV(w:World)(v:Value)(xs:List Nat)(x:Nat)(h:Lst w v xs)(hx:x<18446744073709551616)(hlen:xs.length+1<=4194305)(a:Addr)(c:Nat)(ha:w.cell? (a.add 0)=some (iW x)):
  ∃ v' w',(∀ ty,(Builtin.append_ #[59,59] ty #[v,.slice (some a) 1 c]).run prog w=.ok v' w')/\Lst w' v' (xs ++ [x])/\Kt (fun b=>v.ownBlock=some b) w w'/\
   (v'.ownBlock=v.ownBlock\/∃ r,v'.ownBlock=some r/\w.heap.size<=r)/\∃ g cap,v'=.slice (some ⟨g,0,none⟩) (xs.length+1) cap:=by
 obtain⟨i,hi,hz0,hz1,hz2⟩:=info_parts uT;have hmax:xs.length+1<=maxLen:=by simp only[maxLen];omega
 have hlt:∀ y∈xs ++ [x],y<18446744073709551616:=by
  intro y hy;rcases List.mem_append.1 hy with hy|hy
  ·exact h.lt y hy
  ·simp at hy;subst hy;exact hx
 have hnews:∀ j u,[iW x][j]?=some u->w.cell? (a.add j)=some u:=by
  intro j u hj;match j,hj with
  | 0,hj=>simp at hj;subst hj;exact ha
  | j+1,hj=>simp at hj
 have hmap:(xs ++ [x]).map iW=xs.map iW ++ [iW x]:=by simp
 have hl1:(xs ++ [x]).length=xs.length + 1:=by simp
 by_cases hr:∃ g cap,v=.slice (some ⟨g,0,none⟩) xs.length cap/\xs.length+1<=cap
 ·obtain⟨g,cap,rfl,hroom⟩:=hr;obtain⟨w',hrun,hown,hgr⟩:=run_append_fits (P:=prog) w 0 59 0 27 i 1 Tryz.underlying59 hi hz1 g xs.length cap (xs.map iW) h.own a 1 c [iW x] rfl hnews (by simp[Value.oneCell',iW]) hroom;refine⟨.slice (some ⟨g,0,none⟩) (xs.length+1) cap,w',fun ty=>?_,⟨hlt,?_⟩,lX hgr,.inl rfl,g,cap,rfl⟩
  ·rw[<-hrun];simp[Builtin.append_]
  ·rw[hmap,hl1];exact hown
 ·have key:∃ v' w',(Builtin.append_ #[59,59] 0 #[v,.slice (some a) 1 c]).run prog w=.ok v' w'/\w'.ownsRow w.heap.size 27 1 v' (xs.length + 1) (xs.map iW ++ [iW x])/\Kt (fun b=>v.ownBlock=some b) w w':=by
   have ho:=h.own;rcases ho.2 with ⟨rfl,h0⟩|⟨g,cap,cur,rfl,hb,hg,hnc,hcm,hcs,htake⟩
   ·have:xs=[]:=List.eq_nil_of_length_eq_zero h0;subst this;obtain⟨v',w',hrun,hown,hgr,_⟩:=run_append_own (P:=prog) w w.heap.size 59 0 27 i (.int .u64 0) 1 8 Tryz.underlying59 hi hz0 hz1 hz2 rfl (by decide) (.slice none 0 0) 0 [] (World.ownsRow_nil _ _ _ _) a 1 c [iW x] rfl hnews (by simp[Value.oneCell',iW]) hmax (by simp) (Nat.le_refl _);exact⟨v',w',hrun,hown,lX hgr⟩
   ·obtain⟨v',w',hrun,hown,hgr⟩:=run_append_arg_grows (P:=prog) w 59 0 27 i (.int .u64 0) 1 8 Tryz.underlying59 hi hz0 hz1 hz2 rfl (by decide) ⟨g,0,none⟩ xs.length cap (xs.map iW) (by simp) (fun j u hj=>by
     rw[Addr.add_lit,Nat.zero_add];rw[<-htake,List.getElem?_take] at hj;split at hj
     ·simp only[World.cell?,hg];rw[<-Array.getElem?_toList,hj];rfl
     ·cases hj) a 1 c [iW x] rfl hnews (Nat.lt_of_not_le fun hle=>hr ⟨g,cap,rfl,hle⟩) hmax (by omega)
    exact⟨v',w',hrun,hown,(lX hgr).mono (fun _ _ e=>by cases e)⟩
  obtain⟨v',w',hrun,hown,hk⟩:=key;rcases hown.2 with ⟨_,h0⟩|⟨g,cap,cur,rfl,hb,hg,h3⟩
  ·omega
  ·refine⟨_,w',fun ty=>?_,⟨hlt,?_⟩,hk,.inr ⟨g,rfl,hb⟩,g,cap,rfl⟩
   ·rw[<-hrun];simp[Builtin.append_]
   ·rw[hmap,hl1];exact⟨hown.1,.inr ⟨g,cap,cur,rfl,Nat.zero_le _,hg,h3⟩⟩
theorem zcc{F:Fence}{n:Nat}{P:Program}(w:World){ops:Array Oper}{rest:List Oper}{o:Oper}{a:Act}{Q:Exit->Act->World->Prop}(hg:o.guard=none)(s x:Operand)(t:TypeId)
  (hop:o.op=Op.call { callee:=Callee.builtin Builtin.append,args:=#[s,x],argTypes:=#[t,t] }) (v u:Value) (hs:a.eval s=v) (hx:a.eval x=u) (v':Value) (w':World)
  (hr:∀ ty,(Builtin.append_ #[t,t] ty #[v,u]).run P w=.ok v' w') (h:wpListIn F n P ops Q rest (a.put o.dst v') w'):wpListIn F n P ops Q (o :: rest) a w:=by
 refine wpListIn_plain hg fun K hK'=>?_
 have hrun:=hr o.type;unfold Oper.wpIn;refine⟨?_,?_⟩
 ·simp[Oper.about,hop,resolve,Target.leads,Sem.run_pure]
 ·rw[Oper.semAt_plain F _ _ (by rw[hop];intro c hc';cases hc')];simp[execOp,hop,resolve,invoke,builtin,hs,hx,hrun,Result.andThen];exact hK' _ _ h
attribute [local go_sem] Oper.semAt_some
def walkR(bS n:Nat)(f:Nat->Nat):Nat->Nat->Nat->List Nat
 | 0,_,_=>[]
 | k+1,q,p=>if p≠0/\In bS n p 16/\pv bS f p=q then p :: walkR bS n f k p (nx bS f p) else []
def fP(w:World)(k:Nat)(v:Value):Prop:=w.heap[k]?=some (.cells #[v] 59 (0,0))
theorem fP.lt{w k v}(h:fP w k v):k<w.heap.size:=(Array.getElem?_eq_some_iff.1 h).1
theorem fP.kept{w w' k v}{S:Nat->Prop}(h:fP w k v)(hk:Kt S w w')(hS:¬S k):fP w' k v:=(hk.block k h.lt hS).trans h
theorem fP.set{w k v}(h:fP w k v)(u:Value):fP (w.setCell ⟨k,0,none⟩ u) k u:=bB h 0 u
structure Taking(c b:Nat)(ao:Option Nat)(bS R lim n:Nat)(f0:Nat->Nat)(hd0 kk ob D L:Nat)(w0:World)(rc:LoopState->Option Code->Loop)(N i q p:Nat)(f:Nat->Nat)(S:Nat->Prop)(W:World):Prop where
 hf:f=f0
 ls:LS W c b ao bS R lim n f hd0
 pk:PtrB W kk c
 k0:Kt nO w0 W
 hp:p<18446744073709551616
 hq:q<18446744073709551616
 ex:∃ (xs:List Nat) (v:Value),xs.length=i/\i<=N/\xs ++ walkR bS n f0 (N-i) q p=walkR bS n f0 N 0 hd0/\fP W ob v/\Lst W v xs/\gH W L (rc .ready none)/\kO W D/\
  (∀ r,v.ownBlock=some r->w0.heap.size<=r)/\S=fun x=>x<w0.heap.size\/x=kk\/x=ob\/x=D\/x=L\/v.ownBlock=some x
theorem LQ(d:Nat)(f:Fn)(a b:Array Value)(w:World):(Op.equalIn (d+1) 265 (.func f a b) .nilFunc).run prog w=.ok false w:=by
 simp[Op.equalIn,run_underlying Tryz.underlying265]
theorem zA(f:Fn)(a b:Array Value)(w:World):(binOp .eql 265 (.func f a b) .nilFunc).run prog w=.ok (.bool false) w:=by
 simp only[binOp];simp[Op.equal,Op.maxDepth,LQ 9999]
end Go.Proofs.YtbgbfpklgfpepaaGreatDoor.M
