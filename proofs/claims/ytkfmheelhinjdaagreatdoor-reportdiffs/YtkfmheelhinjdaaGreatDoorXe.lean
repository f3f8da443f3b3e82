import Derived.Test.YtkfmheelhinjdaaGreatDoorXd
import Derived.RangeFuncNested
import Derived.RangeFuncBound
import Derived.RangeFuncCalls
import Derived.RangeFuncLeaves
import Derived.Shelf.Abstract
import Derived.Shelf.RegionOpen
import Derived.WalkMore
import Derived.OwnWalkIn
import Derived.TacticsInMore
import Derived.LoopNIn
import Derived.LoopIn
import Derived.Maps.AppendAt
import Derived.ArgAppend
import Derived.Laws.OwnMore
set_option maxRecDepth 1000000
set_option maxHeartbeats 80000000
namespace Go.Proofs.YtkfmheelhinjdaaGreatDoor.M
open _root_.Go.Proofs.Tryz
open Go.RowKit
set_option linter.unusedVariables false
theorem IZ(f:Nat->Nat)(o k:Nat)(g:Nat->Nat)(i:Nat)(h:o<=i/\i<o+k):upd f o k g i=g (i-o):=by simp only[upd];rw[if_pos h]
theorem LQ(f:Nat->Nat)(o k:Nat)(g:Nat->Nat)(i:Nat)(h:¬(o<=i/\i<o+k)):upd f o k g i=f i:=by simp only[upd];rw[if_neg h]
theorem wordTo_congr(f g:Nat->Nat)(k:Nat)(h:∀ i,i<k->f i=g i):wordTo f k=wordTo g k:=by
 induction k with
 | zero=>rfl
 | succ k ih=>rw[wordTo,wordTo,ih (fun i hi=>h i (by omega)),h k (by omega)]
theorem zd2(v k:Nat):wordTo (byteOf v) k=v%256 ^ k:=by
 induction k with
 | zero=>simp[wordTo,Nat.mod_one]
 | succ k ih=>rw[wordTo,ih,byteOf,Nat.pow_succ,Nat.mod_mul,Nat.mul_comm (v/256 ^ k%256)]
theorem word_upd(f:Nat->Nat)(o v:Nat)(hv:v<18446744073709551616):word (upd f o 8 (byteOf v)) o=v:=by
 unfold word;rw[wordTo_congr _ (byteOf v) 8 (fun i hi=>by rw[IZ _ _ _ _ _ (by omega),Nat.add_sub_cancel_left]),zd2];exact Nat.mod_eq_of_lt hv
instance (bS n p k:Nat):Decidable (In bS n p k):=inferInstanceAs (Decidable (_/\_))
structure ListAt(w:World)(c b hd:Nat):Prop where
 hc:w.heap[c]?=some (.cells #[.pointer (some ⟨b,0,none⟩),.int .u64 hd] 179 (0,0))
 h64:hd<18446744073709551616
theorem ListAt.lt{w c b hd}(h:ListAt w c b hd):c<w.heap.size:=(Array.getElem?_eq_some_iff.1 h.hc).1
theorem ListAt.c0{w c b hd}(h:ListAt w c b hd):w.cell? ⟨c,0,none⟩=some (.pointer (some ⟨b,0,none⟩)):=by simp[World.cell?,h.hc]
theorem ListAt.c1{w c b hd}(h:ListAt w c b hd):w.cell? ⟨c,1,none⟩=some (.int .u64 hd):=by simp[World.cell?,h.hc]
theorem ListAt.fz{w c b hd}(h:ListAt w c b hd)(i:Nat):w.frozen? ⟨c,i,none⟩=false:=by simp[World.frozen?,h.hc]
theorem ListAt.kept{w w' c b hd}{S:Nat->Prop}(h:ListAt w c b hd)(k:Kt S w w')(hS:¬S c):ListAt w' c b hd:=⟨(k.block c h.lt hS).trans h.hc,h.h64⟩
theorem ListAt.keep{w w' c b hd}(h:ListAt w c b hd)(k:Kt nO w w'):ListAt w' c b hd:=h.kept k (fun x=>x)
theorem heap_set{w:World}{k:Nat}{cs:Array Value}{t:TypeId}{z:Nat×Nat}(h:w.heap[k]?=some (.cells cs t z))(i:Nat)(u:Value):(w.setCell ⟨k,i,none⟩ u).heap[k]?=some (.cells (cs.setIfInBounds i u) t z):=by
 obtain⟨hlt,hk⟩:=Array.getElem?_eq_some_iff.1 h;show(w.heap.modify k _)[k]?=_
 rw[Array.getElem?_eq_getElem (by rw[Array.size_modify];exact hlt),Array.getElem_modify_self,hk];rfl
theorem ListAt.set{w c b hd}(h:ListAt w c b hd)(hd':Nat)(h':hd'<18446744073709551616):ListAt (w.setCell ⟨c,1,none⟩ (.int .u64 hd')) c b hd':=⟨heap_set h.hc 1 _,h'⟩
def cL(w:World)(k:Nat)(x y:Nat):Prop:=w.heap[k]?=some (.cells #[.int .u64 x,.int .u64 y] 287 (0,0))
theorem cL.lt{w k x y}(h:cL w k x y):k<w.heap.size:=(Array.getElem?_eq_some_iff.1 h).1
theorem cL.c0{w k x y}(h:cL w k x y):w.cell? ⟨k,0,none⟩=some (.int .u64 x):=by simp[World.cell?,show w.heap[k]?=_ from h]
theorem cL.c1{w k x y}(h:cL w k x y):w.cell? ⟨k,1,none⟩=some (.int .u64 y):=by simp[World.cell?,show w.heap[k]?=_ from h]
theorem cL.fz{w k x y}(h:cL w k x y)(i:Nat):w.frozen? ⟨k,i,none⟩=false:=by simp[World.frozen?,show w.heap[k]?=_ from h]
theorem cL.kept{w w' k x y}{S:Nat->Prop}(h:cL w k x y)(hk:Kt S w w')(hS:¬S k):cL w' k x y:=(hk.block k h.lt hS).trans h
theorem cL.keep{w w' k x y}(h:cL w k x y)(hk:Kt nO w w'):cL w' k x y:=h.kept hk (fun x=>x)
theorem cL.new(w:World):cL (w.alloc (.cells #[.int .u64 0,.int .u64 0] 287)) w.heap.size 0 0:=nH _ _
theorem cL.set{w k x y}(h:cL w k x y)(x' y':Nat):cL ((w.setCell ⟨k,0,none⟩ (.int .u64 x')).setCell ⟨k,1,none⟩ (.int .u64 y')) k x' y':=by
 exact heap_set (heap_set h 0 _) 1 _
def nx(bS:Nat)(f:Nat->Nat)(p:Nat):Nat:=word f (p-bS)
def pv(bS:Nat)(f:Nat->Nat)(p:Nat):Nat:=word f (p+8-bS)
def dO(bS:Nat)(f:Nat->Nat)(p v:Nat):Nat->Nat:=upd f (p-bS) 8 (byteOf v)
theorem word_lt(f:Nat->Nat)(o:Nat)(h:∀ i,i<8->f (o+i)<256):word f o<18446744073709551616:=wordTo_lt (fun i=>f (o+i)) 8 h
theorem SpA.word_lt{w b ao bS R lim n f}(h:SpA w b ao bS R lim n f)(o:Nat)(ho:o+8<=n):word f o<18446744073709551616:=by
 cases ao with
 | none=>
  obtain⟨cap,_,h0,_⟩:=h.ex;omega
 | some g=>exact Go.Proofs.YtkfmheelhinjdaaGreatDoor.M.word_lt f o (fun i hi=>h.f256 _ (by omega))
theorem SpA.nx_lt{w b ao bS R lim n f}(h:SpA w b ao bS R lim n f)(p:Nat)(hp:In bS n p 16):nx bS f p<18446744073709551616:=h.word_lt _ (by unfold In at hp;omega)
theorem SpA.pv_lt{w b ao bS R lim n f}(h:SpA w b ao bS R lim n f)(p:Nat)(hp:In bS n p 16):pv bS f p<18446744073709551616:=h.word_lt _ (by unfold In at hp;omega)
theorem SpA.end_le{w b ao bS R lim n f}(h:SpA w b ao bS R lim n f):bS+n<=9223372036854775808:=by
 have:=h.nle;have:=h.cfg.be;omega
theorem SpA.has{w b ao bS R lim n f}(h:SpA w b ao bS R lim n f){p k:Nat}(hk : 0<k)(hp:In bS n p k):∃ g,ao=Option.some g:=by
 cases ao with
 | none=>
  obtain⟨cap,_,h0,_⟩:=h.ex;unfold In at hp;omega
 | some g=>exact⟨g,rfl⟩
theorem oV(b ao bS R lim n f)(p:Nat)(hp:p<18446744073709551616)(w:World)(h:SpA w b ao bS R lim n f):
  Calls prog 252 #[.pointer (some ⟨b,0,none⟩),.int .u64 p] w fun e w'=>e=.returned (.tuple #[.int .u64 ((if In bS n p 8 then word f (p-bS) else 0:Nat):Int),.int .i64 (if In bS n p 8 then 0 else 4)])/\Kt nO w w':=by
 by_cases hin:In bS n p 8
 ·obtain⟨g,rfl⟩:=h.has (by decide) hin;refine(Word_in b g bS R lim n f p w h hin).mono ?_;rintro e w' ⟨rfl,k⟩;rw[if_pos hin,if_pos hin];exact⟨rfl,k⟩
 ·refine(QL b ao bS R lim n f p 8 0 none 0 w h hp (by decide) (by decide) hin).mono ?_;rintro e w' ⟨rfl,k⟩;rw[if_neg hin,if_neg hin];exact⟨rfl,k⟩
theorem Kt.new2{w w':World}(h:Kt nO w w')(k:Nat)(hk:w.heap.size<=k)(u v:Value):Kt nO w ((w'.setCell ⟨k,0,none⟩ u).setCell ⟨k,1,none⟩ v):=
 (h.setCell (fun e=>absurd e (by simp;omega)) _).setCell (fun e=>absurd e (by simp;omega)) _
theorem nT{a b c:World}(h:Kt nO a b)(k:Kt nO b c):Kt nO a c:=h.trans k (fun _ _ x=>x) (fun _ _ x=>x)
theorem SU(c b ao bS R lim n f hd)(p:Nat)(w:World)(hS:SpA w b ao bS R lim n f)(hL:ListAt w c b hd)(hin:In bS n p 16):
  Calls prog 279 #[.pointer (some ⟨c,0,none⟩),.int .u64 p] w fun e w'=>e=.returned (.tuple #[.agg #[.int .u64 (nx bS f p:Int),.int .u64 (pv bS f p:Int)],.bool true])/\Kt nO w w':=by
 have hend:=hS.end_le;have hp64:p+8<18446744073709551616:=by unfold In at hin;omega
 have i1:In bS n p 8:=by unfold In at hin ⊢;omega
 have i2:In bS n (p+8) 8:=by unfold In at hin ⊢;omega
 have W1:=aA (fun w' (k:Kt nO w w')=>oV b ao bS R lim n f p (by omega) w' (hS.keep k));have W2:=aA (fun w' (k:Kt nO w w')=>oV b ao bS R lim n f (p+8) (by omega) w' (hS.keep k));rw[if_pos i1,if_pos i1] at W1;rw[if_pos i2,if_pos i2] at W2;have E8:=aA (show((p+8:Nat):Int)=(p:Int)+8 by omega);obtain⟨x,hx⟩:=xe (nx bS f p);obtain⟨y,hy⟩:=xe (pv bS f p);have ex:word f (p-bS)=x:=hx.symm;have ey:word f (p+8-bS)=y:=hy.symm;rw[<-hx,<-hy];rw[ex] at W1;rw[ey,E8.out] at W2;have HL:=aA hL;have hc0:=(hL.keep ((Kt.refl _ w).alloc (.cells #[.int .u64 0,.int .u64 0] 287))).c0;clear hS hL hin i1 i2 ex ey hx hy E8 hend;go_enter func279,ntmps279;go_wp2_with fail;refine(W1.out _ ((Kt.refl _ w).alloc _)).mono ?_;rintro e w1 ⟨rfl,k1⟩;have K1:=aA k1;have hc1:=(HL.out.keep ((Kt.refl _ w).alloc _)).keep k1 |>.c0
 clear k1 hc0;go_wp2_with fail;refine(W2.out _ (nT ((Kt.refl _ w).alloc _) K1.out)).mono ?_;rintro e w2 ⟨rfl,k2⟩;have hP:=((cL.new w).keep K1.out).keep k2;have K2:=aA (nT (nT ((Kt.refl nO w).alloc _) K1.out) k2);have hz0:=hP.fz 0;have hz1:=hP.fz 1;have hd0:=hP.c0;have hd1:=hP.c1;have HP:=aA hP;clear k2 hP;go_wp2_with fail;have h2:=HP.out.set x y;exact⟨rfl,_,by simp[results,results279,go_sem,h2.c0,h2.c1],rfl,K2.out.new2 w.heap.size (Nat.le_refl _) _ _⟩
theorem JZ(c b ao bS R lim n f hd)(p:Nat)(hp:p<18446744073709551616)(w:World)(hS:SpA w b ao bS R lim n f)(hL:ListAt w c b hd)(hin:¬In bS n p 16):
  Calls prog 279 #[.pointer (some ⟨c,0,none⟩),.int .u64 p] w fun e w'=>e=.returned (.tuple #[.agg #[.int .u64 0,.int .u64 0],.bool false])/\Kt nO w w':=by
 have hend:=hS.end_le;by_cases i1:In bS n p 8
 ·have hp64:p+8<18446744073709551616:=by unfold In at i1;omega
  have i2:¬In bS n (p+8) 8:=by unfold In at hin i1 ⊢;omega
  have W1:=aA (fun w' (k:Kt nO w w')=>oV b ao bS R lim n f p (by omega) w' (hS.keep k));have W2:=aA (fun w' (k:Kt nO w w')=>oV b ao bS R lim n f (p+8) (by omega) w' (hS.keep k));rw[if_pos i1,if_pos i1] at W1;rw[if_neg i2,if_neg i2] at W2;have E8:=aA (show((p+8:Nat):Int)=(p:Int)+8 by omega);obtain⟨x,hx⟩:=xe (nx bS f p);have ex:word f (p-bS)=x:=hx.symm;rw[ex] at W1;rw[E8.out] at W2;have HL:=aA hL;have hc0:=(hL.keep ((Kt.refl _ w).alloc (.cells #[.int .u64 0,.int .u64 0] 287))).c0;clear hS hL hin i1 i2 ex hx E8 hend;go_enter func279,ntmps279;go_wp2_with fail;refine(W1.out _ ((Kt.refl _ w).alloc _)).mono ?_;rintro e w1 ⟨rfl,k1⟩;have K1:=aA k1;have hc1:=(HL.out.keep ((Kt.refl _ w).alloc _)).keep k1 |>.c0
  clear k1 hc0;go_wp2_with fail;refine(W2.out _ (nT ((Kt.refl _ w).alloc _) K1.out)).mono ?_;rintro e w2 ⟨rfl,k2⟩;have hP:=((cL.new w).keep K1.out).keep k2;have K2:=aA (nT (nT ((Kt.refl nO w).alloc _) K1.out) k2);have hz0:=hP.fz 0;have hz1:=hP.fz 1;have hd0:=hP.c0;have hd1:=hP.c1;have HP:=aA hP;clear k2 hP;go_wp2_with fail;have h2:=HP.out.set 0 0;exact⟨rfl,_,by simp[results,results279,go_sem,hd0,hd1],rfl,K2.out.new2 w.heap.size (Nat.le_refl _) _ _⟩
 ·have W1:=aA (fun w' (k:Kt nO w w')=>oV b ao bS R lim n f p hp w' (hS.keep k));rw[if_neg i1,if_neg i1] at W1;have hc0:=(hL.keep ((Kt.refl _ w).alloc (.cells #[.int .u64 0,.int .u64 0] 287))).c0;clear hS hL hin i1 hend;go_enter func279,ntmps279;go_wp2_with fail;refine(W1.out _ ((Kt.refl _ w).alloc _)).mono ?_;rintro e w2 ⟨rfl,k2⟩;have hP:=(cL.new w).keep k2;have K2:=aA (nT ((Kt.refl nO w).alloc _) k2);have hz0:=hP.fz 0;have hz1:=hP.fz 1;have hd0:=hP.c0;have hd1:=hP.c1;have HP:=aA hP;clear k2 hP;go_wp2_with fail;have h2:=HP.out.set 0 0;exact⟨rfl,_,by simp[results,results279,go_sem,hd0,hd1],rfl,K2.out.new2 w.heap.size (Nat.le_refl _) _ _⟩
def kP(bS n:Nat)(f:Nat->Nat)(p:Nat):Nat:=if In bS n p 16 then nx bS f p else 0
def kN(bS n:Nat)(f:Nat->Nat)(p:Nat):Nat:=if In bS n p 16 then pv bS f p else 0
theorem jA(c b ao bS R lim n f hd)(p:Nat)(hp:p<18446744073709551616)(w:World)(hS:SpA w b ao bS R lim n f)(hL:ListAt w c b hd):
  Calls prog 279 #[.pointer (some ⟨c,0,none⟩),.int .u64 p] w fun e w'=>e=.returned (.tuple #[.agg #[.int .u64 (kP bS n f p:Int),.int .u64 (kN bS n f p:Int)],.bool (decide (In bS n p 16))])/\Kt nO w w':=by
 by_cases hin:In bS n p 16
 ·refine(SU c b ao bS R lim n f hd p w hS hL hin).mono ?_;rintro e w' ⟨rfl,k⟩;refine⟨?_,k⟩;unfold kP kN;rw[if_pos hin,if_pos hin,decide_eq_true hin]
 ·refine(JZ c b ao bS R lim n f hd p hp w hS hL hin).mono ?_;rintro e w' ⟨rfl,k⟩;refine⟨?_,k⟩;unfold kP kN;rw[if_neg hin,if_neg hin,decide_eq_false hin];rfl
theorem cL.box{w:World}(x y:Nat):cL (w.alloc (.cells #[.int .u64 x,.int .u64 y] 287)) w.heap.size x y:=nH _ _
def fV(bS n:Nat)(f:Nat->Nat)(q b:Nat):Bool:=decide (q=0\/(In bS n q 16/\pv bS f q=b))
theorem BR(c b ao bS R lim n f hd)(q x:Nat)(hq:q<18446744073709551616)(hx:x<18446744073709551616)(w:World)(hS:SpA w b ao bS R lim n f)(hL:ListAt w c b hd):
  Calls prog 281 #[.pointer (some ⟨c,0,none⟩),.int .u64 q,.int .u64 x] w fun e w'=>e=.returned (.bool (fV bS n f q x))/\Kt nO w w':=by
 by_cases h0:q=0
 ·subst h0;clear hS hL;go_enter func281,ntmps281;go_wp2
  go_ret;exact⟨by simp[fV],Kt.refl _ _⟩
 ·have A:=aA (jA c b ao bS R lim n f hd q hq w hS hL);have h0i:((q:Int) == 0)=false:=beq_eq_false_iff_ne.2 (by omega);obtain⟨u,hu⟩:=xe (kP bS n f q);obtain⟨v,hv⟩:=xe (kN bS n f q);have HB:=aA (show fV bS n f q x=decide (In bS n q 16/\v=x)by
   unfold fV;congr 1
   rw[hv];unfold kN;by_cases hi:In bS n q 16
   ·simp[h0,hi]
   ·simp[h0,hi])
  obtain⟨t,ht⟩:=xe (decide (In bS n q 16));have HT:=aA (show decide (In bS n q 16/\v=x)=(t && decide (v=x))by rw[ht];simp);rw[<-hu,<-hv,<-ht] at A;clear hS hL hu hv ht;rw[HB.out,HT.out];clear HB HT;by_cases hvx:v=x
  ·have hvxi:((v:Int) == (x:Int))=true:=beq_iff_eq.2 (by omega)
   cases t
   all_goals
    go_enter func281,ntmps281;go_wp2_with fail;refine A.out.mono ?_;rintro e w1 ⟨rfl,k1⟩;have HK:=aA k1;have hP:=cL.box (w:=w1) u v;have hp0:=hP.c0;have hp1:=hP.c1;clear k1 hP;go_wp2_with fail;go_ret;exact⟨by simp[hvx],HK.out.alloc _⟩
  ·have hvxi:((v:Int) == (x:Int))=false:=beq_eq_false_iff_ne.2 (by omega)
   cases t
   all_goals
    go_enter func281,ntmps281;go_wp2_with fail;refine A.out.mono ?_;rintro e w1 ⟨rfl,k1⟩;have HK:=aA k1;have hP:=cL.box (w:=w1) u v;have hp0:=hP.c0;have hp1:=hP.c1;clear k1 hP;go_wp2_with fail;go_ret;exact⟨by simp[hvx],HK.out.alloc _⟩
def gQ(bS n:Nat)(f:Nat->Nat)(hd q p:Nat):Bool:=if q=0\/p=hd then decide (q=0/\p=hd) else decide (In bS n q 16/\nx bS f q=p)
theorem ZX(c b ao bS R lim n f hd)(q p:Nat)(hq:q<18446744073709551616)(hp:p<18446744073709551616)(w:World)(hS:SpA w b ao bS R lim n f)(hL:ListAt w c b hd):
  Calls prog 280 #[.pointer (some ⟨c,0,none⟩),.int .u64 q,.int .u64 p] w fun e w'=>e=.returned (.bool (gQ bS n f hd q p))/\Kt nO w w':=by
 have hc1:=hL.c1;have h64:=hL.h64;by_cases h0:q=0
 ·subst h0;obtain⟨t,ht⟩:∃ t,((p:Int) == (hd:Int))=t:=⟨_,rfl⟩;have HT:=aA (show gQ bS n f hd 0 p=t by
   rw[<-ht];by_cases hph:p=hd
   ·simp[gQ,hph]
   ·have:((p:Int) == (hd:Int))=false:=beq_eq_false_iff_ne.2 (by omega);simp[gQ,hph,this])
  rw[HT.out];clear hS hL HT;go_enter func280,ntmps280;go_wp2
  go_ret;exact⟨rfl,Kt.refl _ _⟩
 ·have h0i:((q:Int) == 0)=false:=beq_eq_false_iff_ne.2 (by omega);by_cases hph:p=hd
  ·subst hph;clear hS hL;go_enter func280,ntmps280;go_wp2
   go_ret;exact⟨by simp[gQ,h0],Kt.refl _ _⟩
  ·have hphi:((p:Int) == (hd:Int))=false:=beq_eq_false_iff_ne.2 (by omega);have A:=aA (jA c b ao bS R lim n f hd q hq w hS hL);obtain⟨u,hu⟩:=xe (kP bS n f q);obtain⟨v,hv⟩:=xe (kN bS n f q);obtain⟨t,ht⟩:=xe (decide (In bS n q 16));have HB:=aA (show gQ bS n f hd q p=(t && decide (u=p))by
    unfold gQ;rw[if_neg (by simp[h0,hph]),hu,ht];unfold kP;by_cases hi:In bS n q 16
    ·simp[hi]
    ·simp[hi])
   rw[<-hu,<-hv,<-ht] at A;clear hS hL hu hv ht;rw[HB.out];clear HB;by_cases hvx:u=p
   ·have hvxi:((u:Int) == (p:Int))=true:=beq_iff_eq.2 (by omega)
    cases t
    all_goals
     go_enter func280,ntmps280;go_wp2_with fail;refine A.out.mono ?_;rintro e w1 ⟨rfl,k1⟩;have HK:=aA k1;have hP:=cL.box (w:=w1) u v;have hp0:=hP.c0;have hp1:=hP.c1;clear k1 hP;go_wp2_with fail;go_ret;exact⟨by simp[hvx],HK.out.alloc _⟩
   ·have hvxi:((u:Int) == (p:Int))=false:=beq_eq_false_iff_ne.2 (by omega)
    cases t
    all_goals
     go_enter func280,ntmps280;go_wp2_with fail;refine A.out.mono ?_;rintro e w1 ⟨rfl,k1⟩;have HK:=aA k1;have hP:=cL.box (w:=w1) u v;have hp0:=hP.c0;have hp1:=hP.c1;clear k1 hP;go_wp2_with fail;go_ret;exact⟨by simp[hvx],HK.out.alloc _⟩
theorem rT(c b g bS R lim n f hd)(p v:Nat)(hv:v<18446744073709551616)(w:World)(hS:SpA w b (some g) bS R lim n f)(hL:ListAt w c b hd)(hin:In bS n p 8):
  Calls prog 282 #[.pointer (some ⟨c,0,none⟩),.int .u64 p,.int .u64 v] w fun e w'=>e=.returned (.tuple #[])/\SpA w' b (some g) bS R lim n (dO bS f p v)/\Kt (own b (some g)) w w':=by
 have hc0:=hL.c0;have A:=aA (SetWord_in b g bS R lim n f p v hv w hS hin);clear hS hL hin;go_enter func282,ntmps282;go_wp2_with fail;refine A.out.mono ?_;rintro e w1 ⟨rfl,hS,hK⟩;have HS:=aA hS;have HK:=aA hK;clear hS hK;go_wp2_with fail;first|go_ret|skip
 first|exact⟨rfl,HS.out,HK.out⟩|exact⟨rfl,_,by simp[results,results282,go_sem],rfl,HS.out,HK.out⟩
theorem pH(c b g bS R lim n f hd)(p v:Nat)(hv:v<18446744073709551616)(w:World)(hS:SpA w b (some g) bS R lim n f)(hL:ListAt w c b hd)(hin:In bS n (p+8) 8):
  Calls prog 283 #[.pointer (some ⟨c,0,none⟩),.int .u64 p,.int .u64 v] w fun e w'=>e=.returned (.tuple #[])/\SpA w' b (some g) bS R lim n (dO bS f (p+8) v)/\Kt (own b (some g)) w w':=by
 have hc0:=hL.c0;have hend:=hS.end_le;have hp64:p+8<18446744073709551616:=by unfold In at hin;omega
 have A:=aA (SetWord_in b g bS R lim n f (p+8) v hv w hS hin);rw[show((p+8:Nat):Int)=(p:Int)+8 by omega] at A;clear hS hL hin hend;go_enter func283,ntmps283;go_wp2_with fail;refine A.out.mono ?_;rintro e w1 ⟨rfl,hS,hK⟩;have HS:=aA hS;have HK:=aA hK;clear hS hK;go_wp2_with fail;first|go_ret|skip
 first|exact⟨rfl,HS.out,HK.out⟩|exact⟨rfl,_,by simp[results,results283,go_sem],rfl,HS.out,HK.out⟩
theorem newList_any(b hd:Nat)(h64:hd<18446744073709551616)(w:World):
  Calls prog 152 #[.pointer (some ⟨b,0,none⟩),.int .u64 hd] w fun e w'=>∃ c,e=.returned (.pointer (some ⟨c,0,none⟩))/\ListAt w' c b hd/\Kt nO w w'/\w.heap.size<=c:=by
 go_enter func152,ntmps152;go_wp2
 go_ret;exact⟨_,rfl,⟨nH _ _,h64⟩,(Kt.refl _ _).alloc _,Nat.le_refl _⟩
theorem Head_any(c b hd:Nat)(w:World)(hL:ListAt w c b hd):
  Calls prog 84 #[.pointer (some ⟨c,0,none⟩)] w fun e w'=>e=.returned (.int .u64 hd)/\w'=w:=by
 have hc1:=hL.c1;clear hL;go_enter func84,ntmps84;go_wp2
 go_ret;exact⟨rfl,rfl⟩
def lown(c b:Nat)(ao:Option Nat):Nat->Prop:=fun x=>x=c\/own b ao x
theorem ListAt.apart{w c b b' hd ao bS R lim n f}(hL:ListAt w c b' hd)(hS:SpA w b ao bS R lim n f):¬own b ao c:=by
 obtain⟨cap,hb,hr⟩:=hS.ex;have hc:=hL.hc;rintro (rfl|e)
 ·rw[hc] at hb;simp at hb
 ·subst e;obtain⟨_,rs,_,hg,_⟩:=hr;rw[hc] at hg;simp at hg
def jJ(bS:Nat)(f:Nat->Nat)(hd p:Nat):Nat->Nat:=if hd=0 then dO bS (dO bS f p hd) (p+8) 0 else dO bS (dO bS (dO bS f p hd) (p+8) 0) (hd+8) p
def pushR(bS n:Nat)(f:Nat->Nat)(hd p:Nat):(Nat->Nat)×Nat×Nat:=
 if In bS n p 16 then (if fV bS n f hd 0 then (jJ bS f hd p,p,0) else (f,hd,8)) else (f,hd,4)
theorem Kt.lown{w w':World}{c b:Nat}{ao:Option Nat}(h:Kt nO w w'):Kt (lown c b ao) w w':=h.mono (fun _ _ x=>x.elim)
theorem Kt.lown'{w w':World}{c b:Nat}{ao:Option Nat}(h:Kt (own b ao) w w'):Kt (Go.Proofs.YtkfmheelhinjdaaGreatDoor.M.lown c b ao) w w':=h.mono (fun _ _ x=>Or.inr x)
theorem kY{a b' c':World}{c b:Nat}{ao:Option Nat}(h:Kt (lown c b ao) a b')(k:Kt (lown c b ao) b' c'):Kt (lown c b ao) a c':=h.trans k (fun _ _ x=>x) (fun _ _ x=>x)
structure LS(w:World)(c b:Nat)(ao:Option Nat)(bS R lim n:Nat)(f:Nat->Nat)(hd:Nat):Prop where
 s:SpA w b ao bS R lim n f
 l:ListAt w c b hd
theorem LS.keep{w w' c b ao bS R lim n f hd}(h:LS w c b ao bS R lim n f hd)(k:Kt nO w w'):LS w' c b ao bS R lim n f hd:=⟨h.s.keep k,h.l.keep k⟩
theorem LS.stored{w w' c b ao bS R lim n f f' hd}(h:LS w c b ao bS R lim n f hd)(hS:SpA w' b ao bS R lim n f')(k:Kt (own b ao) w w'):LS w' c b ao bS R lim n f' hd:=⟨hS,h.l.kept k (h.l.apart h.s)⟩
theorem LS.head{w c b ao bS R lim n f hd}(h:LS w c b ao bS R lim n f hd)(hd':Nat)(h':hd'<18446744073709551616):LS (w.setCell ⟨c,1,none⟩ (.int .u64 hd')) c b ao bS R lim n f hd':=
 ⟨h.s.kept ((Kt.refl (fun x=>x=c) w).setCell (fun _=>rfl) _) (fun x hx e=>h.l.apart h.s (e▸hx)),h.l.set hd' h'⟩
theorem LS.keptHead{w0 w:World}{c b:Nat}{ao:Option Nat}(k:Kt (lown c b ao) w0 w)(v:Value):Kt (lown c b ao) w0 (w.setCell ⟨c,1,none⟩ v):=k.setCell (fun _=>Or.inl rfl) v
theorem Push_any(c b ao bS R lim n f hd)(p:Nat)(hp:p<18446744073709551616)(w:World)(h:LS w c b ao bS R lim n f hd):
  Calls prog 287 #[.pointer (some ⟨c,0,none⟩),.int .u64 p] w fun e w'=>e=.returned (.int .i64 ((pushR bS n f hd p).2.2:Int))/\LS w' c b ao bS R lim n (pushR bS n f hd p).1 (pushR bS n f hd p).2.1/\Kt (lown c b ao) w w':=by
 have h64:=h.l.h64;have A:=aA (fun w' (k:Kt nO w w')=>jA c b ao bS R lim n f hd p hp w' (h.keep k).s (h.keep k).l);have C:=aA (fun w' (k:Kt nO w w')=>BR c b ao bS R lim n f hd hd 0 h64 (by decide) w' (h.keep k).s (h.keep k).l);rw[show((0:Nat):Int)=0 by rfl] at C;have H:=aA h;obtain⟨u,hu⟩:=xe (kP bS n f p);obtain⟨v,hv⟩:=xe (kN bS n f p);by_cases hin:In bS n p 16
 ·rw[<-hu,<-hv,decide_eq_true hin] at A;by_cases hca:fV bS n f hd 0=true
  ·rw[hca] at C;obtain⟨g,rfl⟩:=h.s.has (by decide) hin;have hpe:pushR bS n f hd p=(jJ bS f hd p,p,0):=(by unfold pushR;rw[if_pos hin,if_pos hca]);rw[hpe];have I1:=aA (show In bS n p 8 by unfold In at hin ⊢;omega);have I2:=aA (show In bS n (p+8) 8 by unfold In at hin ⊢;omega);by_cases h0:hd=0
   ·subst h0;have HF:=aA (show jJ bS f 0 p=dO bS (dO bS f p 0) (p+8) 0 by simp[jJ]);have hc1:=h.l.c1;clear h hu hv hin hca hpe;go_enter func287,ntmps287;go_wp2_with fail;refine(A.out _ (Kt.refl _ w)).mono ?_;rintro e w1 ⟨rfl,k1⟩;have K1:=aA (k1.alloc (.cells #[.int .u64 u,.int .u64 v] 287));have hc1:=(H.out.keep K1.out).l.c1;clear k1;go_wp2_with fail;refine(C.out _ K1.out).mono ?_;rintro e w2 ⟨rfl,k2⟩;have K2:=aA (nT K1.out k2);clear k2 hc1;go_wp2_with fail;refine(rT c b g bS R lim n f 0 p 0 (by decide) _ (H.out.keep K2.out).s (H.out.keep K2.out).l I1.out).mono ?_;rintro e w3 ⟨rfl,hS,hK⟩;have H3:=aA ((H.out.keep K2.out).stored hS hK);have K3:=aA (kY K2.out.lown (hK.lown' (c:=c)));clear hS hK;go_wp2_with fail;refine(pH c b g bS R lim n _ 0 p 0 (by decide) _ H3.out.s H3.out.l I2.out).mono ?_;rintro e w4 ⟨rfl,hS,hK⟩;have H4:=aA (H3.out.stored hS hK);have K4:=aA (kY K3.out (hK.lown' (c:=c)));have hz:=H4.out.l.fz 1;have hc1:=H4.out.l.c1;clear hS hK;go_wp2_with fail;go_ret;refine⟨rfl,?_,LS.keptHead K4.out _⟩;rw[HF.out];exact H4.out.head p hp
   ·have HF:=aA (show jJ bS f hd p=dO bS (dO bS (dO bS f p hd) (p+8) 0) (hd+8) p by simp[jJ,h0]);have h0i:((hd:Int) == 0)=false:=beq_eq_false_iff_ne.2 (by omega);have I3:=aA (show In bS n (hd+8) 8 by
     unfold fV at hca;have:=of_decide_eq_true hca;rcases this with e|⟨e,_⟩
     ·exact absurd e h0
     ·unfold In at e ⊢;omega)
    have hc1:=h.l.c1;clear h hu hv hin hca hpe;go_enter func287,ntmps287;go_wp2_with fail;refine(A.out _ (Kt.refl _ w)).mono ?_;rintro e w1 ⟨rfl,k1⟩;have K1:=aA (k1.alloc (.cells #[.int .u64 u,.int .u64 v] 287));have hc1:=(H.out.keep K1.out).l.c1;clear k1;go_wp2_with fail;refine(C.out _ K1.out).mono ?_;rintro e w2 ⟨rfl,k2⟩;have K2:=aA (nT K1.out k2);clear k2 hc1;go_wp2_with fail;refine(rT c b g bS R lim n f hd p hd h64 _ (H.out.keep K2.out).s (H.out.keep K2.out).l I1.out).mono ?_;rintro e w3 ⟨rfl,hS,hK⟩;have H3:=aA ((H.out.keep K2.out).stored hS hK);have K3:=aA (kY K2.out.lown (hK.lown' (c:=c)));clear hS hK;go_wp2_with fail;refine(pH c b g bS R lim n _ hd p 0 (by decide) _ H3.out.s H3.out.l I2.out).mono ?_;rintro e w4 ⟨rfl,hS,hK⟩;have H4:=aA (H3.out.stored hS hK);have K4:=aA (kY K3.out (hK.lown' (c:=c)));clear hS hK;go_wp2_with fail;refine(pH c b g bS R lim n _ hd hd p hp _ H4.out.s H4.out.l I3.out).mono ?_;rintro e w5 ⟨rfl,hS,hK⟩;have H5:=aA (H4.out.stored hS hK);have K5:=aA (kY K4.out (hK.lown' (c:=c)));have hz:=H5.out.l.fz 1;have hc1:=H5.out.l.c1;clear hS hK;go_wp2_with fail;go_ret;refine⟨rfl,?_,LS.keptHead K5.out _⟩;rw[HF.out];exact H5.out.head p hp
  ·have hpe:pushR bS n f hd p=(f,hd,8):=(by unfold pushR;rw[if_pos hin,if_neg hca]);rw[hpe];rw[Bool.eq_false_iff.2 hca] at C;have hc1:=h.l.c1;clear h hu hv hin hca hpe;go_enter func287,ntmps287;go_wp2_with fail;refine(A.out _ (Kt.refl _ w)).mono ?_;rintro e w1 ⟨rfl,k1⟩;have K1:=aA (k1.alloc (.cells #[.int .u64 u,.int .u64 v] 287));have hc1:=(H.out.keep K1.out).l.c1;clear k1;go_wp2_with fail;refine(C.out _ K1.out).mono ?_;rintro e w2 ⟨rfl,k2⟩;have K2:=aA (nT K1.out k2);clear k2 hc1;go_wp2_with fail;go_ret;exact⟨rfl,H.out.keep K2.out,K2.out.lown⟩
 ·have hpe:pushR bS n f hd p=(f,hd,4):=by unfold pushR;rw[if_neg hin]
  rw[hpe];rw[<-hu,<-hv,decide_eq_false hin] at A;clear h hu hv hin hpe;go_enter func287,ntmps287;go_wp2_with fail;refine(A.out _ (Kt.refl _ w)).mono ?_;rintro e w1 ⟨rfl,k1⟩;have K1:=aA (k1.alloc (.cells #[.int .u64 u,.int .u64 v] 287));clear k1;go_wp2_with fail;go_ret;exact⟨rfl,H.out.keep K1.out,K1.out.lown⟩
def jB(bS:Nat)(f:Nat->Nat)(p:Nat):Nat->Nat:=
 let q:=pv bS f p;let m:=nx bS f p
 let f1:=if q=0 then f else dO bS f q m
 if m=0 then f1 else dO bS f1 (m+8) q
def removeR(bS n:Nat)(f:Nat->Nat)(hd p:Nat):(Nat->Nat)×Nat×Nat:=
 if In bS n p 16 then (if gQ bS n f hd (pv bS f p) p && fV bS n f (nx bS f p) p then (jB bS f p,(if pv bS f p=0 then nx bS f p else hd),0) else (f,hd,8)) else (f,hd,4)
theorem YA{bS n f hd q p}(h:gQ bS n f hd q p=true)(h0:q≠0):In bS n q 16:=by
 unfold gQ at h;split at h
 ·exact absurd (of_decide_eq_true h).1 h0
 ·exact(of_decide_eq_true h).1
theorem SA{bS n f q p}(h:fV bS n f q p=true)(h0:q≠0):In bS n q 16:=by
 unfold fV at h;rcases of_decide_eq_true h with e|⟨e,_⟩
 ·exact absurd e h0
 ·exact e
theorem Remove_any(c b ao bS R lim n f hd)(p:Nat)(hp:p<18446744073709551616)(w:World)(h:LS w c b ao bS R lim n f hd):
  Calls prog 257 #[.pointer (some ⟨c,0,none⟩),.int .u64 p] w fun e w'=>e=.returned (.int .i64 ((removeR bS n f hd p).2.2:Int))/\LS w' c b ao bS R lim n (removeR bS n f hd p).1 (removeR bS n f hd p).2.1/\Kt (lown c b ao) w w':=by
 have h64:=h.l.h64;have H:=aA h;have A:=aA (fun w' (k:Kt nO w w')=>jA c b ao bS R lim n f hd p hp w' (h.keep k).s (h.keep k).l);by_cases hin:In bS n p 16
 ·have eu:kP bS n f p=nx bS f p:=by unfold kP;rw[if_pos hin]
  have ev:kN bS n f p=pv bS f p:=by unfold kN;rw[if_pos hin]
  have hu64:=h.s.nx_lt p hin;have hv64:=h.s.pv_lt p hin;rw[eu,ev,decide_eq_true hin] at A;have L:=aA (fun w' (k:Kt nO w w')=>ZX c b ao bS R lim n f hd (pv bS f p) p hv64 hp w' (h.keep k).s (h.keep k).l);have C:=aA (fun w' (k:Kt nO w w')=>BR c b ao bS R lim n f hd (nx bS f p) p hu64 hp w' (h.keep k).s (h.keep k).l);have hR:removeR bS n f hd p=if gQ bS n f hd (pv bS f p) p && fV bS n f (nx bS f p) p then (jB bS f p,(if pv bS f p=0 then nx bS f p else hd),0) else (f,hd,8):=by unfold removeR;rw[if_pos hin]
  have hF:jB bS f p=(let f1:=if pv bS f p=0 then f else dO bS f (pv bS f p) (nx bS f p);if nx bS f p=0 then f1 else dO bS f1 (nx bS f p+8) (pv bS f p)):=rfl;have hI:gQ bS n f hd (pv bS f p) p=true->pv bS f p≠0->In bS n (pv bS f p) 16:=YA;have hJ:fV bS n f (nx bS f p) p=true->nx bS f p≠0->In bS n (nx bS f p) 16:=SA;obtain⟨g,rfl⟩:=h.s.has (by decide) hin;rw[hR,hF];clear hR hF eu ev hin h;generalize nx bS f p=u at *;generalize pv bS f p=v at *;generalize hlb:gQ bS n f hd v p=lb at *;generalize hcb:fV bS n f u p=cb at *;clear hlb hcb
  cases lb with
  | false=>
   simp only[Bool.false_and,Bool.false_eq_true,if_false];clear C hI hJ;go_enter func257,ntmps257;go_wp2_with fail;refine(A.out _ (Kt.refl _ w)).mono ?_;rintro e w1 ⟨rfl,k1⟩;have K1:=aA (k1.alloc (.cells #[.int .u64 u,.int .u64 v] 287));have hP:=cL.box (w:=w1) u v;have hp0:=hP.c0;have hp1:=hP.c1;clear k1 hP;go_wp2_with fail;refine(L.out _ K1.out).mono ?_;rintro e w2 ⟨rfl,k2⟩;have K2:=aA (nT K1.out k2);clear k2;go_wp2_with fail;go_ret;exact⟨rfl,H.out.keep K2.out,K2.out.lown⟩
  | true=>
   cases cb with
   | false=>
    simp only[Bool.and_false,Bool.false_eq_true,if_false];clear hI hJ;go_enter func257,ntmps257;go_wp2_with fail;refine(A.out _ (Kt.refl _ w)).mono ?_;rintro e w1 ⟨rfl,k1⟩;have K1:=aA (k1.alloc (.cells #[.int .u64 u,.int .u64 v] 287));have hP:=cL.box (w:=w1) u v;have hp0:=hP.c0;have hp1:=hP.c1;have HP:=aA hP;clear k1 hP;go_wp2_with fail;refine(L.out _ K1.out).mono ?_;rintro e w2 ⟨rfl,k2⟩;have K2:=aA (nT K1.out k2);have hP2:=HP.out.keep k2;have hp0:=hP2.c0;have hp1:=hP2.c1;clear k2 hP2;go_wp2_with fail;refine(C.out _ K2.out).mono ?_;rintro e w3 ⟨rfl,k3⟩;have K3:=aA (nT K2.out k3);clear k3;go_wp2_with fail;go_ret;exact⟨rfl,H.out.keep K3.out,K3.out.lown⟩
   | true=>
    simp only[Bool.and_true,if_true];have hI1:=hI rfl;have hJ1:=hJ rfl;clear hI hJ;by_cases hv0:v=0
    ·by_cases hu0:u=0
     ·subst hv0;subst hu0;simp only[if_true];clear hI1 hJ1;go_enter func257,ntmps257;go_wp2_with fail;refine(A.out _ (Kt.refl _ w)).mono ?_;rintro e w1 ⟨rfl,k1⟩;have K1:=aA (k1.alloc (.cells #[.int .u64 ((0:Nat):Int),.int .u64 ((0:Nat):Int)] 287));have hP:=cL.box (w:=w1) 0 0;have hp0:=hP.c0;have hp1:=hP.c1;have HP:=aA hP;clear k1 hP;have HNE:=aA (show ¬w1.heap.size=c by intro e;have:=(H.out.keep K1.out).l.hc;rw[<-e,nH] at this;simp at this);have HNO:=aA (show ¬own b (some g) w1.heap.size by
       intro e;obtain⟨cap,hb,hr⟩:=(H.out.keep K1.out).s.ex;rcases e with e|e
       ·rw[<-e,nH] at hb;simp at hb
       ·cases e
        obtain⟨_,rs,_,hg,_⟩:=hr;rw[nH] at hg;simp at hg)
      go_wp2_with fail;refine(L.out _ K1.out).mono ?_;rintro e w2 ⟨rfl,k2⟩;have K2:=aA (nT K1.out k2);have HP2:=aA (HP.out.keep k2);have hp0:=HP2.out.c0;have hp1:=HP2.out.c1;clear k2 HP;go_wp2_with fail;refine(C.out _ K2.out).mono ?_;rintro e w3 ⟨rfl,k3⟩;have K3:=aA (nT K2.out k3);have H3:=aA (H.out.keep K3.out);have HP3:=aA (HP2.out.keep k3);have hp0:=HP3.out.c0;have hp1:=HP3.out.c1;have hz:=H3.out.l.fz 1;have hc1:=H3.out.l.c1;clear k3 HP2;have HP4:=aA (HP3.out.kept ((Kt.refl (fun x=>x=c) w3).setCell (p:=⟨c,1,none⟩) (fun _=>rfl) (.int .u64 ((0:Nat):Int))) HNE.out);have H4:=aA (H3.out.head 0 (by first|decide|assumption));have K4:=aA (LS.keptHead (K3.out.lown (c:=c) (b:=b) (ao:=some g)) (.int .u64 ((0:Nat):Int)));have hq0:=HP4.out.c0;have hq1:=HP4.out.c1;go_wp2_with fail;go_ret;exact⟨rfl,H4.out,K4.out⟩
     ·subst hv0;have hu0i:((u:Int) == 0)=false:=beq_eq_false_iff_ne.2 (by omega);have IU:=aA (show In bS n (u+8) 8 by have:=hJ1 hu0;unfold In at this ⊢;omega);simp only[if_neg hu0];simp only[if_true];clear hI1 hJ1 hu0;go_enter func257,ntmps257;go_wp2_with fail;refine(A.out _ (Kt.refl _ w)).mono ?_;rintro e w1 ⟨rfl,k1⟩;have K1:=aA (k1.alloc (.cells #[.int .u64 u,.int .u64 ((0:Nat):Int)] 287));have hP:=cL.box (w:=w1) u 0;have hp0:=hP.c0;have hp1:=hP.c1;have HP:=aA hP;clear k1 hP;have HNE:=aA (show ¬w1.heap.size=c by intro e;have:=(H.out.keep K1.out).l.hc;rw[<-e,nH] at this;simp at this);have HNO:=aA (show ¬own b (some g) w1.heap.size by
       intro e;obtain⟨cap,hb,hr⟩:=(H.out.keep K1.out).s.ex;rcases e with e|e
       ·rw[<-e,nH] at hb;simp at hb
       ·cases e
        obtain⟨_,rs,_,hg,_⟩:=hr;rw[nH] at hg;simp at hg)
      go_wp2_with fail;refine(L.out _ K1.out).mono ?_;rintro e w2 ⟨rfl,k2⟩;have K2:=aA (nT K1.out k2);have HP2:=aA (HP.out.keep k2);have hp0:=HP2.out.c0;have hp1:=HP2.out.c1;clear k2 HP;go_wp2_with fail;refine(C.out _ K2.out).mono ?_;rintro e w3 ⟨rfl,k3⟩;have K3:=aA (nT K2.out k3);have H3:=aA (H.out.keep K3.out);have HP3:=aA (HP2.out.keep k3);have hp0:=HP3.out.c0;have hp1:=HP3.out.c1;have hz:=H3.out.l.fz 1;have hc1:=H3.out.l.c1;clear k3 HP2;have HP4:=aA (HP3.out.kept ((Kt.refl (fun x=>x=c) w3).setCell (p:=⟨c,1,none⟩) (fun _=>rfl) (.int .u64 u)) HNE.out);have H4:=aA (H3.out.head u (by first|decide|assumption));have K4:=aA (LS.keptHead (K3.out.lown (c:=c) (b:=b) (ao:=some g)) (.int .u64 u));have hq0:=HP4.out.c0;have hq1:=HP4.out.c1;clear HP3 H3 K3;go_wp2_with fail;refine(pH c b g bS R lim n _ _ u 0 (by first|decide|assumption) _ H4.out.s H4.out.l IU.out).mono ?_;rintro e w5 ⟨rfl,hS,hK⟩;have H5:=aA (H4.out.stored hS hK);have K5:=aA (kY K4.out (hK.lown' (c:=c)));clear hS hK;go_wp2_with fail;go_ret;exact⟨rfl,H5.out,K5.out⟩
    ·by_cases hu0:u=0
     ·have hv0i:((v:Int) == 0)=false:=beq_eq_false_iff_ne.2 (by omega);have IV:=aA (show In bS n v 8 by have:=hI1 hv0;unfold In at this ⊢;omega);simp only[if_neg hv0];subst hu0;simp only[if_true];clear hI1 hJ1 hv0;go_enter func257,ntmps257;go_wp2_with fail;refine(A.out _ (Kt.refl _ w)).mono ?_;rintro e w1 ⟨rfl,k1⟩;have K1:=aA (k1.alloc (.cells #[.int .u64 ((0:Nat):Int),.int .u64 v] 287));have hP:=cL.box (w:=w1) 0 v;have hp0:=hP.c0;have hp1:=hP.c1;have HP:=aA hP;clear k1 hP;have HNE:=aA (show ¬w1.heap.size=c by intro e;have:=(H.out.keep K1.out).l.hc;rw[<-e,nH] at this;simp at this);have HNO:=aA (show ¬own b (some g) w1.heap.size by
       intro e;obtain⟨cap,hb,hr⟩:=(H.out.keep K1.out).s.ex;rcases e with e|e
       ·rw[<-e,nH] at hb;simp at hb
       ·cases e
        obtain⟨_,rs,_,hg,_⟩:=hr;rw[nH] at hg;simp at hg)
      go_wp2_with fail;refine(L.out _ K1.out).mono ?_;rintro e w2 ⟨rfl,k2⟩;have K2:=aA (nT K1.out k2);have HP2:=aA (HP.out.keep k2);have hp0:=HP2.out.c0;have hp1:=HP2.out.c1;clear k2 HP;go_wp2_with fail;refine(C.out _ K2.out).mono ?_;rintro e w3 ⟨rfl,k3⟩;have K3:=aA (nT K2.out k3);have H3:=aA (H.out.keep K3.out);have HP3:=aA (HP2.out.keep k3);have hp0:=HP3.out.c0;have hp1:=HP3.out.c1;have hz:=H3.out.l.fz 1;have hc1:=H3.out.l.c1;clear k3 HP2;go_wp2_with fail;refine(rT c b g bS R lim n f hd v 0 (by first|decide|assumption) _ H3.out.s H3.out.l IV.out).mono ?_;rintro e w4 ⟨rfl,hS,hK⟩;have H4:=aA (H3.out.stored hS hK);have K4:=aA (kY K3.out.lown (hK.lown' (c:=c)));have HP4:=aA (HP3.out.kept hK HNO.out);have hq0:=HP4.out.c0;have hq1:=HP4.out.c1;clear hS hK HP3 H3 K3;go_wp2_with fail;go_ret;exact⟨rfl,H4.out,K4.out⟩
     ·have hv0i:((v:Int) == 0)=false:=beq_eq_false_iff_ne.2 (by omega);have IV:=aA (show In bS n v 8 by have:=hI1 hv0;unfold In at this ⊢;omega);simp only[if_neg hv0];have hu0i:((u:Int) == 0)=false:=beq_eq_false_iff_ne.2 (by omega);have IU:=aA (show In bS n (u+8) 8 by have:=hJ1 hu0;unfold In at this ⊢;omega);simp only[if_neg hu0];clear hI1 hJ1 hv0 hu0;go_enter func257,ntmps257;go_wp2_with fail;refine(A.out _ (Kt.refl _ w)).mono ?_;rintro e w1 ⟨rfl,k1⟩;have K1:=aA (k1.alloc (.cells #[.int .u64 u,.int .u64 v] 287));have hP:=cL.box (w:=w1) u v;have hp0:=hP.c0;have hp1:=hP.c1;have HP:=aA hP;clear k1 hP;have HNE:=aA (show ¬w1.heap.size=c by intro e;have:=(H.out.keep K1.out).l.hc;rw[<-e,nH] at this;simp at this);have HNO:=aA (show ¬own b (some g) w1.heap.size by
       intro e;obtain⟨cap,hb,hr⟩:=(H.out.keep K1.out).s.ex;rcases e with e|e
       ·rw[<-e,nH] at hb;simp at hb
       ·cases e
        obtain⟨_,rs,_,hg,_⟩:=hr;rw[nH] at hg;simp at hg)
      go_wp2_with fail;refine(L.out _ K1.out).mono ?_;rintro e w2 ⟨rfl,k2⟩;have K2:=aA (nT K1.out k2);have HP2:=aA (HP.out.keep k2);have hp0:=HP2.out.c0;have hp1:=HP2.out.c1;clear k2 HP;go_wp2_with fail;refine(C.out _ K2.out).mono ?_;rintro e w3 ⟨rfl,k3⟩;have K3:=aA (nT K2.out k3);have H3:=aA (H.out.keep K3.out);have HP3:=aA (HP2.out.keep k3);have hp0:=HP3.out.c0;have hp1:=HP3.out.c1;have hz:=H3.out.l.fz 1;have hc1:=H3.out.l.c1;clear k3 HP2;go_wp2_with fail;refine(rT c b g bS R lim n f hd v u (by first|decide|assumption) _ H3.out.s H3.out.l IV.out).mono ?_;rintro e w4 ⟨rfl,hS,hK⟩;have H4:=aA (H3.out.stored hS hK);have K4:=aA (kY K3.out.lown (hK.lown' (c:=c)));have HP4:=aA (HP3.out.kept hK HNO.out);have hq0:=HP4.out.c0;have hq1:=HP4.out.c1;clear hS hK HP3 H3 K3;go_wp2_with fail;refine(pH c b g bS R lim n _ _ u v (by first|decide|assumption) _ H4.out.s H4.out.l IU.out).mono ?_;rintro e w5 ⟨rfl,hS,hK⟩;have H5:=aA (H4.out.stored hS hK);have K5:=aA (kY K4.out (hK.lown' (c:=c)));clear hS hK;go_wp2_with fail;go_ret;exact⟨rfl,H5.out,K5.out⟩
 ·have hpe:removeR bS n f hd p=(f,hd,4):=by unfold removeR;rw[if_neg hin]
  rw[hpe];rw[decide_eq_false hin] at A;generalize kP bS n f p=u at *;generalize kN bS n f p=v at *;clear h hin hpe;go_enter func257,ntmps257;go_wp2_with fail;refine(A.out _ (Kt.refl _ w)).mono ?_;rintro e w1 ⟨rfl,k1⟩;have K1:=aA (k1.alloc (.cells #[.int .u64 u,.int .u64 v] 287));clear k1;go_wp2_with fail;go_ret;exact⟨rfl,H.out.keep K1.out,K1.out.lown⟩
def popR(bS n:Nat)(f:Nat->Nat)(hd:Nat):(Nat->Nat)×Nat×Nat×Nat:=
 if hd=0 then (f,hd,0,9) else if (removeR bS n f hd hd).2.2=0 then ((removeR bS n f hd hd).1,(removeR bS n f hd hd).2.1,hd,0) else (f,hd,0,(removeR bS n f hd hd).2.2)
theorem BU{bS n f hd p}(h:(removeR bS n f hd p).2.2≠0):(removeR bS n f hd p).1=f/\(removeR bS n f hd p).2.1=hd:=by
 revert h
 unfold removeR;split
 ·split
  ·intro h;exact absurd rfl h
  ·intro _;exact⟨rfl,rfl⟩
 ·intro _;exact⟨rfl,rfl⟩
theorem YV(bS n f hd p):(removeR bS n f hd p).2.2<=8:=by
 unfold removeR;split
 ·split
  ·exact Nat.zero_le _
  ·exact Nat.le_refl _
 ·exact(by omega : 4<=8)
theorem Pop_any(c b ao bS R lim n f hd)(w:World)(h:LS w c b ao bS R lim n f hd):
  Calls prog 206 #[.pointer (some ⟨c,0,none⟩)] w fun e w'=>e=.returned (.tuple #[.int .u64 ((popR bS n f hd).2.2.1:Int),.int .i64 ((popR bS n f hd).2.2.2:Int)])/\LS w' c b ao bS R lim n (popR bS n f hd).1 (popR bS n f hd).2.1/\Kt (lown c b ao) w w':=by
 have h64:=h.l.h64;have hc1:=h.l.c1;by_cases h0:hd=0
 ·subst h0;have hpe:popR bS n f 0=(f,0,0,9):=by simp[popR]
  rw[hpe];have H:=aA h;clear h hpe;go_enter func206,ntmps206;go_wp2
  exact⟨rfl,_,by simp[results,results206,go_sem],rfl,H.out,Kt.refl _ _⟩
 ·have h0i:((hd:Int) == 0)=false:=beq_eq_false_iff_ne.2 (by omega);have A:=aA (Remove_any c b ao bS R lim n f hd hd h64 w h);by_cases he:(removeR bS n f hd hd).2.2=0
  ·have hpe:popR bS n f hd=((removeR bS n f hd hd).1,(removeR bS n f hd hd).2.1,hd,0):=(by unfold popR;rw[if_neg h0,if_pos he]);rw[hpe];rw[he] at A;generalize (removeR bS n f hd hd).1=f' at *;generalize (removeR bS n f hd hd).2.1=hd' at *;clear h hpe he h0;go_enter func206,ntmps206;go_wp2_with fail;refine A.out.mono ?_;rintro e w1 ⟨rfl,h1,k1⟩;have H1:=aA h1;have K1:=aA k1;clear h1 k1;go_wp2_with fail;exact⟨rfl,_,by simp[results,results206,go_sem],rfl,H1.out,K1.out⟩
  ·have hpe:popR bS n f hd=(f,hd,0,(removeR bS n f hd hd).2.2):=(by unfold popR;rw[if_neg h0,if_neg he]);rw[hpe];rw[(BU he).1,(BU he).2] at A;have hle:=YV bS n f hd hd;generalize (removeR bS n f hd hd).2.2=x at *;have hxi:((x:Int) == 0)=false:=beq_eq_false_iff_ne.2 (by omega);clear h hpe he h0;go_enter func206,ntmps206;go_wp2_with fail;refine A.out.mono ?_;rintro e w1 ⟨rfl,h1,k1⟩;have H1:=aA h1;have K1:=aA k1;clear h1 k1;go_wp2_with fail;exact⟨rfl,_,by simp[results,results206,go_sem],rfl,H1.out,K1.out⟩
theorem Byte_any(b ao bS R lim n f)(p:Nat)(hp:p<18446744073709551616)(w:World)(h:SpA w b ao bS R lim n f):
  Calls prog 256 #[.pointer (some ⟨b,0,none⟩),.int .u64 p] w fun e w'=>e=.returned (.tuple #[.int .u8 ((if In bS n p 1 then f (p-bS) else 0:Nat):Int),.int .i64 (if In bS n p 1 then 0 else 4)])/\Kt nO w w':=by
 by_cases hin:In bS n p 1
 ·obtain⟨g,rfl⟩:=h.has (by decide) hin;refine(IW b g bS R lim n f p w h hin).mono ?_;rintro e w' ⟨rfl,k⟩;rw[if_pos hin,if_pos hin];exact⟨rfl,k⟩
 ·refine(QM b ao bS R lim n f p 1 0 none 0 w h hp (by decide) (by decide) hin).mono ?_;rintro e w' ⟨rfl,k⟩;rw[if_neg hin,if_neg hin];exact⟨rfl,k⟩
end Go.Proofs.YtkfmheelhinjdaaGreatDoor.M
namespace Go.Proofs.YtkfmheelhinjdaaGreatDoor.M
open _root_.Go.Proofs.Tryz
open Go.RowKit Go.Shelf
set_option linter.unusedVariables false
attribute [local go_sem] Oper.semAt_some
open Classical in
attribute [local go_sem] Oper.semAt_some
attribute [local go_sem] Oper.semAt_some
end Go.Proofs.YtkfmheelhinjdaaGreatDoor.M
