import Derived.Test.YtkfmheelhinjdaaGreatDoorXv
set_option maxRecDepth 1000000
set_option maxHeartbeats 80000000
namespace Go.Proofs.YtkfmheelhinjdaaGreatDoor.M
open Tryz
open Go.RowKit
set_option linter.unusedVariables false
theorem GJ(f:Nat->Nat)(o k:Nat)(g:Nat->Nat)(i:Nat)(h:o<=i/\i<o+k):upd f o k g i=g (i-o):=by simp only[upd];rw[if_pos h]
theorem NE(f:Nat->Nat)(o k:Nat)(g:Nat->Nat)(i:Nat)(h:¬(o<=i/\i<o+k)):upd f o k g i=f i:=by simp only[upd];rw[if_neg h]
theorem wordTo_congr(f g:Nat->Nat)(k:Nat)(h:∀ i,i<k->f i=g i):wordTo f k=wordTo g k:=by
 induction k with
 | zero=>rfl
 | succ k ih=>rw[wordTo,wordTo,ih (fun i hi=>h i (by omega)),h k (by omega)]
theorem ZA(v k:Nat):wordTo (byteOf v) k=v%256 ^ k:=by
 induction k with
 | zero=>simp[wordTo,Nat.mod_one]
 | succ k ih=>rw[wordTo,ih,byteOf,Nat.pow_succ,Nat.mod_mul,Nat.mul_comm (v/256 ^ k%256)]
theorem word_upd(f:Nat->Nat)(o v:Nat)(hv:v<18446744073709551616):word (upd f o 8 (byteOf v)) o=v:=by
 unfold word;rw[wordTo_congr _ (byteOf v) 8 (fun i hi=>by rw[GJ _ _ _ _ _ (by omega),Nat.add_sub_cancel_left]),ZA];exact Nat.mod_eq_of_lt hv
instance (bS n p k:Nat):Decidable (In bS n p k):=inferInstanceAs (Decidable (_/\_))
structure ListAt(w:World)(c b hd:Nat):Prop where
 hc:w.heap[c]?=some (.cells #[.pointer (some ⟨b,0,none⟩),.int .u64 hd] 179 (0,0))
 h64:hd<18446744073709551616
theorem ListAt.lt{w c b hd}(h:ListAt w c b hd):c<w.heap.size:=(Array.getElem?_eq_some_iff.1 h.hc).1
theorem ListAt.c0{w c b hd}(h:ListAt w c b hd):w.cell? ⟨c,0,none⟩=some (.pointer (some ⟨b,0,none⟩)):=by simp[World.cell?,h.hc]
theorem ListAt.c1{w c b hd}(h:ListAt w c b hd):w.cell? ⟨c,1,none⟩=some (.int .u64 hd):=by simp[World.cell?,h.hc]
theorem ListAt.fz{w c b hd}(h:ListAt w c b hd)(i:Nat):w.frozen? ⟨c,i,none⟩=false:=by simp[World.frozen?,h.hc]
theorem ListAt.kept{w w' c b hd}{S:Nat->Prop}(h:ListAt w c b hd)(k:Kt S w w')(hS:¬S c):ListAt w' c b hd:=⟨(k.block c h.lt hS).trans h.hc,h.h64⟩
theorem ListAt.keep{w w' c b hd}(h:ListAt w c b hd)(k:Kt nO w w'):ListAt w' c b hd:=h.kept k (fun x=>x)
theorem heap_set{w:World}{k:Nat}{cs:Array Value}{t:TypeId}{z:Nat×Nat}(h:w.heap[k]?=some (.cells cs t z))(i:Nat)(u:Value):(w.setCell ⟨k,i,none⟩ u).heap[k]?=some (.cells (cs.setIfInBounds i u) t z):=by
 obtain⟨hlt,hk⟩:=Array.getElem?_eq_some_iff.1 h;show(w.heap.modify k _)[k]?=_
 rw[Array.getElem?_eq_getElem (by rw[Array.size_modify];exact hlt),Array.getElem_modify_self,hk];rfl
theorem ListAt.set{w c b hd}(h:ListAt w c b hd)(hd':Nat)(h':hd'<18446744073709551616):ListAt (w.setCell ⟨c,1,none⟩ (.int .u64 hd')) c b hd':=⟨heap_set h.hc 1 _,h'⟩
def cJ(w:World)(k:Nat)(x y:Nat):Prop:=w.heap[k]?=some (.cells #[.int .u64 x,.int .u64 y] 287 (0,0))
theorem cJ.lt{w k x y}(h:cJ w k x y):k<w.heap.size:=(Array.getElem?_eq_some_iff.1 h).1
theorem cJ.c0{w k x y}(h:cJ w k x y):w.cell? ⟨k,0,none⟩=some (.int .u64 x):=by simp[World.cell?,show w.heap[k]?=_ from h]
theorem cJ.c1{w k x y}(h:cJ w k x y):w.cell? ⟨k,1,none⟩=some (.int .u64 y):=by simp[World.cell?,show w.heap[k]?=_ from h]
theorem cJ.fz{w k x y}(h:cJ w k x y)(i:Nat):w.frozen? ⟨k,i,none⟩=false:=by simp[World.frozen?,show w.heap[k]?=_ from h]
theorem cJ.kept{w w' k x y}{S:Nat->Prop}(h:cJ w k x y)(hk:Kt S w w')(hS:¬S k):cJ w' k x y:=(hk.block k h.lt hS).trans h
theorem cJ.keep{w w' k x y}(h:cJ w k x y)(hk:Kt nO w w'):cJ w' k x y:=h.kept hk (fun x=>x)
theorem cJ.new(w:World):cJ (w.alloc (.cells #[.int .u64 0,.int .u64 0] 287)) w.heap.size 0 0:=nH _ _
theorem cJ.set{w k x y}(h:cJ w k x y)(x' y':Nat):cJ ((w.setCell ⟨k,0,none⟩ (.int .u64 x')).setCell ⟨k,1,none⟩ (.int .u64 y')) k x' y':=by
 exact heap_set (heap_set h 0 _) 1 _
def nx(bS:Nat)(f:Nat->Nat)(p:Nat):Nat:=word f (p-bS)
def pv(bS:Nat)(f:Nat->Nat)(p:Nat):Nat:=word f (p+8-bS)
def dM(bS:Nat)(f:Nat->Nat)(p v:Nat):Nat->Nat:=upd f (p-bS) 8 (byteOf v)
theorem word_lt(f:Nat->Nat)(o:Nat)(h:∀ i,i<8->f (o+i)<256):word f o<18446744073709551616:=wordTo_lt (fun i=>f (o+i)) 8 h
theorem SpA.word_lt{w b ao bS R lim n f}(h:SpA w b ao bS R lim n f)(o:Nat)(ho:o+8<=n):word f o<18446744073709551616:=by
 cases ao with
 | none=>
  obtain⟨cap,_,h0,_⟩:=h.ex;omega
 | some g=>exact Go.Proofs.YtkfmheelhinjdaaGreatDoor.M.word_lt f o (fun i hi=>h.f256 _ (by omega))
theorem SpA.nx_lt{w b ao bS R lim n f}(h:SpA w b ao bS R lim n f)(p:Nat)(hp:In bS n p 16):nx bS f p<18446744073709551616:=h.word_lt _ (by unfold In at hp;omega)
theorem SpA.pv_lt{w b ao bS R lim n f}(h:SpA w b ao bS R lim n f)(p:Nat)(hp:In bS n p 16):pv bS f p<18446744073709551616:=h.word_lt _ (by unfold In at hp;omega)
theorem SpA.end_le{w b ao bS R lim n f}(h:SpA w b ao bS R lim n f):bS+n<=9223372036854775808:=by
 have:=h.nle;have:=h.cfg.be;omega
theorem SpA.has{w b ao bS R lim n f}(h:SpA w b ao bS R lim n f){p k:Nat}(hk : 0<k)(hp:In bS n p k):∃ g,ao=Option.some g:=by
 cases ao with
 | none=>
  obtain⟨cap,_,h0,_⟩:=h.ex;unfold In at hp;omega
 | some g=>exact⟨g,rfl⟩
theorem oH(b ao bS R lim n f)(p:Nat)(hp:p<18446744073709551616)(w:World)(h:SpA w b ao bS R lim n f):
  Calls prog 252 #[.pointer (some ⟨b,0,none⟩),.int .u64 p] w fun e w'=>e=.returned (.tuple #[.int .u64 ((if In bS n p 8 then word f (p-bS) else 0:Nat):Int),.int .i64 (if In bS n p 8 then 0 else 4)])/\Kt nO w w':=by
 by_cases hin:In bS n p 8
 ·obtain⟨g,rfl⟩:=h.has (by decide) hin;refine(Word_in b g bS R lim n f p w h hin).mono ?_;rintro e w' ⟨rfl,k⟩;rw[if_pos hin,if_pos hin];exact⟨rfl,k⟩
 ·refine(OG b ao bS R lim n f p 8 0 none 0 w h hp (by decide) (by decide) hin).mono ?_;rintro e w' ⟨rfl,k⟩;rw[if_neg hin,if_neg hin];exact⟨rfl,k⟩
theorem Kt.new2{w w':World}(h:Kt nO w w')(k:Nat)(hk:w.heap.size<=k)(u v:Value):Kt nO w ((w'.setCell ⟨k,0,none⟩ u).setCell ⟨k,1,none⟩ v):=
 (h.setCell (fun e=>absurd e (by simp;omega)) _).setCell (fun e=>absurd e (by simp;omega)) _
theorem nT{a b c:World}(h:Kt nO a b)(k:Kt nO b c):Kt nO a c:=h.trans k (fun _ _ x=>x) (fun _ _ x=>x)
theorem PZ(c b ao bS R lim n f hd)(p:Nat)(w:World)(hS:SpA w b ao bS R lim n f)(hL:ListAt w c b hd)(hin:In bS n p 16):
  Calls prog 279 #[.pointer (some ⟨c,0,none⟩),.int .u64 p] w fun e w'=>e=.returned (.tuple #[.agg #[.int .u64 (nx bS f p:Int),.int .u64 (pv bS f p:Int)],.bool true])/\Kt nO w w':=by
 have hend:=hS.end_le;have hp64:p+8<18446744073709551616:=by unfold In at hin;omega
 have i1:In bS n p 8:=by unfold In at hin ⊢;omega
 have i2:In bS n (p+8) 8:=by unfold In at hin ⊢;omega
 have W1:=aA (fun w' (k:Kt nO w w')=>oH b ao bS R lim n f p (by omega) w' (hS.keep k));have W2:=aA (fun w' (k:Kt nO w w')=>oH b ao bS R lim n f (p+8) (by omega) w' (hS.keep k));rw[if_pos i1,if_pos i1] at W1;rw[if_pos i2,if_pos i2] at W2;have E8:=aA (show((p+8:Nat):Int)=(p:Int)+8 by omega);obtain⟨x,hx⟩:=xe (nx bS f p);obtain⟨y,hy⟩:=xe (pv bS f p);have ex:word f (p-bS)=x:=hx.symm;have ey:word f (p+8-bS)=y:=hy.symm;rw[<-hx,<-hy];rw[ex] at W1;rw[ey,E8.out] at W2;have HL:=aA hL;have hc0:=(hL.keep ((Kt.refl _ w).alloc (.cells #[.int .u64 0,.int .u64 0] 287))).c0;clear hS hL hin i1 i2 ex ey hx hy E8 hend;go_enter func279,ntmps279;go_wp2_with fail;refine(W1.out _ ((Kt.refl _ w).alloc _)).mono ?_;rintro e w1 ⟨rfl,k1⟩;have K1:=aA k1;have hc1:=(HL.out.keep ((Kt.refl _ w).alloc _)).keep k1 |>.c0
 clear k1 hc0;go_wp2_with fail;refine(W2.out _ (nT ((Kt.refl _ w).alloc _) K1.out)).mono ?_;rintro e w2 ⟨rfl,k2⟩;have hP:=((cJ.new w).keep K1.out).keep k2;have K2:=aA (nT (nT ((Kt.refl nO w).alloc _) K1.out) k2);have hz0:=hP.fz 0;have hz1:=hP.fz 1;have hd0:=hP.c0;have hd1:=hP.c1;have HP:=aA hP;clear k2 hP;go_wp2_with fail;have h2:=HP.out.set x y;exact⟨rfl,_,by simp[results,results279,go_sem,h2.c0,h2.c1],rfl,K2.out.new2 w.heap.size (Nat.le_refl _) _ _⟩
theorem GC(c b ao bS R lim n f hd)(p:Nat)(hp:p<18446744073709551616)(w:World)(hS:SpA w b ao bS R lim n f)(hL:ListAt w c b hd)(hin:¬In bS n p 16):
  Calls prog 279 #[.pointer (some ⟨c,0,none⟩),.int .u64 p] w fun e w'=>e=.returned (.tuple #[.agg #[.int .u64 0,.int .u64 0],.bool false])/\Kt nO w w':=by
 have hend:=hS.end_le;by_cases i1:In bS n p 8
 ·have hp64:p+8<18446744073709551616:=by unfold In at i1;omega
  have i2:¬In bS n (p+8) 8:=by unfold In at hin i1 ⊢;omega
  have W1:=aA (fun w' (k:Kt nO w w')=>oH b ao bS R lim n f p (by omega) w' (hS.keep k));have W2:=aA (fun w' (k:Kt nO w w')=>oH b ao bS R lim n f (p+8) (by omega) w' (hS.keep k));rw[if_pos i1,if_pos i1] at W1;rw[if_neg i2,if_neg i2] at W2;have E8:=aA (show((p+8:Nat):Int)=(p:Int)+8 by omega);obtain⟨x,hx⟩:=xe (nx bS f p);have ex:word f (p-bS)=x:=hx.symm;rw[ex] at W1;rw[E8.out] at W2;have HL:=aA hL;have hc0:=(hL.keep ((Kt.refl _ w).alloc (.cells #[.int .u64 0,.int .u64 0] 287))).c0;clear hS hL hin i1 i2 ex hx E8 hend;go_enter func279,ntmps279;go_wp2_with fail;refine(W1.out _ ((Kt.refl _ w).alloc _)).mono ?_;rintro e w1 ⟨rfl,k1⟩;have K1:=aA k1;have hc1:=(HL.out.keep ((Kt.refl _ w).alloc _)).keep k1 |>.c0
  clear k1 hc0;go_wp2_with fail;refine(W2.out _ (nT ((Kt.refl _ w).alloc _) K1.out)).mono ?_;rintro e w2 ⟨rfl,k2⟩;have hP:=((cJ.new w).keep K1.out).keep k2;have K2:=aA (nT (nT ((Kt.refl nO w).alloc _) K1.out) k2);have hz0:=hP.fz 0;have hz1:=hP.fz 1;have hd0:=hP.c0;have hd1:=hP.c1;have HP:=aA hP;clear k2 hP;go_wp2_with fail;have h2:=HP.out.set 0 0;exact⟨rfl,_,by simp[results,results279,go_sem,hd0,hd1],rfl,K2.out.new2 w.heap.size (Nat.le_refl _) _ _⟩
 ·have W1:=aA (fun w' (k:Kt nO w w')=>oH b ao bS R lim n f p hp w' (hS.keep k));rw[if_neg i1,if_neg i1] at W1;have hc0:=(hL.keep ((Kt.refl _ w).alloc (.cells #[.int .u64 0,.int .u64 0] 287))).c0;clear hS hL hin i1 hend;go_enter func279,ntmps279;go_wp2_with fail;refine(W1.out _ ((Kt.refl _ w).alloc _)).mono ?_;rintro e w2 ⟨rfl,k2⟩;have hP:=(cJ.new w).keep k2;have K2:=aA (nT ((Kt.refl nO w).alloc _) k2);have hz0:=hP.fz 0;have hz1:=hP.fz 1;have hd0:=hP.c0;have hd1:=hP.c1;have HP:=aA hP;clear k2 hP;go_wp2_with fail;have h2:=HP.out.set 0 0;exact⟨rfl,_,by simp[results,results279,go_sem,hd0,hd1],rfl,K2.out.new2 w.heap.size (Nat.le_refl _) _ _⟩
def kI(bS n:Nat)(f:Nat->Nat)(p:Nat):Nat:=if In bS n p 16 then nx bS f p else 0
def kG(bS n:Nat)(f:Nat->Nat)(p:Nat):Nat:=if In bS n p 16 then pv bS f p else 0
theorem iU(c b ao bS R lim n f hd)(p:Nat)(hp:p<18446744073709551616)(w:World)(hS:SpA w b ao bS R lim n f)(hL:ListAt w c b hd):
  Calls prog 279 #[.pointer (some ⟨c,0,none⟩),.int .u64 p] w fun e w'=>e=.returned (.tuple #[.agg #[.int .u64 (kI bS n f p:Int),.int .u64 (kG bS n f p:Int)],.bool (decide (In bS n p 16))])/\Kt nO w w':=by
 by_cases hin:In bS n p 16
 ·refine(PZ c b ao bS R lim n f hd p w hS hL hin).mono ?_;rintro e w' ⟨rfl,k⟩;refine⟨?_,k⟩;unfold kI kG;rw[if_pos hin,if_pos hin,decide_eq_true hin]
 ·refine(GC c b ao bS R lim n f hd p hp w hS hL hin).mono ?_;rintro e w' ⟨rfl,k⟩;refine⟨?_,k⟩;unfold kI kG;rw[if_neg hin,if_neg hin,decide_eq_false hin];rfl
theorem cJ.box{w:World}(x y:Nat):cJ (w.alloc (.cells #[.int .u64 x,.int .u64 y] 287)) w.heap.size x y:=nH _ _
def fO(bS n:Nat)(f:Nat->Nat)(q b:Nat):Bool:=decide (q=0\/(In bS n q 16/\pv bS f q=b))
theorem AM(c b ao bS R lim n f hd)(q x:Nat)(hq:q<18446744073709551616)(hx:x<18446744073709551616)(w:World)(hS:SpA w b ao bS R lim n f)(hL:ListAt w c b hd):
  Calls prog 281 #[.pointer (some ⟨c,0,none⟩),.int .u64 q,.int .u64 x] w fun e w'=>e=.returned (.bool (fO bS n f q x))/\Kt nO w w':=by
 by_cases h0:q=0
 ·subst h0;clear hS hL;go_enter func281,ntmps281;go_wp2
  go_ret;exact⟨by simp[fO],Kt.refl _ _⟩
 ·have A:=aA (iU c b ao bS R lim n f hd q hq w hS hL);have h0i:((q:Int) == 0)=false:=beq_eq_false_iff_ne.2 (by omega);obtain⟨u,hu⟩:=xe (kI bS n f q);obtain⟨v,hv⟩:=xe (kG bS n f q);have HB:=aA (show fO bS n f q x=decide (In bS n q 16/\v=x)by
   unfold fO;congr 1
   rw[hv];unfold kG;by_cases hi:In bS n q 16
   ·simp[h0,hi]
   ·simp[h0,hi])
  obtain⟨t,ht⟩:=xe (decide (In bS n q 16));have HT:=aA (show decide (In bS n q 16/\v=x)=(t && decide (v=x))by rw[ht];simp);rw[<-hu,<-hv,<-ht] at A;clear hS hL hu hv ht;rw[HB.out,HT.out];clear HB HT;by_cases hvx:v=x
  ·have hvxi:((v:Int) == (x:Int))=true:=beq_iff_eq.2 (by omega)
   cases t
   all_goals
    go_enter func281,ntmps281;go_wp2_with fail;refine A.out.mono ?_;rintro e w1 ⟨rfl,k1⟩;have HK:=aA k1;have hP:=cJ.box (w:=w1) u v;have hp0:=hP.c0;have hp1:=hP.c1;clear k1 hP;go_wp2_with fail;go_ret;exact⟨by simp[hvx],HK.out.alloc _⟩
  ·have hvxi:((v:Int) == (x:Int))=false:=beq_eq_false_iff_ne.2 (by omega)
   cases t
   all_goals
    go_enter func281,ntmps281;go_wp2_with fail;refine A.out.mono ?_;rintro e w1 ⟨rfl,k1⟩;have HK:=aA k1;have hP:=cJ.box (w:=w1) u v;have hp0:=hP.c0;have hp1:=hP.c1;clear k1 hP;go_wp2_with fail;go_ret;exact⟨by simp[hvx],HK.out.alloc _⟩
def gK(bS n:Nat)(f:Nat->Nat)(hd q p:Nat):Bool:=if q=0\/p=hd then decide (q=0/\p=hd) else decide (In bS n q 16/\nx bS f q=p)
theorem XO(c b ao bS R lim n f hd)(q p:Nat)(hq:q<18446744073709551616)(hp:p<18446744073709551616)(w:World)(hS:SpA w b ao bS R lim n f)(hL:ListAt w c b hd):
  Calls prog 280 #[.pointer (some ⟨c,0,none⟩),.int .u64 q,.int .u64 p] w fun e w'=>e=.returned (.bool (gK bS n f hd q p))/\Kt nO w w':=by
 have hc1:=hL.c1;have h64:=hL.h64;by_cases h0:q=0
 ·subst h0;obtain⟨t,ht⟩:∃ t,((p:Int) == (hd:Int))=t:=⟨_,rfl⟩;have HT:=aA (show gK bS n f hd 0 p=t by
   rw[<-ht];by_cases hph:p=hd
   ·simp[gK,hph]
   ·have:((p:Int) == (hd:Int))=false:=beq_eq_false_iff_ne.2 (by omega);simp[gK,hph,this])
  rw[HT.out];clear hS hL HT;go_enter func280,ntmps280;go_wp2
  go_ret;exact⟨rfl,Kt.refl _ _⟩
 ·have h0i:((q:Int) == 0)=false:=beq_eq_false_iff_ne.2 (by omega);by_cases hph:p=hd
  ·subst hph;clear hS hL;go_enter func280,ntmps280;go_wp2
   go_ret;exact⟨by simp[gK,h0],Kt.refl _ _⟩
  ·have hphi:((p:Int) == (hd:Int))=false:=beq_eq_false_iff_ne.2 (by omega);have A:=aA (iU c b ao bS R lim n f hd q hq w hS hL);obtain⟨u,hu⟩:=xe (kI bS n f q);obtain⟨v,hv⟩:=xe (kG bS n f q);obtain⟨t,ht⟩:=xe (decide (In bS n q 16));have HB:=aA (show gK bS n f hd q p=(t && decide (u=p))by
    unfold gK;rw[if_neg (by simp[h0,hph]),hu,ht];unfold kI;by_cases hi:In bS n q 16
    ·simp[hi]
    ·simp[hi])
   rw[<-hu,<-hv,<-ht] at A;clear hS hL hu hv ht;rw[HB.out];clear HB;by_cases hvx:u=p
   ·have hvxi:((u:Int) == (p:Int))=true:=beq_iff_eq.2 (by omega)
    cases t
    all_goals
     go_enter func280,ntmps280;go_wp2_with fail;refine A.out.mono ?_;rintro e w1 ⟨rfl,k1⟩;have HK:=aA k1;have hP:=cJ.box (w:=w1) u v;have hp0:=hP.c0;have hp1:=hP.c1;clear k1 hP;go_wp2_with fail;go_ret;exact⟨by simp[hvx],HK.out.alloc _⟩
   ·have hvxi:((u:Int) == (p:Int))=false:=beq_eq_false_iff_ne.2 (by omega)
    cases t
    all_goals
     go_enter func280,ntmps280;go_wp2_with fail;refine A.out.mono ?_;rintro e w1 ⟨rfl,k1⟩;have HK:=aA k1;have hP:=cJ.box (w:=w1) u v;have hp0:=hP.c0;have hp1:=hP.c1;clear k1 hP;go_wp2_with fail;go_ret;exact⟨by simp[hvx],HK.out.alloc _⟩
theorem rE(c b g bS R lim n f hd)(p v:Nat)(hv:v<18446744073709551616)(w:World)(hS:SpA w b (some g) bS R lim n f)(hL:ListAt w c b hd)(hin:In bS n p 8):
  Calls prog 282 #[.pointer (some ⟨c,0,none⟩),.int .u64 p,.int .u64 v] w fun e w'=>e=.returned (.tuple #[])/\SpA w' b (some g) bS R lim n (dM bS f p v)/\Kt (own b (some g)) w w':=by
 have hc0:=hL.c0;have A:=aA (SetWord_in b g bS R lim n f p v hv w hS hin);clear hS hL hin;go_enter func282,ntmps282;go_wp2_with fail;refine A.out.mono ?_;rintro e w1 ⟨rfl,hS,hK⟩;have HS:=aA hS;have HK:=aA hK;clear hS hK;go_wp2_with fail;first|go_ret|skip
 first|exact⟨rfl,HS.out,HK.out⟩|exact⟨rfl,_,by simp[results,results282,go_sem],rfl,HS.out,HK.out⟩
theorem oU(c b g bS R lim n f hd)(p v:Nat)(hv:v<18446744073709551616)(w:World)(hS:SpA w b (some g) bS R lim n f)(hL:ListAt w c b hd)(hin:In bS n (p+8) 8):
  Calls prog 283 #[.pointer (some ⟨c,0,none⟩),.int .u64 p,.int .u64 v] w fun e w'=>e=.returned (.tuple #[])/\SpA w' b (some g) bS R lim n (dM bS f (p+8) v)/\Kt (own b (some g)) w w':=by
 have hc0:=hL.c0;have hend:=hS.end_le;have hp64:p+8<18446744073709551616:=by unfold In at hin;omega
 have A:=aA (SetWord_in b g bS R lim n f (p+8) v hv w hS hin);rw[show((p+8:Nat):Int)=(p:Int)+8 by omega] at A;clear hS hL hin hend;go_enter func283,ntmps283;go_wp2_with fail;refine A.out.mono ?_;rintro e w1 ⟨rfl,hS,hK⟩;have HS:=aA hS;have HK:=aA hK;clear hS hK;go_wp2_with fail;first|go_ret|skip
 first|exact⟨rfl,HS.out,HK.out⟩|exact⟨rfl,_,by simp[results,results283,go_sem],rfl,HS.out,HK.out⟩
theorem newList_any(b hd:Nat)(h64:hd<18446744073709551616)(w:World):
  Calls prog 152 #[.pointer (some ⟨b,0,none⟩),.int .u64 hd] w fun e w'=>∃ c,e=.returned (.pointer (some ⟨c,0,none⟩))/\ListAt w' c b hd/\Kt nO w w'/\w.heap.size<=c:=by
 go_enter func152,ntmps152;go_wp2
 go_ret;exact⟨_,rfl,⟨nH _ _,h64⟩,(Kt.refl _ _).alloc _,Nat.le_refl _⟩
theorem Head_any(c b hd:Nat)(w:World)(hL:ListAt w c b hd):
  Calls prog 84 #[.pointer (some ⟨c,0,none⟩)] w fun e w'=>e=.returned (.int .u64 hd)/\w'=w:=by
 have hc1:=hL.c1;clear hL;go_enter func84,ntmps84;go_wp2
 go_ret;exact⟨rfl,rfl⟩
end Go.Proofs.YtkfmheelhinjdaaGreatDoor.M
