import Derived.Test.YtfmgnljlkdmndaaGreatDoorXd
set_option maxRecDepth 1000000
set_option maxHeartbeats 80000000
namespace Go.Proofs.YtfmgnljlkdmndaaGreatDoor.M
open Tryz
open Go.RowKit
set_option linter.unusedVariables false
theorem TT(f:Nat->Nat)(o k:Nat)(g:Nat->Nat)(i:Nat)(h:o<=i/\i<o+k):upd f o k g i=g (i-o):=by simp only[upd];rw[ae h]
theorem upd_out(f:Nat->Nat)(o k:Nat)(g:Nat->Nat)(i:Nat)(h:¬(o<=i/\i<o+k)):upd f o k g i=f i:=by simp only[upd];rw[ac h]
theorem wordTo_congr(f g:Nat->Nat)(k:Nat)(h:∀ i,i<k->f i=g i):wordTo f k=wordTo g k:=by
 induction k with
 | zero=>rfl
 | succ k a=>rw[wordTo,wordTo,a (fun i hi=>h i (by omega)),h k (by omega)]
theorem zeS(v k:Nat):wordTo (byteOf v) k=v%256 ^ k:=by
 induction k with
 | zero=>simp[wordTo,Nat.mod_one]
 | succ k a=>rw[wordTo,a,byteOf,ci,Nat.mod_mul,aq (v/256 ^ k%256)]
theorem word_upd(f:Nat->Nat)(o v:Nat)(a:v<18446744073709551616):word (upd f o 8 (byteOf v)) o=v:=by unfold word;rw[wordTo_congr _ (byteOf v) 8 (fun i hi=>by rw[TT _ _ _ _ _ (by omega),Nat.add_sub_cancel_left]),zeS];exact Nat.mod_eq_of_lt a
instance (bS n p k:Nat):Decidable (In bS n p k):=inferInstanceAs (Decidable (_/\_))
structure ListAt(w:World)(c b hd:Nat):Prop where
 hc:w.heap[c]?=some (.cells #[.pointer (some ⟨b,0,none⟩),.int .u64 hd] 179 (0,0))
 h64:hd<18446744073709551616
theorem ListAt.lt{w c b hd}(h:ListAt w c b hd):c<w.heap.size:=(Array.getElem?_eq_some_iff.1 h.hc).1
theorem ListAt.c0{w c b hd}(h:ListAt w c b hd):w.cell? ⟨c,0,none⟩=some (.pointer (some ⟨b,0,none⟩)):=by simp[World.cell?,h.hc]
theorem ListAt.c1{w c b hd}(h:ListAt w c b hd):w.cell? ⟨c,1,none⟩=some (.int .u64 hd):=by simp[World.cell?,h.hc]
theorem ListAt.fz{w c b hd}(h:ListAt w c b hd)(i:Nat):w.frozen? ⟨c,i,none⟩=false:=by simp[World.frozen?,h.hc]
theorem ListAt.kept{w w' c b hd}{S:Nat->Prop}(h:ListAt w c b hd)(k:Kt S w w')(hS:¬S c):ListAt w' c b hd:=⟨(k.block c h.lt hS).trans h.hc,h.h64⟩
theorem ListAt.keep{w w' c b hd}(h:ListAt w c b hd)(k:Kt nO w w'):ListAt w' c b hd:=h.kept k (fun x=>x)
theorem cF{w:World}{k:Nat}{cs:Array Value}{t:TypeId}{z:Nat×Nat}(h:w.heap[k]?=some (.cells cs t z))(i:Nat)(u:Value):(w.setCell ⟨k,i,none⟩ u).heap[k]?=some (.cells (cs.setIfInBounds i u) t z):=by
 obtain⟨a,b⟩:=Array.getElem?_eq_some_iff.1 h;show(w.heap.modify k _)[k]?=_
 rw[Array.getElem?_eq_getElem (by rw[Array.size_modify];exact a),Array.getElem_modify_self,b];rfl
theorem ListAt.set{w c b hd}(h:ListAt w c b hd)(a:Nat)(d:a<18446744073709551616):ListAt (w.setCell ⟨c,1,none⟩ (.int .u64 a)) c b a:=⟨cF h.hc 1 _,d⟩
def cX(w:World)(k:Nat)(x y:Nat):Prop:=w.heap[k]?=some (.cells #[.int .u64 x,.int .u64 y] 246 (0,0))
theorem cX.lt{w k x y}(h:cX w k x y):k<w.heap.size:=(Array.getElem?_eq_some_iff.1 h).1
theorem cX.c0{w k x y}(h:cX w k x y):w.cell? ⟨k,0,none⟩=some (.int .u64 x):=by simp[World.cell?,show w.heap[k]?=_ from h]
theorem cX.c1{w k x y}(h:cX w k x y):w.cell? ⟨k,1,none⟩=some (.int .u64 y):=by simp[World.cell?,show w.heap[k]?=_ from h]
theorem cX.fz{w k x y}(h:cX w k x y)(i:Nat):w.frozen? ⟨k,i,none⟩=false:=by simp[World.frozen?,show w.heap[k]?=_ from h]
theorem cX.kept{w w' k x y}{S:Nat->Prop}(h:cX w k x y)(a:Kt S w w')(hS:¬S k):cX w' k x y:=(a.block k h.lt hS).trans h
theorem cX.keep{w w' k x y}(h:cX w k x y)(a:Kt nO w w'):cX w' k x y:=h.kept a (fun x=>x)
theorem cX.new(w:World):cX (w.alloc (.cells #[.int .u64 0,.int .u64 0] 246)) w.heap.size 0 0:=nH _ _
theorem cX.set{w k x y}(h:cX w k x y)(x' a:Nat):cX ((w.setCell ⟨k,0,none⟩ (.int .u64 x')).setCell ⟨k,1,none⟩ (.int .u64 a)) k x' a:=by exact cF (cF h 0 _) 1 _
def nx(bS:Nat)(f:Nat->Nat)(p:Nat):Nat:=word f (p-bS)
def pv(bS:Nat)(f:Nat->Nat)(p:Nat):Nat:=word f (p+8-bS)
def eK(bS:Nat)(f:Nat->Nat)(p v:Nat):Nat->Nat:=upd f (p-bS) 8 (byteOf v)
theorem word_lt(f:Nat->Nat)(o:Nat)(h:∀ i,i<8->f (o+i)<256):word f o<18446744073709551616:=wordTo_lt (fun i=>f (o+i)) 8 h
theorem SpA.word_lt{w b ao bS R lim n f}(h:SpA w b ao bS R lim n f)(o:Nat)(a:o+8<=n):word f o<18446744073709551616:=by
 cases ao with
 | none=>
  obtain⟨cap,_,h0,_⟩:=h.ex;omega
 | some g=>exact Go.Proofs.YtfmgnljlkdmndaaGreatDoor.M.word_lt f o (fun i hi=>h.f256 _ (by omega))
theorem SpA.nx_lt{w b ao bS R lim n f}(h:SpA w b ao bS R lim n f)(p:Nat)(hp:In bS n p 16):nx bS f p<18446744073709551616:=h.word_lt _ (by unfold In at hp;omega)
theorem SpA.pv_lt{w b ao bS R lim n f}(h:SpA w b ao bS R lim n f)(p:Nat)(hp:In bS n p 16):pv bS f p<18446744073709551616:=h.word_lt _ (by unfold In at hp;omega)
theorem SpA.end_le{w b ao bS R lim n f}(h:SpA w b ao bS R lim n f):bS+n<=9223372036854775808:=by have:=h.nle;have:=h.cfg.be;omega
theorem SpA.has{w b ao bS R lim n f}(h:SpA w b ao bS R lim n f){p k:Nat}(a : 0<k)(hp:In bS n p k):∃ g,ao=Option.some g:=by
 cases ao with
 | none=>
  obtain⟨cap,_,h0,_⟩:=h.ex;unfold In at hp;omega
 | some g=>exact⟨g,rfl⟩
theorem qM(b ao bS R lim n f)(p:Nat)(hp:p<18446744073709551616)(w:World)(h:SpA w b ao bS R lim n f):
  Calls prog 245 #[.pointer (some ⟨b,0,none⟩),.int .u64 p] w fun e c=>e=.returned (.tuple #[.int .u64 ((if In bS n p 8 then word f (p-bS) else 0:Nat):Int),.int .i64 (if In bS n p 8 then 0 else 4)])/\Kt nO w c:=by
 by_cases a:In bS n p 8
 ·obtain⟨g,rfl⟩:=h.has (by decide) a;refine(Word_in b g bS R lim n f p w h a).mono ?_;rintro e c ⟨rfl,k⟩;rw[ae a,ae a];exact⟨rfl,k⟩
 ·refine(ZS b ao bS R lim n f p 8 0 none 0 w h hp (by decide) (by decide) a).mono ?_;rintro e c ⟨rfl,k⟩;rw[ac a,ac a];exact⟨rfl,k⟩
theorem Kt.new2{w a:World}(h:Kt nO w a)(k:Nat)(b:w.heap.size<=k)(u v:Value):Kt nO w ((a.setCell ⟨k,0,none⟩ u).setCell ⟨k,1,none⟩ v):=
 (h.setCell (fun e=>absurd e (by simp;omega)) _).setCell (fun e=>absurd e (by simp;omega)) _
theorem nT{a b c:World}(h:Kt nO a b)(k:Kt nO b c):Kt nO a c:=h.trans k (fun _ _ x=>x) (fun _ _ x=>x)
theorem IF(c b ao bS R lim n f hd)(p:Nat)(w:World)(hS:SpA w b ao bS R lim n f)(hL:ListAt w c b hd)(a:In bS n p 16):
  Calls prog 240 #[.pointer (some ⟨c,0,none⟩),.int .u64 p] w fun e d=>e=.returned (.tuple #[.agg #[.int .u64 (nx bS f p:Int),.int .u64 (pv bS f p:Int)],.bool true])/\Kt nO w d:=by
 have hend:=hS.end_le;have s:p+8<18446744073709551616:=by unfold In at a;omega
 have m:In bS n p 8:=by unfold In at a ⊢;omega
 have i:In bS n (p+8) 8:=by unfold In at a ⊢;omega
 have j:=aA (fun d (k:Kt nO w d)=>qM b ao bS R lim n f p (by omega) d (hS.keep k));have o:=aA (fun d (k:Kt nO w d)=>qM b ao bS R lim n f (p+8) (by omega) d (hS.keep k));rw[ae m,ae m] at j;rw[ae i,ae i] at o;have t:=aA (show((p+8:Nat):Int)=(p:Int)+8 by omega);obtain⟨x,hx⟩:=xe (nx bS f p);obtain⟨y,hy⟩:=xe (pv bS f p);have ex:word f (p-bS)=x:=hx.symm;have u:word f (p+8-bS)=y:=hy.symm;rw[<-hx,<-hy];rw[ex] at j;rw[u,t.o] at o;have E:=aA hL;have h:=(hL.keep ((Kt.refl _ w).alloc (.cells #[.int .u64 0,.int .u64 0] 246))).c0;clear hS hL a m i ex u hx hy t hend;go_enter func240,ntmps240;go_wp2_with fail;refine(j.o _ ((Kt.refl _ w).alloc _)).mono ?_;rintro e J ⟨rfl,l⟩;have r:=aA l;have C:=(E.o.keep ((Kt.refl _ w).alloc _)).keep l |>.c0
 clear l h;go_wp2_with fail;refine(o.o _ (nT ((Kt.refl _ w).alloc _) r.o)).mono ?_;rintro e I ⟨rfl,q⟩;have g:=((cX.new w).keep r.o).keep q;have D:=aA (nT (nT ((Kt.refl nO w).alloc _) r.o) q);have z:=g.fz 0;have G:=g.fz 1;have B:=g.c0;have A:=g.c1;have F:=aA g;clear q g;go_wp2_with fail;have v:=F.o.set x y;exact⟨rfl,_,by simp[results,results240,go_sem,v.c0,v.c1],rfl,D.o.new2 w.heap.size (aj _) _ _⟩
theorem AV(c b ao bS R lim n f hd)(p:Nat)(hp:p<18446744073709551616)(w:World)(hS:SpA w b ao bS R lim n f)(hL:ListAt w c b hd)(i:¬In bS n p 16):
  Calls prog 240 #[.pointer (some ⟨c,0,none⟩),.int .u64 p] w fun e d=>e=.returned (.tuple #[.agg #[.int .u64 0,.int .u64 0],.bool false])/\Kt nO w d:=by
 have hend:=hS.end_le;by_cases g:In bS n p 8
 ·have A:p+8<18446744073709551616:=by unfold In at g;omega
  have q:¬In bS n (p+8) 8:=by unfold In at i g ⊢;omega
  have m:=aA (fun d (k:Kt nO w d)=>qM b ao bS R lim n f p (by omega) d (hS.keep k));have y:=aA (fun d (k:Kt nO w d)=>qM b ao bS R lim n f (p+8) (by omega) d (hS.keep k));rw[ae g,ae g] at m;rw[ac q,ac q] at y;have B:=aA (show((p+8:Nat):Int)=(p:Int)+8 by omega);obtain⟨x,hx⟩:=xe (nx bS f p);have ex:word f (p-bS)=x:=hx.symm;rw[ex] at m;rw[B.o] at y;have F:=aA hL;have o:=(hL.keep ((Kt.refl _ w).alloc (.cells #[.int .u64 0,.int .u64 0] 246))).c0;clear hS hL i g q ex hx B hend;go_enter func240,ntmps240;go_wp2_with fail;refine(m.o _ ((Kt.refl _ w).alloc _)).mono ?_;rintro e G ⟨rfl,s⟩;have z:=aA s;have D:=(F.o.keep ((Kt.refl _ w).alloc _)).keep s |>.c0
  clear s o;go_wp2_with fail;refine(y.o _ (nT ((Kt.refl _ w).alloc _) z.o)).mono ?_;rintro e E ⟨rfl,l⟩;have a:=((cX.new w).keep z.o).keep l;have t:=aA (nT (nT ((Kt.refl nO w).alloc _) z.o) l);have r:=a.fz 0;have v:=a.fz 1;have j:=a.c0;have h:=a.c1;have u:=aA a;clear l a;go_wp2_with fail;have C:=u.o.set 0 0;exact⟨rfl,_,by simp[results,results240,go_sem,j,h],rfl,t.o.new2 w.heap.size (aj _) _ _⟩
 ·have m:=aA (fun d (k:Kt nO w d)=>qM b ao bS R lim n f p hp d (hS.keep k));rw[ac g,ac g] at m;have o:=(hL.keep ((Kt.refl _ w).alloc (.cells #[.int .u64 0,.int .u64 0] 246))).c0;clear hS hL i g hend;go_enter func240,ntmps240;go_wp2_with fail;refine(m.o _ ((Kt.refl _ w).alloc _)).mono ?_;rintro e E ⟨rfl,l⟩;have a:=(cX.new w).keep l;have t:=aA (nT ((Kt.refl nO w).alloc _) l);have r:=a.fz 0;have v:=a.fz 1;have j:=a.c0;have h:=a.c1;have u:=aA a;clear l a;go_wp2_with fail;have C:=u.o.set 0 0;exact⟨rfl,_,by simp[results,results240,go_sem,j,h],rfl,t.o.new2 w.heap.size (aj _) _ _⟩
def lR(bS n:Nat)(f:Nat->Nat)(p:Nat):Nat:=if In bS n p 16 then nx bS f p else 0
def lQ(bS n:Nat)(f:Nat->Nat)(p:Nat):Nat:=if In bS n p 16 then pv bS f p else 0
theorem jC(c b ao bS R lim n f hd)(p:Nat)(hp:p<18446744073709551616)(w:World)(hS:SpA w b ao bS R lim n f)(hL:ListAt w c b hd):
  Calls prog 240 #[.pointer (some ⟨c,0,none⟩),.int .u64 p] w fun e d=>e=.returned (.tuple #[.agg #[.int .u64 (lR bS n f p:Int),.int .u64 (lQ bS n f p:Int)],.bool (decide (In bS n p 16))])/\Kt nO w d:=by
 by_cases a:In bS n p 16
 ·refine(IF c b ao bS R lim n f hd p w hS hL a).mono ?_;rintro e d ⟨rfl,k⟩;refine⟨?_,k⟩;unfold lR lQ;rw[ae a,ae a,af a]
 ·refine(AV c b ao bS R lim n f hd p hp w hS hL a).mono ?_;rintro e d ⟨rfl,k⟩;refine⟨?_,k⟩;unfold lR lQ;rw[ac a,ac a,ah a];rfl
theorem cX.box{w:World}(x y:Nat):cX (w.alloc (.cells #[.int .u64 x,.int .u64 y] 246)) w.heap.size x y:=nH _ _
def gM(bS n:Nat)(f:Nat->Nat)(q b:Nat):Bool:=decide (q=0\/(In bS n q 16/\pv bS f q=b))
theorem KY(c b ao bS R lim n f hd)(q x:Nat)(hq:q<18446744073709551616)(hx:x<18446744073709551616)(w:World)(hS:SpA w b ao bS R lim n f)(hL:ListAt w c b hd):
  Calls prog 242 #[.pointer (some ⟨c,0,none⟩),.int .u64 q,.int .u64 x] w fun e z=>e=.returned (.bool (gM bS n f q x))/\Kt nO w z:=by
 by_cases h0:q=0
 ·subst h0;clear hS hL;go_enter func242,ntmps242;go_wp2
  go_ret;exact⟨by simp[gM],Kt.refl _ _⟩
 ·have A:=aA (jC c b ao bS R lim n f hd q hq w hS hL);have y:((q:Int) == 0)=false:=ag.2 (by omega);obtain⟨u,s⟩:=xe (lR bS n f q);obtain⟨v,l⟩:=xe (lQ bS n f q);have r:=aA (show gM bS n f q x=decide (In bS n q 16/\v=x)by
   unfold gM;congr 1
   rw[l];unfold lQ;by_cases hi:In bS n q 16
   ·simp[h0,hi]
   ·simp[h0,hi])
  obtain⟨t,o⟩:=xe (decide (In bS n q 16));have p:=aA (show decide (In bS n q 16/\v=x)=(t && decide (v=x))by rw[o];simp);rw[<-s,<-l,<-o] at A;clear hS hL s l o;rw[r.o,p.o];clear r p;by_cases g:v=x
  ·have d:((v:Int) == (x:Int))=true:=co.2 (by omega)
   cases t
   all_goals
    go_enter func242,ntmps242;go_wp2_with fail;refine A.o.mono ?_;rintro e m ⟨rfl,h⟩;have k:=aA h;have a:=cX.box (w:=m) u v;have j:=a.c0;have i:=a.c1;clear h a;go_wp2_with fail;go_ret;exact⟨by simp[g],k.o.alloc _⟩
  ·have d:((v:Int) == (x:Int))=false:=ag.2 (by omega)
   cases t
   all_goals
    go_enter func242,ntmps242;go_wp2_with fail;refine A.o.mono ?_;rintro e m ⟨rfl,h⟩;have k:=aA h;have a:=cX.box (w:=m) u v;have j:=a.c0;have i:=a.c1;clear h a;go_wp2_with fail;go_ret;exact⟨by simp[g],k.o.alloc _⟩
def iJ(bS n:Nat)(f:Nat->Nat)(hd q p:Nat):Bool:=if q=0\/p=hd then decide (q=0/\p=hd) else decide (In bS n q 16/\nx bS f q=p)
theorem zgv(c b ao bS R lim n f hd)(q p:Nat)(hq:q<18446744073709551616)(hp:p<18446744073709551616)(w:World)(hS:SpA w b ao bS R lim n f)(hL:ListAt w c b hd):
  Calls prog 241 #[.pointer (some ⟨c,0,none⟩),.int .u64 q,.int .u64 p] w fun e C=>e=.returned (.bool (iJ bS n f hd q p))/\Kt nO w C:=by
 have D:=hL.c1;have h64:=hL.h64;by_cases h0:q=0
 ·subst h0;obtain⟨t,j⟩:∃ t,((p:Int) == (hd:Int))=t:=⟨_,rfl⟩;have y:=aA (show iJ bS n f hd 0 p=t by
   rw[<-j];by_cases a:p=hd
   ·simp[iJ,a]
   ·have:((p:Int) == (hd:Int))=false:=ag.2 (by omega);simp[iJ,a,this])
  rw[y.o];clear hS hL y;go_enter func241,ntmps241;go_wp2
  go_ret;exact⟨rfl,Kt.refl _ _⟩
 ·have B:((q:Int) == 0)=false:=ag.2 (by omega);by_cases a:p=hd
  ·subst a;clear hS hL;go_enter func241,ntmps241;go_wp2
   go_ret;exact⟨by simp[iJ,h0],Kt.refl _ _⟩
  ·have s:((p:Int) == (hd:Int))=false:=ag.2 (by omega);have A:=aA (jC c b ao bS R lim n f hd q hq w hS hL);obtain⟨u,l⟩:=xe (lR bS n f q);obtain⟨v,x⟩:=xe (lQ bS n f q);obtain⟨t,j⟩:=xe (decide (In bS n q 16));have z:=aA (show iJ bS n f hd q p=(t && decide (u=p))by
    unfold iJ;rw[ac (by simp[h0,a]),l,j];unfold lR;by_cases hi:In bS n q 16
    ·simp[hi]
    ·simp[hi])
   rw[<-l,<-x,<-j] at A;clear hS hL l x j;rw[z.o];clear z;by_cases h:u=p
   ·have g:((u:Int) == (p:Int))=true:=co.2 (by omega)
    cases t
    all_goals
     go_enter func241,ntmps241;go_wp2_with fail;refine A.o.mono ?_;rintro e r ⟨rfl,i⟩;have o:=aA i;have d:=cX.box (w:=r) u v;have m:=d.c0;have k:=d.c1;clear i d;go_wp2_with fail;go_ret;exact⟨by simp[h],o.o.alloc _⟩
   ·have g:((u:Int) == (p:Int))=false:=ag.2 (by omega)
    cases t
    all_goals
     go_enter func241,ntmps241;go_wp2_with fail;refine A.o.mono ?_;rintro e r ⟨rfl,i⟩;have o:=aA i;have d:=cX.box (w:=r) u v;have m:=d.c0;have k:=d.c1;clear i d;go_wp2_with fail;go_ret;exact⟨by simp[h],o.o.alloc _⟩
theorem tY(c b g bS R lim n f hd)(p v:Nat)(k:v<18446744073709551616)(w:World)(hS:SpA w b (some g) bS R lim n f)(hL:ListAt w c b hd)(a:In bS n p 8):
  Calls prog 243 #[.pointer (some ⟨c,0,none⟩),.int .u64 p,.int .u64 v] w fun e d=>e=.returned (.tuple #[])/\SpA d b (some g) bS R lim n (eK bS f p v)/\Kt (own b (some g)) w d:=by
 have j:=hL.c0;have A:=aA (SetWord_in b g bS R lim n f p v k w hS a);clear hS hL a;go_enter func243,ntmps243;go_wp2_with fail;refine A.o.mono ?_;rintro e l ⟨rfl,hS,hK⟩;have i:=aA hS;have h:=aA hK;clear hS hK;go_wp2_with fail;first|go_ret|skip
 first|exact⟨rfl,i.o,h.o⟩|exact⟨rfl,_,by simp[results,results243,go_sem],rfl,i.o,h.o⟩
theorem qN(c b g bS R lim n f hd)(p v:Nat)(l:v<18446744073709551616)(w:World)(hS:SpA w b (some g) bS R lim n f)(hL:ListAt w c b hd)(a:In bS n (p+8) 8):
  Calls prog 244 #[.pointer (some ⟨c,0,none⟩),.int .u64 p,.int .u64 v] w fun e d=>e=.returned (.tuple #[])/\SpA d b (some g) bS R lim n (eK bS f (p+8) v)/\Kt (own b (some g)) w d:=by
 have k:=hL.c0;have hend:=hS.end_le;have i:p+8<18446744073709551616:=by unfold In at a;omega
 have A:=aA (SetWord_in b g bS R lim n f (p+8) v l w hS a);rw[show((p+8:Nat):Int)=(p:Int)+8 by omega] at A;clear hS hL a hend;go_enter func244,ntmps244;go_wp2_with fail;refine A.o.mono ?_;rintro e m ⟨rfl,hS,hK⟩;have j:=aA hS;have h:=aA hK;clear hS hK;go_wp2_with fail;first|go_ret|skip
 first|exact⟨rfl,j.o,h.o⟩|exact⟨rfl,_,by simp[results,results244,go_sem],rfl,j.o,h.o⟩
theorem newList_any(b hd:Nat)(h64:hd<18446744073709551616)(w:World):
  Calls prog 155 #[.pointer (some ⟨b,0,none⟩),.int .u64 hd] w fun e a=>∃ c,e=.returned (.pointer (some ⟨c,0,none⟩))/\ListAt a c b hd/\Kt nO w a/\w.heap.size<=c:=by
 go_enter func155,ntmps155;go_wp2
 go_ret;exact⟨_,rfl,⟨nH _ _,h64⟩,(Kt.refl _ _).alloc _,aj _⟩
theorem Head_any(c b hd:Nat)(w:World)(hL:ListAt w c b hd):
  Calls prog 72 #[.pointer (some ⟨c,0,none⟩)] w fun e a=>e=.returned (.int .u64 hd)/\a=w:=by
 have d:=hL.c1;clear hL;go_enter func72,ntmps72;go_wp2
 go_ret;exact⟨rfl,rfl⟩
def lown(c b:Nat)(ao:Option Nat):Nat->Prop:=fun x=>x=c\/own b ao x
theorem ListAt.apart{w c b b' hd ao bS R lim n f}(hL:ListAt w c b' hd)(hS:SpA w b ao bS R lim n f):¬own b ao c:=by
 obtain⟨cap,hb,a⟩:=hS.ex;have hc:=hL.hc;rintro (rfl|e)
 ·rw[hc] at hb;simp at hb
 ·subst e;obtain⟨_,d,_,hg,_⟩:=a;rw[hc] at hg;simp at hg
def kF(bS:Nat)(f:Nat->Nat)(hd p:Nat):Nat->Nat:=if hd=0 then eK bS (eK bS f p hd) (p+8) 0 else eK bS (eK bS (eK bS f p hd) (p+8) 0) (hd+8) p
def pushR(bS n:Nat)(f:Nat->Nat)(hd p:Nat):(Nat->Nat)×Nat×Nat:=
 if In bS n p 16 then (if gM bS n f hd 0 then (kF bS f hd p,p,0) else (f,hd,8)) else (f,hd,4)
theorem Kt.lown{w a:World}{c b:Nat}{ao:Option Nat}(h:Kt nO w a):Kt (lown c b ao) w a:=h.mono (fun _ _ x=>x.elim)
theorem Kt.lown'{w a:World}{c b:Nat}{ao:Option Nat}(h:Kt (own b ao) w a):Kt (Go.Proofs.YtfmgnljlkdmndaaGreatDoor.M.lown c b ao) w a:=h.mono (fun _ _ x=>Or.inr x)
theorem mC{a e d:World}{c b:Nat}{ao:Option Nat}(h:Kt (lown c b ao) a e)(k:Kt (lown c b ao) e d):Kt (lown c b ao) a d:=h.trans k (fun _ _ x=>x) (fun _ _ x=>x)
structure LS(w:World)(c b:Nat)(ao:Option Nat)(bS R lim n:Nat)(f:Nat->Nat)(hd:Nat):Prop where
 s:SpA w b ao bS R lim n f
 l:ListAt w c b hd
theorem LS.keep{w w' c b ao bS R lim n f hd}(h:LS w c b ao bS R lim n f hd)(k:Kt nO w w'):LS w' c b ao bS R lim n f hd:=⟨h.s.keep k,h.l.keep k⟩
theorem LS.kept{w w' c b ao bS R lim n f hd}{S:Nat->Prop}(h:LS w c b ao bS R lim n f hd)(k:Kt S w w')(hS:∀ x,lown c b ao x->¬S x):LS w' c b ao bS R lim n f hd:=⟨h.s.kept k (fun x hx=>hS x (Or.inr hx)),h.l.kept k (hS c (Or.inl rfl))⟩
theorem LS.lt{w c b ao bS R lim n f hd}(h:LS w c b ao bS R lim n f hd)(x:Nat)(hx:lown c b ao x):x<w.heap.size:=by
 rcases hx with rfl|hx
 ·exact h.l.lt
 ·exact h.s.own_lt x hx
theorem LS.stored{w w' c b ao bS R lim n f f' hd}(h:LS w c b ao bS R lim n f hd)(hS:SpA w' b ao bS R lim n f')(k:Kt (own b ao) w w'):LS w' c b ao bS R lim n f' hd:=⟨hS,h.l.kept k (h.l.apart h.s)⟩
theorem LS.head{w c b ao bS R lim n f hd}(h:LS w c b ao bS R lim n f hd)(a:Nat)(d:a<18446744073709551616):LS (w.setCell ⟨c,1,none⟩ (.int .u64 a)) c b ao bS R lim n f a:=
 ⟨h.s.kept ((Kt.refl (fun x=>x=c) w).setCell (fun _=>rfl) _) (fun x hx e=>h.l.apart h.s (e▸hx)),h.l.set a d⟩
theorem LS.keptHead{a w:World}{c b:Nat}{ao:Option Nat}(k:Kt (lown c b ao) a w)(v:Value):Kt (lown c b ao) a (w.setCell ⟨c,1,none⟩ v):=k.setCell (fun _=>Or.inl rfl) v
theorem Push_any(c b ao bS R lim n f hd)(p:Nat)(hp:p<18446744073709551616)(w:World)(h:LS w c b ao bS R lim n f hd):
  Calls prog 232 #[.pointer (some ⟨c,0,none⟩),.int .u64 p] w fun e r=>e=.returned (.int .i64 ((pushR bS n f hd p).2.2:Int))/\LS r c b ao bS R lim n (pushR bS n f hd p).1 (pushR bS n f hd p).2.1/\Kt (lown c b ao) w r:=by
 have h64:=h.l.h64;have A:=aA (fun r (k:Kt nO w r)=>jC c b ao bS R lim n f hd p hp r (h.keep k).s (h.keep k).l);have C:=aA (fun r (k:Kt nO w r)=>KY c b ao bS R lim n f hd hd 0 h64 (by decide) r (h.keep k).s (h.keep k).l);rw[show((0:Nat):Int)=0 by rfl] at C;have H:=aA h;obtain⟨u,z⟩:=xe (lR bS n f p);obtain⟨v,B⟩:=xe (lQ bS n f p);by_cases a:In bS n p 16
 ·rw[<-z,<-B,af a] at A;by_cases j:gM bS n f hd 0=true
  ·rw[j] at C;obtain⟨g,rfl⟩:=h.s.has (by decide) a;have i:pushR bS n f hd p=(kF bS f hd p,p,0):=(by unfold pushR;rw[ae a,ae j]);rw[i];have J:=aA (show In bS n p 8 by unfold In at a ⊢;omega);have K:=aA (show In bS n (p+8) 8 by unfold In at a ⊢;omega);by_cases h0:hd=0
   ·subst h0;have I:=aA (show kF bS f 0 p=eK bS (eK bS f p 0) (p+8) 0 by simp[kF]);have d:=h.l.c1;clear h z B a j i;go_enter func232,ntmps232;go_wp2_with fail;refine(A.o _ (Kt.refl _ w)).mono ?_;rintro e F ⟨rfl,q⟩;have m:=aA (q.alloc (.cells #[.int .u64 u,.int .u64 v] 246));have d:=(H.o.keep m.o).l.c1;clear q;go_wp2_with fail;refine(C.o _ m.o).mono ?_;rintro e L ⟨rfl,t⟩;have o:=aA (nT m.o t);clear t d;go_wp2_with fail;refine(tY c b g bS R lim n f 0 p 0 (by decide) _ (H.o.keep o.o).s (H.o.keep o.o).l J.o).mono ?_;rintro e Q ⟨rfl,hS,hK⟩;have x:=aA ((H.o.keep o.o).stored hS hK);have E:=aA (mC o.o.lown (hK.lown' (c:=c)));clear hS hK;go_wp2_with fail;refine(qN c b g bS R lim n _ 0 p 0 (by decide) _ x.o.s x.o.l K.o).mono ?_;rintro e P ⟨rfl,hS,hK⟩;have y:=aA (x.o.stored hS hK);have G:=aA (mC E.o (hK.lown' (c:=c)));have hz:=y.o.l.fz 1;have d:=y.o.l.c1;clear hS hK;go_wp2_with fail;go_ret;refine⟨rfl,?_,LS.keptHead G.o _⟩;rw[I.o];exact y.o.head p hp
   ·have I:=aA (show kF bS f hd p=eK bS (eK bS (eK bS f p hd) (p+8) 0) (hd+8) p by simp[kF,h0]);have N:((hd:Int) == 0)=false:=ag.2 (by omega);have S:=aA (show In bS n (hd+8) 8 by
     unfold gM at j;have:=bw j;rcases this with e|⟨e,_⟩
     ·exact absurd e h0
     ·unfold In at e ⊢;omega)
    have d:=h.l.c1;clear h z B a j i;go_enter func232,ntmps232;go_wp2_with fail;refine(A.o _ (Kt.refl _ w)).mono ?_;rintro e F ⟨rfl,q⟩;have m:=aA (q.alloc (.cells #[.int .u64 u,.int .u64 v] 246));have d:=(H.o.keep m.o).l.c1;clear q;go_wp2_with fail;refine(C.o _ m.o).mono ?_;rintro e L ⟨rfl,t⟩;have o:=aA (nT m.o t);clear t d;go_wp2_with fail;refine(tY c b g bS R lim n f hd p hd h64 _ (H.o.keep o.o).s (H.o.keep o.o).l J.o).mono ?_;rintro e Q ⟨rfl,hS,hK⟩;have x:=aA ((H.o.keep o.o).stored hS hK);have E:=aA (mC o.o.lown (hK.lown' (c:=c)));clear hS hK;go_wp2_with fail;refine(qN c b g bS R lim n _ hd p 0 (by decide) _ x.o.s x.o.l K.o).mono ?_;rintro e P ⟨rfl,hS,hK⟩;have y:=aA (x.o.stored hS hK);have G:=aA (mC E.o (hK.lown' (c:=c)));clear hS hK;go_wp2_with fail;refine(qN c b g bS R lim n _ hd hd p hp _ y.o.s y.o.l S.o).mono ?_;rintro e U ⟨rfl,hS,hK⟩;have D:=aA (y.o.stored hS hK);have T:=aA (mC G.o (hK.lown' (c:=c)));have hz:=D.o.l.fz 1;have d:=D.o.l.c1;clear hS hK;go_wp2_with fail;go_ret;refine⟨rfl,?_,LS.keptHead T.o _⟩;rw[I.o];exact D.o.head p hp
  ·have i:pushR bS n f hd p=(f,hd,8):=(by unfold pushR;rw[ae a,ac j]);rw[i];rw[Bool.eq_false_iff.2 j] at C;have d:=h.l.c1;clear h z B a j i;go_enter func232,ntmps232;go_wp2_with fail;refine(A.o _ (Kt.refl _ w)).mono ?_;rintro e F ⟨rfl,q⟩;have m:=aA (q.alloc (.cells #[.int .u64 u,.int .u64 v] 246));have d:=(H.o.keep m.o).l.c1;clear q;go_wp2_with fail;refine(C.o _ m.o).mono ?_;rintro e L ⟨rfl,t⟩;have o:=aA (nT m.o t);clear t d;go_wp2_with fail;go_ret;exact⟨rfl,H.o.keep o.o,o.o.lown⟩
 ·have i:pushR bS n f hd p=(f,hd,4):=by unfold pushR;rw[ac a]
  rw[i];rw[<-z,<-B,ah a] at A;clear h z B a i;go_enter func232,ntmps232;go_wp2_with fail;refine(A.o _ (Kt.refl _ w)).mono ?_;rintro e F ⟨rfl,q⟩;have m:=aA (q.alloc (.cells #[.int .u64 u,.int .u64 v] 246));clear q;go_wp2_with fail;go_ret;exact⟨rfl,H.o.keep m.o,m.o.lown⟩
end Go.Proofs.YtfmgnljlkdmndaaGreatDoor.M
