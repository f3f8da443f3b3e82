import Derived.Test.YtfmgnljlkdmndaaGreatDoorXm
set_option maxRecDepth 1000000
set_option maxHeartbeats 0
namespace Go.Proofs.YtfmgnljlkdmndaaGreatDoor
namespace M
open Tryz RowKit
set_option linter.unusedVariables false
theorem UG(f:Nat->Nat)(o k:Nat)(g:Nat->Nat)(i:Nat)(h:o<=i/\i<o+k):upd f o k g i=g (i-o):=by simp only[upd];rw[ae h]
theorem upd_out(f:Nat->Nat)(o k:Nat)(g:Nat->Nat)(i:Nat)(h:¬(o<=i/\i<o+k)):upd f o k g i=f i:=by simp only[upd];rw[ac h]
theorem wordTo_congr(f g:Nat->Nat)(k:Nat)(h:∀ i,i<k->f i=g i):wordTo f k=wordTo g k:=by
 induction k with
 | zero=>rfl
 | succ k a=>rw[wordTo,wordTo,a (fun i hi=>h i (by omega)),h k (by omega)]
theorem zeW(v k:Nat):wordTo (byteOf v) k=v%256 ^ k:=by
 induction k with
 | zero=>simp[wordTo,Nat.mod_one]
 | succ k a=>rw[wordTo,a,byteOf,co,Nat.mod_mul,aq (v/256 ^ k%256)]
theorem word_upd(f:Nat->Nat)(o v:Nat)(a:v<18446744073709551616):word (upd f o 8 (byteOf v)) o=v:=by unfold word;rw[wordTo_congr _ (byteOf v) 8 (fun i hi=>by rw[UG _ _ _ _ _ (by omega),Nat.add_sub_cancel_left]),zeW];exact Nat.mod_eq_of_lt a
instance (bS n p k:Nat):Decidable (In bS n p k):=inferInstanceAs (Decidable (_/\_))
structure ListAt(w:Wd)(c b hd:Nat):Prop where
 hc:w.heap[c]?=some (.cells #[.pointer (some ⟨b,0,none⟩),.int .u64 hd] 179 (0,0))
 eN:hd<18446744073709551616
theorem ListAt.lt{w c b hd}(h:ListAt w c b hd):c<w.heap.size:=(am.1 h.hc).1
theorem ListAt.c0{w c b hd}(h:ListAt w c b hd):w.cell? ⟨c,0,none⟩=some (.pointer (some ⟨b,0,none⟩)):=by simp[World.cell?,h.hc]
theorem ListAt.c1{w c b hd}(h:ListAt w c b hd):w.cell? ⟨c,1,none⟩=some (.int .u64 hd):=by simp[World.cell?,h.hc]
theorem ListAt.fz{w c b hd}(h:ListAt w c b hd)(i:Nat):w.frozen? ⟨c,i,none⟩=false:=by simp[World.frozen?,h.hc]
theorem ListAt.kept{w w' c b hd}{S:Nat->Prop}(h:ListAt w c b hd)(k:Kt S w w')(hS:¬S c):ListAt w' c b hd:=⟨(k.block c h.lt hS).trans h.hc,h.eN⟩
theorem ListAt.dk{w w' c b hd}(h:ListAt w c b hd)(k:Kt nO w w'):ListAt w' c b hd:=h.kept k (fun x=>x)
theorem cD{w:Wd}{k:Nat}{cs:Array Vl}{t:TypeId}{z:Nat×Nat}(h:w.heap[k]?=some (.cells cs t z))(i:Nat)(u:Vl):(w.setCell ⟨k,i,none⟩ u).heap[k]?=some (.cells (cs.setIfInBounds i u) t z):=by
 obtain⟨a,b⟩:=am.1 h;show(w.heap.modify k _)[k]?=_
 rw[Array.getElem?_eq_getElem (by rw[Array.size_modify];exact a),Array.getElem_modify_self,b];rfl
theorem ListAt.set{w c b hd}(h:ListAt w c b hd)(a:Nat)(d:a<18446744073709551616):ListAt (w.setCell ⟨c,1,none⟩ (.int .u64 a)) c b a:=⟨cD h.hc 1 _,d⟩
def cW(w:Wd)(k:Nat)(x y:Nat):Prop:=w.heap[k]?=some (.cells #[.int .u64 x,.int .u64 y] 246 (0,0))
theorem cW.lt{w k x y}(h:cW w k x y):k<w.heap.size:=(am.1 h).1
theorem cW.c0{w k x y}(h:cW w k x y):w.cell? ⟨k,0,none⟩=some (.int .u64 x):=by simp[World.cell?,show w.heap[k]?=_ from h]
theorem cW.c1{w k x y}(h:cW w k x y):w.cell? ⟨k,1,none⟩=some (.int .u64 y):=by simp[World.cell?,show w.heap[k]?=_ from h]
theorem cW.fz{w k x y}(h:cW w k x y)(i:Nat):w.frozen? ⟨k,i,none⟩=false:=by simp[World.frozen?,show w.heap[k]?=_ from h]
theorem cW.kept{w w' k x y}{S:Nat->Prop}(h:cW w k x y)(a:Kt S w w')(hS:¬S k):cW w' k x y:=(a.block k h.lt hS).trans h
theorem cW.dk{w w' k x y}(h:cW w k x y)(a:Kt nO w w'):cW w' k x y:=h.kept a (fun x=>x)
theorem cW.new(w:Wd):cW (w.alloc (.cells #[.int .u64 0,.int .u64 0] 246)) w.heap.size 0 0:=nH _ _
theorem cW.set{w k x y}(h:cW w k x y)(x' a:Nat):cW ((w.setCell ⟨k,0,none⟩ (.int .u64 x')).setCell ⟨k,1,none⟩ (.int .u64 a)) k x' a:=by exact cD (cD h 0 _) 1 _
def nx(bS:Nat)(f:Nat->Nat)(p:Nat):Nat:=word f (p-bS)
def pv(bS:Nat)(f:Nat->Nat)(p:Nat):Nat:=word f (p+8-bS)
def eG(bS:Nat)(f:Nat->Nat)(p v:Nat):Nat->Nat:=upd f (p-bS) 8 (byteOf v)
theorem word_lt(f:Nat->Nat)(o:Nat)(h:∀ i,i<8->f (o+i)<256):word f o<18446744073709551616:=wordTo_lt (fun i=>f (o+i)) 8 h
theorem SpA.word_lt{w b ao bS R dl n f}(h:SpA w b ao bS R dl n f)(o:Nat)(a:o+8<=n):word f o<18446744073709551616:=by
 cases ao with
 | none=>obtain⟨cap,_,h0,_⟩:=h.ex;omega
 | some g=>exact Go.Proofs.YtfmgnljlkdmndaaGreatDoor.M.word_lt f o (fun i hi=>h.f256 _ (by omega))
theorem SpA.kj{w b ao bS R dl n f}(h:SpA w b ao bS R dl n f)(p:Nat)(hp:In bS n p 16):nx bS f p<18446744073709551616:=h.word_lt _ (by unfold In at hp;omega)
theorem SpA.lx{w b ao bS R dl n f}(h:SpA w b ao bS R dl n f)(p:Nat)(hp:In bS n p 16):pv bS f p<18446744073709551616:=h.word_lt _ (by unfold In at hp;omega)
theorem SpA.gz{w b ao bS R dl n f}(h:SpA w b ao bS R dl n f):bS+n<=9223372036854775808:=by have:=h.fk;have:=h.cfg.be;omega
theorem SpA.has{w b ao bS R dl n f}(h:SpA w b ao bS R dl n f){p k:Nat}(a : 0<k)(hp:In bS n p k):∃ g,ao=Option.some g:=by
 cases ao with
 | none=>obtain⟨cap,_,h0,_⟩:=h.ex;unfold In at hp;omega
 | some g=>exact⟨g,rfl⟩
theorem qO(b ao bS R dl n f)(p:Nat)(hp:p<18446744073709551616)(w:Wd)(h:SpA w b ao bS R dl n f):Calls prog 245 #[.pointer (some ⟨b,0,none⟩),.int .u64 p] w fun e c=>e=.returned (.tuple #[.int .u64 ((if In bS n p 8 then word f (p-bS) else 0:Nat):Int),.int .i64 (if In bS n p 8 then 0 else 4)])/\Kt nO w c:=by
 by_cases a:In bS n p 8;·obtain⟨g,rfl⟩:=h.has (by decide) a;refine(Word_in b g bS R dl n f p w h a).mono ?_;rintro e c ⟨rfl,k⟩;rw[ae a,ae a];exact⟨rfl,k⟩
 ·refine(ZV b ao bS R dl n f p 8 0 none 0 w h hp (by decide) (by decide) a).mono ?_;rintro e c ⟨rfl,k⟩;rw[ac a,ac a];exact⟨rfl,k⟩
theorem Kt.ks{w a:Wd}(h:Kt nO w a)(k:Nat)(b:w.heap.size<=k)(u v:Vl):Kt nO w ((a.setCell ⟨k,0,none⟩ u).setCell ⟨k,1,none⟩ v):=
 (h.setCell (fun e=>absurd e (by simp;omega)) _).setCell (fun e=>absurd e (by simp;omega)) _
theorem nT{a b c:Wd}(h:Kt nO a b)(k:Kt nO b c):Kt nO a c:=h.trans k (fun _ _ x=>x) (fun _ _ x=>x)
theorem GJ(c b ao bS R dl n f hd)(p:Nat)(w:Wd)(hS:SpA w b ao bS R dl n f)(hL:ListAt w c b hd)(a:In bS n p 16):Calls prog 240 #[.pointer (some ⟨c,0,none⟩),.int .u64 p] w fun e d=>e=.returned (.tuple #[.agg #[.int .u64 (nx bS f p:Int),.int .u64 (pv bS f p:Int)],.bool true])/\Kt nO w d:=by
 have hend:=hS.gz;have u:p+8<18446744073709551616:=by unfold In at a;omega
 have j:In bS n p 8:=by unfold In at a ⊢;omega
 have q:In bS n (p+8) 8:=by unfold In at a ⊢;omega
 have o:=aA (fun d (k:Kt nO w d)=>qO b ao bS R dl n f p (by omega) d (hS.dk k));have h:=aA (fun d (k:Kt nO w d)=>qO b ao bS R dl n f (p+8) (by omega) d (hS.dk k));rw[ae j,ae j] at o;rw[ae q,ae q] at h;have v:=aA (show((p+8:Nat):Int)=(p:Int)+8 by omega);obtain⟨x,hx⟩:=xe (nx bS f p);obtain⟨y,hy⟩:=xe (pv bS f p);have ex:word f (p-bS)=x:=hx.symm;have s:word f (p+8-bS)=y:=hy.symm;rw[<-hx,<-hy];rw[ex] at o;rw[s,v.o] at h;have z:=aA hL;have m:=(hL.dk ((Kt.refl _ w).alloc (.cells #[.int .u64 0,.int .u64 0] 246))).c0;clear hS hL a j q ex s hx hy v hend;go_enter func240,ntmps240;go_wp2_with fail;refine(o.o _ ((Kt.refl _ w).alloc _)).mono ?_;rintro e I ⟨rfl,i⟩;have l:=aA i;have D:=(z.o.dk ((Kt.refl _ w).alloc _)).dk i |>.c0
 clear i m;go_wp2_with fail;refine(h.o _ (nT ((Kt.refl _ w).alloc _) l.o)).mono ?_;rintro e J ⟨rfl,r⟩;have g:=((cW.new w).dk l.o).dk r;have B:=aA (nT (nT ((kz w).alloc _) l.o) r);have E:=g.fz 0;have F:=g.fz 1;have A:=g.c0;have C:=g.c1;have G:=aA g;clear r g;go_wp2_with fail;have t:=G.o.set x y;exact⟨rfl,_,by simp[results,results240,go_sem,t.c0,t.c1],rfl,B.o.ks w.heap.size (aj _) _ _⟩
theorem AO(c b ao bS R dl n f hd)(p:Nat)(hp:p<18446744073709551616)(w:Wd)(hS:SpA w b ao bS R dl n f)(hL:ListAt w c b hd)(j:¬In bS n p 16):Calls prog 240 #[.pointer (some ⟨c,0,none⟩),.int .u64 p] w fun e d=>e=.returned (.tuple #[.agg #[.int .u64 0,.int .u64 0],.bool false])/\Kt nO w d:=by
 have hend:=hS.gz;by_cases g:In bS n p 8
 ·have A:p+8<18446744073709551616:=by unfold In at g;omega
  have y:¬In bS n (p+8) 8:=by unfold In at j g ⊢;omega
  have m:=aA (fun d (k:Kt nO w d)=>qO b ao bS R dl n f p (by omega) d (hS.dk k));have q:=aA (fun d (k:Kt nO w d)=>qO b ao bS R dl n f (p+8) (by omega) d (hS.dk k));rw[ae g,ae g] at m;rw[ac y,ac y] at q;have B:=aA (show((p+8:Nat):Int)=(p:Int)+8 by omega);obtain⟨x,hx⟩:=xe (nx bS f p);have ex:word f (p-bS)=x:=hx.symm;rw[ex] at m;rw[B.o] at q;have C:=aA hL;have o:=(hL.dk ((Kt.refl _ w).alloc (.cells #[.int .u64 0,.int .u64 0] 246))).c0;clear hS hL j g y ex hx B hend;go_enter func240,ntmps240;go_wp2_with fail;refine(m.o _ ((Kt.refl _ w).alloc _)).mono ?_;rintro e G ⟨rfl,s⟩;have v:=aA s;have E:=(C.o.dk ((Kt.refl _ w).alloc _)).dk s |>.c0
  clear s o;go_wp2_with fail;refine(q.o _ (nT ((Kt.refl _ w).alloc _) v.o)).mono ?_;rintro e F ⟨rfl,l⟩;have a:=((cW.new w).dk v.o).dk l;have r:=aA (nT (nT ((kz w).alloc _) v.o) l);have t:=a.fz 0;have u:=a.fz 1;have h:=a.c0;have i:=a.c1;have z:=aA a;clear l a;go_wp2_with fail;have D:=z.o.set 0 0;exact⟨rfl,_,by simp[results,results240,go_sem,h,i],rfl,r.o.ks w.heap.size (aj _) _ _⟩
 ·have m:=aA (fun d (k:Kt nO w d)=>qO b ao bS R dl n f p hp d (hS.dk k));rw[ac g,ac g] at m;have o:=(hL.dk ((Kt.refl _ w).alloc (.cells #[.int .u64 0,.int .u64 0] 246))).c0;clear hS hL j g hend;go_enter func240,ntmps240;go_wp2_with fail;refine(m.o _ ((Kt.refl _ w).alloc _)).mono ?_;rintro e F ⟨rfl,l⟩;have a:=(cW.new w).dk l;have r:=aA (nT ((kz w).alloc _) l);have t:=a.fz 0;have u:=a.fz 1;have h:=a.c0;have i:=a.c1;have z:=aA a;clear l a;go_wp2_with fail;have D:=z.o.set 0 0;exact⟨rfl,_,by simp[results,results240,go_sem,h,i],rfl,r.o.ks w.heap.size (aj _) _ _⟩
def lQ(bS n:Nat)(f:Nat->Nat)(p:Nat):Nat:=if In bS n p 16 then nx bS f p else 0
def lP(bS n:Nat)(f:Nat->Nat)(p:Nat):Nat:=if In bS n p 16 then pv bS f p else 0
theorem jB(c b ao bS R dl n f hd)(p:Nat)(hp:p<18446744073709551616)(w:Wd)(hS:SpA w b ao bS R dl n f)(hL:ListAt w c b hd):Calls prog 240 #[.pointer (some ⟨c,0,none⟩),.int .u64 p] w fun e d=>e=.returned (.tuple #[.agg #[.int .u64 (lQ bS n f p:Int),.int .u64 (lP bS n f p:Int)],.bool (decide (In bS n p 16))])/\Kt nO w d:=by
 by_cases a:In bS n p 16;·refine(GJ c b ao bS R dl n f hd p w hS hL a).mono ?_;rintro e d ⟨rfl,k⟩;refine⟨?_,k⟩;unfold lQ lP;rw[ae a,ae a,af a]
 ·refine(AO c b ao bS R dl n f hd p hp w hS hL a).mono ?_;rintro e d ⟨rfl,k⟩;refine⟨?_,k⟩;unfold lQ lP;rw[ac a,ac a,ah a];rfl
theorem cW.box{w:Wd}(x y:Nat):cW (w.alloc (.cells #[.int .u64 x,.int .u64 y] 246)) w.heap.size x y:=nH _ _
def gK(bS n:Nat)(f:Nat->Nat)(q b:Nat):Bool:=decide (q=0\/(In bS n q 16/\pv bS f q=b))
theorem MB(c b ao bS R dl n f hd)(q x:Nat)(hq:q<18446744073709551616)(hx:x<18446744073709551616)(w:Wd)(hS:SpA w b ao bS R dl n f)(hL:ListAt w c b hd):Calls prog 242 #[.pointer (some ⟨c,0,none⟩),.int .u64 q,.int .u64 x] w fun e y=>e=.returned (.bool (gK bS n f q x))/\Kt nO w y:=by
 by_cases h0:q=0
 ·subst h0;clear hS hL;go_enter func242,ntmps242;go_wp2
  go_ret;exact⟨by simp[gK],Kt.refl _ _⟩
 ·have A:=aA (jB c b ao bS R dl n f hd q hq w hS hL);have z:((q:Int) == 0)=false:=ag.2 (by omega);obtain⟨u,r⟩:=xe (lQ bS n f q);obtain⟨v,k⟩:=xe (lP bS n f q);have p:=aA (show gK bS n f q x=decide (In bS n q 16/\v=x)by
   unfold gK;congr 1
   rw[k];unfold lP;by_cases hi:In bS n q 16;·simp[h0,hi]
   ·simp[h0,hi])
  obtain⟨t,o⟩:=xe (decide (In bS n q 16));have s:=aA (show decide (In bS n q 16/\v=x)=(t && decide (v=x))by rw[o];simp);rw[<-r,<-k,<-o] at A;clear hS hL r k o;rw[p.o,s.o];clear p s;by_cases g:v=x
  ·have d:((v:Int) == (x:Int))=true:=cu.2 (by omega)
   cases t
   all_goals
    go_enter func242,ntmps242;go_wp2_with fail;refine A.o.mono ?_;rintro e m ⟨rfl,h⟩;have j:=aA h;have a:=cW.box (w:=m) u v;have l:=a.c0;have i:=a.c1;clear h a;go_wp2_with fail;go_ret;exact⟨by simp[g],j.o.alloc _⟩
  ·have d:((v:Int) == (x:Int))=false:=ag.2 (by omega)
   cases t
   all_goals
    go_enter func242,ntmps242;go_wp2_with fail;refine A.o.mono ?_;rintro e m ⟨rfl,h⟩;have j:=aA h;have a:=cW.box (w:=m) u v;have l:=a.c0;have i:=a.c1;clear h a;go_wp2_with fail;go_ret;exact⟨by simp[g],j.o.alloc _⟩
def iH(bS n:Nat)(f:Nat->Nat)(hd q p:Nat):Bool:=if q=0\/p=hd then decide (q=0/\p=hd) else decide (In bS n q 16/\nx bS f q=p)
theorem zgz(c b ao bS R dl n f hd)(q p:Nat)(hq:q<18446744073709551616)(hp:p<18446744073709551616)(w:Wd)(hS:SpA w b ao bS R dl n f)(hL:ListAt w c b hd):Calls prog 241 #[.pointer (some ⟨c,0,none⟩),.int .u64 q,.int .u64 p] w fun e B=>e=.returned (.bool (iH bS n f hd q p))/\Kt nO w B:=by
 have C:=hL.c1;have eN:=hL.eN;by_cases h0:q=0
 ·subst h0;obtain⟨t,j⟩:∃ t,((p:Int) == (hd:Int))=t:=⟨_,rfl⟩;have z:=aA (show iH bS n f hd 0 p=t by
   rw[<-j];by_cases a:p=hd;·simp[iH,a]
   ·have:((p:Int) == (hd:Int))=false:=ag.2 (by omega);simp[iH,a,this])
  rw[z.o];clear hS hL z;go_enter func241,ntmps241;go_wp2
  go_ret;exact⟨rfl,Kt.refl _ _⟩
 ·have D:((q:Int) == 0)=false:=ag.2 (by omega);by_cases a:p=hd
  ·subst a;clear hS hL;go_enter func241,ntmps241;go_wp2
   go_ret;exact⟨by simp[iH,h0],Kt.refl _ _⟩
  ·have x:((p:Int) == (hd:Int))=false:=ag.2 (by omega);have A:=aA (jB c b ao bS R dl n f hd q hq w hS hL);obtain⟨u,r⟩:=xe (lQ bS n f q);obtain⟨v,s⟩:=xe (lP bS n f q);obtain⟨t,j⟩:=xe (decide (In bS n q 16));have y:=aA (show iH bS n f hd q p=(t && decide (u=p))by
    unfold iH;rw[ac (by simp[h0,a]),r,j];unfold lQ;by_cases hi:In bS n q 16;·simp[hi]
    ·simp[hi])
   rw[<-r,<-s,<-j] at A;clear hS hL r s j;rw[y.o];clear y;by_cases h:u=p
   ·have g:((u:Int) == (p:Int))=true:=cu.2 (by omega)
    cases t
    all_goals
     go_enter func241,ntmps241;go_wp2_with fail;refine A.o.mono ?_;rintro e o ⟨rfl,i⟩;have l:=aA i;have d:=cW.box (w:=o) u v;have m:=d.c0;have k:=d.c1;clear i d;go_wp2_with fail;go_ret;exact⟨by simp[h],l.o.alloc _⟩
   ·have g:((u:Int) == (p:Int))=false:=ag.2 (by omega)
    cases t
    all_goals
     go_enter func241,ntmps241;go_wp2_with fail;refine A.o.mono ?_;rintro e o ⟨rfl,i⟩;have l:=aA i;have d:=cW.box (w:=o) u v;have m:=d.c0;have k:=d.c1;clear i d;go_wp2_with fail;go_ret;exact⟨by simp[h],l.o.alloc _⟩
theorem uB(c b g bS R dl n f hd)(p v:Nat)(j:v<18446744073709551616)(w:Wd)(hS:SpA w b (some g) bS R dl n f)(hL:ListAt w c b hd)(a:In bS n p 8):Calls prog 243 #[.pointer (some ⟨c,0,none⟩),.int .u64 p,.int .u64 v] w fun e d=>e=.returned (.tuple #[])/\SpA d b (some g) bS R dl n (eG bS f p v)/\Kt (own b (some g)) w d:=by
 have k:=hL.c0;have A:=aA (SetWord_in b g bS R dl n f p v j w hS a);clear hS hL a;go_enter func243,ntmps243;go_wp2_with fail;refine A.o.mono ?_;rintro e l ⟨rfl,hS,hK⟩;have h:=aA hS;have i:=aA hK;clear hS hK;go_wp2_with fail;first|go_ret|skip
 first|exact⟨rfl,h.o,i.o⟩|exact⟨rfl,_,by simp[results,results243,go_sem],rfl,h.o,i.o⟩
theorem qP(c b g bS R dl n f hd)(p v:Nat)(k:v<18446744073709551616)(w:Wd)(hS:SpA w b (some g) bS R dl n f)(hL:ListAt w c b hd)(a:In bS n (p+8) 8):Calls prog 244 #[.pointer (some ⟨c,0,none⟩),.int .u64 p,.int .u64 v] w fun e d=>e=.returned (.tuple #[])/\SpA d b (some g) bS R dl n (eG bS f (p+8) v)/\Kt (own b (some g)) w d:=by
 have l:=hL.c0;have hend:=hS.gz;have h:p+8<18446744073709551616:=by unfold In at a;omega
 have A:=aA (SetWord_in b g bS R dl n f (p+8) v k w hS a);rw[show((p+8:Nat):Int)=(p:Int)+8 by omega] at A;clear hS hL a hend;go_enter func244,ntmps244;go_wp2_with fail;refine A.o.mono ?_;rintro e m ⟨rfl,hS,hK⟩;have i:=aA hS;have j:=aA hK;clear hS hK;go_wp2_with fail;first|go_ret|skip
 first|exact⟨rfl,i.o,j.o⟩|exact⟨rfl,_,by simp[results,results244,go_sem],rfl,i.o,j.o⟩
theorem newList_any(b hd:Nat)(eN:hd<18446744073709551616)(w:Wd):Calls prog 155 #[.pointer (some ⟨b,0,none⟩),.int .u64 hd] w fun e a=>∃ c,e=.returned (.pointer (some ⟨c,0,none⟩))/\ListAt a c b hd/\Kt nO w a/\w.heap.size<=c:=by
 go_enter func155,ntmps155;go_wp2
 go_ret;exact⟨_,rfl,⟨nH _ _,eN⟩,(Kt.refl _ _).alloc _,aj _⟩
theorem Head_any(c b hd:Nat)(w:Wd)(hL:ListAt w c b hd):Calls prog 72 #[.pointer (some ⟨c,0,none⟩)] w fun e a=>e=.returned (.int .u64 hd)/\a=w:=by
 have d:=hL.c1;clear hL;go_enter func72,ntmps72;go_wp2
 go_ret;exact⟨rfl,rfl⟩
def eE(c b:Nat)(ao:Option Nat):Nat->Prop:=fun x=>x=c\/own b ao x
theorem ListAt.apart{w c b b' hd ao bS R dl n f}(hL:ListAt w c b' hd)(hS:SpA w b ao bS R dl n f):¬own b ao c:=by
 obtain⟨cap,hb,a⟩:=hS.ex;have hc:=hL.hc;rintro (rfl|e);·rw[hc] at hb;simp at hb
 ·subst e;obtain⟨_,d,_,hg,_⟩:=a;rw[hc] at hg;simp at hg
def kE(bS:Nat)(f:Nat->Nat)(hd p:Nat):Nat->Nat:=if hd=0 then eG bS (eG bS f p hd) (p+8) 0 else eG bS (eG bS (eG bS f p hd) (p+8) 0) (hd+8) p
def pushR(bS n:Nat)(f:Nat->Nat)(hd p:Nat):(Nat->Nat)×Nat×Nat:=
 if In bS n p 16 then (if gK bS n f hd 0 then (kE bS f hd p,p,0) else (f,hd,8)) else (f,hd,4)
theorem Kt.eE{w a:Wd}{c b:Nat}{ao:Option Nat}(h:Kt nO w a):Kt (eE c b ao) w a:=h.mono (fun _ _ x=>x.elim)
theorem Kt.gi{w a:Wd}{c b:Nat}{ao:Option Nat}(h:Kt (own b ao) w a):Kt (Go.Proofs.YtfmgnljlkdmndaaGreatDoor.M.eE c b ao) w a:=h.mono (fun _ _ x=>Or.inr x)
theorem mC{a e d:Wd}{c b:Nat}{ao:Option Nat}(h:Kt (eE c b ao) a e)(k:Kt (eE c b ao) e d):Kt (eE c b ao) a d:=h.trans k (fun _ _ x=>x) (fun _ _ x=>x)
structure LS(w:Wd)(c b:Nat)(ao:Option Nat)(bS R dl n:Nat)(f:Nat->Nat)(hd:Nat):Prop where
 s:SpA w b ao bS R dl n f
 l:ListAt w c b hd
theorem LS.dk{w w' c b ao bS R dl n f hd}(h:LS w c b ao bS R dl n f hd)(k:Kt nO w w'):LS w' c b ao bS R dl n f hd:=⟨h.s.dk k,h.l.dk k⟩
theorem LS.kept{w w' c b ao bS R dl n f hd}{S:Nat->Prop}(h:LS w c b ao bS R dl n f hd)(k:Kt S w w')(hS:∀ x,eE c b ao x->¬S x):LS w' c b ao bS R dl n f hd:=⟨h.s.kept k (fun x hx=>hS x (Or.inr hx)),h.l.kept k (hS c (Or.inl rfl))⟩
theorem LS.lt{w c b ao bS R dl n f hd}(h:LS w c b ao bS R dl n f hd)(x:Nat)(hx:eE c b ao x):x<w.heap.size:=by
 rcases hx with rfl|hx
 ·exact h.l.lt
 ·exact h.s.fa x hx
theorem LS.stored{w w' c b ao bS R dl n f f' hd}(h:LS w c b ao bS R dl n f hd)(hS:SpA w' b ao bS R dl n f')(k:Kt (own b ao) w w'):LS w' c b ao bS R dl n f' hd:=⟨hS,h.l.kept k (h.l.apart h.s)⟩
theorem LS.head{w c b ao bS R dl n f hd}(h:LS w c b ao bS R dl n f hd)(a:Nat)(d:a<18446744073709551616):LS (w.setCell ⟨c,1,none⟩ (.int .u64 a)) c b ao bS R dl n f a:=
 ⟨h.s.kept ((Kt.refl (fun x=>x=c) w).setCell (fun _=>rfl) _) (fun x hx e=>h.l.apart h.s (e▸hx)),h.l.set a d⟩
theorem LS.gh{a w:Wd}{c b:Nat}{ao:Option Nat}(k:Kt (eE c b ao) a w)(v:Vl):Kt (eE c b ao) a (w.setCell ⟨c,1,none⟩ v):=k.setCell (fun _=>Or.inl rfl) v
theorem Push_any(c b ao bS R dl n f hd)(p:Nat)(hp:p<18446744073709551616)(w:Wd)(h:LS w c b ao bS R dl n f hd):Calls prog 232 #[.pointer (some ⟨c,0,none⟩),.int .u64 p] w fun e r=>e=.returned (.int .i64 ((pushR bS n f hd p).2.2:Int))/\LS r c b ao bS R dl n (pushR bS n f hd p).1 (pushR bS n f hd p).2.1/\Kt (eE c b ao) w r:=by
 have eN:=h.l.eN;have A:=aA (fun r (k:Kt nO w r)=>jB c b ao bS R dl n f hd p hp r (h.dk k).s (h.dk k).l);have C:=aA (fun r (k:Kt nO w r)=>MB c b ao bS R dl n f hd hd 0 eN (by decide) r (h.dk k).s (h.dk k).l);rw[show((0:Nat):Int)=0 by rfl] at C;have H:=aA h;obtain⟨u,B⟩:=xe (lQ bS n f p);obtain⟨v,z⟩:=xe (lP bS n f p);by_cases a:In bS n p 16
 ·rw[<-B,<-z,af a] at A;by_cases j:gK bS n f hd 0=true
  ·rw[j] at C;obtain⟨g,rfl⟩:=h.s.has (by decide) a;have i:pushR bS n f hd p=(kE bS f hd p,p,0):=(by unfold pushR;rw[ae a,ae j]);rw[i];have K:=aA (show In bS n p 8 by unfold In at a ⊢;omega);have J:=aA (show In bS n (p+8) 8 by unfold In at a ⊢;omega);by_cases h0:hd=0
   ·subst h0;have G:=aA (show kE bS f 0 p=eG bS (eG bS f p 0) (p+8) 0 by simp[kE]);have d:=h.l.c1;clear h B z a j i;go_enter func232,ntmps232;go_wp2_with fail;refine(A.o _ (Kt.refl _ w)).mono ?_;rintro e D ⟨rfl,q⟩;have m:=aA (q.alloc (.cells #[.int .u64 u,.int .u64 v] 246));have d:=(H.o.dk m.o).l.c1;clear q;go_wp2_with fail;refine(C.o _ m.o).mono ?_;rintro e L ⟨rfl,t⟩;have o:=aA (nT m.o t);clear t d;go_wp2_with fail;refine(uB c b g bS R dl n f 0 p 0 (by decide) _ (H.o.dk o.o).s (H.o.dk o.o).l K.o).mono ?_;rintro e T ⟨rfl,hS,hK⟩;have y:=aA ((H.o.dk o.o).stored hS hK);have E:=aA (mC o.o.eE (hK.gi (c:=c)));clear hS hK;go_wp2_with fail;refine(qP c b g bS R dl n _ 0 p 0 (by decide) _ y.o.s y.o.l J.o).mono ?_;rintro e N ⟨rfl,hS,hK⟩;have x:=aA (y.o.stored hS hK);have F:=aA (mC E.o (hK.gi (c:=c)));have hz:=x.o.l.fz 1;have d:=x.o.l.c1;clear hS hK;go_wp2_with fail;go_ret;refine⟨rfl,?_,LS.gh F.o _⟩;rw[G.o];exact x.o.head p hp
   ·have G:=aA (show kE bS f hd p=eG bS (eG bS (eG bS f p hd) (p+8) 0) (hd+8) p by simp[kE,h0]);have S:((hd:Int) == 0)=false:=ag.2 (by omega);have Q:=aA (show In bS n (hd+8) 8 by
     unfold gK at j;have:=bw j;rcases this with e|⟨e,_⟩
     ·exact absurd e h0
     ·unfold In at e ⊢;omega)
    have d:=h.l.c1;clear h B z a j i;go_enter func232,ntmps232;go_wp2_with fail;refine(A.o _ (Kt.refl _ w)).mono ?_;rintro e D ⟨rfl,q⟩;have m:=aA (q.alloc (.cells #[.int .u64 u,.int .u64 v] 246));have d:=(H.o.dk m.o).l.c1;clear q;go_wp2_with fail;refine(C.o _ m.o).mono ?_;rintro e L ⟨rfl,t⟩;have o:=aA (nT m.o t);clear t d;go_wp2_with fail;refine(uB c b g bS R dl n f hd p hd eN _ (H.o.dk o.o).s (H.o.dk o.o).l K.o).mono ?_;rintro e T ⟨rfl,hS,hK⟩;have y:=aA ((H.o.dk o.o).stored hS hK);have E:=aA (mC o.o.eE (hK.gi (c:=c)));clear hS hK;go_wp2_with fail;refine(qP c b g bS R dl n _ hd p 0 (by decide) _ y.o.s y.o.l J.o).mono ?_;rintro e N ⟨rfl,hS,hK⟩;have x:=aA (y.o.stored hS hK);have F:=aA (mC E.o (hK.gi (c:=c)));clear hS hK;go_wp2_with fail;refine(qP c b g bS R dl n _ hd hd p hp _ x.o.s x.o.l Q.o).mono ?_;rintro e U ⟨rfl,hS,hK⟩;have I:=aA (x.o.stored hS hK);have P:=aA (mC F.o (hK.gi (c:=c)));have hz:=I.o.l.fz 1;have d:=I.o.l.c1;clear hS hK;go_wp2_with fail;go_ret;refine⟨rfl,?_,LS.gh P.o _⟩;rw[G.o];exact I.o.head p hp
  ·have i:pushR bS n f hd p=(f,hd,8):=(by unfold pushR;rw[ae a,ac j]);rw[i];rw[Bool.eq_false_iff.2 j] at C;have d:=h.l.c1;clear h B z a j i;go_enter func232,ntmps232;go_wp2_with fail;refine(A.o _ (Kt.refl _ w)).mono ?_;rintro e D ⟨rfl,q⟩;have m:=aA (q.alloc (.cells #[.int .u64 u,.int .u64 v] 246));have d:=(H.o.dk m.o).l.c1;clear q;go_wp2_with fail;refine(C.o _ m.o).mono ?_;rintro e L ⟨rfl,t⟩;have o:=aA (nT m.o t);clear t d;go_wp2_with fail;go_ret;exact⟨rfl,H.o.dk o.o,o.o.eE⟩
 ·have i:pushR bS n f hd p=(f,hd,4):=by unfold pushR;rw[ac a]
  rw[i];rw[<-B,<-z,ah a] at A;clear h B z a i;go_enter func232,ntmps232;go_wp2_with fail;refine(A.o _ (Kt.refl _ w)).mono ?_;rintro e D ⟨rfl,q⟩;have m:=aA (q.alloc (.cells #[.int .u64 u,.int .u64 v] 246));clear q;go_wp2_with fail;go_ret;exact⟨rfl,H.o.dk m.o,m.o.eE⟩
end M
end Go.Proofs.YtfmgnljlkdmndaaGreatDoor
