import Derived.Test.YtbgbfpklgfpepaaGreatDoorZc
import Derived.Deep.RegionHeld3
import Derived.Deep.QuietTactic
import Derived.BigQuiet
set_option maxRecDepth 1000000
set_option maxHeartbeats 80000000
namespace Go.Proofs.YtbgbfpklgfpepaaGreatDoor
open Tryz
open Go.RowKit
set_option linter.unusedVariables false
def nO:Nat->Prop:=fun _=>False
theorem nT{a b c:World}(h:Kt nO a b)(k:Kt nO b c):Kt nO a c:=h.trans k (fun _ _ x=>x) (fun _ _ x=>x)
theorem Kt.setNew{S:Nat->Prop}{a b:World}(h:Kt S a b){p:Addr}(hp:p.block<a.heap.size->S p.block)(u:Value):Kt S a (b.setCell p u):=
 ⟨h.os,h.tape,h.output,by simp;exact h.size,fun i hi hU=>by rw[Below.heap_setCell b p u i (fun e=>hU (by rw[e];exact hp (e▸hi)))];exact h.block i hi hU⟩
theorem Kt.drewN{S:Nat->Prop}{a b:World}(h:Kt S a b)(n:Nat):Kt S a (b.drewN n):=⟨h.os,h.tape,h.output,h.size,h.block⟩
theorem uX{w:World}{p:Addr}{v:Value}(h:w.cell? p=some v):p.block<w.heap.size:=by
 rcases Nat.lt_or_ge p.block w.heap.size with h1|h1
 ·exact h1
 ·exfalso
  simp[World.cell?,Array.getElem?_eq_none h1] at h
theorem Kt.cell{S:Nat->Prop}{a b:World}(h:Kt S a b){p:Addr}{v:Value}(hp:¬S p.block)(hc:a.cell? p=some v):b.cell? p=some v:=by
 rw[<-hc];exact World.cell?_of_block (h.block _ (uX hc) hp)
theorem bB{w:World}{k:Nat}{cs:Array Value}{t:TypeId}{z:Nat×Nat}(h:w.heap[k]?=some (.cells cs t z))(i:Nat)(u:Value):(w.setCell ⟨k,i,none⟩ u).heap[k]?=some (.cells (cs.setIfInBounds i u) t z):=by
 obtain⟨hlt,hk⟩:=Array.getElem?_eq_some_iff.1 h;show(w.heap.modify k _)[k]?=_
 rw[Array.getElem?_eq_getElem (by rw[Array.size_modify];exact hlt),Array.getElem_modify_self,hk];rfl
theorem lH{w:World}{k:Nat}{o:Obj}(h:w.heap[k]?=some o):k<w.heap.size:=(Array.getElem?_eq_some_iff.1 h).1
theorem rZ(w:World)(A B:Obj):((w.alloc A).alloc B).heap[w.heap.size+1]?=some B:=by
 have:=nH (w.alloc A) B;rwa [World.size_alloc] at this
theorem dN{w:World}{x y:Nat}{c d:Array Value}{s t:TypeId}{z u:Nat×Nat}(h:w.heap[x]?=some (.cells c s z))(k:w.heap[y]?=some (.cells d t u))(hst:s≠t):x≠y:=by
 rintro rfl;rw[h] at k
 cases k
 exact hst rfl
def adr(ao:Option Nat):Option Addr:=ao.map fun g=>⟨g,0,none⟩
structure Pg where
 kd:Int
 od:Int
 cl:Int
 lv:Int
 nx:Int
 pv:Int
 fs:Int
 b0:Nat
 b1:Nat
 b2:Nat
 b3:Nat
deriving DecidableEq
def Pg.fld(p:Pg):Nat->Value
 | 0=>.int .i64 p.kd
 | 1=>.int .i64 p.od
 | 2=>.int .i64 p.cl
 | 3=>.int .i64 p.lv
 | 4=>.int .i64 p.nx
 | 5=>.int .i64 p.pv
 | 6=>.int .i64 p.fs
 | 7=>.int .u64 p.b0
 | 8=>.int .u64 p.b1
 | 9=>.int .u64 p.b2
 | _=>.int .u64 p.b3
def bR(k o:Int):Pg:=⟨k,o,0,0,-1,-1,-1,0,0,0,0⟩
def bD:Pg:=⟨0,0,0,0,0,0,0,0,0,0,0⟩
def bF(w:World)(g n:Nat)(c:Nat->Nat->Value):Prop:=
 ∃ cs:Array Value,w.heap[g]?=some (.cells cs 103 (0,0))/\cs.size=n*11/\∀ i,i<n->∀ j,j<11->cs[i*11+j]?=some (c i j)
def cR(w:World)(g n:Nat)(pg:Nat->Pg):Prop:=bF w g n (fun i j=>(pg i).fld j)
def mC(c:Nat->Nat->Value)(i j:Nat)(v:Value):Nat->Nat->Value:=fun a b=>if a=i/\b=j then v else c a b
def aI(pg:Nat->Pg)(i:Nat)(p:Pg):Nat->Pg:=fun a=>if a=i then p else pg a
theorem bF.lt{w g n c}(h:bF w g n c):g<w.heap.size:=by
 obtain⟨cs,hg,_⟩:=h;exact lH hg
theorem bF.set{w g n c}(h:bF w g n c)(i j:Nat)(hi:i<n)(hj:j<11)(v:Value):bF (w.setCell ⟨g,i*11+j,none⟩ v) g n (mC c i j v):=by
 obtain⟨cs,hg,hs,hc⟩:=h;refine⟨_,bB hg _ _,by simpa using hs,fun a ha b hb=>?_⟩;rw[Array.getElem?_setIfInBounds];unfold mC;by_cases e:a=i/\b=j
 ·obtain⟨rfl,rfl⟩:=e;rw[if_pos rfl,if_pos (by omega),if_pos ⟨rfl,rfl⟩]
 ·rw[if_neg (by omega),if_neg e];exact hc a ha b hb
theorem bF.kept{w w' g n c}{S:Nat->Prop}(h:bF w g n c)(k:Kt S w w')(hS:¬S g):bF w' g n c:=by
 obtain⟨cs,hg,hs,hc⟩:=h;exact⟨cs,(k.block g (lH hg) hS).trans hg,hs,hc⟩
theorem bF.congr{w g n c c'}(h:bF w g n c)(he:∀ i,i<n->∀ j,j<11->c i j=c' i j):bF w g n c':=by
 obtain⟨cs,hg,hs,hc⟩:=h;exact⟨cs,hg,hs,fun i hi j hj=>(hc i hi j hj).trans (congrArg some (he i hi j hj))⟩
theorem cR.kept{w w' g n pg}{S:Nat->Prop}(h:cR w g n pg)(k:Kt S w w')(hS:¬S g):cR w' g n pg:=bF.kept h k hS
theorem cR.congr{w g n pg pg'}(h:cR w g n pg)(he:∀ i,i<n->pg i=pg' i):cR w g n pg':=bF.congr h (fun i hi j _=>by rw[he i hi])
theorem cR.cell{w g n pg}(h:cR w g n pg)(i:Nat)(hi:i<n):
  w.cell? ⟨g,i*11,none⟩=some (.int .i64 (pg i).kd)/\w.cell? ⟨g,i*11+1,none⟩=some (.int .i64 (pg i).od)/\w.cell? ⟨g,i*11+2,none⟩=some (.int .i64 (pg i).cl)/\w.cell? ⟨g,i*11+3,none⟩=some (.int .i64 (pg i).lv)/\w.cell? ⟨g,i*11+4,none⟩=some (.int .i64 (pg i).nx)/\w.cell? ⟨g,i*11+5,none⟩=some (.int .i64 (pg i).pv)/\w.cell? ⟨g,i*11+6,none⟩=some (.int .i64 (pg i).fs)/\w.cell? ⟨g,i*11+7,none⟩=some (.int .u64 ((pg i).b0:Int))/\w.cell? ⟨g,i*11+8,none⟩=some (.int .u64 ((pg i).b1:Int))/\w.cell? ⟨g,i*11+9,none⟩=some (.int .u64 ((pg i).b2:Int))/\w.cell? ⟨g,i*11+10,none⟩=some (.int .u64 ((pg i).b3:Int)):=by
 obtain⟨cs,hg,_,hc⟩:=h;have key:∀ j,j<11->w.cell? ⟨g,i*11+j,none⟩=some ((pg i).fld j):=fun j hj=>by
  have:=hc i hi j hj;simpa [World.cell?,hg] using this
 exact⟨key 0 (by decide),key 1 (by decide),key 2 (by decide),key 3 (by decide),key 4 (by decide),key 5 (by decide),key 6 (by decide),key 7 (by decide),key 8 (by decide),key 9 (by decide),key 10 (by decide)⟩
theorem bF.froz{w g n c}(h:bF w g n c)(i:Nat):w.frozen? ⟨g,i,none⟩=false:=by
 obtain⟨cs,hg,_,hc⟩:=h;simp[World.frozen?,hg]
abbrev eC(w:World)(g i:Nat)(p:Pg):World:=
 ((((((((((w.setCell ⟨g,i*11,none⟩ (.int .i64 p.kd)).setCell ⟨g,i*11+1,none⟩ (.int .i64 p.od)).setCell ⟨g,i*11+2,none⟩ (.int .i64 p.cl)).setCell ⟨g,i*11+3,none⟩ (.int .i64 p.lv)).setCell ⟨g,i*11+4,none⟩ (.int .i64 p.nx)).setCell ⟨g,i*11+5,none⟩ (.int .i64 p.pv)).setCell ⟨g,i*11+6,none⟩ (.int .i64 p.fs)).setCell ⟨g,i*11+7,none⟩ (.int .u64 p.b0)).setCell ⟨g,i*11+8,none⟩ (.int .u64 p.b1)).setCell ⟨g,i*11+9,none⟩ (.int .u64 p.b2)).setCell ⟨g,i*11+10,none⟩ (.int .u64 p.b3)
theorem rY(w:World)(g i:Nat)(p:Pg):Kt (fun x=>x=g) w (eC w g i p):=
 ((((((((((((Kt.refl (fun x=>x=g) w).setCell (p:=⟨g,_,none⟩) rfl _).setCell (p:=⟨g,_,none⟩) rfl _).setCell (p:=⟨g,_,none⟩) rfl _).setCell (p:=⟨g,_,none⟩) rfl _).setCell (p:=⟨g,_,none⟩) rfl _).setCell (p:=⟨g,_,none⟩) rfl _).setCell (p:=⟨g,_,none⟩) rfl _).setCell (p:=⟨g,_,none⟩) rfl _).setCell (p:=⟨g,_,none⟩) rfl _).setCell (p:=⟨g,_,none⟩) rfl _).setCell (p:=⟨g,_,none⟩) rfl _)
theorem tN{c:Nat->Nat->Value}{pg:Nat->Pg}{i:Nat}{p:Pg}(a b:Nat)(hb:b<11)(h:∀ j,j<11->c i j=p.fld j)(h2:a≠i->c a b=(pg a).fld b):c a b=(aI pg i p a).fld b:=by
 unfold aI;by_cases e:a=i
 ·rw[if_pos e,e];exact h b hb
 ·rw[if_neg e];exact h2 e
theorem lK{P:Nat->Prop}(h0:P 0)(h1:P 1)(h2:P 2)(h3:P 3)(h4:P 4)(h5:P 5)(h6:P 6)(h7:P 7)(h8:P 8)(h9:P 9)(h10:P 10):∀ j,j<11->P j
 | 0,_=>h0 | 1,_=>h1 | 2,_=>h2 | 3,_=>h3 | 4,_=>h4 | 5,_=>h5 | 6,_=>h6 | 7,_=>h7 | 8,_=>h8 | 9,_=>h9 | 10,_=>h10
 | _+11,h=>absurd h (by omega)
theorem cR.put{w g n pg}(h:cR w g n pg)(i:Nat)(hi:i<n)(p:Pg):cR (eC w g i p) g n (aI pg i p):=by
 have:=((((((((((bF.set h i 0 hi (by decide) (.int .i64 p.kd)).set i 1 hi (by decide) (.int .i64 p.od)).set i 2 hi (by decide) (.int .i64 p.cl)).set i 3 hi (by decide) (.int .i64 p.lv)).set i 4 hi (by decide) (.int .i64 p.nx)).set i 5 hi (by decide) (.int .i64 p.pv)).set i 6 hi (by decide) (.int .i64 p.fs)).set i 7 hi (by decide) (.int .u64 p.b0)).set i 8 hi (by decide) (.int .u64 p.b1)).set i 9 hi (by decide) (.int .u64 p.b2)).set i 10 hi (by decide) (.int .u64 p.b3);refine bF.congr this (fun a ha b hb=>tN a b hb (fun j hj=>?_) (fun e=>?_))
 ·revert j
  apply lK <;> simp[mC,Pg.fld]
 ·simp[mC,e]
structure Mp where
 o:Nat
 n:Nat
 pg:Nat->Pg
 wd:Nat->List Nat
structure Bs where
 g:Option Nat
 P:Option Nat
 S:Nat->Nat
 C:Nat->Nat
def pC(w:World)(P:Option Nat)(o cq:Nat)(S:Nat->Nat):Prop:=
 match P with
 | none=>o=0/\cq=0
 | some q=>∃ cs:Array Value,w.heap[q]?=some (.cells cs 174 (0,0))/\cs.size=cq/\o<=cq/\∀ k,k<o->cs[k]?=some (.pointer (some ⟨S k,0,none⟩))
def dD(w:World)(g:Option Nat)(n:Nat)(pg:Nat->Pg):Prop:=
 match g with
 | none=>n=0
 | some q=>cR w q n pg
structure PgOk(p:Pg):Prop where
 o0 : 0<=p.od
 o8:p.od<=8
 c0 : 0<=p.cl
 c7:p.cl<=7
 b0:p.b0<18446744073709551616
 b1:p.b1<18446744073709551616
 b2:p.b2<18446744073709551616
 b3:p.b3<18446744073709551616
theorem PgOk.blank(k o:Int)(h0 : 0<=o)(h8:o<=8):PgOk (bR k o):=⟨h0,h8,Int.le_refl 0,by show(0:Int)<=7;decide,by show 0<_;decide,by show 0<_;decide,by show 0<_;decide,by show 0<_;decide⟩
theorem PgOk.zero:PgOk bD:=by constructor <;> decide
structure MpA(w:World)(b:Nat)(B:Bs)(m:Mp):Prop where
 o8:m.o<=8
 n1:m.n<=1024
 dv:∃ r,m.n=r*2 ^ m.o
 hb:∃ cq,w.heap[b]?=some (.cells #[.int .i64 m.o,.slice (adr B.g) m.n m.n,.slice (adr B.P) m.o cq] 141 (0,0))/\pC w B.P m.o cq B.S
 row:dD w B.g m.n m.pg
 set:∀ k,k<m.o->SetAt w (B.S k) (B.C k) (m.n/2 ^ (k+1)) (m.wd k)
 injS:∀ j k,j<m.o->k<m.o->B.S j=B.S k->j=k
 injC:∀ j k,j<m.o->k<m.o->B.C j=B.C k->j=k
 ok:∀ i,i<m.n->PgOk (m.pg i)
def aY(b:Nat)(B:Bs)(o:Nat):Nat->Prop:=fun x=>x=b\/B.g=some x\/B.P=some x\/∃ k,k<o/\(x=B.S k\/x=B.C k)
theorem pC.kept{w w' P o cq S}{T:Nat->Prop}(h:pC w P o cq S)(k:Kt T w w')(hS:∀ x,P=some x->¬T x):pC w' P o cq S:=by
 cases P with
 | none=>exact h
 | some q=>
  obtain⟨cs,hg,h2,h3,h4⟩:=h;exact⟨cs,(k.block q (lH hg) (hS q rfl)).trans hg,h2,h3,h4⟩
theorem dD.kept{w w' g n pg}{T:Nat->Prop}(h:dD w g n pg)(k:Kt T w w')(hS:∀ x,g=some x->¬T x):dD w' g n pg:=by
 cases g with
 | none=>exact h
 | some q=>exact cR.kept h k (hS q rfl)
theorem MpA.kept{w w' b B m}{T:Nat->Prop}(h:MpA w b B m)(k:Kt T w w')(hS:∀ x,aY b B m.o x->¬T x):MpA w' b B m:=by
 obtain⟨cq,hb,hp⟩:=h.hb;exact⟨h.o8,h.n1,h.dv,⟨cq,(k.block b (lH hb) (hS b (.inl rfl))).trans hb,hp.kept k (fun x e=>hS x (.inr (.inr (.inl e))))⟩,h.row.kept k (fun x e=>hS x (.inr (.inl e))),fun i hi=>(h.set i hi).kept k (hS _ (.inr (.inr (.inr ⟨i,hi,.inl rfl⟩)))) (hS _ (.inr (.inr (.inr ⟨i,hi,.inr rfl⟩)))),h.injS,h.injC,h.ok⟩
theorem MpA.keep{w w' b B m}(h:MpA w b B m)(k:Kt nO w w'):MpA w' b B m:=h.kept k (fun _ _ x=>x)
theorem MpA.own_lt{w b B m}(h:MpA w b B m)(x:Nat)(hx:aY b B m.o x):x<w.heap.size:=by
 obtain⟨cq,hb,hp⟩:=h.hb;rcases hx with rfl|hx|hx|⟨k,hk,rfl|rfl⟩
 ·exact lH hb
 ·have:=h.row;rw[hx] at this;exact bF.lt this
 ·rw[hx] at hp;obtain⟨cs,hg,_⟩:=hp;exact lH hg
 ·exact lH (h.set k hk).hb
 ·exact lH (h.set k hk).hc
theorem MpA.cb{w b B m}(h:MpA w b B m):∃ cq,w.cell? ⟨b,0,none⟩=some (.int .i64 m.o)/\w.cell? ⟨b,1,none⟩=some (.slice (adr B.g) m.n m.n)/\w.cell? ⟨b,2,none⟩=some (.slice (adr B.P) m.o cq):=by
 obtain⟨cq,hb,_⟩:=h.hb;exact⟨cq,by simp[World.cell?,hb],by simp[World.cell?,hb],by simp[World.cell?,hb]⟩
theorem MpA.c0{w b B m}(h:MpA w b B m):w.cell? ⟨b,0,none⟩=some (.int .i64 m.o):=by
 obtain⟨cq,hb,_⟩:=h.hb;simp[World.cell?,hb]
theorem MpA.c1{w b B m}{g:Nat}(h:MpA w b B m)(hg:B.g=some g):w.cell? ⟨b,1,none⟩=some (.slice (some ⟨g,0,none⟩) m.n m.n):=by
 obtain⟨cq,hb,_⟩:=h.hb;simp[World.cell?,hb,hg,adr]
theorem MpA.bz{w b B m}(h:MpA w b B m)(i:Nat):w.frozen? ⟨b,i,none⟩=false:=by
 obtain⟨cq,hb,_⟩:=h.hb;simp[World.frozen?,hb]
theorem MpA.cp{w b B m}(h:MpA w b B m)(k:Nat)(hk:k<m.o):∃ q,B.P=some q/\w.cell? ⟨q,k,none⟩=some (.pointer (some ⟨B.S k,0,none⟩)):=by
 obtain⟨cq,hb,hp⟩:=h.hb
 cases hP:B.P with
 | none=>
  rw[hP] at hp;obtain⟨h1,_⟩:=hp;omega
 | some q=>
  rw[hP] at hp;obtain⟨cs,hg,h2,h3,h4⟩:=hp;exact⟨q,rfl,by simp[World.cell?,hg,h4 k hk]⟩
theorem MpA.has_row{w b B m}(h:MpA w b B m)(hn : 0<m.n):∃ g,B.g=some g/\cR w g m.n m.pg:=by
 have hr:=h.row
 cases hg:B.g with
 | none=>
  rw[hg] at hr;have:m.n=0:=hr;omega
 | some q=>
  rw[hg] at hr;exact⟨q,rfl,hr⟩
theorem MpA.pages{w w' b B m g pg'}(h:MpA w b B m)(hg:B.g=some g)(k:Kt (fun x=>x=g) w w')(hr:cR w' g m.n pg')(ok:∀ i,i<m.n->PgOk (pg' i)):MpA w' b B { m with pg:=pg' }:=by
 obtain⟨cq,hb,hp⟩:=h.hb;have hrow:=h.row;rw[hg] at hrow;obtain⟨cs,hgb,_⟩:=hrow;refine⟨h.o8,h.n1,h.dv,⟨cq,(k.block b (lH hb) (dN hb hgb (by decide))).trans hb,hp.kept k (fun x e=>?_)⟩,?_,fun i hi=>(h.set i hi).kept k (dN (h.set i hi).hb hgb (by decide)) (dN (h.set i hi).hc hgb (by decide)),h.injS,h.injC,ok⟩
 ·rw[e] at hp;obtain⟨ds,hq,_⟩:=hp;exact dN hq hgb (by decide)
 ·show dD w' B.g m.n pg'
  rw[hg];exact hr
abbrev cW(p:Pg):Value:=.agg #[.int .i64 p.kd,.int .i64 p.od,.int .i64 p.cl,.int .i64 p.lv,.int .i64 p.nx,.int .i64 p.pv,.int .i64 p.fs,.int .u64 p.b0,.int .u64 p.b1,.int .u64 p.b2,.int .u64 p.b3]
abbrev aT(p:Pg):Obj:=.cells #[.int .i64 p.kd,.int .i64 p.od,.int .i64 p.cl,.int .i64 p.lv,.int .i64 p.nx,.int .i64 p.pv,.int .i64 p.fs,.int .u64 p.b0,.int .u64 p.b1,.int .u64 p.b2,.int .u64 p.b3] 103
theorem gI(b:Nat)(B:Bs)(m:Mp)(i:Int)(w:World)(h:MpA w b B m):
  Calls prog 77 #[.pointer (some ⟨b,0,none⟩),.int .i64 i] w fun e w'=>e=.returned (.bool (aJ m.n i))/\w'=w:=by
 obtain⟨cq,c0,c1,c2⟩:=h.cb;clear h;by_cases h0 : 0<=i
 ·have hd:aJ m.n i=decide (i<(m.n:Int)):=by simp[aJ,h0]
  rw[hd];go_enter func77,ntmps77;go_wp2
  go_ret;exact⟨rfl,rfl⟩
 ·have hd:aJ m.n i=false:=by simp[aJ];omega
  rw[hd];go_enter func77,ntmps77;go_wp2
  go_ret;exact⟨rfl,rfl⟩
theorem uL(b:Nat)(B:Bs)(m:Mp)(w:World)(h:MpA w b B m):
  Calls prog 41 #[.pointer (some ⟨b,0,none⟩)] w fun e w'=>e=.returned (.int .i64 m.n)/\w'=w:=by
 obtain⟨cq,c0,c1,c2⟩:=h.cb;clear h;go_enter func41,ntmps41;go_wp2
 go_ret;exact⟨rfl,rfl⟩
theorem lF{w:World}{x:Nat}{p:Pg}(h:w.heap[x]?=some (aT p)):w.cell? ⟨x,0,none⟩=some (.int .i64 p.kd)/\w.cell? ⟨x,1,none⟩=some (.int .i64 p.od)/\w.cell? ⟨x,2,none⟩=some (.int .i64 p.cl)/\w.cell? ⟨x,3,none⟩=some (.int .i64 p.lv)/\w.cell? ⟨x,4,none⟩=some (.int .i64 p.nx)/\w.cell? ⟨x,5,none⟩=some (.int .i64 p.pv)/\w.cell? ⟨x,6,none⟩=some (.int .i64 p.fs)/\w.cell? ⟨x,7,none⟩=some (.int .u64 p.b0)/\w.cell? ⟨x,8,none⟩=some (.int .u64 p.b1)/\w.cell? ⟨x,9,none⟩=some (.int .u64 p.b2)/\w.cell? ⟨x,10,none⟩=some (.int .u64 p.b3):=by
 refine⟨?_,?_,?_,?_,?_,?_,?_,?_,?_,?_,?_⟩ <;> simp[World.cell?,h]
theorem sN{w:World}{x:Nat}{p:Pg}(h:w.heap[x]?=some (aT p))(i:Nat):w.frozen? ⟨x,i,none⟩=false:=by simp[World.frozen?,h]
abbrev setB(w:World)(x:Nat)(p:Pg):World:=(((((((((((w.setCell ⟨x,0,none⟩ (.int .i64 p.kd)).setCell ⟨x,1,none⟩ (.int .i64 p.od)).setCell ⟨x,2,none⟩ (.int .i64 p.cl)).setCell ⟨x,3,none⟩ (.int .i64 p.lv)).setCell ⟨x,4,none⟩ (.int .i64 p.nx)).setCell ⟨x,5,none⟩ (.int .i64 p.pv)).setCell ⟨x,6,none⟩ (.int .i64 p.fs)).setCell ⟨x,7,none⟩ (.int .u64 p.b0)).setCell ⟨x,8,none⟩ (.int .u64 p.b1)).setCell ⟨x,9,none⟩ (.int .u64 p.b2)).setCell ⟨x,10,none⟩ (.int .u64 p.b3))
theorem ID{S:Nat->Prop}{a w:World}(h:Kt S a w)(x:Nat)(hx:x<a.heap.size->S x)(p:Pg):Kt S a (setB w x p):=(((((((((((h.setNew (p:=⟨x,0,none⟩) hx _).setNew (p:=⟨x,1,none⟩) hx _).setNew (p:=⟨x,2,none⟩) hx _).setNew (p:=⟨x,3,none⟩) hx _).setNew (p:=⟨x,4,none⟩) hx _).setNew (p:=⟨x,5,none⟩) hx _).setNew (p:=⟨x,6,none⟩) hx _).setNew (p:=⟨x,7,none⟩) hx _).setNew (p:=⟨x,8,none⟩) hx _).setNew (p:=⟨x,9,none⟩) hx _).setNew (p:=⟨x,10,none⟩) hx _)
theorem rX(k o:Int)(w:World):
  Calls prog 184 #[.int .i64 k,.int .i64 o] w fun e w'=>e=.returned (cW (bR k o))/\w'=w.alloc (aT (bR k o)):=by
 go_enter func184,ntmps184;go_wp2
 exact⟨rfl,_,by simp[results,results184,go_sem,bR],rfl,rfl⟩
def cP(m:Mp)(i:Int):Pg:=if aJ m.n i=true then m.pg i.toNat else bD
theorem iO{n:Nat}{i:Int}(h:aJ n i=true):∃ k:Nat,i=k/\k<n:=by
 have hi0 : 0<=i/\i<(n:Int):=by simpa [aJ] using h
 obtain⟨k,rfl⟩:=Int.eq_ofNat_of_zero_le hi0.1;exact⟨k,rfl,by omega⟩
theorem dQ{n k:Nat}(h:k<n):aJ n (k:Int)=true:=by simp[aJ];omega
theorem tM(b:Nat)(B:Bs)(m:Mp)(i:Int)(w:World)(h:MpA w b B m)(hi:aJ m.n i=false):
  Calls prog 42 #[.pointer (some ⟨b,0,none⟩),.int .i64 i] w fun e w'=>e=.returned (.tuple #[cW bD,.bool false])/\Kt nO w w':=by
 have K0:=aA ((Kt.refl nO w).alloc (aT bD));have HM:=aA (h.keep K0.out);have X0:=aA (nH w (aT bD));have HI:=aA hi;clear h hi;go_enter func42,ntmps42;go_wp2_with fail;refine(gI b B m i _ HM.out).mono ?_;rintro e w1 ⟨rfl,hw1⟩;rw[show(w.alloc (aT bD))=w1 from hw1.symm] at K0 HM X0;rw[HI.out];clear hw1;obtain⟨x0,x1,x2,x3,x4,x5,x6,x7,x8,x9,x10⟩:=lF X0.out;have z:=sN X0.out;go_wp2_with fail;exact⟨rfl,_,by simp[results,results42,go_sem,bD,x0,x1,x2,x3,x4,x5,x6,x7,x8,x9,x10],rfl,ID (p:=bD) K0.out _ (fun h=>absurd h (Nat.lt_irrefl _))⟩
theorem kR(b:Nat)(B:Bs)(m:Mp)(k:Nat)(w:World)(h:MpA w b B m)(hk:k<m.n):
  Calls prog 42 #[.pointer (some ⟨b,0,none⟩),.int .i64 k] w fun e w'=>e=.returned (.tuple #[cW (m.pg k),.bool true])/\Kt nO w w':=by
 have K0:=aA ((Kt.refl nO w).alloc (aT bD));have HM:=aA (h.keep K0.out);have X0:=aA (nH w (aT bD));have HI:=aA (dQ hk);clear h;go_enter func42,ntmps42;go_wp2_with fail;refine(gI b B m k _ HM.out).mono ?_;rintro e w1 ⟨rfl,hw1⟩;rw[show(w.alloc (aT bD))=w1 from hw1.symm] at K0 HM X0;rw[HI.out];clear hw1;obtain⟨g,hg,hr⟩:=HM.out.has_row (by omega);obtain⟨d0,d1,d2,d3,d4,d5,d6,d7,d8,d9,d10⟩:=hr.cell k hk;have c1:=HM.out.c1 hg;have hki:(k:Int)<m.n:=by omega
 obtain⟨x0,x1,x2,x3,x4,x5,x6,x7,x8,x9,x10⟩:=lF X0.out;have z:=sN X0.out;clear hr hg;go_wp2_with fail;exact⟨rfl,_,by simp[results,results42,go_sem,x0,x1,x2,x3,x4,x5,x6,x7,x8,x9,x10],rfl,ID (p:=m.pg k) K0.out _ (fun h=>absurd h (Nat.lt_irrefl _))⟩
theorem jR(b:Nat)(B:Bs)(m:Mp)(i:Int)(w:World)(h:MpA w b B m):
  Calls prog 42 #[.pointer (some ⟨b,0,none⟩),.int .i64 i] w fun e w'=>e=.returned (.tuple #[cW (cP m i),.bool (aJ m.n i)])/\Kt nO w w':=by
 cases hi:aJ m.n i with
 | false=>
  rw[show cP m i=bD by simp[cP,hi]];exact tM b B m i w h hi
 | true=>
  obtain⟨k,rfl,hk⟩:=iO hi;rw[show cP m (k:Int)=m.pg k by simp[cP,hi]];exact kR b B m k w h hk
def eK(c:Int):Pg:={ bR 4 0 with cl:=c }
theorem PgOk.slab(c:Nat)(h:c<8):PgOk (eK c):=⟨by show(0:Int)<=0;decide,by show(0:Int)<=8;decide,by show(0:Int)<=c;omega,by show(c:Int)<=7;omega,by show 0<_;decide,by show 0<_;decide,by show 0<_;decide,by show 0<_;decide⟩
def kQ(m:Mp)(i c:Int):Mp:=if aJ m.n i=true/\0<=c/\c<=7 then { m with pg:=aI m.pg i.toNat (eK c) } else m
def qP(m:Mp)(i c:Int):Int:=if aJ m.n i=true/\0<=c/\c<=7 then 0 else 1
theorem TV(m:Mp)(i c:Int):(kQ m i c).n=m.n:=by unfold kQ;split <;> rfl
theorem TU(b:Nat)(B:Bs)(m:Mp)(k c:Nat)(w:World)(h:MpA w b B m)(hk:k<m.n)(hc:c<8):
  Calls prog 192 #[.pointer (some ⟨b,0,none⟩),.int .i64 k,.int .i64 c] w fun e w'=>e=.returned (.int .i64 0)/\MpA w' b B { m with pg:=aI m.pg k (eK c) }/\Kt (aY b B m.o) w w':=by
 have HM:=aA h;have HI:=aA (dQ hk);have HK:=aA hk;have hc0:¬(c:Int)<0:=by omega
 have hc1:¬ 8<=(c:Int):=by omega
 have hki:(k:Int)<m.n:=by omega
 obtain⟨g,hg,hr⟩:=h.has_row (by omega);clear h hr hk;go_enter func192,ntmps192;go_wp2_with fail;refine(gI b B m k _ HM.out).mono ?_;rintro e w1 ⟨rfl,rfl⟩;rw[HI.out];go_wp2_with fail;refine(rX 4 0 w1).mono ?_;rintro e w2 ⟨rfl,hw2⟩;have K2:=aA (show Kt nO w1 w2 by rw[hw2];exact(Kt.refl nO w1).alloc _);have Z2:=aA (show w2.heap.size=w1.heap.size+1 by rw[hw2];simp);clear hw2;go_wp2_with fail;obtain⟨W,hW⟩:=xe (w2.alloc (.cells #[.int .i64 (bR 4 0).kd,.int .i64 (bR 4 0).od,.int .i64 c,.int .i64 (bR 4 0).lv,.int .i64 (bR 4 0).nx,.int .i64 (bR 4 0).pv,.int .i64 (bR 4 0).fs,.int .u64 ((bR 4 0).b0:Int),.int .u64 ((bR 4 0).b1:Int),.int .u64 ((bR 4 0).b2:Int),.int .u64 ((bR 4 0).b3:Int)] 103));rw[<-hW];have KW:=aA (show Kt nO w1 W by rw[hW];exact K2.out.alloc _);have XW:=aA (show W.heap[w2.heap.size]?=some (aT (eK c))by rw[hW];exact nH _ _);have MW:=aA (HM.out.keep KW.out);clear hW;obtain⟨x0,x1,x2,x3,x4,x5,x6,x7,x8,x9,x10⟩:=lF XW.out;have c1:=MW.out.c1 hg;have hr:=MW.out.row;rw[hg] at hr;have RW:=aA (show cR W g m.n m.pg from hr);obtain⟨d0,d1,d2,d3,d4,d5,d6,d7,d8,d9,d10⟩:=RW.out.cell k HK.out;have z:=bF.froz RW.out;have HG:=aA hg;clear hr hg;go_region
 all_goals
  go_wp2_with fail;go_ret;have RP:=(RW.out.put k HK.out (eK c));have OKP:∀ i,i<m.n->PgOk (aI m.pg k (eK c) i):=fun i hi=>by
   unfold aI;split
   ·exact PgOk.slab c (by omega)
   ·exact MW.out.ok i hi
  have KP:=rY W g k (eK c);exact⟨rfl,(MW.out.pages HG.out KP RP OKP).keep (Kt.refl nO _).drew,(KW.out.trans KP (fun _ _ x=>x.elim) (fun x _ e=>.inr (.inl (e▸HG.out)))).drew⟩
theorem xC(b:Nat)(B:Bs)(m:Mp)(i:Int)(w:World)(h:MpA w b B m)(hi:aJ m.n i=false):
  Calls prog 171 #[.pointer (some ⟨b,0,none⟩),.int .i64 i] w fun e w'=>e=.returned (.pointer none)/\w'=w:=by
 have HM:=aA h;have HI:=aA hi;clear h hi;go_enter func171,ntmps171;go_wp2_with fail;refine(gI b B m i _ HM.out).mono ?_;rintro e w1 ⟨rfl,rfl⟩;rw[HI.out];go_wp2_with fail;go_ret;exact⟨rfl,rfl⟩
theorem lU(b:Nat)(B:Bs)(m:Mp)(g k:Nat)(w:World)(h:MpA w b B m)(hg:B.g=some g)(hk:k<m.n):
  Calls prog 171 #[.pointer (some ⟨b,0,none⟩),.int .i64 k] w fun e w'=>e=.returned (.pointer (if (m.pg k).kd=4 then some ⟨g,k*11,none⟩ else none))/\w'=w:=by
 have HM:=aA h;have HI:=aA (dQ hk);have hr:=h.row;rw[hg] at hr;have hr:cR w g m.n m.pg:=hr;have d0:=(hr.cell k hk).1;have c1:=h.c1 hg;have hki:(k:Int)<m.n:=by omega
 clear h hr hg;by_cases h4:(m.pg k).kd=4
 ·rw[if_pos h4];rw[h4] at d0;go_enter func171,ntmps171;go_wp2_with fail;refine(gI b B m k _ HM.out).mono ?_;rintro e w1 ⟨rfl,rfl⟩;rw[HI.out];go_wp2_with fail;go_ret;exact⟨rfl,rfl⟩
 ·rw[if_neg h4];go_enter func171,ntmps171;go_wp2_with fail;refine(gI b B m k _ HM.out).mono ?_;rintro e w1 ⟨rfl,rfl⟩;rw[HI.out];go_wp2_with fail;go_ret;exact⟨rfl,rfl⟩
def fD(cl:Int):Nat:=256/2 ^ cl.toNat
theorem sC(g o:Nat)(cl:Int)(h0 : 0<=cl)(h7:cl<=7)(c:Int)(w:World)(h:w.cell? ⟨g,o+2,none⟩=some (.int .i64 cl)):
  Calls prog 172 #[.pointer (some ⟨g,o,none⟩),.int .i64 c] w fun e w'=>e=.returned (.bool (aJ (fD cl) c))/\w'=w:=by
 obtain⟨k,rfl⟩:=Int.eq_ofNat_of_zero_le h0;have hk:k<=7:=by omega
 have hn:fD (k:Int)=256/2 ^ k:=rfl;rw[hn];by_cases hc : 0<=c
 ·have hd:aJ (256/2 ^ k) c=decide (c<((256/2 ^ k:Nat):Int)):=by simp[aJ,hc]
  rw[hd];go_enter func172,ntmps172;go_wp2_with fail;go_ret;exact⟨by simp,rfl⟩
 ·have hd:aJ (256/2 ^ k) c=false:=by simp[aJ];omega
  rw[hd];go_enter func172,ntmps172;go_wp2_with fail;go_ret;exact⟨rfl,rfl⟩
theorem rM(x r:Nat)(hx:x<18446744073709551616):((bits BinOp.and IntKind.u64 ((x:Int)/2 ^ r) 1) == 1)=(x/2 ^ r%2 == 1):=by
 have e:((x:Int)/2 ^ r)=((x/2 ^ r:Nat):Int):=by simp
 rw[e];have hd2:x/2 ^ r<2 ^ 64:=Nat.lt_of_le_of_lt (Nat.div_le_self _ _) hx;have:=u64_and_nat (x/2 ^ r) 1 (by omega) (by decide);rw[nat_mask1] at this;rw[show(1:Int)=((1:Nat):Int)from rfl,this,Bool.eq_iff_iff];simp only[beq_iff_eq];omega
theorem tX(x r:Nat)(hx:x<18446744073709551616)(hr:r<64):bits BinOp.xor IntKind.u64 (x:Int) (2 ^ r)=((x ^^^ 2 ^ r:Nat):Int):=by
 have hp : 2 ^ r<2 ^ 64:=(jX r 64).2 hr;have:=bits_xor_u64_nat x (2 ^ r) hx hp;rw[<-this];simp
theorem uK(r:Nat)(hr:r<64):IntKind.u64.wrap (2 ^ r)=2 ^ r:=by
 have hp : 2 ^ r<2 ^ 64:=(jX r 64).2 hr;rw[wrap_u64];have:((2:Int) ^ r)=((2 ^ r:Nat):Int):=by simp
 rw[this];obtain⟨p,hp2⟩:=xe (2 ^ r);rw[<-hp2] at hp ⊢;omega
theorem tW(x r:Nat)(hx:x<18446744073709551616)(hr:r<64):x ^^^ 2 ^ r<18446744073709551616:=Nat.xor_lt_two_pow (n:=64) hx ((jX r 64).2 hr)
theorem zj7(b0 b1 b2 b3:Nat)(hx:b0<18446744073709551616)(c:Nat)(hq:c/64=0)(w:World):
  Calls prog 173 #[.agg #[.int .u64 b0,.int .u64 b1,.int .u64 b2,.int .u64 b3],.int .i64 c] w fun e w'=>e=.returned (.bool (b0/2 ^ (c%64)%2 == 1))/\Kt nO w w':=by
 have hqi:(c:Int)/64=0:=by omega
 have E:=aA (rM b0 (c%64) hx);clear hx;go_enter func173,ntmps173;go_wp2_with fail;go_ret;exact⟨cE E.out,(Kt.refl nO w).alloc _⟩
theorem zj8(b0 b1 b2 b3:Nat)(hx:b0<18446744073709551616)(c:Nat)(hq:c/64=0)(w:World):
  Calls prog 174 #[.agg #[.int .u64 b0,.int .u64 b1,.int .u64 b2,.int .u64 b3],.int .i64 c] w fun e w'=>e=.returned (.agg #[.int .u64 ((b0 ^^^ 2 ^ (c%64):Nat):Int),.int .u64 b1,.int .u64 b2,.int .u64 b3])/\Kt nO w w':=by
 have hqi:(c:Int)/64=0:=by omega
 have E:=tX b0 (c%64) hx (by omega);have hw2:=uK (c%64) (by omega);generalize b0 ^^^ 2 ^ (c%64)=y at *;clear hx;go_enter func174,ntmps174;go_wp2_with fail;go_region
 all_goals
  go_wp2_with fail;exact⟨rfl,_,by simp[results,results174,go_sem],rfl,(((Kt.refl nO w).alloc _).alloc _).drew⟩
theorem zj9(b0 b1 b2 b3:Nat)(hx:b1<18446744073709551616)(c:Nat)(hq:c/64=1)(w:World):
  Calls prog 173 #[.agg #[.int .u64 b0,.int .u64 b1,.int .u64 b2,.int .u64 b3],.int .i64 c] w fun e w'=>e=.returned (.bool (b1/2 ^ (c%64)%2 == 1))/\Kt nO w w':=by
 have hqi:(c:Int)/64=1:=by omega
 have E:=aA (rM b1 (c%64) hx);clear hx;go_enter func173,ntmps173;go_wp2_with fail;go_ret;exact⟨cE E.out,(Kt.refl nO w).alloc _⟩
theorem YD(b0 b1 b2 b3:Nat)(hx:b1<18446744073709551616)(c:Nat)(hq:c/64=1)(w:World):
  Calls prog 174 #[.agg #[.int .u64 b0,.int .u64 b1,.int .u64 b2,.int .u64 b3],.int .i64 c] w fun e w'=>e=.returned (.agg #[.int .u64 b0,.int .u64 ((b1 ^^^ 2 ^ (c%64):Nat):Int),.int .u64 b2,.int .u64 b3])/\Kt nO w w':=by
 have hqi:(c:Int)/64=1:=by omega
 have E:=tX b1 (c%64) hx (by omega);have hw2:=uK (c%64) (by omega);generalize b1 ^^^ 2 ^ (c%64)=y at *;clear hx;go_enter func174,ntmps174;go_wp2_with fail;go_region
 all_goals
  go_wp2_with fail;exact⟨rfl,_,by simp[results,results174,go_sem],rfl,(((Kt.refl nO w).alloc _).alloc _).drew⟩
theorem YC(b0 b1 b2 b3:Nat)(hx:b2<18446744073709551616)(c:Nat)(hq:c/64=2)(w:World):
  Calls prog 173 #[.agg #[.int .u64 b0,.int .u64 b1,.int .u64 b2,.int .u64 b3],.int .i64 c] w fun e w'=>e=.returned (.bool (b2/2 ^ (c%64)%2 == 1))/\Kt nO w w':=by
 have hqi:(c:Int)/64=2:=by omega
 have E:=aA (rM b2 (c%64) hx);clear hx;go_enter func173,ntmps173;go_wp2_with fail;go_ret;exact⟨cE E.out,(Kt.refl nO w).alloc _⟩
theorem YB(b0 b1 b2 b3:Nat)(hx:b2<18446744073709551616)(c:Nat)(hq:c/64=2)(w:World):
  Calls prog 174 #[.agg #[.int .u64 b0,.int .u64 b1,.int .u64 b2,.int .u64 b3],.int .i64 c] w fun e w'=>e=.returned (.agg #[.int .u64 b0,.int .u64 b1,.int .u64 ((b2 ^^^ 2 ^ (c%64):Nat):Int),.int .u64 b3])/\Kt nO w w':=by
 have hqi:(c:Int)/64=2:=by omega
 have E:=tX b2 (c%64) hx (by omega);have hw2:=uK (c%64) (by omega);generalize b2 ^^^ 2 ^ (c%64)=y at *;clear hx;go_enter func174,ntmps174;go_wp2_with fail;go_region
 all_goals
  go_wp2_with fail;exact⟨rfl,_,by simp[results,results174,go_sem],rfl,(((Kt.refl nO w).alloc _).alloc _).drew⟩
theorem XZ(b0 b1 b2 b3:Nat)(hx:b3<18446744073709551616)(c:Nat)(hq:c/64=3)(w:World):
  Calls prog 173 #[.agg #[.int .u64 b0,.int .u64 b1,.int .u64 b2,.int .u64 b3],.int .i64 c] w fun e w'=>e=.returned (.bool (b3/2 ^ (c%64)%2 == 1))/\Kt nO w w':=by
 have hqi:(c:Int)/64=3:=by omega
 have E:=aA (rM b3 (c%64) hx);clear hx;go_enter func173,ntmps173;go_wp2_with fail;go_ret;exact⟨cE E.out,(Kt.refl nO w).alloc _⟩
theorem XY(b0 b1 b2 b3:Nat)(hx:b3<18446744073709551616)(c:Nat)(hq:c/64=3)(w:World):
  Calls prog 174 #[.agg #[.int .u64 b0,.int .u64 b1,.int .u64 b2,.int .u64 b3],.int .i64 c] w fun e w'=>e=.returned (.agg #[.int .u64 b0,.int .u64 b1,.int .u64 b2,.int .u64 ((b3 ^^^ 2 ^ (c%64):Nat):Int)])/\Kt nO w w':=by
 have hqi:(c:Int)/64=3:=by omega
 have E:=tX b3 (c%64) hx (by omega);have hw2:=uK (c%64) (by omega);generalize b3 ^^^ 2 ^ (c%64)=y at *;clear hx;go_enter func174,ntmps174;go_wp2_with fail;go_region
 all_goals
  go_wp2_with fail;exact⟨rfl,_,by simp[results,results174,go_sem],rfl,(((Kt.refl nO w).alloc _).alloc _).drew⟩
def wP(p:Pg):Nat->Nat
 | 0=>p.b0
 | 1=>p.b1
 | 2=>p.b2
 | _=>p.b3
def aN(p:Pg)(c:Nat):Bool:=wP p (c/64)/2 ^ (c%64)%2 == 1
def fS(p:Pg)(c:Nat):Pg:=
 match c/64 with
 | 0=>{ p with b0:=p.b0 ^^^ 2 ^ (c%64) }
 | 1=>{ p with b1:=p.b1 ^^^ 2 ^ (c%64) }
 | 2=>{ p with b2:=p.b2 ^^^ 2 ^ (c%64) }
 | _=>{ p with b3:=p.b3 ^^^ 2 ^ (c%64) }
abbrev oX(p:Pg):Value:=.agg #[.int .u64 p.b0,.int .u64 p.b1,.int .u64 p.b2,.int .u64 p.b3]
theorem vE{c:Nat}(hc:c<256):c/64=0\/c/64=1\/c/64=2\/c/64=3:=by omega
theorem JF(p:Pg)(ok:PgOk p)(c:Nat)(hc:c<256)(w:World):
  Calls prog 173 #[oX p,.int .i64 c] w fun e w'=>e=.returned (.bool (aN p c))/\Kt nO w w':=by
 rcases vE hc with h|h|h|h
 ·rw[show aN p c=(p.b0/2 ^ (c%64)%2 == 1)by simp[aN,h,wP]];exact zj7 _ _ _ _ ok.b0 c h w
 ·rw[show aN p c=(p.b1/2 ^ (c%64)%2 == 1)by simp[aN,h,wP]];exact zj9 _ _ _ _ ok.b1 c h w
 ·rw[show aN p c=(p.b2/2 ^ (c%64)%2 == 1)by simp[aN,h,wP]];exact YC _ _ _ _ ok.b2 c h w
 ·rw[show aN p c=(p.b3/2 ^ (c%64)%2 == 1)by simp[aN,h,wP]];exact XZ _ _ _ _ ok.b3 c h w
theorem zg8(p:Pg)(ok:PgOk p)(c:Nat)(hc:c<256)(w:World):
  Calls prog 174 #[oX p,.int .i64 c] w fun e w'=>e=.returned (oX (fS p c))/\Kt nO w w':=by
 rcases vE hc with h|h|h|h
 ·rw[show fS p c={ p with b0:=p.b0 ^^^ 2 ^ (c%64) } by simp[fS,h]];exact zj8 _ _ _ _ ok.b0 c h w
 ·rw[show fS p c={ p with b1:=p.b1 ^^^ 2 ^ (c%64) } by simp[fS,h]];exact YD _ _ _ _ ok.b1 c h w
 ·rw[show fS p c={ p with b2:=p.b2 ^^^ 2 ^ (c%64) } by simp[fS,h]];exact YB _ _ _ _ ok.b2 c h w
 ·rw[show fS p c={ p with b3:=p.b3 ^^^ 2 ^ (c%64) } by simp[fS,h]];exact XY _ _ _ _ ok.b3 c h w
theorem PgOk.turn{p:Pg}(ok:PgOk p)(c:Nat):PgOk (fS p c):=by
 have hr:c%64<64:=by omega
 unfold fS;split
 ·exact⟨ok.o0,ok.o8,ok.c0,ok.c7,tW _ _ ok.b0 hr,ok.b1,ok.b2,ok.b3⟩
 ·exact⟨ok.o0,ok.o8,ok.c0,ok.c7,ok.b0,tW _ _ ok.b1 hr,ok.b2,ok.b3⟩
 ·exact⟨ok.o0,ok.o8,ok.c0,ok.c7,ok.b0,ok.b1,tW _ _ ok.b2 hr,ok.b3⟩
 ·exact⟨ok.o0,ok.o8,ok.c0,ok.c7,ok.b0,ok.b1,ok.b2,tW _ _ ok.b3 hr⟩
theorem nS(p:Pg)(c:Nat):(fS p c).kd=p.kd/\(fS p c).od=p.od/\(fS p c).cl=p.cl/\(fS p c).lv=p.lv/\(fS p c).nx=p.nx/\(fS p c).pv=p.pv/\(fS p c).fs=p.fs:=by
 unfold fS;split <;> exact⟨rfl,rfl,rfl,rfl,rfl,rfl,rfl⟩
theorem MpA.rowg{w b B m}{g:Nat}(h:MpA w b B m)(hg:B.g=some g):cR w g m.n m.pg:=by
 have hr:=h.row;rwa [hg] at hr
theorem XV{c:Int}(h : 0<=c):fD c<=256:=Nat.div_le_self _ _
theorem QS{cl c:Int}(h0 : 0<=cl)(h:aJ (fD cl) c=true):∃ k:Nat,c=k/\k<256:=by
 obtain⟨k,rfl,hk⟩:=iO h;exact⟨k,rfl,Nat.lt_of_lt_of_le hk (XV h0)⟩
theorem TS(b:Nat)(B:Bs)(m:Mp)(i c:Int)(live:Bool)(w:World)(h:MpA w b B m)(hi:aJ m.n i=false):
  Calls prog 128 #[.pointer (some ⟨b,0,none⟩),.int .i64 i,.int .i64 c,.bool live] w fun e w'=>e=.returned (.int .i64 1)/\w'=w:=by
 have HM:=aA h;have HI:=aA hi;clear h hi;go_enter func128,ntmps128;go_wp2_with fail;refine(xC b B m i _ HM.out HI.out).mono ?_;rintro e w1 ⟨rfl,rfl⟩;go_wp2_with fail;go_ret;exact⟨rfl,rfl⟩
theorem XU(b:Nat)(B:Bs)(m:Mp)(k:Nat)(c:Int)(live:Bool)(w:World)(h:MpA w b B m)(hk:k<m.n)(hkd:(m.pg k).kd≠4):
  Calls prog 128 #[.pointer (some ⟨b,0,none⟩),.int .i64 k,.int .i64 c,.bool live] w fun e w'=>e=.returned (.int .i64 1)/\w'=w:=by
 have HM:=aA h;obtain⟨g,hg,hr⟩:=h.has_row (by omega);have S:=aA (lU b B m g k w h hg hk);rw[if_neg hkd] at S;clear h hr hg;go_enter func128,ntmps128;go_wp2_with fail;refine S.out.mono ?_;rintro e w1 ⟨rfl,rfl⟩;go_wp2_with fail;go_ret;exact⟨rfl,rfl⟩
theorem XT(b:Nat)(B:Bs)(m:Mp)(k:Nat)(c:Int)(live:Bool)(w:World)(h:MpA w b B m)(hk:k<m.n)(hkd:(m.pg k).kd=4)(hc:aJ (fD (m.pg k).cl) c=false):
  Calls prog 128 #[.pointer (some ⟨b,0,none⟩),.int .i64 k,.int .i64 c,.bool live] w fun e w'=>e=.returned (.int .i64 1)/\w'=w:=by
 have HM:=aA h;obtain⟨g,hg,hr⟩:=h.has_row (by omega);have S:=aA (lU b B m g k w h hg hk);rw[if_pos hkd] at S;obtain⟨d0,d1,d2,d3,d4,d5,d6,d7,d8,d9,d10⟩:=hr.cell k hk;have HC:=aA (sC g (k*11) (m.pg k).cl (h.ok k hk).c0 (h.ok k hk).c7 c w d2);rw[hc] at HC;clear h hr hg;go_enter func128,ntmps128;go_wp2_with fail;refine S.out.mono ?_;rintro e w1 ⟨rfl,rfl⟩;go_wp2_with fail;refine HC.out.mono ?_;rintro e w1 ⟨rfl,rfl⟩;go_wp2_with fail;go_ret;exact⟨rfl,rfl⟩
theorem XS(b:Nat)(B:Bs)(m:Mp)(k c:Nat)(w:World)(h:MpA w b B m)(hk:k<m.n)(hkd:(m.pg k).kd=4)(hc:aJ (fD (m.pg k).cl) (c:Int)=true)(hc2:c<256):
  Calls prog 128 #[.pointer (some ⟨b,0,none⟩),.int .i64 k,.int .i64 c,.bool (aN (m.pg k) c)] w fun e w'=>e=.returned (.int .i64 1)/\Kt nO w w':=by
 have HM:=aA h;obtain⟨g,hg,hr⟩:=h.has_row (by omega);have S:=aA (lU b B m g k w h hg hk);rw[if_pos hkd] at S;obtain⟨d0,d1,d2,d3,d4,d5,d6,d7,d8,d9,d10⟩:=hr.cell k hk;have HC:=aA (sC g (k*11) (m.pg k).cl (h.ok k hk).c0 (h.ok k hk).c7 c w d2);rw[hc] at HC;have HL:=aA (JF (m.pg k) (h.ok k hk) c hc2 w);generalize aN (m.pg k) c=lv at *;clear h hr hg;go_enter func128,ntmps128;go_wp2_with fail;refine S.out.mono ?_;rintro e w1 ⟨rfl,rfl⟩;go_wp2_with fail;refine HC.out.mono ?_;rintro e w1 ⟨rfl,rfl⟩;go_wp2_with fail;refine HL.out.mono ?_;rintro e w2 ⟨rfl,k2⟩;have K2:=aA k2;clear k2
 cases lv
 all_goals
  go_wp2_with fail;go_ret;exact⟨rfl,K2.out⟩
theorem cR.bits{w g n pg}(h:cR w g n pg)(i:Nat)(hi:i<n)(t:Pg)(x:Int)(hr:t.kd=(pg i).kd/\t.od=(pg i).od/\t.cl=(pg i).cl/\t.lv=(pg i).lv/\t.nx=(pg i).nx/\t.pv=(pg i).pv/\t.fs=(pg i).fs):
  cR (((((w.setCell ⟨g,i*11+7,none⟩ (.int .u64 t.b0)).setCell ⟨g,i*11+7+1,none⟩ (.int .u64 t.b1)).setCell ⟨g,i*11+7+2,none⟩ (.int .u64 t.b2)).setCell ⟨g,i*11+7+3,none⟩ (.int .u64 t.b3)).setCell ⟨g,i*11+3,none⟩ (.int .i64 x)) g n (aI pg i { t with lv:=x }):=by
 have:=(((((bF.set h i 7 hi (by decide) (.int .u64 t.b0)).set i 8 hi (by decide) (.int .u64 t.b1)).set i 9 hi (by decide) (.int .u64 t.b2)).set i 10 hi (by decide) (.int .u64 t.b3)).set i 3 hi (by decide) (.int .i64 x));obtain⟨e0,e1,e2,e3,e4,e5,e6⟩:=hr;refine bF.congr this (fun a ha b hb=>tN a b hb (fun j hj=>?_) (fun e=>?_))
 ·revert j
  apply lK <;> simp[mC,Pg.fld,e0,e1,e2,e4,e5,e6]
 ·simp[mC,e]
def aW(p:Pg)(c:Nat):Pg:={ fS p c with lv:=wrap64 (if aN p c=true then p.lv-1 else p.lv+1) }
theorem XR(b:Nat)(B:Bs)(m:Mp)(k c:Nat)(w:World)(h:MpA w b B m)(hk:k<m.n)(hkd:(m.pg k).kd=4)(hc:aJ (fD (m.pg k).cl) (c:Int)=true)(hc2:c<256):
  Calls prog 128 #[.pointer (some ⟨b,0,none⟩),.int .i64 k,.int .i64 c,.bool (!aN (m.pg k) c)] w fun e w'=>e=.returned (.int .i64 0)/\MpA w' b B { m with pg:=aI m.pg k (aW (m.pg k) c) }/\Kt (aY b B m.o) w w':=by
 have HM:=aA h;obtain⟨g,hg,hr⟩:=h.has_row (by omega);have S:=aA (lU b B m g k w h hg hk);rw[if_pos hkd] at S;obtain⟨d0,d1,d2,d3,d4,d5,d6,d7,d8,d9,d10⟩:=hr.cell k hk;have HC:=aA (sC g (k*11) (m.pg k).cl (h.ok k hk).c0 (h.ok k hk).c7 c w d2);rw[hc] at HC;have HL:=aA (JF (m.pg k) (h.ok k hk) c hc2 w);have HT:=aA (zg8 (m.pg k) (h.ok k hk) c hc2);have OP:=aA (show aW (m.pg k) c={ fS (m.pg k) c with lv:=wrap64 (if aN (m.pg k) c=true then (m.pg k).lv-1 else (m.pg k).lv+1) } from rfl);have HG:=aA hg;have HK:=aA hk;have OK:=aA ((h.ok k hk).turn c);have TR:=aA (nS (m.pg k) c);generalize fS (m.pg k) c=tp at *;generalize aN (m.pg k) c=lv at *;clear h hr hg hk;go_enter func128,ntmps128;go_wp2_with fail;refine S.out.mono ?_;rintro e w1 ⟨rfl,rfl⟩;go_wp2_with fail;refine HC.out.mono ?_;rintro e w1 ⟨rfl,rfl⟩;go_wp2_with fail;refine HL.out.mono ?_;rintro e w2 ⟨rfl,k2⟩;have M2:=aA (HM.out.keep k2);have K2:=aA k2;clear k2 d0 d1 d2 d3 d4 d5 d6 d7 d8 d9 d10;obtain⟨d0,d1,d2,d3,d4,d5,d6,d7,d8,d9,d10⟩:=(M2.out.rowg HG.out).cell k HK.out
 cases lv
 all_goals
  go_wp2_with fail;refine(HT.out _).mono ?_;rintro e w3 ⟨rfl,k3⟩;have M3:=aA (M2.out.keep k3);have K3:=aA (nT K2.out k3);clear k3 d0 d1 d2 d3 d4 d5 d6 d7 d8 d9 d10;obtain⟨d0,d1,d2,d3,d4,d5,d6,d7,d8,d9,d10⟩:=(M3.out.rowg HG.out).cell k HK.out;have z:=bF.froz (M3.out.rowg HG.out);go_wp2_with fail;go_ret;rw[OP.out];refine⟨rfl,M3.out.pages HG.out ?_ ((M3.out.rowg HG.out).bits k HK.out tp _ TR.out) (fun i hi=>?_),?_⟩
  ·exact(((((Kt.refl (fun x=>x=g) w3).setCell (p:=⟨g,_,none⟩) rfl _).setCell (p:=⟨g,_,none⟩) rfl _).setCell (p:=⟨g,_,none⟩) rfl _).setCell (p:=⟨g,_,none⟩) rfl _).setCell (p:=⟨g,_,none⟩) rfl _
  ·unfold aI;split
   ·exact⟨OK.out.o0,OK.out.o8,OK.out.c0,OK.out.c7,OK.out.b0,OK.out.b1,OK.out.b2,OK.out.b3⟩
   ·exact M3.out.ok i hi
  ·exact((((((K3.out.mono (fun _ _ x=>x.elim)).setCell (p:=⟨g,_,none⟩) (.inr (.inl HG.out)) _).setCell (p:=⟨g,_,none⟩) (.inr (.inl HG.out)) _).setCell (p:=⟨g,_,none⟩) (.inr (.inl HG.out)) _).setCell (p:=⟨g,_,none⟩) (.inr (.inl HG.out)) _).setCell (p:=⟨g,_,none⟩) (.inr (.inl HG.out)) _)
theorem XQ(k o:Nat)(ho:o<=8)(hk:k<1024):wrap64 ((k:Int)/2 ^ o*2 ^ o)=((k/2 ^ o*2 ^ o:Nat):Int):=by
 have h1:k/2 ^ o*2 ^ o<=k:=Nat.div_mul_le_self _ _;have h2:((k:Int)/2 ^ o*2 ^ o)=((k/2 ^ o*2 ^ o:Nat):Int):=by simp
 rw[h2];generalize k/2 ^ o*2 ^ o=z at *;unfold wrap64;omega
def lE(m:Mp)(i:Int):Int:=if aJ m.n i=true then ((i.toNat/2 ^ (m.pg i.toNat).od.toNat*2 ^ (m.pg i.toNat).od.toNat:Nat):Int) else -1
theorem XP(b:Nat)(B:Bs)(m:Mp)(i:Int)(w:World)(h:MpA w b B m)(hi:aJ m.n i=false):
  Calls prog 125 #[.pointer (some ⟨b,0,none⟩),.int .i64 i] w fun e w'=>e=.returned (.int .i64 (-1))/\w'=w:=by
 have HM:=aA h;have HI:=aA hi;clear h hi;go_enter func125,ntmps125;go_wp2_with fail;refine(gI b B m i _ HM.out).mono ?_;rintro e w1 ⟨rfl,rfl⟩;rw[HI.out];go_wp2_with fail;go_ret;exact⟨rfl,rfl⟩
theorem TQ(b:Nat)(B:Bs)(m:Mp)(k o:Nat)(w:World)(h:MpA w b B m)(hk:k<m.n)(ho:(m.pg k).od=o):
  Calls prog 125 #[.pointer (some ⟨b,0,none⟩),.int .i64 k] w fun e w'=>e=.returned (.int .i64 ((k/2 ^ o*2 ^ o:Nat):Int))/\w'=w:=by
 have HM:=aA h;have HI:=aA (dQ hk);have ho8:o<=8:=by have:=(h.ok k hk).o8;omega
 have hkn:k<1024:=by have:=h.n1;omega
 obtain⟨g,hg,hr⟩:=h.has_row (by omega);have d1:=(hr.cell k hk).2.1;rw[ho] at d1;have c1:=h.c1 hg;have hki:(k:Int)<m.n:=by omega
 have HE:=aA (XQ k o ho8 hkn);clear h hr hg;go_enter func125,ntmps125;go_wp2_with fail;refine(gI b B m k _ HM.out).mono ?_;rintro e w1 ⟨rfl,rfl⟩;rw[HI.out];go_wp2_with fail;go_ret;exact⟨eJ HE.out,rfl⟩
theorem cR.f6{w g n pg}(h:cR w g n pg)(i:Nat)(hi:i<n)(x:Int):cR (w.setCell ⟨g,i*11+6,none⟩ (.int .i64 x)) g n (aI pg i { pg i with fs:=x }):=by
 have:=bF.set h i 6 hi (by decide) (.int .i64 x);refine bF.congr this (fun a ha b hb=>tN a b hb (fun j hj=>?_) (fun e=>?_))
 ·revert j
  apply lK <;> simp[mC,Pg.fld]
 ·simp[mC,e]
theorem zhV(b:Nat)(B:Bs)(m:Mp)(i c:Int)(w:World)(h:MpA w b B m)(hi:aJ m.n i=false):
  Calls prog 179 #[.pointer (some ⟨b,0,none⟩),.int .i64 i,.int .i64 c] w fun e w'=>e=.returned (.int .i64 1)/\w'=w:=by
 have HM:=aA h;have HI:=aA hi;clear h hi;go_enter func179,ntmps179;go_wp2_with fail;refine(xC b B m i _ HM.out HI.out).mono ?_;rintro e w1 ⟨rfl,rfl⟩;go_wp2_with fail;go_ret;exact⟨rfl,rfl⟩
theorem zg9(b:Nat)(B:Bs)(m:Mp)(k:Nat)(c:Int)(w:World)(h:MpA w b B m)(hk:k<m.n)(hkd:(m.pg k).kd≠4):
  Calls prog 179 #[.pointer (some ⟨b,0,none⟩),.int .i64 k,.int .i64 c] w fun e w'=>e=.returned (.int .i64 1)/\w'=w:=by
 have HM:=aA h;obtain⟨g,hg,hr⟩:=h.has_row (by omega);have S:=aA (lU b B m g k w h hg hk);rw[if_neg hkd] at S;clear h hr hg;go_enter func179,ntmps179;go_wp2_with fail;refine S.out.mono ?_;rintro e w1 ⟨rfl,rfl⟩;go_wp2_with fail;go_ret;exact⟨rfl,rfl⟩
theorem zha(b:Nat)(B:Bs)(m:Mp)(k:Nat)(c:Int)(w:World)(h:MpA w b B m)(hk:k<m.n)(hkd:(m.pg k).kd=4)(hm1:c ≠ -1)(hc:aJ (fD (m.pg k).cl) c=false):
  Calls prog 179 #[.pointer (some ⟨b,0,none⟩),.int .i64 k,.int .i64 c] w fun e w'=>e=.returned (.int .i64 1)/\w'=w:=by
 have HM:=aA h;obtain⟨g,hg,hr⟩:=h.has_row (by omega);have S:=aA (lU b B m g k w h hg hk);rw[if_pos hkd] at S;obtain⟨d0,d1,d2,d3,d4,d5,d6,d7,d8,d9,d10⟩:=hr.cell k hk;have HC:=aA (sC g (k*11) (m.pg k).cl (h.ok k hk).c0 (h.ok k hk).c7 c w d2);rw[hc] at HC;clear h hr hg;go_enter func179,ntmps179;go_wp2_with fail;refine S.out.mono ?_;rintro e w1 ⟨rfl,rfl⟩;go_wp2_with fail;refine HC.out.mono ?_;rintro e w1 ⟨rfl,rfl⟩;go_wp2_with fail;go_ret;exact⟨rfl,rfl⟩
theorem XO(b:Nat)(B:Bs)(m:Mp)(k:Nat)(c:Int)(w:World)(h:MpA w b B m)(hk:k<m.n)(hkd:(m.pg k).kd=4)(hc:c = -1\/aJ (fD (m.pg k).cl) c=true):
  Calls prog 179 #[.pointer (some ⟨b,0,none⟩),.int .i64 k,.int .i64 c] w fun e w'=>e=.returned (.int .i64 0)/\MpA w' b B { m with pg:=aI m.pg k { m.pg k with fs:=c } }/\Kt (aY b B m.o) w w':=by
 have HM:=aA h;obtain⟨g,hg,hr⟩:=h.has_row (by omega);have S:=aA (lU b B m g k w h hg hk);rw[if_pos hkd] at S;obtain⟨d0,d1,d2,d3,d4,d5,d6,d7,d8,d9,d10⟩:=hr.cell k hk;have HC:=aA (sC g (k*11) (m.pg k).cl (h.ok k hk).c0 (h.ok k hk).c7 c w d2);have z:=bF.froz hr;have FIN:=aA (show MpA (w.setCell ⟨g,k*11+6,none⟩ (.int .i64 c)) b B { m with pg:=aI m.pg k { m.pg k with fs:=c } }/\Kt (aY b B m.o) w (w.setCell ⟨g,k*11+6,none⟩ (.int .i64 c))from
  ⟨h.pages hg ((Kt.refl (fun x=>x=g) w).setCell (p:=⟨g,_,none⟩) rfl _) (hr.f6 k hk c) (fun i hi=>by
   unfold aI;split
   ·exact⟨(h.ok k hk).o0,(h.ok k hk).o8,(h.ok k hk).c0,(h.ok k hk).c7,(h.ok k hk).b0,(h.ok k hk).b1,(h.ok k hk).b2,(h.ok k hk).b3⟩
   ·exact h.ok i hi),(Kt.refl (aY b B m.o) w).setCell (p:=⟨g,_,none⟩) (.inr (.inl hg)) _⟩)
 clear h hr hg;by_cases h1:c = -1
 ·subst h1;clear hc;go_enter func179,ntmps179;go_wp2_with fail;refine S.out.mono ?_;rintro e w1 ⟨rfl,rfl⟩;go_wp2_with fail;go_ret;exact⟨rfl,FIN.out⟩
 ·rw[hc.resolve_left h1] at HC;clear hc;go_enter func179,ntmps179;go_wp2_with fail;refine S.out.mono ?_;rintro e w1 ⟨rfl,rfl⟩;go_wp2_with fail;refine HC.out.mono ?_;rintro e w1 ⟨rfl,rfl⟩;go_wp2_with fail;go_ret;exact⟨rfl,FIN.out⟩
def dF(n:Nat)(x:Int):Bool:=x == -1 || aJ n x
theorem cR.f45{w g n pg}(h:cR w g n pg)(i:Nat)(hi:i<n)(x y:Int):cR ((w.setCell ⟨g,i*11+4,none⟩ (.int .i64 x)).setCell ⟨g,i*11+5,none⟩ (.int .i64 y)) g n (aI pg i { pg i with nx:=x,pv:=y }):=by
 have:=(bF.set h i 4 hi (by decide) (.int .i64 x)).set i 5 hi (by decide) (.int .i64 y);refine bF.congr this (fun a ha b hb=>tN a b hb (fun j hj=>?_) (fun e=>?_))
 ·revert j
  apply lK <;> simp[mC,Pg.fld]
 ·simp[mC,e]
theorem zhW(b:Nat)(B:Bs)(m:Mp)(i x y:Int)(w:World)(h:MpA w b B m)(hi:aJ m.n i=false):
  Calls prog 177 #[.pointer (some ⟨b,0,none⟩),.int .i64 i,.int .i64 x,.int .i64 y] w fun e w'=>e=.returned (.int .i64 1)/\w'=w:=by
 have HM:=aA h;have HI:=aA hi;clear h hi;go_enter func177,ntmps177;go_wp2_with fail;refine(xC b B m i _ HM.out HI.out).mono ?_;rintro e w1 ⟨rfl,rfl⟩;go_wp2_with fail;go_ret;exact⟨rfl,rfl⟩
theorem zhb(b:Nat)(B:Bs)(m:Mp)(k:Nat)(x y:Int)(w:World)(h:MpA w b B m)(hk:k<m.n)(hkd:(m.pg k).kd≠4):
  Calls prog 177 #[.pointer (some ⟨b,0,none⟩),.int .i64 k,.int .i64 x,.int .i64 y] w fun e w'=>e=.returned (.int .i64 1)/\w'=w:=by
 have HM:=aA h;obtain⟨g,hg,hr⟩:=h.has_row (by omega);have S:=aA (lU b B m g k w h hg hk);rw[if_neg hkd] at S;clear h hr hg;go_enter func177,ntmps177;go_wp2_with fail;refine S.out.mono ?_;rintro e w1 ⟨rfl,rfl⟩;go_wp2_with fail;go_ret;exact⟨rfl,rfl⟩
theorem zhc(b:Nat)(B:Bs)(m:Mp)(k:Nat)(x y:Int)(w:World)(h:MpA w b B m)(hk:k<m.n)(hkd:(m.pg k).kd=4)(hx:x ≠ -1)(hx2:aJ m.n x=false):
  Calls prog 177 #[.pointer (some ⟨b,0,none⟩),.int .i64 k,.int .i64 x,.int .i64 y] w fun e w'=>e=.returned (.int .i64 1)/\w'=w:=by
 have HM:=aA h;obtain⟨g,hg,hr⟩:=h.has_row (by omega);have S:=aA (lU b B m g k w h hg hk);rw[if_pos hkd] at S;have HX:=aA hx2;clear h hr hg hx2;go_enter func177,ntmps177;go_wp2_with fail;refine S.out.mono ?_;rintro e w1 ⟨rfl,rfl⟩;go_wp2_with fail;refine(gI b B m x _ HM.out).mono ?_;rintro e w1 ⟨rfl,rfl⟩;rw[HX.out];go_wp2_with fail;go_ret;exact⟨rfl,rfl⟩
theorem JE(b:Nat)(B:Bs)(m:Mp)(k:Nat)(x y:Int)(w:World)(h:MpA w b B m)(hk:k<m.n)(hkd:(m.pg k).kd=4)(hx:dF m.n x=true)(R:Int)(W:World)
  (hR:(dF m.n y=false/\R=1/\W=w)\/(dF m.n y=true/\R=0/\∃ g,B.g=some g/\W=(w.setCell ⟨g,k*11+4,none⟩ (.int .i64 x)).setCell ⟨g,k*11+5,none⟩ (.int .i64 y))):
  Calls prog 177 #[.pointer (some ⟨b,0,none⟩),.int .i64 k,.int .i64 x,.int .i64 y] w fun e w'=>e=.returned (.int .i64 R)/\w'=W:=by
 have HM:=aA h;obtain⟨g,hg,hr⟩:=h.has_row (by omega);have S:=aA (lU b B m g k w h hg hk);rw[if_pos hkd] at S;have HX:=aA hx;obtain⟨d0,d1,d2,d3,d4,d5,d6,d7,d8,d9,d10⟩:=hr.cell k hk;have z:=bF.froz hr;have hR2:(dF m.n y=false/\R=1/\W=w)\/(dF m.n y=true/\R=0/\W=(w.setCell ⟨g,k*11+4,none⟩ (.int .i64 x)).setCell ⟨g,k*11+5,none⟩ (.int .i64 y)):=by
  rcases hR with h|⟨h1,h2,g',hg',h3⟩
  ·exact .inl h
  ·rw[hg] at hg'
   cases hg'
   exact .inr ⟨h1,h2,h3⟩
 have HR:=aA hR2;clear h hr hg hx hR hR2 d0 d1 d2 d3 d6 d7 d8 d9 d10;by_cases hx1:x = -1
 all_goals by_cases hy1:y = -1
 ·subst hx1 hy1;have hR3:=(HR.out.resolve_left (fun h=>by simp[dF] at h)).2;obtain⟨rfl,rfl⟩:=hR3;clear HR;go_enter func177,ntmps177;go_wp2_with fail;refine S.out.mono ?_;rintro e w1 ⟨rfl,rfl⟩;go_wp2_with fail;go_ret;exact⟨rfl,rfl⟩
 ·subst hx1;go_enter func177,ntmps177;go_wp2_with fail;refine S.out.mono ?_;rintro e w1 ⟨rfl,rfl⟩;go_wp2_with fail;refine(gI b B m y _ HM.out).mono ?_;rintro e w2 ⟨rfl,rfl⟩;rcases HR.out with ⟨h1,rfl,rfl⟩|⟨h1,rfl,rfl⟩
  ·rw[show aJ m.n y=false by simpa [dF,hy1] using h1];clear h1 HR;go_wp2_with fail;go_ret;exact⟨rfl,rfl⟩
  ·rw[show aJ m.n y=true by simpa [dF,hy1] using h1];clear h1 HR;go_wp2_with fail;go_ret;exact⟨rfl,rfl⟩
 ·subst hy1;have hR3:=(HR.out.resolve_left (fun h=>by simp[dF] at h)).2;obtain⟨rfl,rfl⟩:=hR3;have HX2:=aA (show aJ m.n x=true by simpa [dF,hx1] using HX.out);clear HR;go_enter func177,ntmps177;go_wp2_with fail;refine S.out.mono ?_;rintro e w1 ⟨rfl,rfl⟩;go_wp2_with fail;refine(gI b B m x _ HM.out).mono ?_;rintro e w2 ⟨rfl,rfl⟩;rw[HX2.out];go_wp2_with fail;go_ret;exact⟨rfl,rfl⟩
 ·have HX2:=aA (show aJ m.n x=true by simpa [dF,hx1] using HX.out);go_enter func177,ntmps177;go_wp2_with fail;refine S.out.mono ?_;rintro e w1 ⟨rfl,rfl⟩;go_wp2_with fail;refine(gI b B m x _ HM.out).mono ?_;rintro e w2 ⟨rfl,rfl⟩;rw[HX2.out];go_wp2_with fail;refine(gI b B m y _ HM.out).mono ?_;rintro e w2 ⟨rfl,rfl⟩;rcases HR.out with ⟨h1,rfl,rfl⟩|⟨h1,rfl,rfl⟩
  ·rw[show aJ m.n y=false by simpa [dF,hy1] using h1];clear h1 HR;go_wp2_with fail;go_ret;exact⟨rfl,rfl⟩
  ·rw[show aJ m.n y=true by simpa [dF,hy1] using h1];clear h1 HR;go_wp2_with fail;go_ret;exact⟨rfl,rfl⟩
theorem zef(k c:Nat)(hk:k<8)(hc:c<=1024)(w:World):
  Calls prog 219 #[.int .i64 k,.int .i64 c] w fun e w'=>e=.returned (.int .i64 ((c/2 ^ (k+1):Nat):Int))/\w'=w:=by
 go_enter func219,ntmps219;go_wp2_with fail;go_ret;exact⟨eJ (by simp),rfl⟩
theorem sA(b:Nat)(B:Bs)(m:Mp)(k i:Int)(w:World)(h:MpA w b B m):
  Calls prog 223 #[.pointer (some ⟨b,0,none⟩),.int .i64 k,.int .i64 i] w fun e w'=>e=.returned (.bool (aJ m.o k && aJ m.n i))/\w'=w:=by
 have HM:=aA h;have c0:=h.c0;clear h
 cases hk:aJ m.o k with
 | true=>
  obtain⟨j,rfl,hj⟩:=iO hk;rw[Bool.true_and];have hji:(j:Int)<m.o:=by omega
  clear hk;go_enter func223,ntmps223;go_wp2_with fail;refine(gI b B m i _ HM.out).mono ?_;rintro e w1 ⟨rfl,rfl⟩;go_wp2_with fail;go_ret;exact⟨rfl,rfl⟩
 | false=>
  rw[Bool.false_and];by_cases h0 : 0<=k
  ·have h1:¬k<(m.o:Int):=(by simp[aJ,h0] at hk;omega);clear hk;go_enter func223,ntmps223;go_wp2_with fail;go_ret;exact⟨rfl,rfl⟩
  ·clear hk;go_enter func223,ntmps223;go_wp2_with fail;go_ret;exact⟨rfl,rfl⟩
theorem MpA.c2{w b B m}{q:Nat}(h:MpA w b B m)(hq:B.P=some q):∃ cq,w.cell? ⟨b,2,none⟩=some (.slice (some ⟨q,0,none⟩) m.o cq):=by
 obtain⟨cq,hb,_⟩:=h.hb;exact⟨cq,by simp[World.cell?,hb,hq,adr]⟩
theorem tG(k:Nat) : 0<2 ^ k:=Nat.pow_pos (by decide)
theorem TN(b:Nat)(B:Bs)(m:Mp)(k i:Nat)(w:World)(h:MpA w b B m)(hk:k<m.o)(hi:i<m.n):
  Calls prog 222 #[.pointer (some ⟨b,0,none⟩),.int .i64 k,.int .i64 i] w fun e w'=>e=.returned (.bool (kI (m.n/2 ^ (k+1)) (m.wd k) ((i/2 ^ (k+1):Nat):Int)))/\Kt nO w w':=by
 have HQ:=aA (fun q=>sA b B m k i (w.drewN q) (h.keep ((Kt.refl nO w).drewN q)));rw[show(aJ m.o (k:Int) && aJ m.n (i:Int))=true by rw[dQ hk,dQ hi];rfl] at HQ;obtain⟨q,hq,cp⟩:=h.cp k hk;obtain⟨cq,c2⟩:=h.c2 hq;have HG:=aA (fun z=>DG (B.S k) (B.C k) _ (m.wd k) ((i/2 ^ (k+1):Nat):Int) (w.drewN z) ((h.set k hk).kept ((Kt.refl nO w).drewN z) (fun x=>x) (fun x=>x)));have hk8:k<8:=by have:=h.o8;omega
 have hi10:i<1024:=by have:=h.n1;omega
 have hki:(k:Int)<m.o:=by omega
 clear h hq;go_enter func222,ntmps222;go_wp2_with fail;go_quiet (first|(go_at_call 223;exact Calls.quiet_of_same (HQ.out _))|(go_at_call 229;exact Calls.quiet_of_same (HG.out _)))
 go_wp2_with fail;go_ret;exact⟨rfl,(Kt.refl nO w).drewN _⟩
end Go.Proofs.YtbgbfpklgfpepaaGreatDoor
