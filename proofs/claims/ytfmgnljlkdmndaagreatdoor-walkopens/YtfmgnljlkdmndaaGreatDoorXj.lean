import Derived.Test.YtfmgnljlkdmndaaGreatDoorXh
import Derived.Laws.Rows
set_option maxRecDepth 1000000
set_option maxHeartbeats 0
namespace Go.Proofs.YtfmgnljlkdmndaaGreatDoor
namespace W
open Tryz RowKit
set_option linter.unusedVariables false
abbrev fP:Pg:=⟨0,1,0,0,-1,-1,-1,0,0,0,0⟩
abbrev fx:Pg:=⟨1,1,0,0,-1,-1,-1,0,0,0,0⟩
def bK:Img:=⟨65536,2,1,1,8192,fun _=>0,2,fun i=>if i=0 then fP else fx,1,fun _=>[0],[0,65536],[-1,-1,-1,-1,-1,-1,-1,-1]⟩
def mW(s:Nat)(w:Wd)(v:Vl)(n:Nat)(T:TypeId)(cs:Array Vl):Prop:=∃ b,s<b/\v=.slice (some ⟨b,0,none⟩) n n/\w.heap[b]?=some (.cells cs T)
abbrev vpC:Array Vl:=#[.int .i64 0,.int .i64 1,.int .i64 0,.int .i64 0,.int .i64 (-1),.int .i64 (-1),.int .i64 (-1),.int .u64 0,.int .u64 0,.int .u64 0,.int .u64 0,.int .i64 1,.int .i64 1,.int .i64 0,.int .i64 0,.int .i64 (-1),.int .i64 (-1),.int .i64 (-1),.int .u64 0,.int .u64 0,.int .u64 0,.int .u64 0]
abbrev vtC:Array Vl:=#[.int .i64 (-1),.int .i64 (-1),.int .i64 (-1),.int .i64 (-1),.int .i64 (-1),.int .i64 (-1),.int .i64 (-1),.int .i64 (-1)]
def vM(s:Nat)(w:Wd)(v:Vl):Prop:=(SlIn w v 8192 (ByC w fun _=>0)/\∀ a n c,v=.slice a n c->n<=c)/\mW s w v 8192 5 (zb 8192)
def vP(s:Nat)(w:Wd)(v:Vl):Prop:=(SlIn w v 2 fun bl o i=>PgIn (bK.pg i)/\PgC w bl o i (bK.pg i))/\mW s w v 2 97 vpC
def vW(s:Nat)(w:Wd)(v:Vl):Prop:=Src w v [0]/\mW s w v 1 22 #[.int .u64 0]
def vR(s:Nat)(w:Wd)(v:Vl):Prop:=(∃ ws:Nat->Vl,SlIn w v 1 fun bl o i=>w.cell? ⟨bl,o+i,none⟩=some (ws i)/\Src w (ws i) [0])/\∃ u,mW s w v 1 39 #[u]/\vW s w u
def vH(s:Nat)(w:Wd)(v:Vl):Prop:=SlIn w v 2 (WdC w [0,65536])/\mW s w v 2 22 #[.int .u64 0,.int .u64 65536]
def vT(s:Nat)(w:Wd)(v:Vl):Prop:=SlIn w v 8 (InC w [-1,-1,-1,-1,-1,-1,-1,-1])/\mW s w v 8 3 vtC
structure VoK(s:Nat)(w:Wd)(V:ImV):Prop where
 m:vM s w V.m
 p:vP s w V.p
 r:vR s w V.r
 h:vH s w V.h
 t:vT s w V.t
theorem VoK.d{s:Nat}{w:Wd}{V:ImV}(h:VoK s w V):ImD w bK V:=
 ⟨by decide,by decide,by decide,by decide,h.m.1.1,h.m.1.2,h.p.1,h.r.1,h.h.1,h.t.1⟩
def St(s:Nat)(w:Wd)(X:Wd->Prop):Prop:=∀ W,Kt (fun b=>b=s) w W->X W
theorem St.dk{s:Nat}{w W:Wd}{X:Wd->Prop}(h:St s w X)(k:Kt nO w W):St s W X:=fun V a=>h V (k.trans a (fun _ _ x=>x.elim) (fun _ _ x=>x))
theorem St.at{s:Nat}{w:Wd}{X:Wd->Prop}(h:St s w X):X w:=h w (Kt.refl _ _)
abbrev NM:Vl:=.agg #[.int .u64 65536,.int .i64 2,.int .i64 1]
abbrev pE(p:Pg):Vl:=.agg #[.int .i64 p.kd,.int .i64 p.od,.int .i64 p.cl,.int .i64 p.lv,.int .i64 p.nx,.int .i64 p.pv,.int .i64 p.fs,.int .u64 p.b0,.int .u64 p.b1,.int .u64 p.b2,.int .u64 p.b3]
abbrev zK(s:Nat)(v5 v6 v7 v8 v9 v10 v11 v12 v13 v14:Vl):Act:=⟨#[.pointer (some ⟨s,0,none⟩),.pointer (some ⟨s+1,0,none⟩),.pointer (some ⟨s+1+1,0,none⟩),pE fP,pE fx,v5,v6,v7,v8,v9,v10,v11,v12,v13,v14],[]⟩
abbrev jV(p:Pg):Obj:=.cells #[.int .i64 p.kd,.int .i64 p.od,.int .i64 p.cl,.int .i64 p.lv,.int .i64 p.nx,.int .i64 p.pv,.int .i64 p.fs,.int .u64 p.b0,.int .u64 p.b1,.int .u64 p.b2,.int .u64 p.b3] 97
abbrev eK:Obj:=.cells #[.int .u64 0,.int .i64 0,.int .i64 0,.int .i64 0,.slice none 0 0,.slice none 0 0,.slice none 0 0,.slice none 0 0,.slice none 0 0] 42
abbrev rB(w:Wd):Wd:=((w.alloc eK).alloc (jV fP)).alloc (jV fx)
theorem rA(w:Wd):(rB w).drew.heap[w.heap.size]?=some eK:=by
 show(((w.heap.push eK).push (jV fP)).push (jV fx))[w.heap.size]?=_
 rw[df,ac (by simp only[Array.size_push];omega),df,ac (by simp only[Array.size_push];omega),df,ae rfl]
theorem qZ(w:Wd):(rB w).drew.heap[w.heap.size+1]?=some (jV fP):=by
 show(((w.heap.push eK).push (jV fP)).push (jV fx))[w.heap.size+1]?=_
 rw[df,ac (by simp only[Array.size_push];omega),df,ae (by simp only[Array.size_push])]
theorem qY(w:Wd):(rB w).drew.heap[w.heap.size+1+1]?=some (jV fx):=by
 show(((w.heap.push eK).push (jV fP)).push (jV fx))[w.heap.size+1+1]?=_
 rw[df,ae (by simp only[Array.size_push])]
theorem yF(w:Wd):Kt nO w (rB w).drew:=(((Kt.refl _ w).alloc _).alloc _).alloc _ |>.drew
structure IV(s:Nat)(w1:Wd)(F:Act->Wd->Prop)(ls:Array Bool)(a:Act)(w:Wd)(v5 v6 v7 v8 v9 v10 v11 v12 v13 v14:Vl):Prop where
 ea:a=zK s v5 v6 v7 v8 v9 v10 v11 v12 v13 v14
 n:ls.size=11
 k:ls.getD 10 false=false->Kt nO w1 w
 s0:ls.getD 10 false=false->ls.getD 0 false=true->v5=NM
 s1:ls.getD 10 false=false->ls.getD 1 false=true->St s w (vM s · v6)
 s2:ls.getD 10 false=false->ls.getD 2 false=true->v7=pE fP
 s3:ls.getD 10 false=false->ls.getD 3 false=true->v8=pE fx
 s4:ls.getD 10 false=false->ls.getD 4 false=true->St s w (vP s · v9)
 s5:ls.getD 10 false=false->ls.getD 5 false=true->St s w (vW s · v10)
 s6:ls.getD 10 false=false->ls.getD 6 false=true->St s w (vR s · v11)
 s7:ls.getD 10 false=false->ls.getD 7 false=true->St s w (vH s · v12)
 s8:ls.getD 10 false=false->ls.getD 8 false=true->St s w (vT s · v13)
 s9:ls.getD 10 false=false->ls.getD 9 false=true->(∀ j,j<9->j≠2->j≠3->j≠5->ls.getD j false=true)/\St s w (VoK s · ⟨v6,v9,v11,v12,v13⟩)/\v14=imA bK ⟨v6,v9,v11,v12,v13⟩
 my:ls.getD 10 false=true->(∀ j,j<10->ls.getD j false=true)/\F a w
theorem DZ{ls:Array Bool}{i:Nat}(h:ls.getD i true=false):ls.getD i false=false:=by
 rcases du i ls.size with hl|hl
 ·simpa [hl] using h
 ·simp[Array.getElem?_eq_none hl]
theorem YG{ls:Array Bool}{i:Nat}(hl:i<ls.size):(ls.setIfInBounds i true).getD i false=true:=by simp[hl]
theorem IV.put{s i:Nat}{z W W':Wd}{F:Act->Wd->Prop}{ls:Array Bool}{v5 v6 v7 v8 v9 v10 v11 v12 g f u5 u6 u7 u8 u9 u10 u11 u12 u13 u14:Vl}(h:IV s z F ls (zK s v5 v6 v7 v8 v9 v10 v11 v12 g f) W v5 v6 v7 v8 v9 v10 v11 v12 g f)(D:ls.getD i true=false)(hi:i<10)(d:Kt nO W W')(K : 0≠i->u5=v5) (x : 1≠i->u6=v6) (m : 2≠i->u7=v7) (T : 3≠i->u8=v8) (w : 4≠i->u9=v9) (P : 5≠i->u10=v10) (A : 6≠i->u11=v11) (y : 7≠i->u12=v12) (B : 8≠i->u13=g) (R : 9≠i->u14=f)(J:i=0->u5=NM) (n1:i=1->St s W' (vM s · u6)) (E:i=2->u7=pE fP) (S:i=3->u8=pE fx) (N:i=4->St s W' (vP s · u9)) (I:i=5->St s W' (vW s · u10)) (L:i=6->St s W' (vR s · u11)) (G:i=7->St s W' (vH s · u12)) (C:i=8->St s W' (vT s · u13)) (n9:i=9->(∀ j,j<9->j≠2->j≠3->j≠5->ls.getD j false=true)/\St s W' (VoK s · ⟨u6,u9,u11,u12,u13⟩)/\u14=imA bK ⟨u6,u9,u11,u12,u13⟩)
  : IV s z F (ls.setIfInBounds i true) (zK s u5 u6 u7 u8 u9 u10 u11 u12 u13 u14) W' u5 u6 u7 u8 u9 u10 u11 u12 u13 u14:=by
 have hf:=DZ D;have b:ls.getD 10 false=false:=by
  cases c:ls.getD 10 false with
  | false=>rfl
  | true=>rw[(h.my c).1 i hi] at hf;cases hf
 have u:(ls.setIfInBounds i true).getD 10 false=false:=by rw[ec _ (by omega)];exact b
 have Q:=h.k b;refine⟨rfl,by simpa using h.n,fun _=>nT Q d,?_,?_,?_,?_,?_,?_,?_,?_,?_,?_,fun c=>by rw[u] at c;cases c⟩
 ·intro _ a;by_cases e:i=0
  ·exact J e
  ·rw[ec _ e] at a;rw[K (Ne.symm e)];exact h.s0 b a
 ·intro _ a;by_cases e:i=1
  ·exact n1 e
  ·rw[ec _ e] at a;rw[x (Ne.symm e)];exact(h.s1 b a).dk d
 ·intro _ a;by_cases e:i=2
  ·exact E e
  ·rw[ec _ e] at a;rw[m (Ne.symm e)];exact h.s2 b a
 ·intro _ a;by_cases e:i=3
  ·exact S e
  ·rw[ec _ e] at a;rw[T (Ne.symm e)];exact h.s3 b a
 ·intro _ a;by_cases e:i=4
  ·exact N e
  ·rw[ec _ e] at a;rw[w (Ne.symm e)];exact(h.s4 b a).dk d
 ·intro _ a;by_cases e:i=5
  ·exact I e
  ·rw[ec _ e] at a;rw[P (Ne.symm e)];exact(h.s5 b a).dk d
 ·intro _ a;by_cases e:i=6
  ·exact L e
  ·rw[ec _ e] at a;rw[A (Ne.symm e)];exact(h.s6 b a).dk d
 ·intro _ a;by_cases e:i=7
  ·exact G e
  ·rw[ec _ e] at a;rw[y (Ne.symm e)];exact(h.s7 b a).dk d
 ·intro _ a;by_cases e:i=8
  ·exact C e
  ·rw[ec _ e] at a;rw[B (Ne.symm e)];exact(h.s8 b a).dk d
 ·intro _ a;by_cases e:i=9
  ·obtain⟨o,r,q⟩:=n9 e;exact⟨fun j l v p t=>by rw[ec _ (by omega)];exact o j l v p t,r,q⟩
  ·rw[ec _ e] at a;obtain⟨o,r,q⟩:=h.s9 b a;by_cases m:i≠2/\i≠3/\i≠5
   ·rw[o i (by omega) m.1 m.2.1 m.2.2] at hf
    cases hf
   ·rw[x (by omega),w (by omega),A (by omega),y (by omega),B (by omega),R (by omega)];refine⟨fun j l v p t=>?_,r.dk d,q⟩;rw[ec _ (by omega)];exact o j l v p t
theorem kK{a:Array Oper}{ls:Array Bool}{i:Nat}{o:Oper}(b:Region.ready .any a ls=[])(c:a[i]?=some o)(hl:i<ls.size)(hd:∀ e∈o.after,ls.getD e.on false=true):ls.getD i false=true:=by
 cases h:ls.getD i false with
 | true=>rfl
 | false=>
  have:i∈Region.ready .any a ls:=mem_ready.2 ⟨by simpa [hl] using h,o,c,fun e he _=>hd e he⟩;rw[b] at this
  cases this
theorem oM{s:Nat}{W V:Wd}{o:Obj}(hs:s<W.heap.size)(a:Kt (fun b=>b=s) (W.alloc o) V):V.heap[W.heap.size]?=some o:=by have e:(W.alloc o).heap=W.heap.push o:=rfl;exact(a.block _ (by rw[e,Array.size_push];omega) (by omega)).trans (by rw[e,df,ae rfl])
theorem yK{s:Nat}{W:Wd}(hs:s<W.heap.size):St s (W.alloc (.cells (zb 8192) 5)) (vM s · (.slice (some ⟨W.heap.size,0,none⟩) 8192 8192)):=by
 intro V b;have hb:=oM hs b;refine⟨⟨⟨by decide,_,_,rfl,.inr ⟨_,_,rfl,lH hb,fun i hi=>⟨Nat.zero_lt_succ _,?_⟩⟩⟩,?_⟩,_,hs,rfl,hb⟩;·have:=CD 8192 i hi;simp[World.cell?,hb,this]
 ·intro a n c e
  cases e
  exact aj _
theorem yG{s:Nat}{W:Wd}(hs:s<W.heap.size):St s (W.alloc (.cells #[.int .u64 0] 22)) (vW s · (.slice (some ⟨W.heap.size,0,none⟩) 1 1)):=by
 intro V b;have hb:=oM hs b;refine⟨⟨fun i=>?_,_,_,rfl,.inr ⟨_,rfl,lH hb,fun j a=>?_⟩⟩,_,hs,rfl,hb⟩
 ·match i with
  | 0=>decide
  | i+1=>simp
 ·obtain rfl:j=0:=by simpa using a
  simp[World.cell?,hb,Addr.add]
theorem yL{s:Nat}{W:Wd}(hs:s<W.heap.size):St s (W.alloc (.cells #[.int .u64 0,.int .u64 65536] 22)) (vH s · (.slice (some ⟨W.heap.size,0,none⟩) 2 2)):=by
 intro V a;have hb:=oM hs a;refine⟨⟨by decide,_,_,rfl,.inr ⟨_,_,rfl,lH hb,fun i hi=>?_⟩⟩,_,hs,rfl,hb⟩;match i,hi with
 | 0,_=>exact⟨by decide,by simp[World.cell?,hb]⟩
 | 1,_=>exact⟨by decide,by simp[World.cell?,hb]⟩
theorem yH{s:Nat}{W:Wd}(hs:s<W.heap.size):St s (W.alloc (.cells #[.int .i64 (-1),.int .i64 (-1),.int .i64 (-1),.int .i64 (-1),.int .i64 (-1),.int .i64 (-1),.int .i64 (-1),.int .i64 (-1)] 3)) (vT s · (.slice (some ⟨W.heap.size,0,none⟩) 8 8)):=by
 intro V a;have hb:=oM hs a;refine⟨⟨by decide,_,_,rfl,.inr ⟨_,_,rfl,lH hb,fun i hi=>?_⟩⟩,_,hs,rfl,hb⟩;match i,hi with
 | 0,_=>exact⟨by decide,by simp[World.cell?,hb]⟩
 | 1,_=>exact⟨by decide,by simp[World.cell?,hb]⟩
 | 2,_=>exact⟨by decide,by simp[World.cell?,hb]⟩
 | 3,_=>exact⟨by decide,by simp[World.cell?,hb]⟩
 | 4,_=>exact⟨by decide,by simp[World.cell?,hb]⟩
 | 5,_=>exact⟨by decide,by simp[World.cell?,hb]⟩
 | 6,_=>exact⟨by decide,by simp[World.cell?,hb]⟩
 | 7,_=>exact⟨by decide,by simp[World.cell?,hb]⟩
theorem yI{s:Nat}{W:Wd}{v:Vl}(hs:s<W.heap.size)(h:St s W (vW s · v)):St s (W.alloc (.cells #[v] 39)) (vR s · (.slice (some ⟨W.heap.size,0,none⟩) 1 1)):=by
 intro V b;have hb:=oM hs b;have a:=(h.dk ((Kt.refl _ W).alloc _)) V b;refine⟨⟨fun _=>v,by decide,_,_,rfl,.inr ⟨_,_,rfl,lH hb,fun i hi=>?_⟩⟩,v,⟨_,hs,rfl,hb⟩,a⟩;obtain rfl:i=0:=by omega
 exact⟨by simp[World.cell?,hb],a.1⟩
theorem yJ{s:Nat}{W:Wd}(hs:s<W.heap.size):St s (W.alloc (.cells #[.int .i64 0,.int .i64 1,.int .i64 0,.int .i64 0,.int .i64 (-1),.int .i64 (-1),.int .i64 (-1),.int .u64 0,.int .u64 0,.int .u64 0,.int .u64 0,.int .i64 1,.int .i64 1,.int .i64 0,.int .i64 0,.int .i64 (-1),.int .i64 (-1),.int .i64 (-1),.int .u64 0,.int .u64 0,.int .u64 0,.int .u64 0] 97)) (vP s · (.slice (some ⟨W.heap.size,0,none⟩) 2 2)):=by
 intro V b;have hb:=oM hs b;refine⟨⟨by decide,_,_,rfl,.inr ⟨_,_,rfl,lH hb,fun i hi=>?_⟩⟩,_,hs,rfl,hb⟩;match i,hi with
 | 0,_=>exact⟨⟨by decide,by decide,by decide,by decide,by decide,by decide,by decide,by decide,by decide,by decide,by decide⟩,fun j a=>by
   match j,a with
   | 0,_=>simp[World.cell?,hb,bK,Pg.es]
   | 1,_=>simp[World.cell?,hb,bK,Pg.es]
   | 2,_=>simp[World.cell?,hb,bK,Pg.es]
   | 3,_=>simp[World.cell?,hb,bK,Pg.es]
   | 4,_=>simp[World.cell?,hb,bK,Pg.es]
   | 5,_=>simp[World.cell?,hb,bK,Pg.es]
   | 6,_=>simp[World.cell?,hb,bK,Pg.es]
   | 7,_=>simp[World.cell?,hb,bK,Pg.es]
   | 8,_=>simp[World.cell?,hb,bK,Pg.es]
   | 9,_=>simp[World.cell?,hb,bK,Pg.es]
   | 10,_=>simp[World.cell?,hb,bK,Pg.es]⟩
 | 1,_=>exact⟨⟨by decide,by decide,by decide,by decide,by decide,by decide,by decide,by decide,by decide,by decide,by decide⟩,fun j a=>by
   match j,a with
   | 0,_=>simp[World.cell?,hb,bK,Pg.es]
   | 1,_=>simp[World.cell?,hb,bK,Pg.es]
   | 2,_=>simp[World.cell?,hb,bK,Pg.es]
   | 3,_=>simp[World.cell?,hb,bK,Pg.es]
   | 4,_=>simp[World.cell?,hb,bK,Pg.es]
   | 5,_=>simp[World.cell?,hb,bK,Pg.es]
   | 6,_=>simp[World.cell?,hb,bK,Pg.es]
   | 7,_=>simp[World.cell?,hb,bK,Pg.es]
   | 8,_=>simp[World.cell?,hb,bK,Pg.es]
   | 9,_=>simp[World.cell?,hb,bK,Pg.es]
   | 10,_=>simp[World.cell?,hb,bK,Pg.es]⟩
theorem zlK{o:Oper}{a:Act}{w:Wd}{K:Act->Wd->Prop}{Q:Exit->Act->Wd->Prop}(c:o.op=.makeSlice 34 (.const (.int .i64 8192)) (.const (.int .i64 8192)))(h:K (a.put o.dst (.slice (some ⟨w.heap.size,0,none⟩) 8192 8192)) (w.alloc (.cells (zb 8192) 5))):o.wp prog a w K Q:=by
 unfold Oper.wp execOp;have b:a.eval (.const (.int .i64 8192))=.int .i64 8192:=rfl;simp only[c,Sem.run_bind,b,tZ,Result.andThen_ok];exact h
theorem lF{W:Wd}{s k:Nat}{c:Array Vl}{t:TypeId}{fr:Nat×Nat}(h:W.heap[s]?=some (.cells c t fr))(x:Vl):(W.setCell ⟨s,k,none⟩ x).heap[s]?=some (.cells (c.setIfInBounds k x) t fr):=by simp[World.setCell,Array.getElem?_modify,h]
theorem NE{W:Wd}{s:Nat}(b0:W.heap[s]?=some eK)(d a e f h i b g c:Vl):(((((((((W.setCell ⟨s,0,none⟩ d).setCell ⟨s,1,none⟩ a).setCell ⟨s,2,none⟩ e).setCell ⟨s,3,none⟩ f).setCell ⟨s,4,none⟩ h).setCell ⟨s,5,none⟩ i).setCell ⟨s,6,none⟩ b).setCell ⟨s,7,none⟩ g).setCell ⟨s,8,none⟩ c).heap[s]?=some (.cells #[d,a,e,f,h,i,b,g,c] 42):=
 lF (lF (lF (lF (lF (lF (lF (lF (lF b0 d) a) e) f) h) i) b) g) c
end W
end Go.Proofs.YtfmgnljlkdmndaaGreatDoor
