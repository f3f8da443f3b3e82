import Derived.Test.YtfmgnljlkdmndaaGreatDoorXk
import Derived.Laws.Rows
set_option maxRecDepth 1000000
set_option maxHeartbeats 80000000
namespace Go.Proofs.YtfmgnljlkdmndaaGreatDoor.W
open Tryz
open Go.RowKit
set_option linter.unusedVariables false
abbrev fR:Pg:=⟨0,1,0,0,-1,-1,-1,0,0,0,0⟩
abbrev reP:Pg:=⟨1,1,0,0,-1,-1,-1,0,0,0,0⟩
def bM:Img:=⟨65536,2,1,1,8192,fun _=>0,2,fun i=>if i=0 then fR else reP,1,fun _=>[0],[0,65536],[-1,-1,-1,-1,-1,-1,-1,-1]⟩
def mX(s:Nat)(w:World)(v:Value)(n:Nat)(T:TypeId)(cs:Array Value):Prop:=∃ b,s<b/\v=.slice (some ⟨b,0,none⟩) n n/\w.heap[b]?=some (.cells cs T)
abbrev vpC:Array Value:=#[.int .i64 0,.int .i64 1,.int .i64 0,.int .i64 0,.int .i64 (-1),.int .i64 (-1),.int .i64 (-1),.int .u64 0,.int .u64 0,.int .u64 0,.int .u64 0,.int .i64 1,.int .i64 1,.int .i64 0,.int .i64 0,.int .i64 (-1),.int .i64 (-1),.int .i64 (-1),.int .u64 0,.int .u64 0,.int .u64 0,.int .u64 0]
abbrev vtC:Array Value:=#[.int .i64 (-1),.int .i64 (-1),.int .i64 (-1),.int .i64 (-1),.int .i64 (-1),.int .i64 (-1),.int .i64 (-1),.int .i64 (-1)]
def vM(s:Nat)(w:World)(v:Value):Prop:=(SlIn w v 8192 (ByC w fun _=>0)/\∀ a n c,v=.slice a n c->n<=c)/\mX s w v 8192 5 (zb 8192)
def vP(s:Nat)(w:World)(v:Value):Prop:=(SlIn w v 2 fun bl o i=>PgIn (bM.pg i)/\PgC w bl o i (bM.pg i))/\mX s w v 2 97 vpC
def vW(s:Nat)(w:World)(v:Value):Prop:=Src w v [0]/\mX s w v 1 22 #[.int .u64 0]
def vR(s:Nat)(w:World)(v:Value):Prop:=(∃ ws:Nat->Value,SlIn w v 1 fun bl o i=>w.cell? ⟨bl,o+i,none⟩=some (ws i)/\Src w (ws i) [0])/\∃ u,mX s w v 1 39 #[u]/\vW s w u
def vH(s:Nat)(w:World)(v:Value):Prop:=SlIn w v 2 (WdC w [0,65536])/\mX s w v 2 22 #[.int .u64 0,.int .u64 65536]
def vT(s:Nat)(w:World)(v:Value):Prop:=SlIn w v 8 (InC w [-1,-1,-1,-1,-1,-1,-1,-1])/\mX s w v 8 3 vtC
structure VoK(s:Nat)(w:World)(V:ImV):Prop where
 m:vM s w V.m
 p:vP s w V.p
 r:vR s w V.r
 h:vH s w V.h
 t:vT s w V.t
theorem VoK.d{s:Nat}{w:World}{V:ImV}(h:VoK s w V):ImD w bM V:=
 ⟨by decide,by decide,by decide,by decide,h.m.1.1,h.m.1.2,h.p.1,h.r.1,h.h.1,h.t.1⟩
def St(s:Nat)(w:World)(X:World->Prop):Prop:=∀ W,Kt (fun b=>b=s) w W->X W
theorem St.keep{s:Nat}{w W:World}{X:World->Prop}(h:St s w X)(k:Kt nO w W):St s W X:=fun V a=>h V (k.trans a (fun _ _ x=>x.elim) (fun _ _ x=>x))
theorem St.at{s:Nat}{w:World}{X:World->Prop}(h:St s w X):X w:=h w (Kt.refl _ _)
abbrev ML:Value:=.agg #[.int .u64 65536,.int .i64 2,.int .i64 1]
abbrev pD(p:Pg):Value:=.agg #[.int .i64 p.kd,.int .i64 p.od,.int .i64 p.cl,.int .i64 p.lv,.int .i64 p.nx,.int .i64 p.pv,.int .i64 p.fs,.int .u64 p.b0,.int .u64 p.b1,.int .u64 p.b2,.int .u64 p.b3]
abbrev zF(s:Nat)(v5 v6 v7 v8 v9 v10 v11 v12 v13 v14:Value):Act:=⟨#[.pointer (some ⟨s,0,none⟩),.pointer (some ⟨s+1,0,none⟩),.pointer (some ⟨s+1+1,0,none⟩),pD fR,pD reP,v5,v6,v7,v8,v9,v10,v11,v12,v13,v14],[]⟩
abbrev jW(p:Pg):Obj:=.cells #[.int .i64 p.kd,.int .i64 p.od,.int .i64 p.cl,.int .i64 p.lv,.int .i64 p.nx,.int .i64 p.pv,.int .i64 p.fs,.int .u64 p.b0,.int .u64 p.b1,.int .u64 p.b2,.int .u64 p.b3] 97
abbrev eU:Obj:=.cells #[.int .u64 0,.int .i64 0,.int .i64 0,.int .i64 0,.slice none 0 0,.slice none 0 0,.slice none 0 0,.slice none 0 0,.slice none 0 0] 42
abbrev rB(w:World):World:=((w.alloc eU).alloc (jW fR)).alloc (jW reP)
theorem rA(w:World):(rB w).drew.heap[w.heap.size]?=some eU:=by
 show(((w.heap.push eU).push (jW fR)).push (jW reP))[w.heap.size]?=_
 rw[Array.getElem?_push,ac (by simp only[Array.size_push];omega),Array.getElem?_push,ac (by simp only[Array.size_push];omega),Array.getElem?_push,ae rfl]
theorem qZ(w:World):(rB w).drew.heap[w.heap.size+1]?=some (jW fR):=by
 show(((w.heap.push eU).push (jW fR)).push (jW reP))[w.heap.size+1]?=_
 rw[Array.getElem?_push,ac (by simp only[Array.size_push];omega),Array.getElem?_push,ae (by simp only[Array.size_push])]
theorem qY(w:World):(rB w).drew.heap[w.heap.size+1+1]?=some (jW reP):=by
 show(((w.heap.push eU).push (jW fR)).push (jW reP))[w.heap.size+1+1]?=_
 rw[Array.getElem?_push,ae (by simp only[Array.size_push])]
theorem yB(w:World):Kt nO w (rB w).drew:=(((Kt.refl _ w).alloc _).alloc _).alloc _ |>.drew
structure IV(s:Nat)(w1:World)(F:Act->World->Prop)(ls:Array Bool)(a:Act)(w:World)(v5 v6 v7 v8 v9 v10 v11 v12 v13 v14:Value):Prop where
 ea:a=zF s v5 v6 v7 v8 v9 v10 v11 v12 v13 v14
 n:ls.size=11
 k:ls.getD 10 false=false->Kt nO w1 w
 s0:ls.getD 10 false=false->ls.getD 0 false=true->v5=ML
 s1:ls.getD 10 false=false->ls.getD 1 false=true->St s w (vM s · v6)
 s2:ls.getD 10 false=false->ls.getD 2 false=true->v7=pD fR
 s3:ls.getD 10 false=false->ls.getD 3 false=true->v8=pD reP
 s4:ls.getD 10 false=false->ls.getD 4 false=true->St s w (vP s · v9)
 s5:ls.getD 10 false=false->ls.getD 5 false=true->St s w (vW s · v10)
 s6:ls.getD 10 false=false->ls.getD 6 false=true->St s w (vR s · v11)
 s7:ls.getD 10 false=false->ls.getD 7 false=true->St s w (vH s · v12)
 s8:ls.getD 10 false=false->ls.getD 8 false=true->St s w (vT s · v13)
 s9:ls.getD 10 false=false->ls.getD 9 false=true->(∀ j,j<9->j≠2->j≠3->j≠5->ls.getD j false=true)/\St s w (VoK s · ⟨v6,v9,v11,v12,v13⟩)/\v14=imA bM ⟨v6,v9,v11,v12,v13⟩
 s10:ls.getD 10 false=true->(∀ j,j<10->ls.getD j false=true)/\F a w
theorem DM{ls:Array Bool}{i:Nat}(h:ls.getD i true=false):ls.getD i false=false:=by
 rcases Nat.lt_or_ge i ls.size with hl|hl
 ·simpa [hl] using h
 ·simp[Array.getElem?_eq_none hl]
theorem VW{ls:Array Bool}{i:Nat}(hl:i<ls.size):(ls.setIfInBounds i true).getD i false=true:=by simp[hl]
theorem IV.put{s i:Nat}{z W W':World}{F:Act->World->Prop}{ls:Array Bool}{v5 v6 v7 v8 v9 v10 v11 v12 l g u5 u6 u7 u8 u9 u10 u11 u12 u13 u14:Value}(h:IV s z F ls (zF s v5 v6 v7 v8 v9 v10 v11 v12 l g) W v5 v6 v7 v8 v9 v10 v11 v12 l g)(P:ls.getD i true=false)(hi:i<10)(d:Kt nO W W')
  (Q : 0≠i->u5=v5) (B : 1≠i->u6=v6) (m : 2≠i->u7=v7) (S : 3≠i->u8=v8) (A : 4≠i->u9=v9) (C : 5≠i->u10=v10) (x : 6≠i->u11=v11) (y : 7≠i->u12=v12) (w : 8≠i->u13=l) (D : 9≠i->u14=g)
  (N:i=0->u5=ML) (n1:i=1->St s W' (vM s · u6)) (E:i=2->u7=pD fR) (J:i=3->u8=pD reP) (G:i=4->St s W' (vP s · u9)) (K:i=5->St s W' (vW s · u10)) (T:i=6->St s W' (vR s · u11)) (R:i=7->St s W' (vH s · u12)) (I:i=8->St s W' (vT s · u13)) (n9:i=9->(∀ j,j<9->j≠2->j≠3->j≠5->ls.getD j false=true)/\St s W' (VoK s · ⟨u6,u9,u11,u12,u13⟩)/\u14=imA bM ⟨u6,u9,u11,u12,u13⟩)
  : IV s z F (ls.setIfInBounds i true) (zF s u5 u6 u7 u8 u9 u10 u11 u12 u13 u14) W' u5 u6 u7 u8 u9 u10 u11 u12 u13 u14:=by
 have hf:=DM P;have b:ls.getD 10 false=false:=by
  cases c:ls.getD 10 false with
  | false=>rfl
  | true=>rw[(h.s10 c).1 i hi] at hf;cases hf
 have r:(ls.setIfInBounds i true).getD 10 false=false:=by rw[Go.getD_set_ne _ (by omega)];exact b
 have L:=h.k b;refine⟨rfl,by simpa using h.n,fun _=>nT L d,?_,?_,?_,?_,?_,?_,?_,?_,?_,?_,fun c=>by rw[r] at c;cases c⟩
 ·intro _ a;by_cases e:i=0
  ·exact N e
  ·rw[Go.getD_set_ne _ e] at a;rw[Q (Ne.symm e)];exact h.s0 b a
 ·intro _ a;by_cases e:i=1
  ·exact n1 e
  ·rw[Go.getD_set_ne _ e] at a;rw[B (Ne.symm e)];exact(h.s1 b a).keep d
 ·intro _ a;by_cases e:i=2
  ·exact E e
  ·rw[Go.getD_set_ne _ e] at a;rw[m (Ne.symm e)];exact h.s2 b a
 ·intro _ a;by_cases e:i=3
  ·exact J e
  ·rw[Go.getD_set_ne _ e] at a;rw[S (Ne.symm e)];exact h.s3 b a
 ·intro _ a;by_cases e:i=4
  ·exact G e
  ·rw[Go.getD_set_ne _ e] at a;rw[A (Ne.symm e)];exact(h.s4 b a).keep d
 ·intro _ a;by_cases e:i=5
  ·exact K e
  ·rw[Go.getD_set_ne _ e] at a;rw[C (Ne.symm e)];exact(h.s5 b a).keep d
 ·intro _ a;by_cases e:i=6
  ·exact T e
  ·rw[Go.getD_set_ne _ e] at a;rw[x (Ne.symm e)];exact(h.s6 b a).keep d
 ·intro _ a;by_cases e:i=7
  ·exact R e
  ·rw[Go.getD_set_ne _ e] at a;rw[y (Ne.symm e)];exact(h.s7 b a).keep d
 ·intro _ a;by_cases e:i=8
  ·exact I e
  ·rw[Go.getD_set_ne _ e] at a;rw[w (Ne.symm e)];exact(h.s8 b a).keep d
 ·intro _ a;by_cases e:i=9
  ·obtain⟨o,t,p⟩:=n9 e;exact⟨fun j f u v q=>by rw[Go.getD_set_ne _ (by omega)];exact o j f u v q,t,p⟩
  ·rw[Go.getD_set_ne _ e] at a;obtain⟨o,t,p⟩:=h.s9 b a;by_cases m:i≠2/\i≠3/\i≠5
   ·rw[o i (by omega) m.1 m.2.1 m.2.2] at hf
    cases hf
   ·rw[B (by omega),A (by omega),x (by omega),y (by omega),w (by omega),D (by omega)];refine⟨fun j f u v q=>?_,t.keep d,p⟩;rw[Go.getD_set_ne _ (by omega)];exact o j f u v q
theorem kL{a:Array Oper}{ls:Array Bool}{i:Nat}{o:Oper}(b:Region.ready .any a ls=[])(c:a[i]?=some o)(hl:i<ls.size)(hd:∀ e∈o.after,ls.getD e.on false=true):ls.getD i false=true:=by
 cases h:ls.getD i false with
 | true=>rfl
 | false=>
  have:i∈Region.ready .any a ls:=mem_ready.2 ⟨by simpa [hl] using h,o,c,fun e he _=>hd e he⟩;rw[b] at this
  cases this
theorem oM{s:Nat}{W V:World}{o:Obj}(hs:s<W.heap.size)(a:Kt (fun b=>b=s) (W.alloc o) V):V.heap[W.heap.size]?=some o:=by have e:(W.alloc o).heap=W.heap.push o:=rfl;exact(a.block _ (by rw[e,Array.size_push];omega) (by omega)).trans (by rw[e,Array.getElem?_push,ae rfl])
theorem yG{s:Nat}{W:World}(hs:s<W.heap.size):St s (W.alloc (.cells (zb 8192) 5)) (vM s · (.slice (some ⟨W.heap.size,0,none⟩) 8192 8192)):=by
 intro V b;have hb:=oM hs b;refine⟨⟨⟨by decide,_,_,rfl,.inr ⟨_,_,rfl,lH hb,fun i hi=>⟨Nat.zero_lt_succ _,?_⟩⟩⟩,?_⟩,_,hs,rfl,hb⟩
 ·have:=BI 8192 i hi;simp[World.cell?,hb,this]
 ·intro a n c e
  cases e
  exact aj _
theorem yC{s:Nat}{W:World}(hs:s<W.heap.size):St s (W.alloc (.cells #[.int .u64 0] 22)) (vW s · (.slice (some ⟨W.heap.size,0,none⟩) 1 1)):=by
 intro V b;have hb:=oM hs b;refine⟨⟨fun i=>?_,_,_,rfl,.inr ⟨_,rfl,lH hb,fun j a=>?_⟩⟩,_,hs,rfl,hb⟩
 ·match i with
  | 0=>decide
  | i+1=>simp
 ·obtain rfl:j=0:=by simpa using a
  simp[World.cell?,hb,Addr.add]
theorem yH{s:Nat}{W:World}(hs:s<W.heap.size):St s (W.alloc (.cells #[.int .u64 0,.int .u64 65536] 22)) (vH s · (.slice (some ⟨W.heap.size,0,none⟩) 2 2)):=by
 intro V a;have hb:=oM hs a;refine⟨⟨by decide,_,_,rfl,.inr ⟨_,_,rfl,lH hb,fun i hi=>?_⟩⟩,_,hs,rfl,hb⟩;match i,hi with
 | 0,_=>exact⟨by decide,by simp[World.cell?,hb]⟩
 | 1,_=>exact⟨by decide,by simp[World.cell?,hb]⟩
theorem yD{s:Nat}{W:World}(hs:s<W.heap.size):St s (W.alloc (.cells #[.int .i64 (-1),.int .i64 (-1),.int .i64 (-1),.int .i64 (-1),.int .i64 (-1),.int .i64 (-1),.int .i64 (-1),.int .i64 (-1)] 3)) (vT s · (.slice (some ⟨W.heap.size,0,none⟩) 8 8)):=by
 intro V a;have hb:=oM hs a;refine⟨⟨by decide,_,_,rfl,.inr ⟨_,_,rfl,lH hb,fun i hi=>?_⟩⟩,_,hs,rfl,hb⟩;match i,hi with
 | 0,_=>exact⟨by decide,by simp[World.cell?,hb]⟩
 | 1,_=>exact⟨by decide,by simp[World.cell?,hb]⟩
 | 2,_=>exact⟨by decide,by simp[World.cell?,hb]⟩
 | 3,_=>exact⟨by decide,by simp[World.cell?,hb]⟩
 | 4,_=>exact⟨by decide,by simp[World.cell?,hb]⟩
 | 5,_=>exact⟨by decide,by simp[World.cell?,hb]⟩
 | 6,_=>exact⟨by decide,by simp[World.cell?,hb]⟩
 | 7,_=>exact⟨by decide,by simp[World.cell?,hb]⟩
theorem yE{s:Nat}{W:World}{v:Value}(hs:s<W.heap.size)(h:St s W (vW s · v)):St s (W.alloc (.cells #[v] 39)) (vR s · (.slice (some ⟨W.heap.size,0,none⟩) 1 1)):=by
 intro V b;have hb:=oM hs b;have a:=(h.keep ((Kt.refl _ W).alloc _)) V b;refine⟨⟨fun _=>v,by decide,_,_,rfl,.inr ⟨_,_,rfl,lH hb,fun i hi=>?_⟩⟩,v,⟨_,hs,rfl,hb⟩,a⟩;obtain rfl:i=0:=by omega
 exact⟨by simp[World.cell?,hb],a.1⟩
theorem yF{s:Nat}{W:World}(hs:s<W.heap.size):St s (W.alloc (.cells #[.int .i64 0,.int .i64 1,.int .i64 0,.int .i64 0,.int .i64 (-1),.int .i64 (-1),.int .i64 (-1),.int .u64 0,.int .u64 0,.int .u64 0,.int .u64 0,.int .i64 1,.int .i64 1,.int .i64 0,.int .i64 0,.int .i64 (-1),.int .i64 (-1),.int .i64 (-1),.int .u64 0,.int .u64 0,.int .u64 0,.int .u64 0] 97)) (vP s · (.slice (some ⟨W.heap.size,0,none⟩) 2 2)):=by
 intro V b;have hb:=oM hs b;refine⟨⟨by decide,_,_,rfl,.inr ⟨_,_,rfl,lH hb,fun i hi=>?_⟩⟩,_,hs,rfl,hb⟩;match i,hi with
 | 0,_=>exact⟨⟨by decide,by decide,by decide,by decide,by decide,by decide,by decide,by decide,by decide,by decide,by decide⟩,fun j a=>by
   match j,a with
   | 0,_=>simp[World.cell?,hb,bM,Pg.fld]
   | 1,_=>simp[World.cell?,hb,bM,Pg.fld]
   | 2,_=>simp[World.cell?,hb,bM,Pg.fld]
   | 3,_=>simp[World.cell?,hb,bM,Pg.fld]
   | 4,_=>simp[World.cell?,hb,bM,Pg.fld]
   | 5,_=>simp[World.cell?,hb,bM,Pg.fld]
   | 6,_=>simp[World.cell?,hb,bM,Pg.fld]
   | 7,_=>simp[World.cell?,hb,bM,Pg.fld]
   | 8,_=>simp[World.cell?,hb,bM,Pg.fld]
   | 9,_=>simp[World.cell?,hb,bM,Pg.fld]
   | 10,_=>simp[World.cell?,hb,bM,Pg.fld]⟩
 | 1,_=>exact⟨⟨by decide,by decide,by decide,by decide,by decide,by decide,by decide,by decide,by decide,by decide,by decide⟩,fun j a=>by
   match j,a with
   | 0,_=>simp[World.cell?,hb,bM,Pg.fld]
   | 1,_=>simp[World.cell?,hb,bM,Pg.fld]
   | 2,_=>simp[World.cell?,hb,bM,Pg.fld]
   | 3,_=>simp[World.cell?,hb,bM,Pg.fld]
   | 4,_=>simp[World.cell?,hb,bM,Pg.fld]
   | 5,_=>simp[World.cell?,hb,bM,Pg.fld]
   | 6,_=>simp[World.cell?,hb,bM,Pg.fld]
   | 7,_=>simp[World.cell?,hb,bM,Pg.fld]
   | 8,_=>simp[World.cell?,hb,bM,Pg.fld]
   | 9,_=>simp[World.cell?,hb,bM,Pg.fld]
   | 10,_=>simp[World.cell?,hb,bM,Pg.fld]⟩
theorem YU{o:Oper}{a:Act}{w:World}{K:Act->World->Prop}{Q:Exit->Act->World->Prop}(c:o.op=.makeSlice 34 (.const (.int .i64 8192)) (.const (.int .i64 8192)))
  (h:K (a.put o.dst (.slice (some ⟨w.heap.size,0,none⟩) 8192 8192)) (w.alloc (.cells (zb 8192) 5))):o.wp prog a w K Q:=by
 unfold Oper.wp execOp;have b:a.eval (.const (.int .i64 8192))=.int .i64 8192:=rfl;simp only[c,Sem.run_bind,b,tW,Result.andThen_ok];exact h
theorem lG{W:World}{s k:Nat}{c:Array Value}{t:TypeId}{fr:Nat×Nat}(h:W.heap[s]?=some (.cells c t fr))(x:Value):(W.setCell ⟨s,k,none⟩ x).heap[s]?=some (.cells (c.setIfInBounds k x) t fr):=by simp[World.setCell,Array.getElem?_modify,h]
theorem MB{W:World}{s:Nat}(b0:W.heap[s]?=some eU)(h c e i d f b g a:Value):(((((((((W.setCell ⟨s,0,none⟩ h).setCell ⟨s,1,none⟩ c).setCell ⟨s,2,none⟩ e).setCell ⟨s,3,none⟩ i).setCell ⟨s,4,none⟩ d).setCell ⟨s,5,none⟩ f).setCell ⟨s,6,none⟩ b).setCell ⟨s,7,none⟩ g).setCell ⟨s,8,none⟩ a).heap[s]?=some (.cells #[h,c,e,i,d,f,b,g,a] 42):=
 lG (lG (lG (lG (lG (lG (lG (lG (lG b0 h) c) e) i) d) f) b) g) a
end Go.Proofs.YtfmgnljlkdmndaaGreatDoor.W
