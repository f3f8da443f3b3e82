import Derived.Test.YtfmgnljlkdmndaaGreatDoorWf
import Derived.Test.YtfmgnljlkdmndaaGreatDoorWe
set_option maxRecDepth 1000000
set_option maxHeartbeats 0
namespace Go.Proofs.YtfmgnljlkdmndaaGreatDoor
open Tryz RowKit
open Go.MuLone
set_option linter.unusedVariables false
theorem vC{P:Wd->Prop}(w:Wd)(h:∀ W,W=w->P W):P w:=h w rfl
abbrev eK:Obj:=.cells #[.int .u64 0,.int .i64 0,.int .i64 0,.int .i64 0,.slice none 0 0,.slice none 0 0,.slice none 0 0,.slice none 0 0,.slice none 0 0] 42 (0,0)
section
variable {w Wo:Wd} {hb sb lw:Nat} {x:Bx} {t:Bt} {fr:Nat->List Nat} {ls:List (Nat×Nat)} {S:Sb}
end
structure ImT(N:Nat)(W:Wd)(x:Bx)(t:Bt)(h:Nat->Int)(bm gp gq:Nat)(D:Nat->Nat)(g b:Nat):Prop where
 nm:N<=bm
 lm:bm<W.heap.size
 m:x.n=0\/M.Blk W bm x.n t.f
 np:N<=gp
 row:bO W gp t.m.n t.m.pg
 nq:N<=gq
 q:∃ cs:Array Vl,W.heap[gq]?=some (.cells cs 39 (0,0))/\cs.size=t.m.o/\∀ j,j<t.m.o->cs[j]?=some (qX D t.m.wd j)
 nd:∀ j,j<t.m.o->N<=D j
 d:∀ j,j<t.m.o->W.heap[D j]?=some (.cells (bT (t.m.wd j)) 22 (0,0))
 ng:N<=g
 g:W.heap[g]?=some (.cells (bT (jC x t)) 22 (0,0))
 nb:N<=b
 b:W.heap[b]?=some (pF h)
theorem ImT.dk{N:Nat}{W W':Wd}{x t h bm gp gq D g b}(s:ImT N W x t h bm gp gq D g b){U:Nat->Prop}(k:Kt U W W')(i:∀ y,U y->y<N):ImT N W' x t h bm gp gq D g b:=by
 have a:∀ y,N<=y->¬U y:=fun y hy e=>by have:=i y e;omega
 obtain⟨cs,f,l,n⟩:=s.q;exact⟨s.nm,bg s.lm k.size,s.m.imp id (fun hb=>⟨hb.1,(k.block _ (lH hb.2) (a _ s.nm)).trans hb.2⟩),s.np,s.row.kept k (a _ s.np),s.nq,⟨cs,(k.block _ (lH f) (a _ s.nq)).trans f,l,n⟩,s.nd,fun j c=>(k.block _ (lH (s.d j c)) (a _ (s.nd j c))).trans (s.d j c),s.ng,(k.block _ (lH s.g) (a _ s.ng)).trans s.g,s.nb,(k.block _ (lH s.b) (a _ s.nb)).trans s.b⟩
abbrev rO(x:Bx)(t:Bt)(bm gp gq g b:Nat):W.ImV:=⟨.slice (some ⟨bm,0,none⟩) x.n x.n,.slice (some ⟨gp,0,none⟩) t.m.n t.m.n,.slice (some ⟨gq,0,none⟩) t.m.o t.m.o,.slice (some ⟨g,0,none⟩) (x.o+1) (x.o+1),.slice (some ⟨b,0,none⟩) 8 8⟩
theorem QV{N:Nat}{V w Wo:Wd}{x t h bm gp gq D g b}{hb sb lw:Nat}{fr:Nat->List Nat}{ls:List (Nat×Nat)}{S:Sb}{s:Int}(T:ImT N V x t h bm gp gq D g b)(H:HW w Wo hb sb lw x t fr ls S s)(I:∀ k,k<8->h k=bB (S.pl k))(may:M.mayB x.bS (x.dl:Int) (x.o:Int)=true):W.ImD V (bN x t S x.dl) (rO x t bm gp gq g b):=by
 obtain⟨B,st⟩:=H.mr may;obtain⟨kk,Z,f1,f2,X,Y,Q,f6,f7,R⟩:=W.may_facts may;obtain⟨n1,n2,n3,n4,n5,n6,n7⟩:=H.po.en;have l:=H.po.pl.bd;have A:=st.le;have v:(jC x t).length=x.o+1:=zii x t;refine⟨by show x.bS<_;omega,by show W.N64 (x.dl:Int);exact⟨by omega,by omega⟩,by show W.N64 (x.o:Int);exact⟨by omega,by omega⟩,?_,?_,?_,?_,?_,?_,?_⟩
 ·show W.N64 ((t.m.n/2 ^ x.o:Nat):Int)
  generalize t.m.n/2 ^ x.o=q at A;exact⟨by omega,by omega⟩
 ·refine⟨by show x.n<=_;omega,_,_,rfl,T.m.imp id fun F=>⟨bm,0,rfl,T.lm,fun i hi=>⟨F.1 i hi,?_⟩⟩⟩;rw[dz];exact F.cell i hi
 ·intro a n c e
  cases e
  exact aj _
 ·refine⟨by show t.m.n<=_;omega,_,_,rfl,.inr ⟨gp,0,rfl,aZ.lt T.row,fun i hi=>⟨st.me i hi,fun j u=>?_⟩⟩⟩;obtain⟨cs,r1,r2,P⟩:=T.row;have:=P i hi j u;rw[dz];simp[World.cell?,r1,this];rfl
 ·obtain⟨cs,E,q2,K⟩:=T.q;have y:t.m.o=x.o:=l.mo;refine⟨qX D t.m.wd,by show x.o<=_;omega,some ⟨gq,0,none⟩,x.o,by show Value.slice _ t.m.o t.m.o=_;rw[y];rfl,.inr ⟨gq,0,rfl,lH E,fun k G=>⟨?_,?_⟩⟩⟩
  ·have:=K k (by rw[y];exact G);rw[dz];simp[World.cell?,E,this]
  ·have p:k<t.m.o:=(by rw[y];exact G);have C:=l.mp.set k p;refine⟨fun i=>?_,_,_,rfl,.inr ⟨⟨D k,0,none⟩,rfl,lH (T.d k p),fun j u=>?_⟩⟩
   ·rcases du i (t.m.wd k).length with hi|hi
    ·exact bg (C.ok i hi) (bj (by decide) (by omega))
    ·show(t.m.wd k).getD i 0<_
     rw[ai,dj hi];decide
   ·have u:j<(t.m.wd k).length:=u;rw[Addr.add_lit,dz];show V.cell? _=some (.int .u64 (((t.m.wd k).getD j 0:Nat):Int))
    simp[World.cell?,T.d k p,bT,u]
 ·have e:(bN x t S x.dl).hd=jC x t:=rfl;rw[e,v];refine⟨by omega,_,_,rfl,.inr ⟨g,0,rfl,lH T.g,fun i hi=>?_⟩⟩;have z:i<(jC x t).length:=by rw[v];exact hi
  refine⟨?_,?_⟩
  ·have:(jC x t).getD i 0=t.hd i:=by
    unfold jC;rw[ai,List.getElem?_map,List.getElem?_range (by omega)];rfl
   rw[this];exact(l.ls i (by omega)).eN
  ·rw[dz];simp[World.cell?,T.g,bT,z]
 ·have e:(bN x t S x.dl).pt=(List.range 8).map fun k=>bB (S.pl k):=rfl
  rw[e];refine⟨by simp,some ⟨b,0,none⟩,8,by simp,.inr ⟨b,0,rfl,lH T.b,fun i hi=>?_⟩⟩;have f:i<8:=by simpa using hi
  have J:((List.range 8).map fun k=>bB (S.pl k)).getD i 0=h i:=by rw[ai,List.getElem?_map,List.getElem?_range f,I i f];rfl
  rw[W.InC,J];refine⟨?_,?_⟩
  ·rw[I i f];obtain⟨U,o⟩:=H.so;rcases pA (S.pl i)with e|⟨r,e,L⟩
   ·rw[e];exact⟨by omega,by omega⟩
   ·have:=(o.mem ((o.si.pm i f r).1 L).1).2.2.1;rw[e];exact⟨by omega,by omega⟩
  ·rw[dz];rcases i with _|_|_|_|_|_|_|_|i
   all_goals first|omega|simp[World.cell?,T.b]
def VQ(v:Vl):Vl->Wd->Prop:=fun u _=>u=v
def RH(W1:Wd)(x:Bx)(t:Bt):Vl->Wd->Prop:=fun u W=>∃ g,u=.slice (some ⟨g,0,none⟩) (x.o+1) (x.o+1)/\W.heap[g]?=some (.cells (bT (jC x t)) 22 (0,0))/\W1.heap.size<=g
def RT(W1:Wd)(h:Nat->Int):Vl->Wd->Prop:=fun u W=>∃ b,u=.slice (some ⟨b,0,none⟩) 8 8/\W.heap[b]?=some (pF h)/\W1.heap.size<=b
abbrev bV(x:Bx)(g b:Nat):Vl:=.agg #[.int .u64 x.bS,.int .i64 x.dl,.int .i64 x.o,.int .i64 ((x.n/x.R:Nat):Int),.slice none 0 0,.slice none 0 0,.slice none 0 0,.slice (some ⟨g,0,none⟩) (x.o+1) (x.o+1),.slice (some ⟨b,0,none⟩) 8 8]
def RB(W1:Wd)(x:Bx)(t:Bt)(h:Nat->Int):Vl->Wd->Prop:=fun u W=>∃ g b,u=bV x g b/\RH W1 x t (.slice (some ⟨g,0,none⟩) (x.o+1) (x.o+1)) W/\RT W1 h (.slice (some ⟨b,0,none⟩) 8 8) W
def RN(W1:Wd):Vl->Wd->Prop:=fun u W=>∃ n,u=.pointer (some ⟨n,0,none⟩)/\W.heap[n]?=some eK/\W1.heap.size<=n
def lA(r:Vl->Wd->Prop):Prop:=∀ u W W',r u W->Kt nO W W'->r u W'
theorem AF(v:Vl):lA (VQ v):=fun u W W' h _=>h
theorem AB(W1 x t):lA (RH W1 x t):=fun u W W' ⟨g,h1,h2,h3⟩ k=>⟨g,h1,(k.block _ (lH h2) id).trans h2,h3⟩
theorem zZ(W1 h):lA (RT W1 h):=fun u W W' ⟨g,h1,h2,h3⟩ k=>⟨g,h1,(k.block _ (lH h2) id).trans h2,h3⟩
theorem SC(W1 x t h):lA (RB W1 x t h):=fun u W W' ⟨g,b,h1,h2,h3⟩ k=>⟨g,b,h1,AB _ _ _ _ _ _ h2 k,zZ _ _ _ _ _ h3 k⟩
theorem RY(W1):lA (RN W1):=fun u W W' ⟨g,h1,h2,h3⟩ k=>⟨g,h1,(k.block _ (lH h2) id).trans h2,h3⟩
theorem zY{L:List (Vl->Wd->Prop)}(h:∀ r∈L,lA r)(i:Nat):lA (L.getD i dV):=by
 rw[ai]
 cases e:L[i]? with
 | none=>exact fun _ _ _ h _=>h
 | some r=>exact h r (List.mem_of_getElem? e)
def L3(W1:Wd)(hb sb lw:Nat)(x:Bx)(t:Bt)(h:Nat->Int):List (Vl->Wd->Prop):=[VQ (.pointer (some ⟨hb,0,none⟩)),VQ (.pointer (some ⟨hb,0,none⟩)),VQ (.pointer (some ⟨hb,2,none⟩)),VQ (fF x.bS (x.dl:Int) (x.o:Int)),VQ (.pointer (some ⟨hb,0,none⟩)),VQ (.pointer (some ⟨hb,0,none⟩)),VQ (.pointer (some ⟨hb,5,none⟩)),VQ (.pointer (some ⟨lw,0,none⟩)),VQ (.pointer (some ⟨lw,0,none⟩)),VQ (.pointer (some ⟨lw,0,none⟩)),VQ (.pointer (some ⟨x.s,0,none⟩)),VQ (.int .i64 ((x.n/x.R:Nat):Int)),VQ (.pointer (some ⟨hb,0,none⟩)),VQ (.pointer (some ⟨hb,0,none⟩)),VQ (.pointer (some ⟨hb,5,none⟩)),VQ (.pointer (some ⟨lw,0,none⟩)),VQ (.pointer (some ⟨lw,0,none⟩)),VQ (.pointer (some ⟨lw,0,none⟩)),VQ (.pointer (some ⟨x.b,0,none⟩)),RH W1 x t,VQ (.pointer (some ⟨hb,0,none⟩)),VQ (.pointer (some ⟨hb,0,none⟩)),VQ (.pointer (some ⟨hb,6,none⟩)),VQ (.pointer (some ⟨sb,0,none⟩)),RT W1 h,RB W1 x t h,RN W1]
theorem RX(a hb sb lw x t h):∀ r∈L3 a hb sb lw x t h,lA r:=by
 unfold L3;repeat refine List.forall_mem_cons.2 ⟨by first|exact AF _|exact AB _ _ _|exact zZ _ _|exact SC _ _ _ _|exact RY _,?_⟩
 exact fun r b=>by cases b
abbrev F3(hb rb:Nat)(v:Nat->Vl):Act:=⟨#[.pointer (some ⟨hb,0,none⟩),undef,.pointer (some ⟨rb,0,none⟩),v 26,.pointer (some ⟨hb,0,none⟩),.pointer (some ⟨hb,0,none⟩),.pointer (some ⟨hb,0,none⟩),.tuple #[],.pointer (some ⟨hb,0,none⟩),.pointer (some ⟨hb,0,none⟩),.pointer (some ⟨hb,0,none⟩),v 0,v 1,v 2,v 3,v 4,v 5,v 6,v 7,v 8,v 9,v 10,v 11,v 12,v 13,v 14,v 15,v 16,v 17,v 18,v 19,v 20,v 21,v 22,v 23,v 24,v 25,undef,undef,undef,undef,undef,undef,undef,undef,undef,undef,undef,undef,undef,undef,undef,undef,undef,undef,undef,undef,undef,undef,undef,undef,undef,undef,undef,undef,undef,undef,undef,undef,undef],[{ target:=Target.fn (Fn.func 30) #[],args:=#[.pointer (some ⟨hb,0,none⟩)] }]⟩
theorem zX{W:Wd}{y:Nat}(h:W.heap[y]?=some eK):W.cell? ⟨y,0,none⟩=some (.int .u64 0)/\W.cell? ⟨y,1,none⟩=some (.int .i64 0)/\W.cell? ⟨y,2,none⟩=some (.int .i64 0)/\W.cell? ⟨y,3,none⟩=some (.int .i64 0)/\W.cell? ⟨y,4,none⟩=some (.slice none 0 0)/\W.cell? ⟨y,5,none⟩=some (.slice none 0 0)/\W.cell? ⟨y,6,none⟩=some (.slice none 0 0)/\W.cell? ⟨y,7,none⟩=some (.slice none 0 0)/\W.cell? ⟨y,8,none⟩=some (.slice none 0 0)/\∀ j,W.frozen? ⟨y,j,none⟩=false:=by refine⟨?_,?_,?_,?_,?_,?_,?_,?_,?_,fun j=>?_⟩ <;> simp[World.cell?,World.frozen?,h]
abbrev iB(x:Bx)(m p r:Vl)(g b:Nat):Obj:=.cells #[.int .u64 x.bS,.int .i64 x.dl,.int .i64 x.o,.int .i64 ((x.n/x.R:Nat):Int),m,p,r,.slice (some ⟨g,0,none⟩) (x.o+1) (x.o+1),.slice (some ⟨b,0,none⟩) 8 8] 42 (0,0)
theorem zA{W:Wd}{y:Nat}{x:Bx}{d k f:Option Addr}{c a pl e rl i g b:Nat}(h:W.heap[y]?=some (iB x (.slice d c a) (.slice k pl e) (.slice f rl i) g b)):W.cell? ⟨y,0,none⟩=some (.int .u64 x.bS)/\W.cell? ⟨y,1,none⟩=some (.int .i64 x.dl)/\W.cell? ⟨y,2,none⟩=some (.int .i64 x.o)/\W.cell? ⟨y,3,none⟩=some (.int .i64 ((x.n/x.R:Nat):Int))/\W.cell? ⟨y,4,none⟩=some (.slice d c a)/\W.cell? ⟨y,5,none⟩=some (.slice k pl e)/\W.cell? ⟨y,6,none⟩=some (.slice f rl i)/\W.cell? ⟨y,7,none⟩=some (.slice (some ⟨g,0,none⟩) (x.o+1) (x.o+1))/\W.cell? ⟨y,8,none⟩=some (.slice (some ⟨b,0,none⟩) 8 8)/\∀ j,W.frozen? ⟨y,j,none⟩=false:=by refine⟨?_,?_,?_,?_,?_,?_,?_,?_,?_,fun j=>?_⟩ <;> simp[World.cell?,World.frozen?,h]
theorem IZ{W:Wd}{y:Nat}(u0 u1 u2 u3 u4 u5 u6 u7 u8:Vl):Kt (fun z=>z=y) W (((((((((W.setCell ⟨y,0,none⟩ u0).setCell ⟨y,1,none⟩ u1).setCell ⟨y,2,none⟩ u2).setCell ⟨y,3,none⟩ u3).setCell ⟨y,4,none⟩ u4).setCell ⟨y,5,none⟩ u5).setCell ⟨y,6,none⟩ u6).setCell ⟨y,7,none⟩ u7).setCell ⟨y,8,none⟩ u8):=
 (((((((((Kt.refl (fun z=>z=y) W).setCell (p:=⟨y,0,none⟩) rfl u0).setCell (p:=⟨y,1,none⟩) rfl u1).setCell (p:=⟨y,2,none⟩) rfl u2).setCell (p:=⟨y,3,none⟩) rfl u3).setCell (p:=⟨y,4,none⟩) rfl u4).setCell (p:=⟨y,5,none⟩) rfl u5).setCell (p:=⟨y,6,none⟩) rfl u6).setCell (p:=⟨y,7,none⟩) rfl u7).setCell (p:=⟨y,8,none⟩) rfl u8
theorem rF{W:Wd}{y:Nat}(h:W.heap[y]?=some eK)(u0 u1 u2 u3 u4 u5 u6 u7 u8:Vl):(((((((((W.setCell ⟨y,0,none⟩ u0).setCell ⟨y,1,none⟩ u1).setCell ⟨y,2,none⟩ u2).setCell ⟨y,3,none⟩ u3).setCell ⟨y,4,none⟩ u4).setCell ⟨y,5,none⟩ u5).setCell ⟨y,6,none⟩ u6).setCell ⟨y,7,none⟩ u7).setCell ⟨y,8,none⟩ u8).heap[y]?=some (.cells #[u0,u1,u2,u3,u4,u5,u6,u7,u8] 42 (0,0)):=by have:=cD (cD (cD (cD (cD (cD (cD (cD (cD h 0 u0) 1 u1) 2 u2) 3 u3) 4 u4) 5 u5) 6 u6) 7 u7) 8 u8;simpa using this
def oG(W2:Wd)(x:Bx)(t:Bt)(bm:Nat)(W:Wd):Prop:=W2.heap.size<=bm/\bm<W.heap.size/\(x.n=0\/M.Blk W bm x.n t.f)
theorem oG.dk{a W W':Wd}{x:Bx}{t:Bt}{bm:Nat}(h:oG a x t bm W){U:Nat->Prop}(k:Kt U W W')(b:¬U bm):oG a x t bm W':=
 ⟨h.1,bg h.2.1 k.size,h.2.2.imp id (fun hb=>⟨hb.1,(k.block _ (lH hb.2) b).trans hb.2⟩)⟩
def RM(W2:Wd)(x:Bx)(t:Bt):Vl->Wd->Prop:=fun u W=>∃ bm,u=.tuple #[.slice (some ⟨bm,0,none⟩) x.n x.n,.int .i64 0]/\oG W2 x t bm W
def RQ(W2:Wd)(x:Bx)(t:Bt):Vl->Wd->Prop:=fun u W=>∃ bm,u=.slice (some ⟨bm,0,none⟩) x.n x.n/\oG W2 x t bm W
def RS(W2:Wd)(n:Nat)(x:Bx)(t:Bt)(g b:Nat):Vl->Wd->Prop:=fun _ W=>∃ bm,W.heap[n]?=some (iB x (.slice (some ⟨bm,0,none⟩) x.n x.n) (.slice none 0 0) (.slice none 0 0) g b)/\oG W2 x t bm W
def L4(W2:Wd)(hb sb lw n:Nat)(x:Bx)(t:Bt):List (Vl->Wd->Prop):=[VQ (.pointer (some ⟨hb,0,none⟩)),VQ (.pointer (some ⟨hb,0,none⟩)),VQ (.pointer (some ⟨hb,5,none⟩)),VQ (.pointer (some ⟨lw,0,none⟩)),VQ (.pointer (some ⟨lw,0,none⟩)),VQ (.pointer (some ⟨lw,0,none⟩)),VQ (.pointer (some ⟨x.s,0,none⟩)),VQ (.pointer (some ⟨hb,0,none⟩)),VQ (.pointer (some ⟨hb,0,none⟩)),VQ (.pointer (some ⟨hb,2,none⟩)),VQ (.pointer (some ⟨hb,2,none⟩)),VQ (.int .u64 x.bS),VQ (.pointer (some ⟨hb,0,none⟩)),VQ (.int .u64 x.n),RM W2 x t,RM W2 x t,RQ W2 x t,VQ (.int .i64 0),VQ (.pointer (some ⟨n,4,none⟩))]
abbrev F4(hb rb:Nat)(v v4:Nat->Vl):Act:=⟨#[.pointer (some ⟨hb,0,none⟩),undef,.pointer (some ⟨rb,0,none⟩),v 26,.pointer (some ⟨hb,0,none⟩),.pointer (some ⟨hb,0,none⟩),.pointer (some ⟨hb,0,none⟩),.tuple #[],.pointer (some ⟨hb,0,none⟩),.pointer (some ⟨hb,0,none⟩),.pointer (some ⟨hb,0,none⟩),v 0,v 1,v 2,v 3,v 4,v 5,v 6,v 7,v 8,v 9,v 10,v 11,v 12,v 13,v 14,v 15,v 16,v 17,v 18,v 19,v 20,v 21,v 22,v 23,v 24,v 25,v4 15,v4 0,v4 1,v4 2,v4 3,v4 4,v4 5,v4 6,v4 7,v4 8,v4 9,v4 10,v4 11,v4 12,v4 13,v4 14,v4 16,v4 17,v4 18,undef,undef,undef,undef,undef,undef,undef,undef,undef,undef,undef,undef,undef,undef],[{ target:=Target.fn (Fn.func 30) #[],args:=#[.pointer (some ⟨hb,0,none⟩)] }]⟩
theorem zW{a:Wd}{hb sb lw n:Nat}{x:Bx}{t:Bt}(U:Nat->Prop)(c:∀ y,U y->y<a.heap.size):∀ r∈L4 a hb sb lw n x t,∀ u W W',r u W->Kt U W W'->r u W':=by
 have d:∀ v,∀ u W W',VQ v u W->Kt U W W'->VQ v u W':=fun v u W W' h _=>h
 have f:∀ u W W',RM a x t u W->Kt U W W'->RM a x t u W':=fun u W W' ⟨bm,b,h4⟩ k=>⟨bm,b,h4.dk k (fun e=>absurd (c _ e) (Nat.not_lt.2 h4.1))⟩
 have b:∀ u W W',RQ a x t u W->Kt U W W'->RQ a x t u W':=fun u W W' ⟨bm,b,h4⟩ k=>⟨bm,b,h4.dk k (fun e=>absurd (c _ e) (Nat.not_lt.2 h4.1))⟩
 unfold L4;repeat refine List.forall_mem_cons.2 ⟨by first|exact d _|exact f|exact b,?_⟩
 exact fun r g=>by cases g
section
variable {w Wo:Wd} {hb sb lw:Nat} {x:Bx} {t:Bt} {fr:Nat->List Nat} {ls:List (Nat×Nat)} {S:Sb} {s:Int}
theorem zkD(H:HW w Wo hb sb lw x t fr ls S s):Calls prog 36 #[.pointer (some ⟨x.s,0,none⟩),.int .u64 x.bS,.int .u64 x.n] Wo fun e a=>∃ bm,e=.returned (.tuple #[.slice (some ⟨bm,0,none⟩) x.n x.n,.int .i64 0])/\oG Wo x t bm a/\Kt nO Wo a:=by
 rcases dx x.n with h0|h0
 ·rw[h0];refine(M.Read_zero x.s (x.bS:Int) Wo).mono ?_;rintro e a ⟨rfl,b,hl⟩;exact⟨_,rfl,⟨Nat.le_succ _,hl,.inl h0⟩,dI b⟩
 ·refine(H.read h0 (p:=x.bS) ⟨aj _,by omega⟩).mono ?_;rintro e a ⟨rfl,hb,b⟩;have e:(fun i=>t.f (x.bS-x.bS+i))=t.f:=by funext i;rw[Nat.sub_self,dz]
  rw[e] at hb;exact⟨_,rfl,⟨Nat.le_succ _,hb.lt,.inr hb⟩,b⟩
end
section
variable {w Wo:Wd} {hb sb lw:Nat} {x:Bx} {t:Bt} {fr:Nat->List Nat} {ls:List (Nat×Nat)} {S:Sb}
def ImP(Wo:Wd)(x:Bx)(t:Bt)(S:Sb)(e:Ending)(w':Wd):Prop:=∃ V,e=.returned (W.imA (bN x t S x.dl) V)/\W.ImD w' (bN x t S x.dl) V/\Kt nO Wo w'
theorem EI(H:HW w Wo hb sb lw x t fr ls S 0)(may:M.mayB x.bS (x.dl:Int) (x.o:Int)=true):Calls prog 9 #[.pointer (some ⟨hb,0,none⟩)] Wo (ImP Wo x t S):=by
 have ka:=(kz Wo).alloc eK;have H0:=aA (H.dk ka);have X0:=aA (nH Wo eK);have LK:=aA H0.o.lock;clear ka;go_enter_defers func9,ntmps9;go_wp2_with fail;refine LK.o.mono ?_;rintro e E ⟨rfl,a0⟩;have H1:=aA (show HW w E hb sb lw x t fr ls S 1 from by rw[a0];exact H0.o.in);have E1:=aA (show E=eI (Wo.alloc eK) hb from a0);clear a0;have b4:=aA (show Wo.heap.size≠hb from fun e=>by have:=lH H.bx;omega);have R1:=aA (show E.heap[Wo.heap.size]?=some eK from by rw[E1.o];exact((H0.o.set 1).2.block _ (lH X0.o) b4.o).trans X0.o);have c9:=aA (show w.heap.size<=Wo.heap.size from H.po.pl.kp.size);have d9:=aA (show ∀ W',Kt (fun y=>y=Wo.heap.size) (Wo.alloc eK) W'->Kt nO Wo W' from fun W' k=>((kz Wo).alloc eK).trans k (fun _ _ e=>e) (fun y hy e=>by omega));generalize Wo.alloc eK=Wa at *;generalize Wo.heap.size=Y at *;obtain⟨h,o⟩:=H1.o.so;have c7:=aA o.sw;have g0:=aA o.hd;clear o;go_upto_region 3 with fail;rename_i K hK;refine wp_region_noPanic ?_;refine zcn (by kernel_rfl) (F3 hb Y) (fun _=>undef) (Kt nO) (fun _ _ _=>nT) (fun i=>(L3 E hb sb lw x t h).getD i dV) (fun i=>zY (RX E hb sb lw x t h) i) 27 rfl (by kernel_rfl) (by kernel_rfl) (kz E).drew ?_ ?_
 ·intro i o l hi v W J hd;have X:=aA (H1.o.dk J);obtain⟨c0,c2,c3,c4,c5,c6⟩:=X.o.c;match i,hi with
  | 0,_=>clear hd l;refine bD rfl ?_;go_wp2_with fail;exact⟨.pointer (some ⟨hb,0,none⟩),(by simp[aG]),rfl,Kt.refl _ _⟩
  | 1,_=>have e0:v 0=.pointer (some ⟨hb,0,none⟩):=hd 0 (by kernel_rfl);clear hd l;refine bD rfl ?_;go_wp2_with fail;exact⟨.pointer (some ⟨hb,0,none⟩),(by simp[aG,e0]),rfl,Kt.refl _ _⟩
  | 2,_=>have e1:v 1=.pointer (some ⟨hb,0,none⟩):=hd 1 (by kernel_rfl);clear hd l;refine bD rfl ?_;go_wp2_with fail;exact⟨.pointer (some ⟨hb,2,none⟩),(by simp[aG,e1]),rfl,Kt.refl _ _⟩
  | 3,_=>have e2:v 2=.pointer (some ⟨hb,2,none⟩):=hd 2 (by kernel_rfl);clear hd l;refine bD rfl ?_;go_wp2_with fail;exact⟨fF x.bS (x.dl:Int) (x.o:Int),(by simp[aG,e2]),rfl,Kt.refl _ _⟩
  | 4,_=>clear hd l;refine bD rfl ?_;go_wp2_with fail;exact⟨.pointer (some ⟨hb,0,none⟩),(by simp[aG]),rfl,Kt.refl _ _⟩
  | 5,_=>have e4:v 4=.pointer (some ⟨hb,0,none⟩):=hd 4 (by kernel_rfl);clear hd l;refine bD rfl ?_;go_wp2_with fail;exact⟨.pointer (some ⟨hb,0,none⟩),(by simp[aG,e4]),rfl,Kt.refl _ _⟩
  | 6,_=>have e5:v 5=.pointer (some ⟨hb,0,none⟩):=hd 5 (by kernel_rfl);clear hd l;refine bD rfl ?_;go_wp2_with fail;exact⟨.pointer (some ⟨hb,5,none⟩),(by simp[aG,e5]),rfl,Kt.refl _ _⟩
  | 7,_=>have e6:v 6=.pointer (some ⟨hb,5,none⟩):=hd 6 (by kernel_rfl);clear hd l;refine bD rfl ?_;go_wp2_with fail;exact⟨.pointer (some ⟨lw,0,none⟩),(by simp[aG,e6]),rfl,Kt.refl _ _⟩
  | 8,_=>have e7:v 7=.pointer (some ⟨lw,0,none⟩):=hd 7 (by kernel_rfl);clear hd l;refine bD rfl ?_;go_wp2_with fail;exact⟨.pointer (some ⟨lw,0,none⟩),(by simp[aG,e7]),rfl,Kt.refl _ _⟩
  | 9,_=>have e8:v 8=.pointer (some ⟨lw,0,none⟩):=hd 8 (by kernel_rfl);clear hd l;refine bD rfl ?_;go_wp2_with fail;exact⟨.pointer (some ⟨lw,0,none⟩),(by simp[aG,e8]),rfl,Kt.refl _ _⟩
  | 10,_=>
   have e9:v 9=.pointer (some ⟨lw,0,none⟩):=hd 9 (by kernel_rfl);clear hd l;refine bD rfl ?_;go_wp2_with (go_at_call 31;(refine(iI X.o.po.pl).mono ?_);rintro e wX ⟨rfl,A⟩;replace A:=A.symm;subst A)
   exact⟨.pointer (some ⟨x.s,0,none⟩),(by simp[aG,e9]),rfl,Kt.refl _ _⟩
  | 11,_=>
   have a8:v 10=.pointer (some ⟨x.s,0,none⟩):=hd 10 (by kernel_rfl);clear hd l;refine bD rfl ?_;go_wp2_with (go_at_call 32;(refine(M.regions_any x.s x.a x.bS x.R x.dl x.n t.f W X.o.po.pl.bd.sp).mono ?_);rintro e wX ⟨rfl,m,A⟩;have Z:=aA (show Kt nO W wX from by rw[A];exact(kz W).drewN m);clear A)
   exact⟨.int .i64 ((x.n/x.R:Nat):Int),(by simp[aG,a8]),rfl,Z.o⟩
  | 12,_=>clear hd l;refine bD rfl ?_;go_wp2_with fail;exact⟨.pointer (some ⟨hb,0,none⟩),(by simp[aG]),rfl,Kt.refl _ _⟩
  | 13,_=>have b0:v 12=.pointer (some ⟨hb,0,none⟩):=hd 12 (by kernel_rfl);clear hd l;refine bD rfl ?_;go_wp2_with fail;exact⟨.pointer (some ⟨hb,0,none⟩),(by simp[aG,b0]),rfl,Kt.refl _ _⟩
  | 14,_=>have a7:v 13=.pointer (some ⟨hb,0,none⟩):=hd 13 (by kernel_rfl);clear hd l;refine bD rfl ?_;go_wp2_with fail;exact⟨.pointer (some ⟨hb,5,none⟩),(by simp[aG,a7]),rfl,Kt.refl _ _⟩
  | 15,_=>have b8:v 14=.pointer (some ⟨hb,5,none⟩):=hd 14 (by kernel_rfl);clear hd l;refine bD rfl ?_;go_wp2_with fail;exact⟨.pointer (some ⟨lw,0,none⟩),(by simp[aG,b8]),rfl,Kt.refl _ _⟩
  | 16,_=>have L:v 15=.pointer (some ⟨lw,0,none⟩):=hd 15 (by kernel_rfl);clear hd l;refine bD rfl ?_;go_wp2_with fail;exact⟨.pointer (some ⟨lw,0,none⟩),(by simp[aG,L]),rfl,Kt.refl _ _⟩
  | 17,_=>have b3:v 16=.pointer (some ⟨lw,0,none⟩):=hd 16 (by kernel_rfl);clear hd l;refine bD rfl ?_;go_wp2_with fail;exact⟨.pointer (some ⟨lw,0,none⟩),(by simp[aG,b3]),rfl,Kt.refl _ _⟩
  | 18,_=>
   have d0:v 17=.pointer (some ⟨lw,0,none⟩):=hd 17 (by kernel_rfl);clear hd l;refine bD rfl ?_;go_wp2_with (go_at_call 33;(refine(AY X.o.po.pl).mono ?_);rintro e wX ⟨rfl,A⟩;replace A:=A.symm;subst A)
   exact⟨.pointer (some ⟨x.b,0,none⟩),(by simp[aG,d0]),rfl,Kt.refl _ _⟩
  | 19,_=>
   have a9:v 18=.pointer (some ⟨x.b,0,none⟩):=hd 18 (by kernel_rfl);clear hd l;refine bD rfl ?_;go_wp2_with (go_at_call 34;(refine(zj8 x t W X.o.po.pl.bd).mono ?_);rintro e wX ⟨rfl,T,N⟩;have Z:=aA N;have GX:=aA T;clear T N)
   exact⟨.slice (some ⟨_,0,none⟩) (x.o+1) (x.o+1),(by simp[aG,a9]),⟨_,rfl,GX.o,J.size⟩,Z.o⟩
  | 20,_=>clear hd l;refine bD rfl ?_;go_wp2_with fail;exact⟨.pointer (some ⟨hb,0,none⟩),(by simp[aG]),rfl,Kt.refl _ _⟩
  | 21,_=>have g3:v 20=.pointer (some ⟨hb,0,none⟩):=hd 20 (by kernel_rfl);clear hd l;refine bD rfl ?_;go_wp2_with fail;exact⟨.pointer (some ⟨hb,0,none⟩),(by simp[aG,g3]),rfl,Kt.refl _ _⟩
  | 22,_=>have c8:v 21=.pointer (some ⟨hb,0,none⟩):=hd 21 (by kernel_rfl);clear hd l;refine bD rfl ?_;go_wp2_with fail;exact⟨.pointer (some ⟨hb,6,none⟩),(by simp[aG,c8]),rfl,Kt.refl _ _⟩
  | 23,_=>have d4:v 22=.pointer (some ⟨hb,6,none⟩):=hd 22 (by kernel_rfl);clear hd l;refine bD rfl ?_;go_wp2_with fail;exact⟨.pointer (some ⟨sb,0,none⟩),(by simp[aG,d4]),rfl,Kt.refl _ _⟩
  | 24,_=>
   have d5:v 23=.pointer (some ⟨sb,0,none⟩):=hd 23 (by kernel_rfl);clear hd l;refine bD rfl ?_;go_wp2_with (go_at_call 35;(refine(ziX (c7.o.dk J)).mono ?_);rintro e wX ⟨bb,rfl,T,N,c1⟩;have Z:=aA N;have GX:=aA T;have NX:=aA c1;clear T N c1)
   exact⟨.slice (some ⟨bb,0,none⟩) 8 8,(by simp[aG,d5]),⟨_,rfl,GX.o,an J.size NX.o⟩,Z.o⟩
  | 25,_=>have e3:v 3=fF x.bS (x.dl:Int) (x.o:Int):=hd 3 (by kernel_rfl);have b7:v 11=.int .i64 ((x.n/x.R:Nat):Int):=hd 11 (by kernel_rfl);have g4:RH E x t (v 19) W:=hd 19 (by kernel_rfl);obtain⟨g,f9,d2,d1⟩:=g4;have d3:RT E h (v 24) W:=hd 24 (by kernel_rfl);obtain⟨b,g5,d7,d8⟩:=d3;clear hd l;refine bD rfl ?_;go_wp2_with fail;exact⟨bV x g b,(by simp[aG,e3,b7,f9,g5]),⟨g,b,rfl,⟨g,rfl,d2,d1⟩,b,rfl,d7,d8⟩,Kt.refl _ _⟩
  | 26,_=>clear hd l;refine bD rfl ?_;go_wp2_with fail;exact⟨.pointer (some ⟨W.heap.size,0,none⟩),(by simp[aG]),⟨_,rfl,nH W eK,J.size⟩,(kz W).alloc _⟩
  | i+27,hi=>omega
 ·intro o l v W J hd;obtain⟨g,b,d6,hH,hT⟩:RB E x t h (v 25) W:=hd 25 (by decide);obtain⟨n,z,a3,b9⟩:RN E (v 26) W:=hd 26 (by decide);obtain⟨z0,z1,z2,z3,z4,z5,z6,z7,z8,G⟩:=zX a3;have f0:=G 0;have f1:=G 1;have f2:=G 2;have f3:=G 3;have f4:=G 4;have f5:=G 5;have f6:=G 6;have f7:=G 7;have f8:=G 8;have H2:=aA (H1.o.dk J);have HN:=aA a3;have HG:=aA hH;have HB:=aA hT;have NL:=aA b9;clear hd l hH hT a3 b9 G;refine bD rfl ?_;go_wp2_with fail;refine NoPanic.normal ?_;refine vC (P:=fun W'=>Exit.then _ _ Exit.normal _ W') _ ?_;intro F a6;have K2:=aA (show Kt (fun y=>y=n) W F from by rw[a6];exact IZ _ _ _ _ _ _ _ _ _);have X2:=aA (show F.heap[n]?=some (iB x (.slice none 0 0) (.slice none 0 0) (.slice none 0 0) g b)from by
   rw[a6];have:=rF HN.o (.int .u64 x.bS) (.int .i64 x.dl) (.int .i64 x.o) (.int .i64 ((x.n:Int)/(x.R:Int))) (.slice none 0 0) (.slice none 0 0) (.slice none 0 0) (.slice (some ⟨g,0,none⟩) (x.o+1) (x.o+1)) (.slice (some ⟨b,0,none⟩) 8 8);exact this)
  have Z0:=aA (show Kt nO E F from J.trans K2.o (fun _ _ e=>e) (fun y hy e=>by have:=NL.o;omega));have J2:=aA (show HW w F hb sb lw x t fr ls S 1 from H2.o.other HN.o (an H1.o.po.pl.kp.size NL.o) (by unfold Go.Proofs.YtfmgnljlkdmndaaGreatDoor.pty;decide) (by decide) (by decide) K2.o);have G2:=aA (show RH E x t (.slice (some ⟨g,0,none⟩) (x.o+1) (x.o+1)) F from by
   obtain⟨g',e,A,I⟩:=HG.o
   cases e
   exact⟨g,rfl,(K2.o.block _ (lH A) (bX A HN.o (by decide))).trans A,I⟩)
  have B2:=aA (show RT E h (.slice (some ⟨b,0,none⟩) 8 8) F from by
   obtain⟨g',e,A,I⟩:=HB.o
   cases e
   exact⟨b,rfl,(K2.o.block _ (lH A) (bX A HN.o (by decide))).trans A,I⟩)
  clear a6 z0 z1 z2 z3 z4 z5 z6 z7 z8 f0 f1 f2 f3 f4 f5 f6 f7 f8 H2 HN HG HB K2 d6 J;have NW:=aA (show w.heap.size<=n from an H1.o.po.pl.kp.size NL.o);have N2:=aA (show n<F.heap.size from lH X2.o);refine hK _ _ ?_;go_upto_region 4 with fail;rename_i K4 g7;refine wp_region_noPanic ?_;refine zdj (by kernel_rfl) (F4 hb Y v) (fun _=>undef) (fun W=>(HW w W hb sb lw x t fr ls S 1/\(∃ ma ml mc,W.heap[n]?=some (iB x (.slice ma ml mc) (.slice none 0 0) (.slice none 0 0) g b)))/\Kt (fun y=>y=n) F W) (Kt nO) (fun W W'=>∃ ua ul uc,W'=W.setCell ⟨n,4,none⟩ (.slice ua ul uc)) (L4 F hb sb lw n x t) (RS F n x t g b) 19 rfl rfl ?_ ?_ ?_ ?_ ?_ (by kernel_rfl) ?_ ?_ ?_ ?_
  ·rintro W W' ⟨⟨A,ma,ml,mc,I⟩,h3⟩ k;exact⟨⟨A.dk k,ma,ml,mc,(k.block _ (lH I) id).trans I⟩,h3.trans k (fun _ _ e=>e) (fun _ _ e=>False.elim e)⟩
  ·rintro W W' ⟨⟨A,ma,ml,mc,I⟩,h3⟩ ⟨ua,ul,uc,rfl⟩;have k:=(Kt.refl (fun y=>y=n) W).setCell (p:=⟨n,4,none⟩) rfl (.slice ua ul uc);refine⟨⟨A.other I NW.o (by unfold Go.Proofs.YtfmgnljlkdmndaaGreatDoor.pty;decide) (by decide) (by decide) k,ua,ul,uc,?_⟩,h3.trans k (fun _ _ e=>e) (fun _ _ e=>e)⟩;exact cD I 4 (.slice ua ul uc)
  ·exact fun r hr u W W' _ h k=>zW _ (fun y e=>by cases e) r hr u W W' h k
  ·rintro u W W' _ ⟨bm,A,I⟩ k;exact⟨bm,(k.block _ (lH A) id).trans A,I.dk k id⟩
  ·rintro r hr u W W' _ h ⟨za,zl,zc,rfl⟩;exact zW (fun y=>y=n) (fun y e=>by rw[e];exact N2.o) r hr u W _ h ((Kt.refl (fun y=>y=n) W).setCell (p:=⟨n,4,none⟩) rfl (.slice za zl zc))
  ·exact⟨⟨J2.o.dk (kz F).drew,_,_,_,X2.o⟩,(Kt.refl _ F).drew⟩
  ·intro i o l hi v4 W hB hd;obtain⟨⟨hX,ma,ml,mc,hm⟩,J⟩:=hB;have X:=aA hX;have HM:=aA hm;obtain⟨c0,c2,c3,c4,c5,c6⟩:=hX.c;clear hX hm;match i,hi with
   | 0,_=>clear hd l;refine bD rfl ?_;go_wp2_with fail;exact⟨.pointer (some ⟨hb,0,none⟩),(by simp[aG,z]),rfl,Kt.refl _ _⟩
   | 1,_=>have e0:v4 0=.pointer (some ⟨hb,0,none⟩):=hd 0 (by kernel_rfl);clear hd l;refine bD rfl ?_;go_wp2_with fail;exact⟨.pointer (some ⟨hb,0,none⟩),(by simp[aG,e0,z]),rfl,Kt.refl _ _⟩
   | 2,_=>have e1:v4 1=.pointer (some ⟨hb,0,none⟩):=hd 1 (by kernel_rfl);clear hd l;refine bD rfl ?_;go_wp2_with fail;exact⟨.pointer (some ⟨hb,5,none⟩),(by simp[aG,e1,z]),rfl,Kt.refl _ _⟩
   | 3,_=>have e2:v4 2=.pointer (some ⟨hb,5,none⟩):=hd 2 (by kernel_rfl);clear hd l;refine bD rfl ?_;go_wp2_with fail;exact⟨.pointer (some ⟨lw,0,none⟩),(by simp[aG,e2,z]),rfl,Kt.refl _ _⟩
   | 4,_=>have e3:v4 3=.pointer (some ⟨lw,0,none⟩):=hd 3 (by kernel_rfl);clear hd l;refine bD rfl ?_;go_wp2_with fail;exact⟨.pointer (some ⟨lw,0,none⟩),(by simp[aG,e3,z]),rfl,Kt.refl _ _⟩
   | 5,_=>have e4:v4 4=.pointer (some ⟨lw,0,none⟩):=hd 4 (by kernel_rfl);clear hd l;refine bD rfl ?_;go_wp2_with fail;exact⟨.pointer (some ⟨lw,0,none⟩),(by simp[aG,e4,z]),rfl,Kt.refl _ _⟩
   | 6,_=>
    have e5:v4 5=.pointer (some ⟨lw,0,none⟩):=hd 5 (by kernel_rfl);clear hd l;refine bD rfl ?_;go_wp2_with (go_at_call 31;(refine(iI X.o.po.pl).mono ?_);rintro e wX ⟨rfl,A⟩;replace A:=A.symm;subst A)
    exact⟨.pointer (some ⟨x.s,0,none⟩),(by simp[aG,e5,z]),rfl,Kt.refl _ _⟩
   | 7,_=>clear hd l;refine bD rfl ?_;go_wp2_with fail;exact⟨.pointer (some ⟨hb,0,none⟩),(by simp[aG,z]),rfl,Kt.refl _ _⟩
   | 8,_=>have e7:v4 7=.pointer (some ⟨hb,0,none⟩):=hd 7 (by kernel_rfl);clear hd l;refine bD rfl ?_;go_wp2_with fail;exact⟨.pointer (some ⟨hb,0,none⟩),(by simp[aG,e7,z]),rfl,Kt.refl _ _⟩
   | 9,_=>have e8:v4 8=.pointer (some ⟨hb,0,none⟩):=hd 8 (by kernel_rfl);clear hd l;refine bD rfl ?_;go_wp2_with fail;exact⟨.pointer (some ⟨hb,2,none⟩),(by simp[aG,e8,z]),rfl,Kt.refl _ _⟩
   | 10,_=>have e9:v4 9=.pointer (some ⟨hb,2,none⟩):=hd 9 (by kernel_rfl);clear hd l;refine bD rfl ?_;go_wp2_with fail;exact⟨.pointer (some ⟨hb,2,none⟩),(by simp[aG,e9,z]),rfl,Kt.refl _ _⟩
   | 11,_=>have a8:v4 10=.pointer (some ⟨hb,2,none⟩):=hd 10 (by kernel_rfl);clear hd l;refine bD rfl ?_;go_wp2_with fail;exact⟨.int .u64 x.bS,(by simp[aG,a8,z]),rfl,Kt.refl _ _⟩
   | 12,_=>clear hd l;refine bD rfl ?_;go_wp2_with fail;exact⟨.pointer (some ⟨hb,0,none⟩),(by simp[aG,z]),rfl,Kt.refl _ _⟩
   | 13,_=>
    have b0:v4 12=.pointer (some ⟨hb,0,none⟩):=hd 12 (by kernel_rfl);clear hd l;refine bD rfl ?_;go_wp2_with (go_at_call 37;(refine(zgu X.o).mono ?_);rintro e wX ⟨rfl,hx⟩;have Z:=aA hx;clear hx)
    exact⟨.int .u64 x.n,(by simp[aG,b0,z]),rfl,Z.o⟩
   | 14,_=>
    have e6:v4 6=.pointer (some ⟨x.s,0,none⟩):=hd 6 (by kernel_rfl);have b7:v4 11=.int .u64 x.bS:=hd 11 (by kernel_rfl);have a7:v4 13=.int .u64 x.n:=hd 13 (by kernel_rfl);clear hd l;refine bD rfl ?_;go_wp2_with (go_at_call 36;(refine(zkD X.o).mono ?_);rintro e wX ⟨bm,rfl,hx,hk⟩;have Z:=aA hk;have GX:=aA hx;clear hx hk)
    exact⟨.tuple #[.slice (some ⟨bm,0,none⟩) x.n x.n,.int .i64 0],(by simp[aG,e6,b7,a7,z]),⟨_,rfl,an J.size GX.o.1,GX.o.2⟩,Z.o⟩
   | 15,_=>have g8:RM F x t (v4 14) W:=hd 14 (by kernel_rfl);obtain⟨bm,b8,C⟩:=g8;clear hd l;refine bD rfl ?_;go_wp2_with fail;exact⟨.tuple #[.slice (some ⟨bm,0,none⟩) x.n x.n,.int .i64 0],(by simp[aG,b8,z]),⟨_,rfl,C⟩,Kt.refl _ _⟩
   | 16,_=>have b5:RM F x t (v4 15) W:=hd 15 (by kernel_rfl);obtain⟨bm,L,C⟩:=b5;clear hd l;refine bD rfl ?_;go_wp2_with fail;exact⟨.slice (some ⟨bm,0,none⟩) x.n x.n,(by simp[aG,L,z]),⟨_,rfl,C⟩,Kt.refl _ _⟩
   | 17,_=>have b5:RM F x t (v4 15) W:=hd 15 (by kernel_rfl);obtain⟨bm,L,C⟩:=b5;clear hd l;refine bD rfl ?_;go_wp2_with fail;exact⟨.int .i64 0,(by simp[aG,L,z]),rfl,Kt.refl _ _⟩
   | 18,_=>clear hd l;refine bD rfl ?_;go_wp2_with fail;exact⟨.pointer (some ⟨n,4,none⟩),(by simp[aG,z]),rfl,Kt.refl _ _⟩
   | i+19,hi=>exact absurd hi (by show ¬i+19<19;omega)
  ·intro o l v4 W hB hd;obtain⟨⟨hX,ma,ml,mc,hm⟩,J⟩:=hB;have a9:v4 18=.pointer (some ⟨n,4,none⟩):=hd 18 (by kernel_rfl);obtain⟨bm,b3,C⟩:RQ F x t (v4 16) W:=hd 16 (by kernel_rfl);have c4:W.cell? ⟨n,4,none⟩=some (.slice ma ml mc):=(by simp[World.cell?,hm]);have f4:W.frozen? ⟨n,4,none⟩=false:=(by simp[World.frozen?,hm]);have D:=aA (show RS F n x t g b undef (W.setCell ⟨n,4,none⟩ (.slice (some ⟨bm,0,none⟩) x.n x.n))from⟨bm,cD hm 4 _,C.dk ((Kt.refl (fun y=>y=n) W).setCell (p:=⟨n,4,none⟩) rfl _) (fun e=>by have e:bm=n:=e;have:=C.1;have:=N2.o;omega)⟩);clear hd l hX hm C;refine bD rfl ?_;go_wp2_with fail;exact⟨undef,by simp[aG,b3,a9,z],D.o,_,_,_,rfl⟩
  ·intro v4 W ⟨⟨A,ma,ml,mc,I⟩,h3⟩ hd hs;refine NoPanic.normal ?_;obtain⟨bm,h4,C⟩:=hs;have H4:=aA A;have X4:=aA h4;have M4:=aA C;have Q:=aA h3;have MP:=aA (bR A.po.pl);have PL:=aA (zi6 x.m x.B t.m W A.po.pl.bd.mp);obtain⟨c0,c2,c3,c4,c5,c6⟩:=A.c;clear hd A I h3 h4 C;refine g7 _ _ ?_;go_wp2_with fail;refine MP.o.mono ?_;rintro e w5 ⟨rfl,h5⟩;replace h5:=h5.symm;subst h5;go_wp2_with fail;refine PL.o.mono ?_;rintro e w6 ⟨gp,gq,D,rfl,bF⟩;have X6:=aA ((bF.kp.block _ (lH X4.o) id).trans X4.o);have TL:=aA bF;have H6:=aA (H4.o.dk bF.kp);clear bF c0 c2 c3 c4 c5 c6 MP PL;obtain⟨z0,z1,z2,z3,z4,z5,z6,z7,z8,G⟩:=zA X6.o;have y5:=G 5;have y6:=G 6;clear G;go_upto_region 6 with fail;refine vC (P:=fun W'=>Code.wp prog _ _ _ W') _ ?_;intro W7 a4;have K7:=aA (show Kt (fun y=>y=n) w6 W7 from by rw[a4];exact((Kt.refl (fun y=>y=n) w6).setCell (p:=⟨n,5,none⟩) rfl _).setCell (p:=⟨n,6,none⟩) rfl _);have X7:=aA (show W7.heap[n]?=some (iB x (.slice (some ⟨bm,0,none⟩) x.n x.n) (.slice (some ⟨gp,0,none⟩) t.m.n t.m.n) (.slice (some ⟨gq,0,none⟩) t.m.o t.m.o) g b)from by rw[a4];exact cD (cD X6.o 5 _) 6 _);clear a4 z0 z1 z2 z3 z4 z5 z6 z7 z8 y5 y6;have H7:=aA (H6.o.other X6.o NW.o (by unfold Go.Proofs.YtfmgnljlkdmndaaGreatDoor.pty;decide) (by decide) (by decide) K7.o);have Z7:=aA (show Kt nO E W7 from by
    have q1:=NL.o;have s2:=Z0.o.size;have a1:Kt nO E W:=Z0.o.trans Q.o (fun _ _ e=>e) (fun y hy e=>by omega);have a2:Kt nO E w6:=nT a1 TL.o.kp;exact a2.trans K7.o (fun _ _ e=>e) (fun y hy e=>by omega))
   have R7:=aA (show W7.heap[Y]?=some eK from(Z7.o.block _ (lH R1.o) id).trans R1.o);have T7:=aA (show ImT E.heap.size W7 x t h bm gp gq D g b from by
    have q1:=NL.o;have s2:=Z0.o.size;have s3:=Q.o.size;have U:=TL.o;obtain⟨g',e1,g1,g2⟩:=G2.o
    cases e1
    obtain⟨b',e2,b1,b2⟩:=B2.o
    cases e2
    obtain⟨cs,q4,q5,q6⟩:=U.q;have g9:=N2.o;have nn:∀ y,W.heap.size<=y->y≠n:=fun y hy e=>by omega
    have gn:g≠n:=bX g1 X2.o (by decide);have bn:b≠n:=bX b1 X2.o (by decide);have mb:=M4.o;have mn:bm≠n:=(by have:=mb.1;omega);have g6:=(U.kp.block _ (bg (lH g1) s3) id).trans ((Q.o.block _ (lH g1) gn).trans g1);have b6:=(U.kp.block _ (bg (lH b1) s3) id).trans ((Q.o.block _ (lH b1) bn).trans b1);have m6:=mb.dk U.kp id;have k7:=K7.o;have p0:=U.fp;have p1:=U.fq;have p2:=U.fd;exact⟨by have:=mb.1;omega,bg m6.2.1 k7.size,m6.2.2.imp id (fun hB=>⟨hB.1,(k7.block _ (lH hB.2) mn).trans hB.2⟩),by omega,U.row.kept k7 (nn _ p0),by omega,⟨cs,(k7.block _ (lH q4) (nn _ p1)).trans q4,q5,q6⟩,fun j hj=>by have:=p2 j hj;omega,fun j hj=>(k7.block _ (lH (U.d j hj)) (nn _ (p2 j hj))).trans (U.d j hj),g2,(k7.block _ (lH g6) gn).trans g6,b2,(k7.block _ (lH b6) bn).trans b6⟩)
   clear Z0 Q TL K7 H6 H4 X4 X6 M4 G2 B2 J2 X2;obtain⟨z0,z1,z2,z3,z4,z5,z6,z7,z8,-⟩:=zA X7.o;obtain⟨r0,r1,r2,r3,r4,r5,r6,r7,r8,V⟩:=zX R7.o;have f0:=V 0;have f1:=V 1;have f2:=V 2;have f3:=V 3;have f4:=V 4;have f5:=V 5;have f6:=V 6;have f7:=V 7;have f8:=V 8;clear V;go_wp2_with fail;refine vC (P:=fun W'=>bodyPostD _ _ _ _ _ W') _ ?_;intro W8 a5;have K8:=aA (show Kt (fun y=>y=Y) W7 W8 from by rw[a5];exact IZ _ _ _ _ _ _ _ _ _);have X8:=aA (show W8.heap[Y]?=some (iB x (.slice (some ⟨bm,0,none⟩) x.n x.n) (.slice (some ⟨gp,0,none⟩) t.m.n t.m.n) (.slice (some ⟨gq,0,none⟩) t.m.o t.m.o) g b)from by rw[a5];exact rF R7.o _ _ _ (.int .i64 ((x.n:Int)/(x.R:Int))) _ _ _ _ _)
   clear a5 z0 z1 z2 z3 z4 z5 z6 z7 z8 r0 r1 r2 r3 r4 r5 r6 r7 r8 f0 f1 f2 f3 f4 f5 f6 f7 f8;have H8:=aA (H7.o.other R7.o c9.o (by unfold Go.Proofs.YtfmgnljlkdmndaaGreatDoor.pty;decide) (by decide) (by decide) K8.o);have UL:=aA (H8.o.unlock .returning);have L1:=aA (show Y<E.heap.size/\hb<E.heap.size from⟨lH R1.o,lH H1.o.bx⟩);have Z8:=aA (show Kt (fun y=>y=Y) (eI Wa hb) W8 from by have:=Z7.o;rw[E1.o] at this;exact(this.mono (fun _ _ e=>e.elim)).trans K8.o (fun _ _ e=>e) (fun _ _ e=>e))
   have KF:=aA (show Kt nO Wo (eJ W8 hb)from d9.o _ (H0.o.round (K:=fun y=>y=Y) (fun e=>b4.o e.symm) Z8.o H8.o rfl rfl rfl));have X9:=aA (show(eJ W8 hb).heap[Y]?=some (iB x (.slice (some ⟨bm,0,none⟩) x.n x.n) (.slice (some ⟨gp,0,none⟩) t.m.n t.m.n) (.slice (some ⟨gq,0,none⟩) t.m.o t.m.o) g b)from((H8.o.set 0).2.block _ (lH X8.o) b4.o).trans X8.o);have T9:=aA (show ImT E.heap.size (eJ W8 hb) x t h bm gp gq D g b from
    (T7.o.dk K8.o (fun y e=>by rw[e];exact L1.o.1)).dk (H8.o.set 0).2 (fun y e=>by rw[show y=hb from e];exact L1.o.2))
   have DD:=aA (QV T9.o H g0.o may);have RG:=aA (show x.n/x.R=t.m.n/2 ^ x.o from by obtain⟨h',o⟩:=H.so;rw[<-o.st,o.sw.pl.bd.hR,aq 4096 (2 ^ x.o),Nat.mul_div_mul_right _ _ (by decide)])
   obtain⟨u0,u1,u2,u3,u4,u5,u6,u7,u8,-⟩:=zA X9.o;refine dm (f:=30) (args:=#[.pointer (some ⟨hb,0,none⟩)]) (by simp) (by simp[go_sem]) ?_;refine UL.o.mono ?_;rintro e u' w3 ⟨rfl,rfl,rfl⟩;refine⟨_,?_,rO x t bm gp gq g b,rfl,DD.o,KF.o⟩;have e:(bN x t S x.dl).ep=((x.n/x.R:Nat):Int):=(by rw[RG.o];rfl);simp[results,results9,go_sem,u0,u1,u2,u3,u4,u5,u6,u7,u8];exact⟨rfl,rfl,rfl,e.symm⟩
end
end Go.Proofs.YtfmgnljlkdmndaaGreatDoor
