import Derived.Test.YtkfmheelhinjdaaGreatDoorXz
import Derived.Test.YtkfmheelhinjdaaGreatDoorXq
set_option maxRecDepth 1000000
set_option maxHeartbeats 80000000
namespace Go.Proofs.YtkfmheelhinjdaaGreatDoor
open _root_.Go.Proofs.Tryz
open Go.RowKit
open Go.MuLone
set_option linter.unusedVariables false
set_option maxHeartbeats 8000000
set_option maxRecDepth 6000
theorem sM{P:World->Prop}(w:World)(h:∀ W,W=w->P W):P w:=h w rfl
abbrev jH:Obj:=.cells #[.int .u64 0,.int .i64 0,.int .i64 0,.int .i64 0,.slice none 0 0,.slice none 0 0,.slice none 0 0,.slice none 0 0,.slice none 0 0] 38 (0,0)
section
variable {w Wo:World} {hb sb lw:Nat} {x:Bx} {t:Bt} {fr:Nat->List Nat} {ls:List (Nat×Nat)} {S:Sb}
end
structure ImT(N:Nat)(W:World)(x:Bx)(t:Bt)(h:Nat->Int)(bm gp gq:Nat)(D:Nat->Nat)(g b:Nat):Prop where
 nm:N<=bm
 lm:bm<W.heap.size
 m:x.n=0\/M.Blk W bm x.n t.f
 np:N<=gp
 row:bH W gp t.m.n t.m.pg
 nq:N<=gq
 q:∃ cs:Array Value,W.heap[gq]?=some (.cells cs 35 (0,0))/\cs.size=t.m.o/\∀ j,j<t.m.o->cs[j]?=some (pQ D t.m.wd j)
 nd:∀ j,j<t.m.o->N<=D j
 d:∀ j,j<t.m.o->W.heap[D j]?=some (.cells (bI (t.m.wd j)) 27 (0,0))
 ng:N<=g
 g:W.heap[g]?=some (.cells (bI (iH x t)) 27 (0,0))
 nb:N<=b
 b:W.heap[b]?=some (nX h)
theorem ImT.keep{N:Nat}{W W':World}{x t h bm gp gq D g b}(s:ImT N W x t h bm gp gq D g b){U:Nat->Prop}(k:Kt U W W')(hU:∀ y,U y->y<N):ImT N W' x t h bm gp gq D g b:=by
 have nu:∀ y,N<=y->¬U y:=fun y hy e=>by have:=hU y e;omega
 obtain⟨cs,q1,q2,q3⟩:=s.q;exact⟨s.nm,Nat.lt_of_lt_of_le s.lm k.size,s.m.imp id (fun hb=>⟨hb.1,(k.block _ (lH hb.2) (nu _ s.nm)).trans hb.2⟩),s.np,s.row.kept k (nu _ s.np),s.nq,⟨cs,(k.block _ (lH q1) (nu _ s.nq)).trans q1,q2,q3⟩,s.nd,fun j hj=>(k.block _ (lH (s.d j hj)) (nu _ (s.nd j hj))).trans (s.d j hj),s.ng,(k.block _ (lH s.g) (nu _ s.ng)).trans s.g,s.nb,(k.block _ (lH s.b) (nu _ s.nb)).trans s.b⟩
abbrev pX(x:Bx)(t:Bt)(bm gp gq g b:Nat):W.ImV:=⟨.slice (some ⟨bm,0,none⟩) x.n x.n,.slice (some ⟨gp,0,none⟩) t.m.n t.m.n,.slice (some ⟨gq,0,none⟩) t.m.o t.m.o,.slice (some ⟨g,0,none⟩) (x.o+1) (x.o+1),.slice (some ⟨b,0,none⟩) 8 8⟩
theorem FM{N:Nat}{V w Wo:World}{x t h bm gp gq D g b}{hb sb lw:Nat}{fr:Nat->List Nat}{ls:List (Nat×Nat)}{S:Sb}{s:Int}(T:ImT N V x t h bm gp gq D g b)(H:HW w Wo hb sb lw x t fr ls S s)(hh:∀ k,k<8->h k=bE (S.pl k))(may:M.mayB x.bS (x.lim:Int) (x.o:Int)=true):W.ImD V (bJ x t S x.lim) (pX x t bm gp gq g b):=by
 obtain⟨B,st⟩:=H.st0 may;obtain⟨kk,LL,f1,f2,f3,f4,f5,f6,f7,f8⟩:=W.may_facts may;obtain⟨n1,n2,n3,n4,n5,n6,n7⟩:=H.po.nums;have hbd:=H.po.pl.bd;have hle:=st.le;have hdl:(iH x t).length=x.o+1:=YZ x t;refine⟨by show x.bS<_;omega,by show W.N64 (x.lim:Int);exact⟨by omega,by omega⟩,by show W.N64 (x.o:Int);exact⟨by omega,by omega⟩,?_,?_,?_,?_,?_,?_,?_⟩
 ·show W.N64 ((t.m.n/2 ^ x.o:Nat):Int)
  generalize t.m.n/2 ^ x.o=q at hle;exact⟨by omega,by omega⟩
 ·refine⟨by show x.n<=_;omega,_,_,rfl,T.m.imp id fun hB=>⟨bm,0,rfl,T.lm,fun i hi=>⟨hB.1 i hi,?_⟩⟩⟩;rw[Nat.zero_add];exact hB.cell i hi
 ·intro a n c e
  cases e
  exact Nat.le_refl _
 ·refine⟨by show t.m.n<=_;omega,_,_,rfl,.inr ⟨gp,0,rfl,aU.lt T.row,fun i hi=>⟨st.pin i hi,fun j hj=>?_⟩⟩⟩;obtain⟨cs,r1,r2,r3⟩:=T.row;have:=r3 i hi j hj;rw[Nat.zero_add];simp[World.cell?,r1,this];rfl
 ·obtain⟨cs,q1,q2,q3⟩:=T.q;have ho:t.m.o=x.o:=hbd.mo;refine⟨pQ D t.m.wd,by show x.o<=_;omega,some ⟨gq,0,none⟩,x.o,by show Value.slice _ t.m.o t.m.o=_;rw[ho];rfl,.inr ⟨gq,0,rfl,lH q1,fun k hk=>⟨?_,?_⟩⟩⟩
  ·have:=q3 k (by rw[ho];exact hk);rw[Nat.zero_add];simp[World.cell?,q1,this]
  ·have hk':k<t.m.o:=(by rw[ho];exact hk);have hst:=hbd.mp.set k hk';refine⟨fun i=>?_,_,_,rfl,.inr ⟨⟨D k,0,none⟩,rfl,lH (T.d k hk'),fun j hj=>?_⟩⟩
   ·rcases Nat.lt_or_ge i (t.m.wd k).length with hi|hi
    ·exact Nat.lt_of_lt_of_le (hst.ok i hi) (Nat.pow_le_pow_right (by decide) (by omega))
    ·show(t.m.wd k).getD i 0<_
     rw[List.getD_eq_getElem?_getD,List.getElem?_eq_none hi];decide
   ·have hj:j<(t.m.wd k).length:=hj;rw[Addr.add_lit,Nat.zero_add];show V.cell? _=some (.int .u64 (((t.m.wd k).getD j 0:Nat):Int))
    simp[World.cell?,T.d k hk',bI,hj]
 ·have e:(bJ x t S x.lim).hd=iH x t:=rfl;rw[e,hdl];refine⟨by omega,_,_,rfl,.inr ⟨g,0,rfl,lH T.g,fun i hi=>?_⟩⟩;have hi':i<(iH x t).length:=by rw[hdl];exact hi
  refine⟨?_,?_⟩
  ·have:(iH x t).getD i 0=t.hd i:=by
    unfold iH;rw[List.getD_eq_getElem?_getD,List.getElem?_map,List.getElem?_range (by omega)];rfl
   rw[this];exact(hbd.ls i (by omega)).h64
  ·rw[Nat.zero_add];simp[World.cell?,T.g,bI,hi']
 ·have e:(bJ x t S x.lim).pt=(List.range 8).map fun k=>bE (S.pl k):=rfl
  rw[e];refine⟨by simp,some ⟨b,0,none⟩,8,by simp,.inr ⟨b,0,rfl,lH T.b,fun i hi=>?_⟩⟩;have hi8:i<8:=by simpa using hi
  have e2:((List.range 8).map fun k=>bE (S.pl k)).getD i 0=h i:=by
   rw[List.getD_eq_getElem?_getD,List.getElem?_map,List.getElem?_range hi8,hh i hi8];rfl
  rw[W.InC,e2];refine⟨?_,?_⟩
  ·rw[hh i hi8];obtain⟨h',o⟩:=H.so;rcases pC (S.pl i)with e|⟨r,e,hr⟩
   ·rw[e];exact⟨by omega,by omega⟩
   ·have:=(o.mem ((o.si.pm i hi8 r).1 hr).1).2.2.1;rw[e];exact⟨by omega,by omega⟩
  ·rw[Nat.zero_add];rcases i with _|_|_|_|_|_|_|_|i
   all_goals first|omega|simp[World.cell?,T.b]
set_option maxHeartbeats 8000000
set_option maxRecDepth 6000
def VQ(v:Value):Value->World->Prop:=fun u _=>u=v
def RH(W1:World)(x:Bx)(t:Bt):Value->World->Prop:=fun u W=>∃ g,u=.slice (some ⟨g,0,none⟩) (x.o+1) (x.o+1)/\W.heap[g]?=some (.cells (bI (iH x t)) 27 (0,0))/\W1.heap.size<=g
def RT(W1:World)(h:Nat->Int):Value->World->Prop:=fun u W=>∃ b,u=.slice (some ⟨b,0,none⟩) 8 8/\W.heap[b]?=some (nX h)/\W1.heap.size<=b
abbrev bV(x:Bx)(g b:Nat):Value:=.agg #[.int .u64 x.bS,.int .i64 x.lim,.int .i64 x.o,.int .i64 ((x.n/x.R:Nat):Int),.slice none 0 0,.slice none 0 0,.slice none 0 0,.slice (some ⟨g,0,none⟩) (x.o+1) (x.o+1),.slice (some ⟨b,0,none⟩) 8 8]
def RB(W1:World)(x:Bx)(t:Bt)(h:Nat->Int):Value->World->Prop:=fun u W=>∃ g b,u=bV x g b/\RH W1 x t (.slice (some ⟨g,0,none⟩) (x.o+1) (x.o+1)) W/\RT W1 h (.slice (some ⟨b,0,none⟩) 8 8) W
def RN(W1:World):Value->World->Prop:=fun u W=>∃ n,u=.pointer (some ⟨n,0,none⟩)/\W.heap[n]?=some jH/\W1.heap.size<=n
def lX(r:Value->World->Prop):Prop:=∀ u W W',r u W->Kt nO W W'->r u W'
theorem FI(v:Value):lX (VQ v):=fun u W W' h _=>h
theorem vX(W1 x t):lX (RH W1 x t):=fun u W W' ⟨g,h1,h2,h3⟩ k=>⟨g,h1,(k.block _ (lH h2) id).trans h2,h3⟩
theorem vW(W1 h):lX (RT W1 h):=fun u W W' ⟨g,h1,h2,h3⟩ k=>⟨g,h1,(k.block _ (lH h2) id).trans h2,h3⟩
theorem FH(W1 x t h):lX (RB W1 x t h):=fun u W W' ⟨g,b,h1,h2,h3⟩ k=>⟨g,b,h1,vX _ _ _ _ _ _ h2 k,vW _ _ _ _ _ h3 k⟩
theorem FF(W1):lX (RN W1):=fun u W W' ⟨g,h1,h2,h3⟩ k=>⟨g,h1,(k.block _ (lH h2) id).trans h2,h3⟩
theorem EZ{L:List (Value->World->Prop)}(h:∀ r∈L,lX r)(i:Nat):lX (L.getD i bY):=by
 rw[List.getD_eq_getElem?_getD]
 cases e:L[i]? with
 | none=>exact fun _ _ _ h _=>h
 | some r=>exact h r (List.mem_of_getElem? e)
def L3(W1:World)(hb sb lw:Nat)(x:Bx)(t:Bt)(h:Nat->Int):List (Value->World->Prop):=[VQ (.pointer (some ⟨hb,0,none⟩)),VQ (.pointer (some ⟨hb,0,none⟩)),VQ (.pointer (some ⟨hb,2,none⟩)),VQ (gG x.bS (x.lim:Int) (x.o:Int)),VQ (.pointer (some ⟨hb,0,none⟩)),VQ (.pointer (some ⟨hb,0,none⟩)),VQ (.pointer (some ⟨hb,5,none⟩)),VQ (.pointer (some ⟨lw,0,none⟩)),VQ (.pointer (some ⟨lw,0,none⟩)),VQ (.pointer (some ⟨lw,0,none⟩)),VQ (.pointer (some ⟨x.s,0,none⟩)),VQ (.int .i64 ((x.n/x.R:Nat):Int)),VQ (.pointer (some ⟨hb,0,none⟩)),VQ (.pointer (some ⟨hb,0,none⟩)),VQ (.pointer (some ⟨hb,5,none⟩)),VQ (.pointer (some ⟨lw,0,none⟩)),VQ (.pointer (some ⟨lw,0,none⟩)),VQ (.pointer (some ⟨lw,0,none⟩)),VQ (.pointer (some ⟨x.b,0,none⟩)),RH W1 x t,VQ (.pointer (some ⟨hb,0,none⟩)),VQ (.pointer (some ⟨hb,0,none⟩)),VQ (.pointer (some ⟨hb,6,none⟩)),VQ (.pointer (some ⟨sb,0,none⟩)),RT W1 h,RB W1 x t h,RN W1]
theorem EY(W1 hb sb lw x t h):∀ r∈L3 W1 hb sb lw x t h,lX r:=by
 unfold L3;repeat refine List.forall_mem_cons.2 ⟨by first|exact FI _|exact vX _ _ _|exact vW _ _|exact FH _ _ _ _|exact FF _,?_⟩
 exact fun r hr=>by cases hr
abbrev F3(hb rb:Nat)(v:Nat->Value):Act:=⟨#[.pointer (some ⟨hb,0,none⟩),undef,.pointer (some ⟨rb,0,none⟩),v 26,.pointer (some ⟨hb,0,none⟩),.pointer (some ⟨hb,0,none⟩),.pointer (some ⟨hb,0,none⟩),.tuple #[],.pointer (some ⟨hb,0,none⟩),.pointer (some ⟨hb,0,none⟩),.pointer (some ⟨hb,0,none⟩),v 0,v 1,v 2,v 3,v 4,v 5,v 6,v 7,v 8,v 9,v 10,v 11,v 12,v 13,v 14,v 15,v 16,v 17,v 18,v 19,v 20,v 21,v 22,v 23,v 24,v 25,undef,undef,undef,undef,undef,undef,undef,undef,undef,undef,undef,undef,undef,undef,undef,undef,undef,undef,undef,undef,undef,undef,undef,undef,undef,undef,undef,undef,undef,undef,undef,undef,undef],[{ target:=Target.fn (Fn.func 36) #[],args:=#[.pointer (some ⟨hb,0,none⟩)] }]⟩
theorem vV{W:World}{y:Nat}(h:W.heap[y]?=some jH):W.cell? ⟨y,0,none⟩=some (.int .u64 0)/\W.cell? ⟨y,1,none⟩=some (.int .i64 0)/\W.cell? ⟨y,2,none⟩=some (.int .i64 0)/\W.cell? ⟨y,3,none⟩=some (.int .i64 0)/\W.cell? ⟨y,4,none⟩=some (.slice none 0 0)/\W.cell? ⟨y,5,none⟩=some (.slice none 0 0)/\W.cell? ⟨y,6,none⟩=some (.slice none 0 0)/\W.cell? ⟨y,7,none⟩=some (.slice none 0 0)/\W.cell? ⟨y,8,none⟩=some (.slice none 0 0)/\∀ j,W.frozen? ⟨y,j,none⟩=false:=by
 refine⟨?_,?_,?_,?_,?_,?_,?_,?_,?_,fun j=>?_⟩ <;> simp[World.cell?,World.frozen?,h]
abbrev iB(x:Bx)(m p r:Value)(g b:Nat):Obj:=.cells #[.int .u64 x.bS,.int .i64 x.lim,.int .i64 x.o,.int .i64 ((x.n/x.R:Nat):Int),m,p,r,.slice (some ⟨g,0,none⟩) (x.o+1) (x.o+1),.slice (some ⟨b,0,none⟩) 8 8] 38 (0,0)
theorem vH{W:World}{y:Nat}{x:Bx}{ma pa ra:Option Addr}{ml mc pl pc rl rc g b:Nat}(h:W.heap[y]?=some (iB x (.slice ma ml mc) (.slice pa pl pc) (.slice ra rl rc) g b)):W.cell? ⟨y,0,none⟩=some (.int .u64 x.bS)/\W.cell? ⟨y,1,none⟩=some (.int .i64 x.lim)/\W.cell? ⟨y,2,none⟩=some (.int .i64 x.o)/\W.cell? ⟨y,3,none⟩=some (.int .i64 ((x.n/x.R:Nat):Int))/\W.cell? ⟨y,4,none⟩=some (.slice ma ml mc)/\W.cell? ⟨y,5,none⟩=some (.slice pa pl pc)/\W.cell? ⟨y,6,none⟩=some (.slice ra rl rc)/\W.cell? ⟨y,7,none⟩=some (.slice (some ⟨g,0,none⟩) (x.o+1) (x.o+1))/\W.cell? ⟨y,8,none⟩=some (.slice (some ⟨b,0,none⟩) 8 8)/\∀ j,W.frozen? ⟨y,j,none⟩=false:=by
 refine⟨?_,?_,?_,?_,?_,?_,?_,?_,?_,fun j=>?_⟩ <;> simp[World.cell?,World.frozen?,h]
theorem zR{W:World}{y:Nat}(u0 u1 u2 u3 u4 u5 u6 u7 u8:Value):Kt (fun z=>z=y) W (((((((((W.setCell ⟨y,0,none⟩ u0).setCell ⟨y,1,none⟩ u1).setCell ⟨y,2,none⟩ u2).setCell ⟨y,3,none⟩ u3).setCell ⟨y,4,none⟩ u4).setCell ⟨y,5,none⟩ u5).setCell ⟨y,6,none⟩ u6).setCell ⟨y,7,none⟩ u7).setCell ⟨y,8,none⟩ u8):=
 (((((((((Kt.refl (fun z=>z=y) W).setCell (p:=⟨y,0,none⟩) rfl u0).setCell (p:=⟨y,1,none⟩) rfl u1).setCell (p:=⟨y,2,none⟩) rfl u2).setCell (p:=⟨y,3,none⟩) rfl u3).setCell (p:=⟨y,4,none⟩) rfl u4).setCell (p:=⟨y,5,none⟩) rfl u5).setCell (p:=⟨y,6,none⟩) rfl u6).setCell (p:=⟨y,7,none⟩) rfl u7).setCell (p:=⟨y,8,none⟩) rfl u8
theorem pT{W:World}{y:Nat}(h:W.heap[y]?=some jH)(u0 u1 u2 u3 u4 u5 u6 u7 u8:Value):(((((((((W.setCell ⟨y,0,none⟩ u0).setCell ⟨y,1,none⟩ u1).setCell ⟨y,2,none⟩ u2).setCell ⟨y,3,none⟩ u3).setCell ⟨y,4,none⟩ u4).setCell ⟨y,5,none⟩ u5).setCell ⟨y,6,none⟩ u6).setCell ⟨y,7,none⟩ u7).setCell ⟨y,8,none⟩ u8).heap[y]?=some (.cells #[u0,u1,u2,u3,u4,u5,u6,u7,u8] 38 (0,0)):=by
 have:=heap_set (heap_set (heap_set (heap_set (heap_set (heap_set (heap_set (heap_set (heap_set h 0 u0) 1 u1) 2 u2) 3 u3) 4 u4) 5 u5) 6 u6) 7 u7) 8 u8;simpa using this
def mX(W2:World)(x:Bx)(t:Bt)(bm:Nat)(W:World):Prop:=W2.heap.size<=bm/\bm<W.heap.size/\(x.n=0\/M.Blk W bm x.n t.f)
theorem mX.keep{W2 W W':World}{x:Bx}{t:Bt}{bm:Nat}(h:mX W2 x t bm W){U:Nat->Prop}(k:Kt U W W')(hU:¬U bm):mX W2 x t bm W':=
 ⟨h.1,Nat.lt_of_lt_of_le h.2.1 k.size,h.2.2.imp id (fun hb=>⟨hb.1,(k.block _ (lH hb.2) hU).trans hb.2⟩)⟩
def RM(W2:World)(x:Bx)(t:Bt):Value->World->Prop:=fun u W=>∃ bm,u=.tuple #[.slice (some ⟨bm,0,none⟩) x.n x.n,.int .i64 0]/\mX W2 x t bm W
def RQ(W2:World)(x:Bx)(t:Bt):Value->World->Prop:=fun u W=>∃ bm,u=.slice (some ⟨bm,0,none⟩) x.n x.n/\mX W2 x t bm W
def RS(W2:World)(n:Nat)(x:Bx)(t:Bt)(g b:Nat):Value->World->Prop:=fun _ W=>∃ bm,W.heap[n]?=some (iB x (.slice (some ⟨bm,0,none⟩) x.n x.n) (.slice none 0 0) (.slice none 0 0) g b)/\mX W2 x t bm W
def L4(W2:World)(hb sb lw n:Nat)(x:Bx)(t:Bt):List (Value->World->Prop):=[VQ (.pointer (some ⟨hb,0,none⟩)),VQ (.pointer (some ⟨hb,0,none⟩)),VQ (.pointer (some ⟨hb,5,none⟩)),VQ (.pointer (some ⟨lw,0,none⟩)),VQ (.pointer (some ⟨lw,0,none⟩)),VQ (.pointer (some ⟨lw,0,none⟩)),VQ (.pointer (some ⟨x.s,0,none⟩)),VQ (.pointer (some ⟨hb,0,none⟩)),VQ (.pointer (some ⟨hb,0,none⟩)),VQ (.pointer (some ⟨hb,2,none⟩)),VQ (.pointer (some ⟨hb,2,none⟩)),VQ (.int .u64 x.bS),VQ (.pointer (some ⟨hb,0,none⟩)),VQ (.int .u64 x.n),RM W2 x t,RM W2 x t,RQ W2 x t,VQ (.int .i64 0),VQ (.pointer (some ⟨n,4,none⟩))]
abbrev F4(hb rb:Nat)(v v4:Nat->Value):Act:=⟨#[.pointer (some ⟨hb,0,none⟩),undef,.pointer (some ⟨rb,0,none⟩),v 26,.pointer (some ⟨hb,0,none⟩),.pointer (some ⟨hb,0,none⟩),.pointer (some ⟨hb,0,none⟩),.tuple #[],.pointer (some ⟨hb,0,none⟩),.pointer (some ⟨hb,0,none⟩),.pointer (some ⟨hb,0,none⟩),v 0,v 1,v 2,v 3,v 4,v 5,v 6,v 7,v 8,v 9,v 10,v 11,v 12,v 13,v 14,v 15,v 16,v 17,v 18,v 19,v 20,v 21,v 22,v 23,v 24,v 25,v4 15,v4 0,v4 1,v4 2,v4 3,v4 4,v4 5,v4 6,v4 7,v4 8,v4 9,v4 10,v4 11,v4 12,v4 13,v4 14,v4 16,v4 17,v4 18,undef,undef,undef,undef,undef,undef,undef,undef,undef,undef,undef,undef,undef,undef],[{ target:=Target.fn (Fn.func 36) #[],args:=#[.pointer (some ⟨hb,0,none⟩)] }]⟩
theorem vU{W2:World}{hb sb lw n:Nat}{x:Bx}{t:Bt}(U:Nat->Prop)(hU:∀ y,U y->y<W2.heap.size):∀ r∈L4 W2 hb sb lw n x t,∀ u W W',r u W->Kt U W W'->r u W':=by
 have h1:∀ v,∀ u W W',VQ v u W->Kt U W W'->VQ v u W':=fun v u W W' h _=>h
 have h2:∀ u W W',RM W2 x t u W->Kt U W W'->RM W2 x t u W':=fun u W W' ⟨bm,h3,h4⟩ k=>⟨bm,h3,h4.keep k (fun e=>absurd (hU _ e) (Nat.not_lt.2 h4.1))⟩
 have h3:∀ u W W',RQ W2 x t u W->Kt U W W'->RQ W2 x t u W':=fun u W W' ⟨bm,h3,h4⟩ k=>⟨bm,h3,h4.keep k (fun e=>absurd (hU _ e) (Nat.not_lt.2 h4.1))⟩
 unfold L4;repeat refine List.forall_mem_cons.2 ⟨by first|exact h1 _|exact h2|exact h3,?_⟩
 exact fun r hr=>by cases hr
section
variable {w Wo:World} {hb sb lw:Nat} {x:Bx} {t:Bt} {fr:Nat->List Nat} {ls:List (Nat×Nat)} {S:Sb} {s:Int}
theorem QY(H:HW w Wo hb sb lw x t fr ls S s):
  Calls prog 43 #[.pointer (some ⟨x.s,0,none⟩),.int .u64 x.bS,.int .u64 x.n] Wo fun e w'=>∃ bm,e=.returned (.tuple #[.slice (some ⟨bm,0,none⟩) x.n x.n,.int .i64 0])/\mX Wo x t bm w'/\Kt nO Wo w':=by
 rcases Nat.eq_zero_or_pos x.n with h0|h0
 ·rw[h0];refine(M.Read_zero x.s (x.bS:Int) Wo).mono ?_;rintro e w' ⟨rfl,hk,hl⟩;exact⟨_,rfl,⟨Nat.le_succ _,hl,.inl h0⟩,fQ hk⟩
 ·refine(H.read h0 (p:=x.bS) ⟨Nat.le_refl _,by omega⟩).mono ?_;rintro e w' ⟨rfl,hb,hk⟩;have e:(fun i=>t.f (x.bS-x.bS+i))=t.f:=by funext i;rw[Nat.sub_self,Nat.zero_add]
  rw[e] at hb;exact⟨_,rfl,⟨Nat.le_succ _,hb.lt,.inr hb⟩,hk⟩
end
section
variable {w Wo:World} {hb sb lw:Nat} {x:Bx} {t:Bt} {fr:Nat->List Nat} {ls:List (Nat×Nat)} {S:Sb}
def ImP(Wo:World)(x:Bx)(t:Bt)(S:Sb)(e:Ending)(w':World):Prop:=∃ V,e=.returned (W.imA (bJ x t S x.lim) V)/\W.ImD w' (bJ x t S x.lim) V/\Kt nO Wo w'
theorem NQ(H:HW w Wo hb sb lw x t fr ls S 0)(may:M.mayB x.bS (x.lim:Int) (x.o:Int)=true):
  Calls prog 13 #[.pointer (some ⟨hb,0,none⟩)] Wo (ImP Wo x t S):=by
 have ka:=(Kt.refl nO Wo).alloc jH;have H0:=aA (H.keep ka);have X0:=aA (nH Wo jH);have LK:=aA H0.out.lock;clear ka;go_enter_defers func13,ntmps13;go_wp2_with fail;refine LK.out.mono ?_;rintro e W1 ⟨rfl,hw1⟩;have H1:=aA (show HW w W1 hb sb lw x t fr ls S 1 from by rw[hw1];exact H0.out.in);have E1:=aA (show W1=jG (Wo.alloc jH) hb from hw1);clear hw1;have NRB:=aA (show Wo.heap.size≠hb from fun e=>by have:=lH H.bx;omega);have R1:=aA (show W1.heap[Wo.heap.size]?=some jH from by rw[E1.out];exact((H0.out.set 1).2.block _ (lH X0.out) NRB.out).trans X0.out);have WRB:=aA (show w.heap.size<=Wo.heap.size from H.po.pl.kp.size);have KAR:=aA (show ∀ W',Kt (fun y=>y=Wo.heap.size) (Wo.alloc jH) W'->Kt nO Wo W' from fun W' k=>((Kt.refl nO Wo).alloc jH).trans k (fun _ _ e=>e) (fun y hy e=>by omega));generalize Wo.alloc jH=Wa at *;generalize Wo.heap.size=rb at *;obtain⟨h,o⟩:=H1.out.so;have SW1:=aA o.sw;have HD8:=aA o.hd;clear o;go_upto_region 3 with fail;rename_i K hK;refine wp_region_noPanic ?_;refine rX (by kernel_rfl) (F3 hb rb) (fun _=>undef) (Kt nO) (fun _ _ _=>nT) (fun i=>(L3 W1 hb sb lw x t h).getD i bY) (fun i=>EZ (EY W1 hb sb lw x t h) i) 27 rfl (by kernel_rfl) (by kernel_rfl) (Kt.refl nO W1).drew ?_ ?_
 ·intro i o ho hi v W kW hd;have HX:=aA (H1.out.keep kW);obtain⟨c0,c2,c3,c4,c5,c6⟩:=HX.out.c;match i,hi with
  | 0,_=>
   clear hd ho;refine aO rfl ?_;go_wp2_with fail;exact⟨.pointer (some ⟨hb,0,none⟩),(by simp[aB]),rfl,Kt.refl _ _⟩
  | 1,_=>
   have e0:v 0=.pointer (some ⟨hb,0,none⟩):=hd 0 (by kernel_rfl);clear hd ho;refine aO rfl ?_;go_wp2_with fail;exact⟨.pointer (some ⟨hb,0,none⟩),(by simp[aB,e0]),rfl,Kt.refl _ _⟩
  | 2,_=>
   have e1:v 1=.pointer (some ⟨hb,0,none⟩):=hd 1 (by kernel_rfl);clear hd ho;refine aO rfl ?_;go_wp2_with fail;exact⟨.pointer (some ⟨hb,2,none⟩),(by simp[aB,e1]),rfl,Kt.refl _ _⟩
  | 3,_=>
   have e2:v 2=.pointer (some ⟨hb,2,none⟩):=hd 2 (by kernel_rfl);clear hd ho;refine aO rfl ?_;go_wp2_with fail;exact⟨gG x.bS (x.lim:Int) (x.o:Int),(by simp[aB,e2]),rfl,Kt.refl _ _⟩
  | 4,_=>
   clear hd ho;refine aO rfl ?_;go_wp2_with fail;exact⟨.pointer (some ⟨hb,0,none⟩),(by simp[aB]),rfl,Kt.refl _ _⟩
  | 5,_=>
   have e4:v 4=.pointer (some ⟨hb,0,none⟩):=hd 4 (by kernel_rfl);clear hd ho;refine aO rfl ?_;go_wp2_with fail;exact⟨.pointer (some ⟨hb,0,none⟩),(by simp[aB,e4]),rfl,Kt.refl _ _⟩
  | 6,_=>
   have e5:v 5=.pointer (some ⟨hb,0,none⟩):=hd 5 (by kernel_rfl);clear hd ho;refine aO rfl ?_;go_wp2_with fail;exact⟨.pointer (some ⟨hb,5,none⟩),(by simp[aB,e5]),rfl,Kt.refl _ _⟩
  | 7,_=>
   have e6:v 6=.pointer (some ⟨hb,5,none⟩):=hd 6 (by kernel_rfl);clear hd ho;refine aO rfl ?_;go_wp2_with fail;exact⟨.pointer (some ⟨lw,0,none⟩),(by simp[aB,e6]),rfl,Kt.refl _ _⟩
  | 8,_=>
   have e7:v 7=.pointer (some ⟨lw,0,none⟩):=hd 7 (by kernel_rfl);clear hd ho;refine aO rfl ?_;go_wp2_with fail;exact⟨.pointer (some ⟨lw,0,none⟩),(by simp[aB,e7]),rfl,Kt.refl _ _⟩
  | 9,_=>
   have e8:v 8=.pointer (some ⟨lw,0,none⟩):=hd 8 (by kernel_rfl);clear hd ho;refine aO rfl ?_;go_wp2_with fail;exact⟨.pointer (some ⟨lw,0,none⟩),(by simp[aB,e8]),rfl,Kt.refl _ _⟩
  | 10,_=>
   have e9:v 9=.pointer (some ⟨lw,0,none⟩):=hd 9 (by kernel_rfl);clear hd ho;refine aO rfl ?_;go_wp2_with (go_at_call 38;(refine(lO HX.out.po.pl).mono ?_);rintro e wX ⟨rfl,h1⟩;replace h1:=h1.symm;subst h1)
   exact⟨.pointer (some ⟨x.s,0,none⟩),(by simp[aB,e9]),rfl,Kt.refl _ _⟩
  | 11,_=>
   have e10:v 10=.pointer (some ⟨x.s,0,none⟩):=hd 10 (by kernel_rfl);clear hd ho;refine aO rfl ?_;go_wp2_with (go_at_call 39;(refine(M.regions_any x.s x.a x.bS x.R x.lim x.n t.f W HX.out.po.pl.bd.sp).mono ?_);rintro e wX ⟨rfl,m,h1⟩;have KX:=aA (show Kt nO W wX from by rw[h1];exact(Kt.refl nO W).drewN m);clear h1)
   exact⟨.int .i64 ((x.n/x.R:Nat):Int),(by simp[aB,e10]),rfl,KX.out⟩
  | 12,_=>
   clear hd ho;refine aO rfl ?_;go_wp2_with fail;exact⟨.pointer (some ⟨hb,0,none⟩),(by simp[aB]),rfl,Kt.refl _ _⟩
  | 13,_=>
   have e12:v 12=.pointer (some ⟨hb,0,none⟩):=hd 12 (by kernel_rfl);clear hd ho;refine aO rfl ?_;go_wp2_with fail;exact⟨.pointer (some ⟨hb,0,none⟩),(by simp[aB,e12]),rfl,Kt.refl _ _⟩
  | 14,_=>
   have e13:v 13=.pointer (some ⟨hb,0,none⟩):=hd 13 (by kernel_rfl);clear hd ho;refine aO rfl ?_;go_wp2_with fail;exact⟨.pointer (some ⟨hb,5,none⟩),(by simp[aB,e13]),rfl,Kt.refl _ _⟩
  | 15,_=>
   have e14:v 14=.pointer (some ⟨hb,5,none⟩):=hd 14 (by kernel_rfl);clear hd ho;refine aO rfl ?_;go_wp2_with fail;exact⟨.pointer (some ⟨lw,0,none⟩),(by simp[aB,e14]),rfl,Kt.refl _ _⟩
  | 16,_=>
   have e15:v 15=.pointer (some ⟨lw,0,none⟩):=hd 15 (by kernel_rfl);clear hd ho;refine aO rfl ?_;go_wp2_with fail;exact⟨.pointer (some ⟨lw,0,none⟩),(by simp[aB,e15]),rfl,Kt.refl _ _⟩
  | 17,_=>
   have mU:v 16=.pointer (some ⟨lw,0,none⟩):=hd 16 (by kernel_rfl);clear hd ho;refine aO rfl ?_;go_wp2_with fail;exact⟨.pointer (some ⟨lw,0,none⟩),(by simp[aB,mU]),rfl,Kt.refl _ _⟩
  | 18,_=>
   have e17:v 17=.pointer (some ⟨lw,0,none⟩):=hd 17 (by kernel_rfl);clear hd ho;refine aO rfl ?_;go_wp2_with (go_at_call 40;(refine(DP HX.out.po.pl).mono ?_);rintro e wX ⟨rfl,h1⟩;replace h1:=h1.symm;subst h1)
   exact⟨.pointer (some ⟨x.b,0,none⟩),(by simp[aB,e17]),rfl,Kt.refl _ _⟩
  | 19,_=>
   have e18:v 18=.pointer (some ⟨x.b,0,none⟩):=hd 18 (by kernel_rfl);clear hd ho;refine aO rfl ?_;go_wp2_with (go_at_call 41;(refine(WS x t W HX.out.po.pl.bd).mono ?_);rintro e wX ⟨rfl,hx2,hx3⟩;have KX:=aA hx3;have GX:=aA hx2;clear hx2 hx3)
   exact⟨.slice (some ⟨_,0,none⟩) (x.o+1) (x.o+1),(by simp[aB,e18]),⟨_,rfl,GX.out,kW.size⟩,KX.out⟩
  | 20,_=>
   clear hd ho;refine aO rfl ?_;go_wp2_with fail;exact⟨.pointer (some ⟨hb,0,none⟩),(by simp[aB]),rfl,Kt.refl _ _⟩
  | 21,_=>
   have e20:v 20=.pointer (some ⟨hb,0,none⟩):=hd 20 (by kernel_rfl);clear hd ho;refine aO rfl ?_;go_wp2_with fail;exact⟨.pointer (some ⟨hb,0,none⟩),(by simp[aB,e20]),rfl,Kt.refl _ _⟩
  | 22,_=>
   have e21:v 21=.pointer (some ⟨hb,0,none⟩):=hd 21 (by kernel_rfl);clear hd ho;refine aO rfl ?_;go_wp2_with fail;exact⟨.pointer (some ⟨hb,6,none⟩),(by simp[aB,e21]),rfl,Kt.refl _ _⟩
  | 23,_=>
   have e22:v 22=.pointer (some ⟨hb,6,none⟩):=hd 22 (by kernel_rfl);clear hd ho;refine aO rfl ?_;go_wp2_with fail;exact⟨.pointer (some ⟨sb,0,none⟩),(by simp[aB,e22]),rfl,Kt.refl _ _⟩
  | 24,_=>
   have e23:v 23=.pointer (some ⟨sb,0,none⟩):=hd 23 (by kernel_rfl);clear hd ho;refine aO rfl ?_;go_wp2_with (go_at_call 42;(refine(XI (SW1.out.keep kW)).mono ?_);rintro e wX ⟨bb,rfl,hx2,hx3,hx4⟩;have KX:=aA hx3;have GX:=aA hx2;have NX:=aA hx4;clear hx2 hx3 hx4)
   exact⟨.slice (some ⟨bb,0,none⟩) 8 8,(by simp[aB,e23]),⟨_,rfl,GX.out,Nat.le_trans kW.size NX.out⟩,KX.out⟩
  | 25,_=>
   have e3:v 3=gG x.bS (x.lim:Int) (x.o:Int):=hd 3 (by kernel_rfl);have e11:v 11=.int .i64 ((x.n/x.R:Nat):Int):=hd 11 (by kernel_rfl);have r19:RH W1 x t (v 19) W:=hd 19 (by kernel_rfl);obtain⟨g,e19,hg1,hg2⟩:=r19;have r24:RT W1 h (v 24) W:=hd 24 (by kernel_rfl);obtain⟨b,e24,hb1,hb2⟩:=r24;clear hd ho;refine aO rfl ?_;go_wp2_with fail;exact⟨bV x g b,(by simp[aB,e3,e11,e19,e24]),⟨g,b,rfl,⟨g,rfl,hg1,hg2⟩,b,rfl,hb1,hb2⟩,Kt.refl _ _⟩
  | 26,_=>
   clear hd ho;refine aO rfl ?_;go_wp2_with fail;exact⟨.pointer (some ⟨W.heap.size,0,none⟩),(by simp[aB]),⟨_,rfl,nH W jH,kW.size⟩,(Kt.refl nO W).alloc _⟩
  | i+27,hi=>omega
 ·intro o ho v W kW hd;obtain⟨g,b,e25,hH,hT⟩:RB W1 x t h (v 25) W:=hd 25 (by decide);obtain⟨n,e26,hn1,hn2⟩:RN W1 (v 26) W:=hd 26 (by decide);obtain⟨z0,z1,z2,z3,z4,z5,z6,z7,z8,zf⟩:=vV hn1;have f0:=zf 0;have f1:=zf 1;have f2:=zf 2;have f3:=zf 3;have f4:=zf 4;have f5:=zf 5;have f6:=zf 6;have f7:=zf 7;have f8:=zf 8;have H2:=aA (H1.out.keep kW);have HN:=aA hn1;have HG:=aA hH;have HB:=aA hT;have NL:=aA hn2;clear hd ho hH hT hn1 hn2 zf;refine aO rfl ?_;go_wp2_with fail;refine NoPanic.normal ?_;refine sM (P:=fun W'=>Exit.then _ _ Exit.normal _ W') _ ?_;intro W2 hW2;have K2:=aA (show Kt (fun y=>y=n) W W2 from by rw[hW2];exact zR _ _ _ _ _ _ _ _ _);have X2:=aA (show W2.heap[n]?=some (iB x (.slice none 0 0) (.slice none 0 0) (.slice none 0 0) g b)from by
   rw[hW2];have:=pT HN.out (.int .u64 x.bS) (.int .i64 x.lim) (.int .i64 x.o) (.int .i64 ((x.n:Int)/(x.R:Int))) (.slice none 0 0) (.slice none 0 0) (.slice none 0 0) (.slice (some ⟨g,0,none⟩) (x.o+1) (x.o+1)) (.slice (some ⟨b,0,none⟩) 8 8);exact this)
  have Z0:=aA (show Kt nO W1 W2 from kW.trans K2.out (fun _ _ e=>e) (fun y hy e=>by have:=NL.out;omega));have J2:=aA (show HW w W2 hb sb lw x t fr ls S 1 from H2.out.other HN.out (Nat.le_trans H1.out.po.pl.kp.size NL.out) (by unfold Go.Proofs.YtkfmheelhinjdaaGreatDoor.pty;decide) (by decide) (by decide) K2.out);have G2:=aA (show RH W1 x t (.slice (some ⟨g,0,none⟩) (x.o+1) (x.o+1)) W2 from by
   obtain⟨g',e,h1,h2⟩:=HG.out
   cases e
   exact⟨g,rfl,(K2.out.block _ (lH h1) (bT h1 HN.out (by decide))).trans h1,h2⟩)
  have B2:=aA (show RT W1 h (.slice (some ⟨b,0,none⟩) 8 8) W2 from by
   obtain⟨g',e,h1,h2⟩:=HB.out
   cases e
   exact⟨b,rfl,(K2.out.block _ (lH h1) (bT h1 HN.out (by decide))).trans h1,h2⟩)
  clear hW2 z0 z1 z2 z3 z4 z5 z6 z7 z8 f0 f1 f2 f3 f4 f5 f6 f7 f8 H2 HN HG HB K2 e25 kW;have NW:=aA (show w.heap.size<=n from Nat.le_trans H1.out.po.pl.kp.size NL.out);have N2:=aA (show n<W2.heap.size from lH X2.out);refine hK _ _ ?_;go_upto_region 4 with fail;rename_i K4 hK4;refine wp_region_noPanic ?_;refine zcJ (by kernel_rfl) (F4 hb rb v) (fun _=>undef) (fun W=>(HW w W hb sb lw x t fr ls S 1/\(∃ ma ml mc,W.heap[n]?=some (iB x (.slice ma ml mc) (.slice none 0 0) (.slice none 0 0) g b)))/\Kt (fun y=>y=n) W2 W) (Kt nO) (fun W W'=>∃ ua ul uc,W'=W.setCell ⟨n,4,none⟩ (.slice ua ul uc)) (L4 W2 hb sb lw n x t) (RS W2 n x t g b) 19 rfl rfl ?_ ?_ ?_ ?_ ?_ (by kernel_rfl) ?_ ?_ ?_ ?_
  ·rintro W W' ⟨⟨h1,ma,ml,mc,h2⟩,h3⟩ k;exact⟨⟨h1.keep k,ma,ml,mc,(k.block _ (lH h2) id).trans h2⟩,h3.trans k (fun _ _ e=>e) (fun _ _ e=>False.elim e)⟩
  ·rintro W W' ⟨⟨h1,ma,ml,mc,h2⟩,h3⟩ ⟨ua,ul,uc,rfl⟩;have k:=(Kt.refl (fun y=>y=n) W).setCell (p:=⟨n,4,none⟩) rfl (.slice ua ul uc);refine⟨⟨h1.other h2 NW.out (by unfold Go.Proofs.YtkfmheelhinjdaaGreatDoor.pty;decide) (by decide) (by decide) k,ua,ul,uc,?_⟩,h3.trans k (fun _ _ e=>e) (fun _ _ e=>e)⟩;exact heap_set h2 4 (.slice ua ul uc)
  ·exact fun r hr u W W' _ h k=>vU _ (fun y e=>by cases e) r hr u W W' h k
  ·rintro u W W' _ ⟨bm,h1,h2⟩ k;exact⟨bm,(k.block _ (lH h1) id).trans h1,h2.keep k id⟩
  ·rintro r hr u W W' _ h ⟨za,zl,zc,rfl⟩;exact vU (fun y=>y=n) (fun y e=>by rw[e];exact N2.out) r hr u W _ h ((Kt.refl (fun y=>y=n) W).setCell (p:=⟨n,4,none⟩) rfl (.slice za zl zc))
  ·exact⟨⟨J2.out.keep (Kt.refl nO W2).drew,_,_,_,X2.out⟩,(Kt.refl _ W2).drew⟩
  ·intro i o ho hi v4 W hB hd;obtain⟨⟨hX,ma,ml,mc,hm⟩,kW⟩:=hB;have HX:=aA hX;have HM:=aA hm;obtain⟨c0,c2,c3,c4,c5,c6⟩:=hX.c;clear hX hm;match i,hi with
   | 0,_=>
    clear hd ho;refine aO rfl ?_;go_wp2_with fail;exact⟨.pointer (some ⟨hb,0,none⟩),(by simp[aB,e26]),rfl,Kt.refl _ _⟩
   | 1,_=>
    have e0:v4 0=.pointer (some ⟨hb,0,none⟩):=hd 0 (by kernel_rfl);clear hd ho;refine aO rfl ?_;go_wp2_with fail;exact⟨.pointer (some ⟨hb,0,none⟩),(by simp[aB,e0,e26]),rfl,Kt.refl _ _⟩
   | 2,_=>
    have e1:v4 1=.pointer (some ⟨hb,0,none⟩):=hd 1 (by kernel_rfl);clear hd ho;refine aO rfl ?_;go_wp2_with fail;exact⟨.pointer (some ⟨hb,5,none⟩),(by simp[aB,e1,e26]),rfl,Kt.refl _ _⟩
   | 3,_=>
    have e2:v4 2=.pointer (some ⟨hb,5,none⟩):=hd 2 (by kernel_rfl);clear hd ho;refine aO rfl ?_;go_wp2_with fail;exact⟨.pointer (some ⟨lw,0,none⟩),(by simp[aB,e2,e26]),rfl,Kt.refl _ _⟩
   | 4,_=>
    have e3:v4 3=.pointer (some ⟨lw,0,none⟩):=hd 3 (by kernel_rfl);clear hd ho;refine aO rfl ?_;go_wp2_with fail;exact⟨.pointer (some ⟨lw,0,none⟩),(by simp[aB,e3,e26]),rfl,Kt.refl _ _⟩
   | 5,_=>
    have e4:v4 4=.pointer (some ⟨lw,0,none⟩):=hd 4 (by kernel_rfl);clear hd ho;refine aO rfl ?_;go_wp2_with fail;exact⟨.pointer (some ⟨lw,0,none⟩),(by simp[aB,e4,e26]),rfl,Kt.refl _ _⟩
   | 6,_=>
    have e5:v4 5=.pointer (some ⟨lw,0,none⟩):=hd 5 (by kernel_rfl);clear hd ho;refine aO rfl ?_;go_wp2_with (go_at_call 38;(refine(lO HX.out.po.pl).mono ?_);rintro e wX ⟨rfl,h1⟩;replace h1:=h1.symm;subst h1)
    exact⟨.pointer (some ⟨x.s,0,none⟩),(by simp[aB,e5,e26]),rfl,Kt.refl _ _⟩
   | 7,_=>
    clear hd ho;refine aO rfl ?_;go_wp2_with fail;exact⟨.pointer (some ⟨hb,0,none⟩),(by simp[aB,e26]),rfl,Kt.refl _ _⟩
   | 8,_=>
    have e7:v4 7=.pointer (some ⟨hb,0,none⟩):=hd 7 (by kernel_rfl);clear hd ho;refine aO rfl ?_;go_wp2_with fail;exact⟨.pointer (some ⟨hb,0,none⟩),(by simp[aB,e7,e26]),rfl,Kt.refl _ _⟩
   | 9,_=>
    have e8:v4 8=.pointer (some ⟨hb,0,none⟩):=hd 8 (by kernel_rfl);clear hd ho;refine aO rfl ?_;go_wp2_with fail;exact⟨.pointer (some ⟨hb,2,none⟩),(by simp[aB,e8,e26]),rfl,Kt.refl _ _⟩
   | 10,_=>
    have e9:v4 9=.pointer (some ⟨hb,2,none⟩):=hd 9 (by kernel_rfl);clear hd ho;refine aO rfl ?_;go_wp2_with fail;exact⟨.pointer (some ⟨hb,2,none⟩),(by simp[aB,e9,e26]),rfl,Kt.refl _ _⟩
   | 11,_=>
    have e10:v4 10=.pointer (some ⟨hb,2,none⟩):=hd 10 (by kernel_rfl);clear hd ho;refine aO rfl ?_;go_wp2_with fail;exact⟨.int .u64 x.bS,(by simp[aB,e10,e26]),rfl,Kt.refl _ _⟩
   | 12,_=>
    clear hd ho;refine aO rfl ?_;go_wp2_with fail;exact⟨.pointer (some ⟨hb,0,none⟩),(by simp[aB,e26]),rfl,Kt.refl _ _⟩
   | 13,_=>
    have e12:v4 12=.pointer (some ⟨hb,0,none⟩):=hd 12 (by kernel_rfl);clear hd ho;refine aO rfl ?_;go_wp2_with (go_at_call 44;(refine(ZW HX.out).mono ?_);rintro e wX ⟨rfl,hx⟩;have KX:=aA hx;clear hx)
    exact⟨.int .u64 x.n,(by simp[aB,e12,e26]),rfl,KX.out⟩
   | 14,_=>
    have e6:v4 6=.pointer (some ⟨x.s,0,none⟩):=hd 6 (by kernel_rfl);have e11:v4 11=.int .u64 x.bS:=hd 11 (by kernel_rfl);have e13:v4 13=.int .u64 x.n:=hd 13 (by kernel_rfl);clear hd ho;refine aO rfl ?_;go_wp2_with (go_at_call 43;(refine(QY HX.out).mono ?_);rintro e wX ⟨bm,rfl,hx,hk⟩;have KX:=aA hk;have GX:=aA hx;clear hx hk)
    exact⟨.tuple #[.slice (some ⟨bm,0,none⟩) x.n x.n,.int .i64 0],(by simp[aB,e6,e11,e13,e26]),⟨_,rfl,Nat.le_trans kW.size GX.out.1,GX.out.2⟩,KX.out⟩
   | 15,_=>
    have r14:RM W2 x t (v4 14) W:=hd 14 (by kernel_rfl);obtain⟨bm,e14,hbm⟩:=r14;clear hd ho;refine aO rfl ?_;go_wp2_with fail;exact⟨.tuple #[.slice (some ⟨bm,0,none⟩) x.n x.n,.int .i64 0],(by simp[aB,e14,e26]),⟨_,rfl,hbm⟩,Kt.refl _ _⟩
   | 16,_=>
    have r15:RM W2 x t (v4 15) W:=hd 15 (by kernel_rfl);obtain⟨bm,e15,hbm⟩:=r15;clear hd ho;refine aO rfl ?_;go_wp2_with fail;exact⟨.slice (some ⟨bm,0,none⟩) x.n x.n,(by simp[aB,e15,e26]),⟨_,rfl,hbm⟩,Kt.refl _ _⟩
   | 17,_=>
    have r15:RM W2 x t (v4 15) W:=hd 15 (by kernel_rfl);obtain⟨bm,e15,hbm⟩:=r15;clear hd ho;refine aO rfl ?_;go_wp2_with fail;exact⟨.int .i64 0,(by simp[aB,e15,e26]),rfl,Kt.refl _ _⟩
   | 18,_=>
    clear hd ho;refine aO rfl ?_;go_wp2_with fail;exact⟨.pointer (some ⟨n,4,none⟩),(by simp[aB,e26]),rfl,Kt.refl _ _⟩
   | i+19,hi=>exact absurd hi (by show ¬i+19<19;omega)
  ·intro o ho v4 W hB hd;obtain⟨⟨hX,ma,ml,mc,hm⟩,kW⟩:=hB;have e18:v4 18=.pointer (some ⟨n,4,none⟩):=hd 18 (by kernel_rfl);obtain⟨bm,mU,hbm⟩:RQ W2 x t (v4 16) W:=hd 16 (by kernel_rfl);have c4:W.cell? ⟨n,4,none⟩=some (.slice ma ml mc):=(by simp[World.cell?,hm]);have f4:W.frozen? ⟨n,4,none⟩=false:=(by simp[World.frozen?,hm]);have D:=aA (show RS W2 n x t g b undef (W.setCell ⟨n,4,none⟩ (.slice (some ⟨bm,0,none⟩) x.n x.n))from⟨bm,heap_set hm 4 _,hbm.keep ((Kt.refl (fun y=>y=n) W).setCell (p:=⟨n,4,none⟩) rfl _) (fun e=>by have e:bm=n:=e;have:=hbm.1;have:=N2.out;omega)⟩);clear hd ho hX hm hbm;refine aO rfl ?_;go_wp2_with fail;exact⟨undef,by simp[aB,mU,e18,e26],D.out,_,_,_,rfl⟩
  ·intro v4 W ⟨⟨h1,ma,ml,mc,h2⟩,h3⟩ hd hs;refine NoPanic.normal ?_;obtain⟨bm,h4,hbm⟩:=hs;have H4:=aA h1;have X4:=aA h4;have M4:=aA hbm;have K4':=aA h3;have MP:=aA (bZ h1.po.pl);have PL:=aA (WQ x.m x.B t.m W h1.po.pl.bd.mp);obtain⟨c0,c2,c3,c4,c5,c6⟩:=h1.c;clear hd h1 h2 h3 h4 hbm;refine hK4 _ _ ?_;go_wp2_with fail;refine MP.out.mono ?_;rintro e w5 ⟨rfl,h5⟩;replace h5:=h5.symm;subst h5;go_wp2_with fail;refine PL.out.mono ?_;rintro e w6 ⟨gp,gq,D,rfl,bA⟩;have X6:=aA ((bA.kp.block _ (lH X4.out) id).trans X4.out);have TL:=aA bA;have H6:=aA (H4.out.keep bA.kp);clear bA c0 c2 c3 c4 c5 c6 MP PL;obtain⟨z0,z1,z2,z3,z4,z5,z6,z7,z8,zf⟩:=vH X6.out;have y5:=zf 5;have y6:=zf 6;clear zf;go_upto_region 6 with fail;refine sM (P:=fun W'=>Code.wp prog _ _ _ W') _ ?_;intro W7 hW7;have K7:=aA (show Kt (fun y=>y=n) w6 W7 from by rw[hW7];exact((Kt.refl (fun y=>y=n) w6).setCell (p:=⟨n,5,none⟩) rfl _).setCell (p:=⟨n,6,none⟩) rfl _);have X7:=aA (show W7.heap[n]?=some (iB x (.slice (some ⟨bm,0,none⟩) x.n x.n) (.slice (some ⟨gp,0,none⟩) t.m.n t.m.n) (.slice (some ⟨gq,0,none⟩) t.m.o t.m.o) g b)from by rw[hW7];exact heap_set (heap_set X6.out 5 _) 6 _);clear hW7 z0 z1 z2 z3 z4 z5 z6 z7 z8 y5 y6;have H7:=aA (H6.out.other X6.out NW.out (by unfold Go.Proofs.YtkfmheelhinjdaaGreatDoor.pty;decide) (by decide) (by decide) K7.out);have Z7:=aA (show Kt nO W1 W7 from by
    have q1:=NL.out;have s2:=Z0.out.size;have a1:Kt nO W1 W:=Z0.out.trans K4'.out (fun _ _ e=>e) (fun y hy e=>by omega);have a2:Kt nO W1 w6:=nT a1 TL.out.kp;exact a2.trans K7.out (fun _ _ e=>e) (fun y hy e=>by omega))
   have R7:=aA (show W7.heap[rb]?=some jH from(Z7.out.block _ (lH R1.out) id).trans R1.out);have T7:=aA (show ImT W1.heap.size W7 x t h bm gp gq D g b from by
    have q1:=NL.out;have s2:=Z0.out.size;have s3:=K4'.out.size;have ht:=TL.out;obtain⟨g',e1,g1,g2⟩:=G2.out
    cases e1
    obtain⟨b',e2,b1,b2⟩:=B2.out
    cases e2
    obtain⟨cs,q4,q5,q6⟩:=ht.q;have N2':=N2.out;have nn:∀ y,W.heap.size<=y->y≠n:=fun y hy e=>by omega
    have gn:g≠n:=bT g1 X2.out (by decide);have bn:b≠n:=bT b1 X2.out (by decide);have mb:=M4.out;have mn:bm≠n:=(by have:=mb.1;omega);have g6:=(ht.kp.block _ (Nat.lt_of_lt_of_le (lH g1) s3) id).trans ((K4'.out.block _ (lH g1) gn).trans g1);have b6:=(ht.kp.block _ (Nat.lt_of_lt_of_le (lH b1) s3) id).trans ((K4'.out.block _ (lH b1) bn).trans b1);have m6:=mb.keep ht.kp id;have k7:=K7.out;have p0:=ht.fp;have p1:=ht.fq;have p2:=ht.fd;exact⟨by have:=mb.1;omega,Nat.lt_of_lt_of_le m6.2.1 k7.size,m6.2.2.imp id (fun hB=>⟨hB.1,(k7.block _ (lH hB.2) mn).trans hB.2⟩),by omega,ht.row.kept k7 (nn _ p0),by omega,⟨cs,(k7.block _ (lH q4) (nn _ p1)).trans q4,q5,q6⟩,fun j hj=>by have:=p2 j hj;omega,fun j hj=>(k7.block _ (lH (ht.d j hj)) (nn _ (p2 j hj))).trans (ht.d j hj),g2,(k7.block _ (lH g6) gn).trans g6,b2,(k7.block _ (lH b6) bn).trans b6⟩)
   clear Z0 K4' TL K7 H6 H4 X4 X6 M4 G2 B2 J2 X2;obtain⟨z0,z1,z2,z3,z4,z5,z6,z7,z8,-⟩:=vH X7.out;obtain⟨r0,r1,r2,r3,r4,r5,r6,r7,r8,rf⟩:=vV R7.out;have f0:=rf 0;have f1:=rf 1;have f2:=rf 2;have f3:=rf 3;have f4:=rf 4;have f5:=rf 5;have f6:=rf 6;have f7:=rf 7;have f8:=rf 8;clear rf;go_wp2_with fail;refine sM (P:=fun W'=>bodyPostD _ _ _ _ _ W') _ ?_;intro W8 hW8;have K8:=aA (show Kt (fun y=>y=rb) W7 W8 from by rw[hW8];exact zR _ _ _ _ _ _ _ _ _);have X8:=aA (show W8.heap[rb]?=some (iB x (.slice (some ⟨bm,0,none⟩) x.n x.n) (.slice (some ⟨gp,0,none⟩) t.m.n t.m.n) (.slice (some ⟨gq,0,none⟩) t.m.o t.m.o) g b)from by
    rw[hW8];exact pT R7.out _ _ _ (.int .i64 ((x.n:Int)/(x.R:Int))) _ _ _ _ _)
   clear hW8 z0 z1 z2 z3 z4 z5 z6 z7 z8 r0 r1 r2 r3 r4 r5 r6 r7 r8 f0 f1 f2 f3 f4 f5 f6 f7 f8;have H8:=aA (H7.out.other R7.out WRB.out (by unfold Go.Proofs.YtkfmheelhinjdaaGreatDoor.pty;decide) (by decide) (by decide) K8.out);have UL:=aA (H8.out.unlock .returning);have L1:=aA (show rb<W1.heap.size/\hb<W1.heap.size from⟨lH R1.out,lH H1.out.bx⟩);have Z8:=aA (show Kt (fun y=>y=rb) (jG Wa hb) W8 from by
    have:=Z7.out;rw[E1.out] at this;exact(this.mono (fun _ _ e=>e.elim)).trans K8.out (fun _ _ e=>e) (fun _ _ e=>e))
   have KF:=aA (show Kt nO Wo (lV W8 hb)from KAR.out _ (H0.out.round (K:=fun y=>y=rb) (fun e=>NRB.out e.symm) Z8.out H8.out rfl rfl rfl));have X9:=aA (show(lV W8 hb).heap[rb]?=some (iB x (.slice (some ⟨bm,0,none⟩) x.n x.n) (.slice (some ⟨gp,0,none⟩) t.m.n t.m.n) (.slice (some ⟨gq,0,none⟩) t.m.o t.m.o) g b)from((H8.out.set 0).2.block _ (lH X8.out) NRB.out).trans X8.out);have T9:=aA (show ImT W1.heap.size (lV W8 hb) x t h bm gp gq D g b from
    (T7.out.keep K8.out (fun y e=>by rw[e];exact L1.out.1)).keep (H8.out.set 0).2 (fun y e=>by rw[show y=hb from e];exact L1.out.2))
   have DD:=aA (FM T9.out H HD8.out may);have RG:=aA (show x.n/x.R=t.m.n/2 ^ x.o from by
    obtain⟨h',o⟩:=H.so;rw[<-o.st,o.sw.pl.bd.hR,Nat.mul_comm 4096 (2 ^ x.o),Nat.mul_div_mul_right _ _ (by decide)])
   obtain⟨u0,u1,u2,u3,u4,u5,u6,u7,u8,-⟩:=vH X9.out;refine leaves_cons (f:=36) (args:=#[.pointer (some ⟨hb,0,none⟩)]) (by simp) (by simp[go_sem]) ?_;refine UL.out.mono ?_;rintro e u' w3 ⟨rfl,rfl,rfl⟩;refine⟨_,?_,pX x t bm gp gq g b,rfl,DD.out,KF.out⟩;have e:(bJ x t S x.lim).reg=((x.n/x.R:Nat):Int):=(by rw[RG.out];rfl);simp[results,results13,go_sem,u0,u1,u2,u3,u4,u5,u6,u7,u8];exact⟨rfl,rfl,rfl,e.symm⟩
end
end Go.Proofs.YtkfmheelhinjdaaGreatDoor
