import Derived.Test.YtfmgnljlkdmndaaGreatDoorXj
import Derived.Test.YtfmgnljlkdmndaaGreatDoorXk
set_option maxRecDepth 1000000
set_option maxHeartbeats 80000000
namespace Go.Proofs.YtfmgnljlkdmndaaGreatDoor
open Tryz
open Go.RowKit
set_option linter.unusedVariables false
theorem BdAt.space{w w' x t}{a':Option Nat}{n':Nat}{f':Nat->Nat}(h:BdAt w x t)(k:Kt (M.own x.s x.a) w w')(hs:M.SpA w' x.s a' x.bS x.R x.lim n' f'):BdAt w' { x with a:=a',n:=n' } { t with f:=f' }:=by have nb:=h.nb;have nl:=h.nl;refine⟨hs,h.mp.kept k (fun y hy e=>tP h.mp h.sp hy e),fun i hi=>(h.ls i hi).kept (fL k) (fun e=>KM h.sp (h.ls i hi) e),(k.block _ (lH h.bs) (fun e=>nb (.inl e))).trans h.bs,?_,h.mo,h.iL,h.hR⟩;obtain⟨cs,hl,hc⟩:=h.lr;exact⟨cs,(k.block _ (lH hl) (fun e=>nl (.inl e))).trans hl,hc⟩
theorem BdAt.grow{w w' x t}{b:Bs}{a:Mp}(h:BdAt w x t)(k:Kt (aO x.m x.B t.m.o) w w')(c:MpA w' x.m b a)(d:a.o=t.m.o):BdAt w' { x with B:=b } { t with m:=a }:=by have nb:=h.nb;have nl:=h.nl;refine⟨h.sp.kept (fL k) (fun y hy e=>tP h.mp h.sp e hy),c,fun i hi=>(h.ls i hi).kept (fL k) (fun e=>wW h.mp (h.ls i hi) e),(k.block _ (lH h.bs) (fun e=>nb (.inr (.inl (h.mo▸e))))).trans h.bs,?_,d.trans h.mo,h.iL,h.hR⟩;obtain⟨cs,hl,hc⟩:=h.lr;exact⟨cs,(k.block _ (lH hl) (fun e=>nl (.inr (.inl (h.mo▸e))))).trans hl,hc⟩
theorem VS(m:Mp):(dE m).o=m.o:=by unfold dE;split <;> rfl
theorem VR{m:Mp}{o:Nat}(a:m.o=o)(h:m.n+2 ^ o<=1024):(dE m).n=m.n+2 ^ o:=by subst a;unfold dE;rw[ac (by show ¬ 1024<m.n+2 ^ m.o;omega)];rfl
theorem kN{W:World}{y:Nat}{cs d:Array Value}{a b:TypeId}{z e:Nat×Nat}(h:W.heap[y]?=some (.cells cs a z))(c:W.heap[y]?=some (.cells d b e)):a=b:=by
 rw[h] at c;injection c with c
 injection c with _ c
theorem IL{w x t}(h:BdAt w x t):(∀ k,k<x.o->∀ i,(t.m.wd k).getD i 0<2 ^ 64)/\∀ k,k<x.o->∀ j,t.m.n/2 ^ (k+1)<=j->aE (t.m.wd k) j=false:=
 ⟨fun k a=>(JR (h.mp.set k (by rw[h.mo];exact a))).1,fun k a=>(JR (h.mp.set k (by rw[h.mo];exact a))).2⟩
theorem Sn.top{x t L}(s:Sn x t L)(d:gL x t):t.m.n=aM x+2 ^ x.o/\aM x%2 ^ x.o=0:=by
 obtain⟨fr,B,s,f,hL⟩:=s;obtain⟨r,b⟩:=s.dv;obtain⟨g,j⟩:=d;have h:x.n/4096=t.m.n:=by omega
 have c : 1<=r:=by
  rcases Nat.eq_zero_or_pos r with e|e
  ·rw[e,Nat.zero_mul] at b;omega
  ·exact e
 have i:r*2 ^ x.o=(r-1)*2 ^ x.o+2 ^ x.o:=by rw[show r=(r-1)+1 by omega,av,aL];rfl
 have a:aM x=(r-1)*2 ^ x.o:=by unfold aM;omega
 exact⟨by omega,by rw[a];exact Nat.mul_mod_left _ _⟩
def dU(ls:List (Nat×Nat))(pg:Nat):List (Nat×Nat):=ls.filter fun r=>decide (r.1≠pg)
def dL(fr:Nat->List Nat)(pg frm tt:Nat):Nat->List Nat:=fun j=>if tt<=j/\j<frm then (pg+2 ^ j) :: fr j else fr j
def lF(o:Nat)(fr:Nat->List Nat)(p k:Nat):Nat->List Nat:=cK (dR o (o-k) fr p k).1 (dR o (o-k) fr p k).2.2 ((dR o (o-k) fr p k).2.1 :: (dR o (o-k) fr p k).1 (dR o (o-k) fr p k).2.2)
def Sf(x:Bx)(t:Bt)(fr:Nat->List Nat)(ls:List (Nat×Nat)):Prop:=∃ B,Sd x t fr B/\(∀ q i,¬B 9 q i)/\∀ q i,B 2 q i↔(q,i)∈ls
theorem Sf.sn{x t fr ls}(s:Sf x t fr ls):Sn x t (fun q i=>(q,i)∈ls):=by obtain⟨B,h⟩:=s;exact⟨fr,B,h⟩
theorem Sf.one{x t fr ls}(s:Sf x t fr ls){p k i:Nat}(b:(p,k)∈ls)(c:(p,i)∈ls):i=k:=by have hz : 0<2 ^ k:=ap (by decide);have a : 0<2 ^ i:=ap (by decide);rcases s.sn.apart b c with e|e|e <;> omega
theorem zjn{ls:List (Nat×Nat)}{p q i:Nat} : (q,i)∈dU ls p↔(q,i)∈ls/\q≠p:=by unfold dU;rw[List.mem_filter];simp
theorem Sf.drop_iff{x t fr ls}(s:Sf x t fr ls){p k:Nat}(h:(p,k)∈ls)(q i:Nat):((q,i)∈ls/\¬(q=p/\i=k))↔(q,i)∈dU ls p:=by
 rw[zjn];constructor
 ·rintro ⟨a,b⟩;exact⟨a,fun e=>b ⟨e,s.one h (e▸a)⟩⟩
 ·rintro ⟨a,b⟩;exact⟨a,fun e=>b e.1⟩
theorem pX{ls:List (Nat×Nat)}{p k q i:Nat} : (q,i)∈ls ++ [(p,k)]↔(q,i)∈ls\/(q=p/\i=k):=by rw[List.mem_append,List.mem_singleton,Prod.mk.injEq]
theorem Sf.pout{x t fr ls}(s:Sf x t fr ls){p:Nat}(h:t.m.n<=p):x.P p=none:=by
 obtain⟨B,s,_⟩:=s
 cases hP:x.P p with
 | none=>rfl
 | some q=>
  have:=(s.al _ _ _ (s.vs p q hP).1).2.2;omega
theorem Sf.pfree{x t fr ls}(s:Sf x t fr ls){p k:Nat}(a:k<=x.o)(h:p∈fr k):x.P p=none:=by obtain⟨B,s,_⟩:=s;exact s.pn9 ((s.fi p k).2 ⟨a,h⟩) (by decide) p (aj _) (by have : 0<2 ^ k:=ap (by decide);omega)
theorem Sf.pslab{x t fr ls}(s:Sf x t fr ls){p:Nat}{q:Pg}(h:x.P p=some q):(p,0)∈ls/\q.kd=4/\p<t.m.n/\t.m.pg p=q:=by obtain⟨B,s,_,hL⟩:=s;have a:=s.vs p q h;have ha:=(s.al _ _ _ a.1).2.2;have hp:=s.pg _ _ _ a.1 (by decide) p (aj _) (by omega);rw[h,Option.getD_some] at hp;exact⟨(hL p 0).1 a.1,a.2,by omega,hp⟩
theorem zjo(x:Bx)(t:Bt)(fr:Nat->List Nat)(ls:List (Nat×Nat))(s0:Sf x t fr ls)(f:gL x t->aM x ∉ fr x.o)(w:World)(h:BdAt w x t):
  Calls prog 156 #[.pointer (some ⟨x.b,0,none⟩)] w fun e d=>e=.returned (.int .i64 9)/\Kt nO w d:=by
 refine VL x t ?_ w h;by_cases a:gL x t
 ·refine .inr ⟨a,?_⟩;obtain⟨B,s,c,hL⟩:=s0
  cases e:mL x t (aM x) x.o with
  | false=>rfl
  | true=>exact absurd ((s.fi _ _).1 ((s.free_iff c _ _ (aj _)).1 e)).2 (f a)
 ·exact .inl a
theorem wordTo_congr(f g:Nat->Nat):∀ k,(∀ i,i<k->f i=g i)->M.wordTo f k=M.wordTo g k
 | 0,_=>rfl
 | k+1,h=>by rw[M.wordTo,M.wordTo,wordTo_congr f g k (fun i hi=>h i (by omega)),h k (by omega)]
theorem Sd.bytes{x t fr B}(s:Sd x t fr B){f':Nat->Nat}(h:∀ q j,B 0 q j->∀ i,i<16->f' (4096*q+i)=t.f (4096*q+i)):Sd x { t with f:=f' } fr B:=by
 refine⟨s.mo,s.o8,s.dv,s.nb,s.n1,s.b1,s.b2,s.tg,s.fi,s.al,s.ds,s.cv,s.pg,fun k a=>(s.ch k a).congr fun c hc=>?_,s.wl,s.bt,s.nm,s.vs⟩;obtain⟨q,hq,rfl⟩:=List.mem_map.1 hc;have hb:=h q k ((s.fi q k).2 ⟨a,hq⟩);have d:ad x q-x.bS=4096*q:=by unfold ad;omega
 have b:ad x q+8-x.bS=4096*q+8:=by unfold ad;omega
 constructor
 ·show M.nx x.bS f' (ad x q)=M.nx x.bS t.f (ad x q)
  unfold M.nx M.word;rw[d];exact wordTo_congr _ _ 8 fun i hi=>hb i (by omega)
 ·show M.pv x.bS f' (ad x q)=M.pv x.bS t.f (ad x q)
  unfold M.pv M.word;rw[b];exact wordTo_congr _ _ 8 fun i hi=>by have:=hb (8+i) (by omega);rw[<-Nat.add_assoc] at this;exact this
theorem Sf.grow{w x t fr ls}(s:Sf x t fr ls)(h:BdAt w x t)(x':Bx)(d:x'.P=x.P)(c:x'.o=x.o)(hb:x'.bS=x.bS)(j:x'.n=x.n+x.R)(a:x.bS+x'.n<=9223372036854775808)(hg:t.m.n+2 ^ x.o<=1024):
  Sf x' ⟨M.more t.f x.n,dE t.m,t.hd⟩ fr (ls ++ [(t.m.n,x.o)]):=by
 obtain⟨hz,hp⟩:=IL h;have hR:=h.hR;obtain⟨B,s,g,hL⟩:=s;have b:=s.nb;refine⟨nZ B 2 t.m.n x.o,s.grow x' d c hb (by rw[j,hR,av,aq (2 ^ x.o)];exact Nat.add_le_add_right b _) a hg _ (fun i hi=>?_) hz hp,?_,?_⟩
 ·unfold M.more;rw[ae (by omega)]
 ·rintro q i (h|⟨e,_⟩)
  ·exact g q i h
  ·omega
 ·intro q i;rw[pX];unfold nZ;rw[hL];constructor
  ·rintro (h|⟨_,h⟩)
   ·exact .inl h
   ·exact .inr h
  ·rintro (h|h)
   ·exact .inl h
   ·exact .inr ⟨rfl,h⟩
theorem Sf.dropT{w x t fr ls}(s0:Sf x t fr ls)(h:BdAt w x t)(c:Nat)(hc:t.m.n=c+2 ^ x.o)(hl:(c,x.o)∈ls)(l:x.P c=none)(x':Bx)(j:x'.P=x.P)(d:x'.o=x.o)(hb:x'.bS=x.bS)(k:c*4096<=x'.n)(b:x'.n<=x.n):
  Sf x' ⟨t.f,dC t.m c,t.hd⟩ fr (dU ls c):=by
 obtain⟨hz,hp⟩:=IL h;obtain⟨B,s,a,hL⟩:=s0;have g:=s.b2;refine⟨pN B 2 c x.o,s.drop c hc ((hL c x.o).2 hl) l x' j d hb k (by omega) _ (fun i hi=>rfl) hz,fun q i h=>a q i h.1,fun q i=>?_⟩;rw[<-Sf.drop_iff ⟨B,s,a,hL⟩ hl];unfold pN;rw[hL];constructor
 ·exact fun h=>⟨h.1,fun e=>h.2 ⟨rfl,e⟩⟩
 ·exact fun h=>⟨h.1,fun e=>h.2 e.2⟩
theorem Sf.fill{x t fr ls}(s:Sf x t fr ls){p k:Nat}(hl:(p,k)∈ls){f':Nat->Nat}(h:∀ i,¬(4096*p<=i/\i<4096*(p+2 ^ k))->f' i=t.f i):Sf x { t with f:=f' } fr ls:=by obtain⟨B,s,b,hL⟩:=s;refine⟨B,s.bytes fun q j hb i hi=>h _ fun e=>?_,b,hL⟩;have hz : 0<2 ^ j:=ap (by decide);rcases s.ds _ _ _ _ _ _ hb ((hL p k).2 hl)with ⟨a,_⟩|a|a <;> omega
theorem Sf.new(x:Bx)(f:Nat->Nat)(c:x.P=fun _=>none)(d:x.o<=8)(hb : 1<=x.bS)(a:x.bS+x.n<=9223372036854775808):Sf x ⟨f,aY x.o,fun _=>0⟩ (fun _=>[]) []:=by
 refine⟨fun _ _ _=>False,⟨rfl,d,⟨0,by simp[aY]⟩,by simp[aY],by simp[aY],hb,a,fun _ _ _ h=>h.elim,fun p k=>⟨fun h=>h.elim,fun h=>by cases h.2⟩,fun _ _ _ h=>h.elim,fun _ _ _ _ _ _ h=>h.elim,fun i hi=>absurd hi (Nat.not_lt_zero _),fun _ _ _ h=>h.elim,fun k b=>M.Chn.nil _ _ _,fun k b=>?_,fun k b i hi=>?_,fun k b i h=>(by cases h.1),fun p q h=>(by rw[c] at h;cases h)⟩,fun _ _ h=>h,fun _ _=>⟨fun h=>h.elim,fun h=>by cases h⟩⟩
 ·show 0=(0/2 ^ (k+1)+63)/64
  rw[Nat.zero_div]
 ·have hi:i<0/2 ^ (k+1):=hi;rw[Nat.zero_div] at hi;omega
theorem Sf.congr{x t fr fr' ls}(s:Sf x t fr ls)(h:∀ k,k<=x.o->fr' k=fr k):Sf x t fr' ls:=by
 obtain⟨B,s,b,hL⟩:=s;refine⟨B,⟨s.mo,s.o8,s.dv,s.nb,s.n1,s.b1,s.b2,s.tg,fun p k=>?_,s.al,s.ds,s.cv,s.pg,fun k a=>by rw[h k a];exact s.ch k a,s.wl,fun k a=>?_,fun k a=>?_,s.vs⟩,b,hL⟩
 ·rw[s.fi];constructor
  ·exact fun e=>⟨e.1,by rw[h k e.1];exact e.2⟩
  ·exact fun e=>⟨e.1,by rw[<-h k e.1];exact e.2⟩
 ·rw[h k (Nat.le_of_lt a)];exact s.bt k a
 ·rw[h k (Nat.le_of_lt a)];exact s.nm k a
abbrev rK(x:Bx):Obj:=.cells #[.pointer (some ⟨x.s,0,none⟩),.pointer (some ⟨x.m,0,none⟩),.pointer (some ⟨x.b,0,none⟩)] 84
structure Pol(w W:World)(lw:Nat)(x:Bx)(t:Bt):Prop where
 box:W.heap[lw]?=some (rK x)
 bd:BdAt W x t
 nw:∀ y,aC x y\/y=x.b\/y=x.l\/y=lw->w.heap.size<=y
 kp:Kt nO w W
theorem Pol.nlw{w W lw x t}(h:Pol w W lw x t):¬aC x lw:=by
 rintro (hx|hx|⟨k,c,e⟩)
 ·obtain⟨cs,d,z,a,b⟩:=mO h.bd.sp hx;rw[h.box] at a
  cases a
  rcases b with e|e <;> exact absurd e (by decide)
 ·rw[<-h.bd.mo] at hx;obtain⟨cs,d,z,a,b⟩:=nJ h.bd.mp hx;rw[h.box] at a
  cases a
  rcases b with e|e|e|e|e <;> exact absurd e (by decide)
 ·exact absurd e (bY h.box (h.bd.ls k c).hc (by decide))
theorem Pol.call{w W W' lw x t t'}(h:Pol w W lw x t)(hb:BdAt W' x t')(k:Kt (aC x) W W'):Pol w W' lw x t':=
 ⟨(k.block _ (lH h.box) h.nlw).trans h.box,hb,h.nw,h.kp.trans k (fun _ _ e=>e) (fun y hy e=>absurd (h.nw y (.inl e)) (by omega))⟩
theorem Pol.keep{w W W' lw x t}(h:Pol w W lw x t)(k:Kt nO W W'):Pol w W' lw x t:=h.call (h.bd.keep k) (jE k)
theorem Pol.space{w W W' lw x t}{b n':Nat}{f':Nat->Nat}(h:Pol w W lw x t)(k:Kt (M.own x.s x.a) W W')(hs:M.SpA W' x.s (some b) x.bS x.R x.lim n' f')(hg:x.a=some b\/W.heap.size<=b):Pol w W' lw { x with a:=some b,n:=n' } { t with f:=f' }:=by
 refine⟨(k.block _ (lH h.box) (fun e=>h.nlw (.inl e))).trans h.box,h.bd.space k hs,?_,h.kp.trans k (fun _ _ e=>e) (fun y hy e=>absurd (h.nw y (.inl (.inl e))) (by omega))⟩;have hz:=h.kp.size;rintro y (hy|rfl|rfl|rfl)
 ·rcases hy with hy|hy|⟨k,c,rfl⟩
  ·rcases hy with rfl|hy
   ·exact h.nw _ (.inl (.inl (.inl rfl)))
   ·have hy:some b=some y:=hy
    cases hy
    rcases hg with e|e
    ·exact h.nw _ (.inl (.inl (.inr e)))
    ·omega
  ·exact h.nw _ (.inl (.inr (.inl hy)))
  ·exact h.nw _ (.inl (.inr (.inr ⟨k,c,rfl⟩)))
 ·exact h.nw _ (.inr (.inl rfl))
 ·exact h.nw _ (.inr (.inr (.inl rfl)))
 ·exact h.nw _ (.inr (.inr (.inr rfl)))
theorem Pol.grow{w W W' lw x t}{a:Bs}{b:Mp}(h:Pol w W lw x t)(k:Kt (aO x.m x.B t.m.o) W W')(f:MpA W' x.m a b)(g:b.o=t.m.o)(d:dN W x.m x.B a t.m.o):Pol w W' lw { x with B:=a } { t with m:=b }:=by
 refine⟨(k.block _ (lH h.box) (fun e=>h.nlw (.inr (.inl (h.bd.mo▸e))))).trans h.box,h.bd.grow k f g,?_,h.kp.trans k (fun _ _ e=>e) (fun y hy e=>absurd (h.nw y (.inl (.inr (.inl (h.bd.mo▸e))))) (by omega))⟩;have hz:=h.kp.size;rintro y (hy|rfl|rfl|rfl)
 ·rcases hy with hy|hy|⟨k,c,rfl⟩
  ·exact h.nw _ (.inl (.inl hy))
  ·have hy:aO x.m a x.o y:=hy;rw[<-h.bd.mo] at hy;rcases d y hy with e|e
   ·exact h.nw _ (.inl (.inr (.inl (h.bd.mo▸e))))
   ·omega
  ·exact h.nw _ (.inl (.inr (.inr ⟨k,c,rfl⟩)))
 ·exact h.nw _ (.inr (.inl rfl))
 ·exact h.nw _ (.inr (.inr (.inl rfl)))
 ·exact h.nw _ (.inr (.inr (.inr rfl)))
theorem Pol.space0{w W W' lw x t}{n':Nat}{f':Nat->Nat}(h:Pol w W lw x t)(k:Kt (M.own x.s x.a) W W')(hs:M.SpA W' x.s x.a x.bS x.R x.lim n' f'):Pol w W' lw { x with n:=n' } { t with f:=f' }:=
 ⟨(k.block _ (lH h.box) (fun e=>h.nlw (.inl e))).trans h.box,h.bd.space k hs,h.nw,h.kp.trans k (fun _ _ e=>e) (fun y hy e=>absurd (h.nw y (.inl (.inl e))) (by omega))⟩
theorem Pol.lt{w W lw x t}(h:Pol w W lw x t):∀ y,aC x y\/y=lw->y<W.heap.size:=by
 rintro y ((hx|hx|⟨j,c,e⟩)|rfl)
 ·obtain⟨cs,d,z,a,b⟩:=mO h.bd.sp hx;exact lH a
 ·rw[<-h.bd.mo] at hx;obtain⟨cs,d,z,a,b⟩:=nJ h.bd.mp hx;exact lH a
 ·rw[e];exact lH (h.bd.ls j c).hc
 ·exact lH h.box
theorem Pol.c{w W lw x t}(h:Pol w W lw x t):W.cell? ⟨lw,0,none⟩=some (.pointer (some ⟨x.s,0,none⟩))/\W.cell? ⟨lw,1,none⟩=some (.pointer (some ⟨x.m,0,none⟩))/\W.cell? ⟨lw,2,none⟩=some (.pointer (some ⟨x.b,0,none⟩)):=by refine⟨?_,?_,?_⟩ <;> simp[World.cell?,h.box]
structure PO(w W:World)(lw:Nat)(x:Bx)(t:Bt)(fr:Nat->List Nat)(ls:List (Nat×Nat)):Prop where
 pl:Pol w W lw x t
 sf:Sf x t fr ls
 st:t.m.n*4096=x.n
 bm:x.bS%4096=0
theorem PO.keep{w W W' lw x t fr ls}(h:PO w W lw x t fr ls)(k:Kt nO W W'):PO w W' lw x t fr ls:=⟨h.pl.keep k,h.sf,h.st,h.bm⟩
theorem PO.nums{w W lw x t fr ls}(h:PO w W lw x t fr ls):x.o<=8/\t.m.n<=1024/\1<=x.bS/\x.bS+x.n<=9223372036854775808/\(∃ r,t.m.n=r*2 ^ x.o/\r<=x.lim/\x.n=r*x.R)/\x.lim<=64/\x.lim*2 ^ x.o<=1024:=by
 obtain⟨n1,f,g⟩:=h.sf.sn.n;have hc:=h.pl.bd.sp.cfg;obtain⟨r,d,c⟩:=h.pl.bd.sp.kn;have hR:=h.pl.bd.hR;have a:=h.st;have b:=hc.lr;refine⟨h.pl.bd.o8,n1,hc.b1,f,⟨r,?_,c,d⟩,hc.l2,?_⟩
 ·rw[d,hR] at a;have e:r*(4096*2 ^ x.o)=(r*2 ^ x.o)*4096:=by rw[aq 4096,cx]
  rw[e] at a;exact Nat.eq_of_mul_eq_mul_right (by decide) a
 ·rw[hR] at b;have e:x.lim*(4096*2 ^ x.o)=(x.lim*2 ^ x.o)*4096:=by rw[aq 4096,cx]
  rw[e] at b;omega
theorem PO.top{w W lw x t fr ls}(h:PO w W lw x t fr ls):(t.m.n=0/\¬gL x t)\/(2 ^ x.o<=t.m.n/\gL x t/\aM x=t.m.n-2 ^ x.o):=by
 have a:=h.st;by_cases h0:t.m.n=0
 ·exact .inl ⟨h0,fun e=>e.1 (by omega)⟩
 ·have b:gL x t:=⟨by omega,a⟩;obtain⟨c,_⟩:=h.sf.sn.top b;exact .inr ⟨by omega,b,by omega⟩
theorem iK{w W lw x t}(h:Pol w W lw x t):Calls prog 31 #[.pointer (some ⟨lw,0,none⟩)] W fun e a=>e=.returned (.pointer (some ⟨x.s,0,none⟩))/\a=W:=by obtain⟨c0,c1,c2⟩:=h.c;clear h;go_enter func31,ntmps31;go_wp2_with fail;go_ret;exact⟨rfl,rfl⟩
theorem bT{w W lw x t}(h:Pol w W lw x t):Calls prog 38 #[.pointer (some ⟨lw,0,none⟩)] W fun e a=>e=.returned (.pointer (some ⟨x.m,0,none⟩))/\a=W:=by obtain⟨c0,c1,c2⟩:=h.c;clear h;go_enter func38,ntmps38;go_wp2_with fail;go_ret;exact⟨rfl,rfl⟩
theorem BS{w W lw x t}(h:Pol w W lw x t):Calls prog 33 #[.pointer (some ⟨lw,0,none⟩)] W fun e a=>e=.returned (.pointer (some ⟨x.b,0,none⟩))/\a=W:=by obtain⟨c0,c1,c2⟩:=h.c;clear h;go_enter func33,ntmps33;go_wp2_with fail;go_ret;exact⟨rfl,rfl⟩
theorem zkY(bS:Nat)(a:bS<18446744073709551616)(lim ord:Int)(b : -9223372036854775808<=lim)(d:lim<=9223372036854775807)(f : -9223372036854775808<=ord)(c:ord<=9223372036854775807)(h:M.mayB bS lim ord=false)(w:World):
  Calls prog 19 #[dM bS lim ord] w fun e o=>e=.returned (.tuple #[.pointer none,.int .i64 1])/\Kt nO w o:=by
 have j:=aA ((Kt.refl nO w).alloc (bJ bS lim ord));have l:=aA (nH w (bJ bS lim ord));have m:=aA (fun W=>M.New_bad bS a lim ord b d f c h W);obtain⟨n,i,k⟩:=dI l.o;clear h;go_enter func19,ntmps19;go_wp2_with fail;refine(m.o _).mono ?_;rintro e q ⟨rfl,g⟩;have p:=aA (nT j.o (dF g));clear g n i k;go_wp2_with fail;exact⟨rfl,.tuple #[.pointer none,.int .i64 1],by simp[results,results19,go_sem],rfl,p.o⟩
def MX(w:World)(bS lim o:Nat)(e:Ending)(w':World):Prop:=∃ lw x,e=.returned (.tuple #[.pointer (some ⟨lw,0,none⟩),.int .i64 0])/\Pol w w' lw x ⟨fun _=>0,aY o,fun _=>0⟩/\x.bS=bS/\x.R=4096*2 ^ o/\x.lim=lim/\x.n=0/\x.o=o/\x.P=fun _=>none
theorem YI(bS:Nat)(p:bS<18446744073709551616)(lim o:Nat)(hl:lim<=64)(ho:o<=8)(N:M.mayB bS (lim:Int) (o:Int)=true)(w:World):
  Calls prog 19 #[dM bS (lim:Int) (o:Int)] w fun e w'=>MX w bS lim o e w':=by
 have A:=aA ((Kt.refl nO w).alloc (bJ bS (lim:Int) (o:Int)));have r:=aA (nH w (bJ bS (lim:Int) (o:Int)));have S:=aA (fun W=>M.New_ok bS p (lim:Int) (o:Int) (by omega) (by omega) (by omega) (by omega) N (fun _=>0) W);clear N;go_enter func19,ntmps19;obtain⟨j,f,g⟩:=dI r.o;go_wp2_with fail;generalize w.alloc (bJ bS (lim:Int) (o:Int))=W3 at *;refine(S.o _).mono ?_;rintro e V ⟨s,rfl,hS,i,hs⟩;have a:Kt nO W3 V:=dF i;have T:=aA (show M.SpA V s none bS (M.RS o) lim 0 (fun _=>0)from by simpa using hS);have G:=aA (show w.heap.size<=s from an A.o.size hs);have t:=aA ((a.block _ (lH r.o) (fun x=>x)).trans r.o);have E:=aA (nT A.o a);clear j f g a i hS hs r A S;obtain⟨j,f,g⟩:=dI t.o;go_wp2_with fail;refine(UG (o:Int) _).mono ?_;rintro e K ⟨m,B,rfl,F,a,C⟩;have U:=aA (show MpA K m B (aY o)from by rw[show eY (o:Int)=o by unfold eY;rw[ac (by omega),ac (by omega)];simp] at F;exact F);have u:=aA (show ∀ y,aO m B o y->w.heap.size<=y from fun y hy=>by rw[show eY (o:Int)=o by unfold eY;rw[ac (by omega),ac (by omega)];simp] at C;exact an E.o.size (C y hy));have J:=aA (T.o.keep (fL a));have Q:=aA ((a.block _ (lH t.o) (fun x=>x)).trans t.o);have z:=aA (nT E.o a);clear j f g a F C t E T;obtain⟨j,f,g⟩:=dI Q.o;go_wp2_with fail;refine(ZX bS s m o (lim:Int) ho _).mono ?_;rintro e d ⟨b,rfl,I⟩;have q:Kt nO K d:=by obtain⟨_,_,_,h,_⟩:=I;exact h.kp
 have D:=aA (show ∃ x:Bx,Pol w (d.alloc (rK x)) d.heap.size x ⟨fun _=>0,aY o,fun _=>0⟩/\x.bS=bS/\x.R=4096*2 ^ o/\x.lim=lim/\x.n=0/\(x.o=o/\x.P=fun _=>none)/\x.s=s/\x.m=m/\x.b=b from by
  obtain⟨l,c,L,X,h1,Y,h3,h4⟩:=I.bd rfl (J.o.keep (fL q)) (U.o.keep q) rfl rfl;have hz:=z.o.size;have v:=(nT z.o q).size;refine⟨_,⟨nH _ _,X.keep ((Kt.refl nO d).alloc _),?_,(nT z.o q).alloc _⟩,rfl,rfl,rfl,rfl,⟨rfl,rfl⟩,rfl,rfl,rfl⟩;rintro y (hy|rfl|rfl|rfl)
  ·rcases hy with hy|hy|⟨k,a,rfl⟩
   ·rcases hy with rfl|hy
    ·exact G.o
    ·cases hy
   ·exact u.o y hy
   ·exact an hz (h3 k a)
  ·exact an hz h1
  ·exact an hz Y
  ·exact v)
 clear j f g q I Q J U;go_wp2_with fail;obtain⟨x,hL,Z,e2,e3,e4,e5,e6,e7,e8⟩:=D.o;refine⟨rfl,.tuple #[.pointer (some ⟨d.heap.size,0,none⟩),.int .i64 0],by simp[results,results19,go_sem],_,x,rfl,?_,Z,e2,e3,e4,e5⟩;rw[rK,e6,e7,e8] at hL;exact hL
theorem YH{w W lw x}(o:Nat)(h:Pol w W lw x ⟨fun _=>0,aY o,fun _=>0⟩)(c:x.n=0)(e:x.o=o)(d:x.P=fun _=>none)(hb:x.bS%4096=0):PO w W lw x ⟨fun _=>0,aY o,fun _=>0⟩ (fun _=>[]) []:=by
 subst e;have hc:=h.bd.sp.cfg;have b:=hc.be;have a:x.bS+x.n<=9223372036854775808:=by rw[c,Nat.add_zero];exact an (Nat.le_add_right _ _) b
 exact⟨h,Sf.new x _ d h.bd.o8 hc.b1 a,by rw[c];exact Nat.zero_mul 4096,hb⟩
theorem zjp(o:Nat)(fr:Nat->List Nat)(n:Nat):lF o fr n o=cK fr o (n :: fr o):=by unfold lF;rw[Nat.sub_self];rfl
theorem zjq{x t fr ls}(s:Sf x t fr ls):dU (ls ++ [(t.m.n,x.o)]) t.m.n=ls:=by
 unfold dU;rw[List.filter_append];have a:ls.filter (fun r=>decide (r.1≠t.m.n))=ls:=List.filter_eq_self.2 fun r b=>by
  obtain⟨q,i⟩:=r;obtain⟨_,_,c⟩:=s.sn.al b;have hz : 0<2 ^ i:=ap (by decide);simp
  omega
 rw[a];simp
structure Sm(x x':Bx):Prop where
 bS:x'.bS=x.bS
 R:x'.R=x.R
 lim:x'.lim=x.lim
 o:x'.o=x.o
 b:x'.b=x.b
 s:x'.s=x.s
 m:x'.m=x.m
 l:x'.l=x.l
 P:x'.P=x.P
theorem Sm.refl(x:Bx):Sm x x:=⟨rfl,rfl,rfl,rfl,rfl,rfl,rfl,rfl,rfl⟩
theorem Sm.trans{x y z:Bx}(h:Sm x y)(k:Sm y z):Sm x z:=⟨k.bS.trans h.bS,k.R.trans h.R,k.lim.trans h.lim,k.o.trans h.o,k.b.trans h.b,k.s.trans h.s,k.m.trans h.m,k.l.trans h.l,k.P.trans h.P⟩
def Nb(W:World)(x x':Bx):Prop:=∀ y,aC x' y->aC x y\/W.heap.size<=y
theorem US{w W lw x t}(h:Pol w W lw x t)(d:Bool)(hd:d=true\/x.n=x.lim*x.R):
  Calls prog 162 #[.pointer (some ⟨lw,0,none⟩),.bool d] W fun e b=>e=.returned (.int .i64 2)/\Kt nO W b:=by
 have i:=aA (show Calls prog 99 #[.pointer (some ⟨x.s,0,none⟩),.bool d] W fun e b=>e=.returned (.tuple #[.int .u64 0,.int .i64 2])/\Kt nO W b from by
  rcases hd with rfl|hd
  ·exact(M.Commit_deny x.s x.a x.bS x.R x.lim x.n t.f W h.bd.sp).mono fun e b h=>⟨h.1,dF h.2⟩
  ·cases d with
   | true=>exact(M.Commit_deny x.s x.a x.bS x.R x.lim x.n t.f W h.bd.sp).mono fun e b h=>⟨h.1,dF h.2⟩
   | false=>exact(M.Commit_full x.s x.a x.bS x.R x.lim x.n t.f W h.bd.sp hd).mono fun e b h=>⟨h.1,dF h.2⟩)
 obtain⟨c0,c1,c2⟩:=h.c;clear h hd;go_enter func162,ntmps162;go_wp2_with fail;refine i.o.mono ?_;rintro e k ⟨rfl,g⟩;have j:=aA g;clear g i c0 c1 c2;go_wp2_with fail;go_ret;exact⟨rfl,j.o⟩
theorem Sf.apart0{x t fr ls}(s:Sf x t fr ls){k p q i:Nat}(a:k<=x.o)(hp:p∈fr k)(hq:(q,i)∈ls):p+2 ^ k<=q\/q+2 ^ i<=p:=by
 obtain⟨B,s,_,hL⟩:=s;rcases s.ds _ _ _ _ _ _ ((s.fi p k).2 ⟨a,hp⟩) ((hL q i).2 hq)with ⟨e,_⟩|e
 ·omega
 ·exact e
theorem zi0{x t fr ls}(s:Sf x t fr ls){p:Nat}(hp:p∈fr x.o):dU (ls ++ [(p,x.o)]) p=ls:=by
 unfold dU;rw[List.filter_append];have b:ls.filter (fun r=>decide (r.1≠p))=ls:=List.filter_eq_self.2 fun r c=>by obtain⟨q,i⟩:=r;have hz : 0<2 ^ i:=ap (by decide);have a : 0<2 ^ x.o:=ap (by decide);rcases s.apart0 (aj _) hp c with e|e <;> simp <;> omega
 rw[b];simp
theorem zi1{w W lw x t fr ls}(h:PO w W lw x t fr ls)(d:t.m.n=0\/t.m.n-2 ^ x.o ∉ fr x.o):
  Calls prog 105 #[.pointer (some ⟨lw,0,none⟩)] W fun e k=>e=.returned (.bool false)/\Kt nO W k:=by
 have f:=aA (zjo x t fr ls h.sf (fun g=>by
  rcases h.top with ⟨_,a⟩|⟨h0,a,j⟩
  ·exact absurd g a
  ·rw[j];rcases d with e|e
   ·have hz : 0<2 ^ x.o:=ap (by decide);omega
   ·exact e) W h.pl.bd)
 obtain⟨c0,c1,c2⟩:=h.pl.c;clear h d;go_enter func105,ntmps105;go_wp2_with fail;refine f.o.mono ?_;rintro e l ⟨rfl,b⟩;have i:=aA b;clear b f c0 c1 c2;go_wp2_with fail;go_ret;exact⟨rfl,i.o⟩
def fY(o:Nat):Nat->(Nat->List Nat)->Nat×(Nat->List Nat)
 | 0,fr=>(0,fr)
 | r+1,fr=>if r*2 ^ o∈fr o then ((fY o r (cK fr o (M.dropL (fr o) (r*2 ^ o)))).1+1,(fY o r (cK fr o (M.dropL (fr o) (r*2 ^ o)))).2) else (0,fr)
theorem YN{o r:Nat}{fr:Nat->List Nat}(h:r*2 ^ o∈fr o):fY o (r+1) fr=((fY o r (cK fr o (M.dropL (fr o) (r*2 ^ o)))).1+1,(fY o r (cK fr o (M.dropL (fr o) (r*2 ^ o)))).2):=by
 show(if r*2 ^ o∈fr o then _ else _)=_
 rw[ae h]
theorem QQ{o r:Nat}{fr:Nat->List Nat}(h:¬r*2 ^ o∈fr o):fY o (r+1) fr=(0,fr):=by
 show(if r*2 ^ o∈fr o then _ else _)=_
 rw[ac h]
theorem TU{o i:Nat}(h:i<=o):aD (o+1) (i:Int)=true:=by unfold aD;exact af (by omega)
theorem rR{w W lw x t fr ls}(h:PO w W lw x t fr ls):Calls prog 76 #[.pointer (some ⟨x.s,0,none⟩)] W fun e c=>e=.returned (.int .u64 ((x.bS+x.n:Nat):Int))/\Kt nO W c:=by
 refine(M.end_any x.s x.a x.bS x.R x.lim x.n t.f W h.pl.bd.sp).mono ?_;rintro e c ⟨rfl,b⟩;first
  | exact⟨rfl,dF b⟩
  | (obtain⟨m,rfl⟩:=b;exact⟨rfl,(Kt.refl nO W).drewN m⟩)
  | (subst b;exact⟨rfl,Kt.refl nO _⟩)
theorem CD{w W lw x t fr ls}(h:PO w W lw x t fr ls):Calls prog 44 #[.pointer (some ⟨x.m,0,none⟩)] W fun e a=>e=.returned (.int .i64 t.m.n)/\a=W:=tN x.m x.B t.m W h.pl.bd.mp
theorem KN(f g:Nat->Nat):∀ k,(∀ i,i<k->f i<256)->(∀ i,i<k->g i<256)->M.wordTo f k=M.wordTo g k->∀ i,i<k->f i=g i
 | 0,_,_,_,i,hi=>absurd hi (Nat.not_lt_zero _)
 | k+1,hf,hg,h,i,hi=>by
  have a:=M.wordTo_lt f k (fun i hi=>hf i (by omega));have b:=M.wordTo_lt g k (fun i hi=>hg i (by omega));rw[M.wordTo,M.wordTo] at h;have hz : 0<256 ^ k:=ap (by decide);have j:(M.wordTo f k+f k*256 ^ k)/256 ^ k=f k:=by rw[Nat.add_mul_div_right _ _ hz,Nat.div_eq_of_lt a,Nat.zero_add]
  have d:(M.wordTo g k+g k*256 ^ k)/256 ^ k=g k:=by rw[Nat.add_mul_div_right _ _ hz,Nat.div_eq_of_lt b,Nat.zero_add]
  have c:f k=g k:=by rw[<-j,h,d]
  by_cases e:i=k
  ·rw[e];exact c
  ·rw[c] at h;exact KN f g k (fun i hi=>hf i (by omega)) (fun i hi=>hg i (by omega)) (Nat.add_right_cancel h) i (by omega)
theorem LR{w s a bS R lim n f}(h:M.SpA w s a bS R lim n f){i:Nat}(hi:i<n):f i<256:=by
 obtain⟨cap,hb,b⟩:=h.ex
 cases a with
 | none=>
  obtain⟨e,_⟩:=b;omega
 | some g=>
  obtain⟨_,j,_,_,k,c,d⟩:=b;rw[<-c i hi];exact d i
theorem JN{f g:Nat->Nat}{o:Nat}(hf:∀ i,i<8->f (o+i)<256)(hg:∀ i,i<8->g (o+i)<256)(h:M.word f o=M.word g o)(j:Nat)(a:j<8):f (o+j)=g (o+j):=
 KN (fun i=>f (o+i)) (fun i=>g (o+i)) 8 hf hg h j a
theorem Kp.byte{w w' x t t'}{G:Nat->Prop}(h:Kp x t t' G)(hb:BdAt w x t)(g:BdAt w' x t'){i:Nat}(hi:i/4096*4096+4096<=x.n)(m:G (i/4096)):t'.f i=t.f i:=by
 have hc:=hb.sp.cfg;have r:=hb.sp.nle;have p:=hc.be;have q:=hc.b1;have a:M.IsCell x.bS x.n (x.bS+i/16*16):=by unfold M.IsCell;omega
 obtain⟨d,c⟩:=h _ a (by rw[show(x.bS+i/16*16-x.bS)/4096=i/4096 by omega];exact m);unfold M.nx at d;unfold M.pv at c;rw[show x.bS+i/16*16-x.bS=i/16*16 by omega] at d;rw[show x.bS+i/16*16+8-x.bS=i/16*16+8 by omega] at c;have l:∀ j,j<16->t.f (i/16*16+j)<256:=fun j b=>LR hb.sp (by omega)
 have k:∀ j,j<16->t'.f (i/16*16+j)<256:=fun j b=>LR g.sp (by omega)
 by_cases e:i%16<8
 ·have:=JN (fun j b=>k j (by omega)) (fun j b=>l j (by omega)) d (i%16) e;rw[show i/16*16+i%16=i by omega] at this;exact this
 ·have:=JN (o:=i/16*16+8) (fun j b=>by have:=k (8+j) (by omega);rw[<-Nat.add_assoc] at this;exact this) (fun j b=>by have:=l (8+j) (by omega);rw[<-Nat.add_assoc] at this;exact this) c (i%16-8) (by omega);rw[show i/16*16+8+(i%16-8)=i by omega] at this;exact this
def Lv(ls:List (Nat×Nat))(g:Nat):Prop:=∃ q k,(q,k)∈ls/\q<=g/\g<q+2 ^ k
def BK(t t':Bt)(ls ls':List (Nat×Nat)):Prop:=∀ i,Lv ls (i/4096)->Lv ls' (i/4096)->t'.f i=t.f i
theorem Sf.nfree{x t fr ls}(s:Sf x t fr ls){g:Nat}(h:Lv ls g)(j:Nat)(b:j<=x.o):g ∉ fr j:=fun hg=>by
 obtain⟨q,k,a,c,d⟩:=h;obtain⟨B,s,_,hL⟩:=s;have hz : 0<2 ^ j:=ap (by decide);rcases s.ds _ _ _ _ _ _ ((s.fi g j).2 ⟨b,hg⟩) ((hL q k).2 a)with ⟨e,_⟩|e|e
 ·exact absurd e (by decide)
 ·omega
 ·omega
theorem Sf.lv_in{x t fr ls}(s:Sf x t fr ls){g:Nat}(h:Lv ls g):g*4096+4096<=x.n:=by obtain⟨q,f,d,i,e⟩:=h;obtain⟨_,_,b⟩:=s.sn.al d;obtain⟨B,s,_,hL⟩:=s;have c:g+1<=t.m.n:=an e b;have a:=ak 4096 c;rw[av,aL] at a;exact an a s.nb
theorem BK.of{w n:World}{x:Bx}{t c:Bt}{fr a:Nat->List Nat}{ls b:List (Nat×Nat)}(h:BdAt w x t)(l:BdAt n x c)(s:Sf x t fr ls)(m:Sf x c a b)(k:Kp x t c (fun g=>(∀ i,i<=x.o->g ∉ fr i)/\∀ i,i<=x.o->g ∉ a i)):BK t c ls b:=fun i e f=>by
 have n1:=fun j d=>s.nfree e j d
 have p:=fun j d=>m.nfree f j d
 have hi:=s.lv_in e;exact Kp.byte (G:=fun g=>(∀ i,i<=x.o->g ∉ fr i)/\∀ i,i<=x.o->g ∉ a i) k h l (i:=i) hi (And.intro n1 p)
theorem BK.refl(t:Bt)(ls a:List (Nat×Nat)):BK t t ls a:=fun _ _ _=>rfl
theorem BK.trans{t e f:Bt}{ls b a:List (Nat×Nat)}(h:BK t e ls b)(k:BK e f b a)(j:∀ g,Lv ls g->Lv a g->Lv b g):BK t f ls a:=fun i c d=>(k i (j _ c d) d).trans (h i c (j _ c d))
end Go.Proofs.YtfmgnljlkdmndaaGreatDoor
namespace Go.Proofs.YtfmgnljlkdmndaaGreatDoor.K
open Tryz
open Go.RowKit
set_option linter.unusedVariables false
def DF(x:Bx)(t:Bt)(w w':World)(ls0:List (Nat×Nat))(fr:Nat->List Nat)(ls:List (Nat×Nat)):Prop:=∃ t',BdAt w' x t'/\Kt (aC x) w w'/\Sf x t' fr ls/\t'.m.n=t.m.n/\BK t t' ls0 ls
theorem BG(x:Bx)(t:Bt)(fr:Nat->List Nat)(ls:List (Nat×Nat))(s:Sf x t fr ls)(k:Nat)(z:k<=x.o)(w:World)(h:BdAt w x t):
  Calls prog 161 #[.pointer (some ⟨x.b,0,none⟩),.int .i64 k] w fun e m=>
   (e=.returned (.tuple #[.int .u64 0,.int .i64 2])/\m=w/\∀ j,k<=j->j<=x.o->fr j=[])\/
   (∃ j p l,k<=j/\j<=x.o/\(∀ i,k<=i->i<j->fr i=[])/\fr j=p :: l/\e=.returned (.tuple #[.int .u64 ((ad x p:Nat):Int),.int .i64 0])/\DF x t w m ls (dL (cK fr j (M.dropL (fr j) p)) p j k) (ls ++ [(p,k)])):=by
 have r:=s;obtain⟨B,s,F,hL⟩:=s;rcases ZO x t k with hz|⟨j,c,hl⟩
 ·refine(zh0 x t k z hz w h).mono ?_;rintro e m ⟨rfl,rfl⟩;exact .inl ⟨rfl,rfl,fun j g f=>(s.head j f).1 (hz j g f)⟩
 ·obtain⟨p,l,d⟩:∃ p l,fr j=p :: l:=by
   cases e:fr j with
   | nil=>exact absurd ((s.head j c).2 e) (hl.lh c)
   | cons p l=>exact⟨p,l,rfl⟩
  obtain⟨c1,c2,c3,c4,c5,D,v,y,c7,C,A,n,u⟩:=s.take F hl.lk c d;refine(zk7 x t k j p z hl c c1 c2 c3 c4 c5 D w h).mono ?_;rintro e m ⟨rfl,g,f⟩;have a:v=dL (cK fr j (M.dropL (fr j) p)) p j k:=by
   funext i
   rw[n];unfold dL cK;by_cases e:k<=i/\i<j
   ·rw[ae e,ae e,ac (by omega)]
   ·rw[ac e,ac e]
  subst a;exact .inr ⟨j,p,l,hl.lk,c,fun i E G=>(s.head i (by omega)).1 (hl.lz i E G),d,rfl,_,g,f,⟨y,c7,C,fun q i=>by rw[A,hL,pX]⟩,UY _ _ _ _ _,BK.of h g r ⟨y,c7,C,fun q i=>by rw[A,hL,pX]⟩ u⟩
theorem RI(x:Bx)(t:Bt)(fr:Nat->List Nat)(ls:List (Nat×Nat))(s0:Sf x t fr ls)(p k:Nat)(hl:(p,k)∈ls)(z:x.P p=none)(w:World)(h:BdAt w x t):
  Calls prog 170 #[.pointer (some ⟨x.b,0,none⟩),.int .u64 ((ad x p:Nat):Int),.int .i64 k] w fun e y=>e=.returned (.int .i64 0)/\DF x t w y ls (lF x.o fr p k) (dU ls p):=by
 obtain⟨n1,T,K⟩:=s0.sn.n;obtain⟨N,Q,S⟩:=s0.sn.al hl;have hz : 0<2 ^ k:=ap (by decide);have c:=(s0.sn.live_iff p k (by omega)).2 ⟨hl,z⟩;have a:=s0.drop_iff hl;have l:=s0;obtain⟨B,s,F,hL⟩:=s0;obtain⟨f,_⟩:=sY s p (by omega);obtain⟨C,I,G,c1,c2,r,c3,c4,c5,A,J,E⟩:=s.give F ((hL p k).2 hl) z;refine(GG x t (ad x p) k (by unfold ad;omega) c w h).mono ?_;rintro e y ⟨L,pr,R,v,rfl,u,D⟩;rw[f,c1] at v
 cases v
 have d:(fF x C I G).m.n=t.m.n:=by rw[tI];have:=DB x (x.o-k) t p k;rw[c1] at this;exact this
 subst A J;exact⟨by rw[c2];rfl,_,u,D,⟨r,c3,c4,fun q i=>by rw[c5,hL];exact a q i⟩,d,BK.of h u l ⟨r,c3,c4,fun q i=>by rw[c5,hL];exact a q i⟩ (E.mono fun g hg=>⟨hg.1,fun j hb=>hg.2 j ((c3.fi g j).1 hb).1 ((c3.fi g j).1 hb).2⟩)⟩
theorem RF(x:Bx)(t:Bt)(fr:Nat->List Nat)(ls:List (Nat×Nat))(s0:Sf x t fr ls)(z:gL x t)(hl:(aM x,x.o)∈ls)(A:x.P (aM x)=none)(w:World)(h:BdAt w x t):
  Calls prog 222 #[.pointer (some ⟨x.b,0,none⟩)] w fun e y=>e=.returned (.int .i64 0)/\DF x t w y ls (lF x.o fr (aM x) x.o) (dU ls (aM x)):=by
 obtain⟨K,G⟩:=s0.sn.top z;have hz : 0<2 ^ x.o:=ap (by decide);have l:=(s0.sn.live_iff (aM x) x.o (by omega)).2 ⟨hl,A⟩;have f:=s0.drop_iff hl;have p:=s0;obtain⟨B,s,E,hL⟩:=s0;obtain⟨k,_⟩:=sY s (aM x) (by omega);obtain⟨n,J,I,c1,c2,m,c3,c4,c5,C,F,v⟩:=s.give E ((hL (aM x) x.o).2 hl) A;subst C F;rw[Nat.sub_self,gN] at c1;have u:n=t:=(congrArg Prod.fst c1).symm;have d:(dR x.o (x.o-x.o) fr (aM x) x.o).2.1=aM x:=by rw[Nat.sub_self];rfl
 have c:(dR x.o (x.o-x.o) fr (aM x) x.o).2.2=x.o:=by rw[Nat.sub_self];rfl
 subst u;rw[d,c] at c2 v;refine(zlB x n z l (by rw[k];exact c2) w h).mono ?_;rintro e y ⟨rfl,r,D⟩;rw[k] at r;have a:Sd x (fF x n (aM x) x.o) (lF x.o fr (aM x) x.o) m:=by have:=c3;rw[d,c] at this;unfold lF;rw[d,c];exact this
 exact⟨rfl,_,r,D,⟨m,a,c4,fun q i=>by rw[c5,hL];exact f q i⟩,tI _ _ _ _,BK.of h r p ⟨m,a,c4,fun q i=>by rw[c5,hL];exact f q i⟩ (v.mono fun g hg=>⟨hg.1,fun j hb=>hg.2 j ((a.fi g j).1 hb).1 ((a.fi g j).1 hb).2⟩)⟩
theorem RD(x:Bx)(t:Bt)(fr:Nat->List Nat)(ls:List (Nat×Nat))(s0:Sf x t fr ls)(u:gL x t)(f:aM x∈fr x.o)(w:World)(h:BdAt w x t):
  Calls prog 156 #[.pointer (some ⟨x.b,0,none⟩)] w fun e r=>e=.returned (.int .i64 0)/\DF x t w r ls (cK fr x.o (M.dropL (fr x.o) (aM x))) (ls ++ [(aM x,x.o)]):=by
 obtain⟨D,C⟩:=s0.sn.top u;have hz : 0<2 ^ x.o:=ap (by decide);have j:=s0;obtain⟨B,s,n,hL⟩:=s0;have hb:=(s.fi _ _).2 ⟨aj _,f⟩;have d:=(s.free_iff n _ _ (aj _)).2 hb;obtain⟨c1,c2⟩:=s.leave (aj _) f (q:=aM x) (by omega) rfl;have y:fU (cL x t (aM x) x.o) (aM x:Int) (x.o:Int)=cL x t (aM x) x.o:=by unfold fU;rw[GI _ _ _ (by show ¬x.o<t.m.o;rw[s.mo];exact dc _)]
 rw[y] at c2;have c3:=c2.live (p:=aM x) (k:=x.o) (.inr ⟨rfl,rfl,rfl⟩);refine(zlD x t u d c1 w h).mono ?_;rintro e r ⟨rfl,l,v⟩;have c:Sf x (cQ (cL x t (aM x) x.o) (aM x) x.o 2) (cK fr x.o (M.dropL (fr x.o) (aM x))) (ls ++ [(aM x,x.o)]):=by
  refine⟨_,c3,?_,?_⟩
  ·rintro q i (⟨⟨a,_⟩|⟨_,a,z⟩,A⟩|⟨a,_⟩)
   ·exact n q i a
   ·exact A ⟨rfl,a,z⟩
   ·omega
  ·intro q i;show eX (eX B 0 (aM x) x.o 9) 9 (aM x) x.o 2 2 q i↔(q,i)∈ls ++ [(aM x,x.o)]
   rw[pX,<-hL q i];constructor
   ·rintro (⟨⟨a,_⟩|⟨a,_⟩,_⟩|⟨_,a⟩)
    ·exact .inl a
    ·omega
    ·exact .inr a
   ·rintro (a|a)
    ·exact .inl ⟨.inl ⟨a,fun e=>by omega⟩,fun e=>by omega⟩
    ·exact .inr ⟨rfl,a⟩
 exact⟨rfl,_,l,v,c,uV _ _ _ _,BK.of h l j c (((s.leaveK (aj _) f).to (t'':=uQ x t) rfl).mono fun g hg=>hg.1 x.o (aj _))⟩
theorem pM{w W W' lw x t fr ls fr' ls'}(h:PO w W lw x t fr ls)(d:DF x t W W' ls fr' ls'):∃ a,PO w W' lw x a fr' ls'/\a.m.n=t.m.n/\Kt (aC x) W W'/\BK t a ls ls':=by obtain⟨a,hb,c,hs,e,b⟩:=d;exact⟨a,⟨h.pl.call hb c,hs,by rw[e];exact h.st,h.bm⟩,e,c,b⟩
theorem Lv.more{ls l:List (Nat×Nat)}{g:Nat}(h:Lv ls g):Lv (ls ++ l) g:=by obtain⟨q,k,a,b⟩:=h;exact⟨q,k,List.mem_append_left _ a,b⟩
theorem XG{i n:Nat}(h:i/4096*4096+4096<=n):i<n:=by have:=Nat.div_add_mod i 4096;have a:=Nat.mod_lt i (show 0<4096 by decide);omega
theorem XF(f:Nat->Nat)(n i:Nat)(h:i<n):M.more f n i=f i:=by unfold M.more;rw[ae h]
def MT(w W:World)(lw:Nat)(x:Bx)(t:Bt)(fr:Nat->List Nat)(ls:List (Nat×Nat))(w':World):Prop:=∃ x' t',PO w w' lw x' t' (cK fr x.o (t.m.n :: fr x.o)) ls/\Sm x x'/\x'.n=x.n+x.R/\t'.m.n=t.m.n+2 ^ x.o/\Kt (aC x) W w'/\Nb W x x'/\BK t t' ls ls
theorem XB{w W lw x t fr ls}(h:PO w W lw x t fr ls)(hl:x.n+x.R<=x.lim*x.R):
  Calls prog 162 #[.pointer (some ⟨lw,0,none⟩),.bool false] W fun e C=>e=.returned (.int .i64 0)/\MT w W lw x t fr ls C:=by
 obtain⟨n1,n2,n3,n4,⟨r,n5,n6,Q⟩,n8,n9⟩:=h.nums;have q:=h.pl.bd.sp.cfg;have hR:=h.pl.bd.hR;have U:=q.r1;have L:=q.be;have S:=q.lr;have G:=h.st;have F:=h.pl.bd.mo;have E:r+1<=x.lim:=by rw[Q,<-Nat.succ_mul] at hl;exact Nat.le_of_mul_le_mul_right hl (by omega)
 have z:x.R=2 ^ x.o*4096:=by rw[hR,aq]
 have hg:t.m.n+2 ^ x.o<=1024:=by
  have:(t.m.n+2 ^ x.o)*4096<=1024*4096:=by rw[av,G,<-z];omega
  exact Nat.le_of_mul_le_mul_right this (by decide)
 have CM:=aA (M.Commit_ok x.s x.a x.bS x.R x.lim x.n t.f W h.pl.bd.sp ⟨r,Q,E⟩);have GW:=aA (show ∀ A,MpA A x.m x.B t.m->Calls prog 221 #[.pointer (some ⟨x.m,0,none⟩)] A fun e C=>e=.returned (.tuple #[])/\∃ l,MpA C x.m l (dE t.m)/\Kt (aO x.m x.B t.m.o) A C/\dN A x.m x.B l t.m.o from fun A hW=>ZP x.m x.B t.m A hW);have T:=aA (show(dE t.m).n=t.m.n+2 ^ x.o from VR F hg);have d:=aA h;have HG:=aA hg;have p:=aA z;have Y:=aA (show x.bS+(x.n+x.R)<=9223372036854775808 from by omega);obtain⟨c0,c1,c2⟩:=h.pl.c;clear h n1 n2 n3 n4 n5 n6 Q n8 n9 q hR U L S G F E z hg hl;go_enter func162,ntmps162;go_wp2_with fail;refine CM.o.mono ?_;rintro e w1 ⟨rfl,u,hS,g,v⟩;have P:=aA (d.o.pl.space (dF g) hS v);have K1:=aA (dF g);have NG:=aA v;clear hS g v CM c0 c1 c2;obtain⟨c0,c1,c2⟩:=P.o.c;go_wp2_with fail;refine(GW.o _ P.o.bd.mp).mono ?_;rintro e I ⟨rfl,l,hM,g,K⟩;have Z:=aA (P.o.grow g hM (VS _) K);have K2:=aA g;have NF:=aA K;clear hM g K GW c0 c1 c2;have FD:=aA (show Calls prog 222 #[.pointer (some ⟨x.b,0,none⟩)] I fun e C=>e=.returned (.int .i64 0)/\DF { x with a:=some u,n:=x.n + x.R,B:=l } ⟨M.more t.f x.n,dE t.m,t.hd⟩ I C (ls ++ [(t.m.n,x.o)]) (cK fr x.o (t.m.n :: fr x.o)) ls from by
  have s2:=d.o.sf.grow d.o.pl.bd { x with a:=some u,n:=x.n+x.R,B:=l } rfl rfl rfl rfl Y.o HG.o;have e1:(dE t.m).n*4096=x.n+x.R:=by rw[T.o,av,d.o.st,<-p.o]
  have hz : 0<2 ^ x.o:=ap (by decide);have j:aM { x with a:=some u,n:=x.n+x.R,B:=l }=t.m.n:=by
   unfold aM;show(x.n+x.R)/4096-2 ^ x.o=t.m.n
   rw[<-d.o.st,p.o,<-av,dg _ (by decide)];omega
  have N:gL { x with a:=some u,n:=x.n+x.R,B:=l } ⟨M.more t.f x.n,dE t.m,t.hd⟩:=⟨by have:=p.o;show x.n+x.R≠0;omega,e1⟩;have:=RF { x with a:=some u,n:=x.n+x.R,B:=l } ⟨M.more t.f x.n,dE t.m,t.hd⟩ fr _ s2 N (by rw[j];exact List.mem_append_right _ (List.mem_singleton.2 rfl)) (by rw[j];exact d.o.sf.pout (aj _)) I Z.o.bd;rw[j,zjp,zjq d.o.sf] at this;exact this)
 obtain⟨c0,c1,c2⟩:=Z.o.c;go_wp2_with fail;refine FD.o.mono ?_;rintro e w3 ⟨rfl,hd⟩;have D:=aA (show MT w W lw x t fr ls w3 from by
  obtain⟨t',hb,g,hs,hn,J⟩:=hd;have V:=K1.o.size;have nb:Nb W x { x with a:=some u,n:=x.n+x.R,B:=l }:=by
   rintro y (hy|hy|⟨k,g,rfl⟩)
   ·rcases hy with rfl|hy
    ·exact .inl (.inl (.inl rfl))
    ·have hy:some u=some y:=hy
     cases hy
     rcases NG.o with e|e
     ·exact .inl (.inl (.inr e))
     ·exact .inr e
   ·have hy:aO x.m l x.o y:=hy;rw[<-d.o.pl.bd.mo] at hy;rcases NF.o y hy with e|e
    ·exact .inl (.inr (.inl (d.o.pl.bd.mo▸e)))
    ·exact .inr (an V e)
   ·exact .inl (.inr (.inr ⟨k,g,rfl⟩))
  have X:Kt (aC x) W I:=K1.o.trans K2.o (fun _ _ e=>.inl e) (fun _ _ e=>.inr (.inl (d.o.pl.bd.mo▸e)));refine⟨{ x with a:=some u,n:=x.n+x.R,B:=l },t',⟨Z.o.call hb g,hs,?_,d.o.bm⟩,⟨rfl,rfl,rfl,rfl,rfl,rfl,rfl,rfl,rfl⟩,rfl,hn.trans T.o,X.trans g (fun _ _ e=>e) (fun y hy e=>?_),nb,fun i h1 h2=>?_⟩
  ·rw[hn];show(dE t.m).n*4096=x.n+x.R
   rw[T.o,av,d.o.st,<-p.o]
  ·rcases nb y e with e|e
   ·exact e
   ·omega
  ·refine(J i (Lv.more h1) h2).trans ?_;have h3:=d.o.sf.lv_in h1;exact XF t.f x.n i (XG h3))
 clear hd FD c0 c1 c2;go_wp2_with fail;go_ret;exact⟨rfl,D.o⟩
inductive NdP(w W:World)(lw:Nat)(x:Bx)(t:Bt)(fr:Nat->List Nat)(ls:List (Nat×Nat))(k:Int)(d:Bool)(e:Ending)(w':World):Prop where
 | bad (hk:aD (x.o+1) k=false) (he:e=.returned (.tuple #[.int .u64 0,.bool false,.int .i64 1])) (kp:Kt nO W w')
 | here (i j p:Nat) (l:List Nat) (hk:k=(i:Int)) (hi:i<=x.o) (hij:i<=j) (hj:j<=x.o) (hz:∀ a,i<=a->a<j->fr a=[]) (hp:fr j=p :: l) (he:e=.returned (.tuple #[.int .u64 ((ad x p:Nat):Int),.bool false,.int .i64 0])) (hs:∃ t',PO w w' lw x t' (dL (cK fr j (M.dropL (fr j) p)) p j i) (ls ++ [(p,i)])/\t'.m.n=t.m.n/\BK t t' ls (ls ++ [(p,i)])) (kp:Kt (aC x) W w')
 | stuck (i:Nat) (hk:k=(i:Int)) (hi:i<=x.o) (hz:∀ a,i<=a->a<=x.o->fr a=[]) (hd:d=true\/x.n=x.lim*x.R) (he:e=.returned (.tuple #[.int .u64 0,.bool false,.int .i64 2])) (kp:Kt nO W w')
 | grew (i:Nat) (hk:k=(i:Int)) (hi:i<=x.o) (hz:∀ a,i<=a->a<=x.o->fr a=[]) (hd:d=false) (hl:x.n + x.R<=x.lim*x.R) (he:e=.returned (.tuple #[.int .u64 ((ad x t.m.n:Nat):Int),.bool true,.int .i64 0])) (hs:∃ x' t',PO w w' lw x' t' (dL fr t.m.n x.o i) (ls ++ [(t.m.n,i)])/\Sm x x'/\x'.n=x.n + x.R/\t'.m.n=t.m.n + 2 ^ x.o/\Nb W x x'/\BK t t' ls (ls ++ [(t.m.n,i)])) (kp:Kt (aC x) W w')
theorem Need_any{w W lw x t fr ls}(h:PO w W lw x t fr ls)(k:Int)(d:Bool):
  Calls prog 109 #[.pointer (some ⟨lw,0,none⟩),.int .i64 k,.bool d] W fun e w'=>NdP w W lw x t fr ls k d e w':=by
 obtain⟨c0,c1,c2⟩:=h.pl.c;have Y:=aA h
 cases hr:aD (x.o+1) k with
 | false=>
  have K:=aA (zjc x t k hr W h.pl.bd);have HR:=aA hr;clear h hr;go_enter func109,ntmps109;go_wp2_with fail;refine K.o.mono ?_;rintro e w1 ⟨rfl,C⟩;subst C;go_wp2_with fail;exact⟨rfl,.tuple #[.int .u64 0,.bool false,.int .i64 1],by simp[results,results109,go_sem],.bad HR.o rfl (Kt.refl nO _)⟩
 | true=>
  obtain⟨i,rfl,a5⟩:=gR hr;have hi:i<=x.o:=by omega
  have K:=aA (BG x t fr ls h.sf i hi W h.pl.bd);clear h hr a5;go_enter func109,ntmps109;go_wp2_with fail;refine K.o.mono ?_;rintro e w1 (⟨rfl,C,hz⟩|⟨j,p,l,f,N,hz,hp,rfl,hd⟩)
  ·subst C;have Z:=aA hz;clear hz K;by_cases hd:d=true\/x.n=x.lim*x.R
   ·as_aux_lemma=>
    have X:=aA (US Y.o.pl d hd);have HD:=aA hd;clear hd;go_wp2_with fail;refine X.o.mono ?_;rintro e w2 ⟨rfl,hk⟩;have K2:=aA hk;clear hk;go_wp2_with fail;exact⟨rfl,.tuple #[.int .u64 0,.bool false,.int .i64 2],by simp[results,results109,go_sem],.stuck i rfl hi Z.o HD.o rfl K2.o⟩
   ·as_aux_lemma=>
    obtain rfl:d=false:=by
     cases d with
     | true=>exact absurd (.inl rfl) hd
     | false=>rfl
    have hl:x.n+x.R<=x.lim*x.R:=by
     obtain⟨_,_,_,_,⟨r,_,n6,n7⟩,_,_⟩:=Y.o.nums;have C:r≠x.lim:=fun e=>hd (.inr (by rw[n7,e]))
     have h2:(r+1)*x.R<=x.lim*x.R:=ak _ (by omega);rw[av,aL,<-n7] at h2;exact h2
    have HL:=aA hl;have X:=aA (XB Y.o hl);clear hd hl;go_wp2_with fail;refine X.o.mono ?_;rintro e w2 ⟨rfl,x2,t2,g,u,T,U,Q,I,v⟩;have a1:=aA v;have P2:=aA g;have S2:=aA u;have F:=aA (And.intro T (And.intro U (And.intro Q I)));have a4:=Z.o x.o hi (aj _);have B:=aA (BG x2 t2 _ ls g.sf i (by rw[u.o];exact hi) w2 g.pl.bd);obtain⟨c0,c1,c2⟩:=g.pl.c;rw[u.b] at c2 B;clear g u T U Q I v X;go_wp2_with fail;refine B.o.mono ?_;rintro e w3 (⟨_,_,A⟩|⟨j,p,l,f,N,A,hp,rfl,hd⟩)
    ·exfalso
     have:=A x.o hi (by rw[S2.o.o];exact aj _);simp[cK] at this
    ·have a0:j=x.o:=by
      rcases Nat.lt_or_ge j x.o with e|e
      ·have C:=Z.o j f (Nat.le_of_lt e);unfold cK at hp;rw[ac (by omega),C] at hp
       cases hp
      ·rw[S2.o.o] at N;omega
     subst a0;have a3:p=t.m.n:=by
      unfold cK at hp;rw[ae rfl] at hp;injection hp with e _
      exact e.symm
     subst a3;have D:=aA (show ∃ x' t',PO w w3 lw x' t' (dL fr t.m.n x.o i) (ls ++ [(t.m.n,i)])/\Sm x x'/\x'.n=x.n + x.R/\t'.m.n=t.m.n + 2 ^ x.o/\Nb w1 x x'/\BK t t' ls (ls ++ [(t.m.n,i)])from by
      obtain⟨t3,s,S,G,P⟩:=pM P2.o hd;refine⟨x2,t3,⟨s.pl,s.sf.congr (fun a ha=>?_),s.st,s.bm⟩,S2.o,F.o.1,S.trans F.o.2.1,F.o.2.2.2,a1.o.trans P (fun _ h _=>h)⟩;unfold dL;by_cases ea:i<=a/\a<x.o
      ·rw[ae ea,ae ea];unfold cK;rw[ac (by omega),ac (by omega)]
      ·rw[ac ea,ac ea];unfold cK;by_cases V:a=x.o
       ·rw[ae V,ae rfl,V,a4];simp[M.dropL]
       ·rw[ac V,ac V])
     have KF:=aA (show Kt (aC x) w1 w3 from by
      obtain⟨t3,s,S,G,_⟩:=pM P2.o hd;refine F.o.2.2.1.trans G (fun _ _ e=>e) (fun y hy e=>?_);rcases F.o.2.2.2 y e with e|e
      ·exact e
      ·omega)
     have a2:ad x2 t.m.n=ad x t.m.n:=(by unfold ad;rw[S2.o.bS]);rw[a2];clear hd A f N hp B c0 c1 c2;go_wp2_with fail;exact⟨rfl,.tuple #[.int .u64 ((ad x t.m.n:Nat):Int),.bool true,.int .i64 0],by simp[results,results109,go_sem],.grew i rfl hi Z.o rfl HL.o rfl D.o KF.o⟩
  ·as_aux_lemma=>
   obtain⟨t1,J,E,L,z⟩:=pM Y.o hd;have D:=aA (show NdP w W lw x t fr ls (i:Int) d (.returned (.tuple #[.int .u64 ((ad x p:Nat):Int),.bool false,.int .i64 0])) w1 from .here i j p l rfl hi f N hz hp rfl ⟨t1,J,E,z⟩ L);clear hd J E L z hz hp f N K;generalize ad x p=q at *;go_wp2_with fail;exact⟨rfl,.tuple #[.int .u64 q,.bool false,.int .i64 0],by simp[results,results109,go_sem],D.o⟩
def MN(w W:World)(lw:Nat)(x:Bx)(t:Bt)(fr:Nat->List Nat)(ls:List (Nat×Nat))(w':World):Prop:=∃ x' t',PO w w' lw x' t' (cK fr x.o (M.dropL (fr x.o) (t.m.n-2 ^ x.o))) ls/\Sm x x'/\x'.n=x.n-x.R/\t'.m.n=t.m.n-2 ^ x.o/\Kt (aC x) W w'/\Nb W x x'/\BK t t' ls ls
theorem zik{w W lw x t fr ls}(h:PO w W lw x t fr ls)(h0:t.m.n≠0)(U:t.m.n-2 ^ x.o∈fr x.o):
  Calls prog 105 #[.pointer (some ⟨lw,0,none⟩)] W fun e A=>e=.returned (.bool true)/\MN w W lw x t fr ls A:=by
 obtain⟨d,ht,E⟩ : 2 ^ x.o<=t.m.n/\gL x t/\aM x=t.m.n-2 ^ x.o:=by
  rcases h.top with ⟨G,_⟩|G
  ·exact absurd G h0
  ·exact G
 have q:=aA (RD x t fr ls h.sf ht (by rw[E];exact U) W h.pl.bd);rw[E] at q;have hR:=h.pl.bd.hR;have a2:=h.pl.bd.sp.cfg.r1;have L:=h.st;have a1:=h.pl.bd.mo;have N:=aA h;have u:x.R=2 ^ x.o*4096:=by rw[hR,aq]
 have a0:=aA u;have K:x.R<=x.n:=by rw[u,<-L];exact ak _ d
 have X:=aA K;have T:=aA d;have HM:=aA U;obtain⟨c0,c1,c2⟩:=h.pl.c;clear h hR L K u U h0 ht E;go_enter func105,ntmps105;go_wp2_with fail;refine q.o.mono ?_;rintro e P ⟨rfl,hd⟩;obtain⟨b,F,v,J,p⟩:=pM N.o hd;have Y:=aA p;have g:=aA F;have K1:=aA J;have z:=aA v;clear hd F J p c0 c1 c2 q;obtain⟨c0,c1,c2⟩:=g.o.pl.c;have SH:=aA (show Calls prog 157 #[.pointer (some ⟨x.m,0,none⟩),.int .i64 1] P fun e A=>e=.returned (.int .i64 0)/\∃ r,MpA A x.m r (dC b.m (b.m.n-2 ^ x.o))/\Kt (aO x.m x.B b.m.o) P A/\dN P x.m x.B r b.m.o from by have C:=g.o.pl.bd.mo;have:=zkh x.m x.B b.m 1 P g.o.pl.bd.mp (by rw[C,v];exact Nat.div_pos d (ap (by decide)));rw[aL,C] at this;rw[C];exact this)
 clear v d;go_wp2_with fail;refine SH.o.mono ?_;rintro e Q ⟨rfl,r,hM,j,V⟩;have Z:=aA (g.o.pl.grow j hM rfl V);have K2:=aA j;have NF:=aA V;clear hM j V SH c0 c1 c2;obtain⟨c0,c1,c2⟩:=Z.o.c;have DC:=aA (show Calls prog 158 #[.pointer (some ⟨x.s,0,none⟩),.int .i64 1] Q fun e A=>e=.returned (.int .i64 0)/\M.SpA A x.s x.a x.bS x.R x.lim (x.n-1*x.R) b.f/\M.Kt (M.own x.s x.a) Q A from M.Decommit_ok x.s x.a x.bS x.R x.lim x.n b.f 1 Q Z.o.bd.sp (Nat.div_pos X.o (by omega)));go_wp2_with fail;refine DC.o.mono ?_;rintro e w3 ⟨rfl,hS,j⟩;have D:=aA (show MN w W lw x t fr ls w3 from by
  have k3:Kt (M.own x.s x.a) Q w3:=dF j;have P3:=Z.o.space0 k3 hS;have S:=K1.o.size;have e1:x.n-1*x.R=x.n-x.R:=by rw[aL]
  have l:(b.m.n-2 ^ x.o)*4096=x.n-x.R:=by rw[z.o,Nat.mul_sub_right_distrib,N.o.st,<-a0.o]
  have I:=g.o.sf.dropT g.o.pl.bd (b.m.n-2 ^ x.o) (by have:=T.o;have:=z.o;omega) (by rw[z.o];exact List.mem_append_right _ (List.mem_singleton.2 rfl)) (by rw[z.o];exact N.o.sf.pfree (aj _) HM.o) { x with n:=x.n-1*x.R,B:=r } rfl rfl rfl (by rw[l];show x.n-x.R<=x.n-1*x.R;omega) (by show x.n-1*x.R<=x.n;omega);rw[z.o,zi0 N.o.sf HM.o] at I;have nb:Nb W x { x with n:=x.n-1*x.R,B:=r }:=by
   rintro y (hy|hy|⟨k,j,rfl⟩)
   ·exact .inl (.inl hy)
   ·have hy:aO x.m r x.o y:=hy;rw[<-g.o.pl.bd.mo] at hy;rcases NF.o y hy with e|e
    ·exact .inl (.inr (.inl (g.o.pl.bd.mo▸e)))
    ·exact .inr (an S e)
   ·exact .inl (.inr (.inr ⟨k,j,rfl⟩))
  refine⟨{ x with n:=x.n-1*x.R,B:=r },⟨b.f,dC b.m (b.m.n-2 ^ x.o),b.hd⟩,⟨P3,?_,?_,N.o.bm⟩,⟨rfl,rfl,rfl,rfl,rfl,rfl,rfl,rfl,rfl⟩,e1,?_,?_,nb,fun i G h2=>Y.o i G (Lv.more h2)⟩
  ·rw[z.o];exact I
  ·show(b.m.n-2 ^ x.o)*4096=x.n-1*x.R
   rw[l,e1]
  ·show b.m.n-2 ^ x.o=t.m.n-2 ^ x.o
   rw[z.o]
  ·exact(K1.o.trans K2.o (fun _ _ e=>e) (fun _ _ e=>.inr (.inl (g.o.pl.bd.mo▸e)))).trans k3 (fun _ _ e=>e) (fun _ _ e=>.inl e))
 clear hS j DC c0 c1 c2;go_wp2_with fail;go_ret;exact⟨rfl,D.o⟩
def zG(w W:World)(lw:Nat)(x:Bx)(t:Bt)(fr:Nat->List Nat)(ls:List (Nat×Nat))(r c:Nat)(w':World):Prop:=∃ x' t' fr',PO w w' lw x' t' fr' ls/\Sm x x'/\t'.m.n=(r-c)*2 ^ x.o/\c<=r/\fY x.o r fr=(c+(fY x.o (r-c) fr').1,(fY x.o (r-c) fr').2)/\Kt (aC x) W w'/\Nb W x x'/\BK t t' ls ls
theorem Trim_any{w W lw x t fr ls}(h:PO w W lw x t fr ls)(r:Nat)(V:t.m.n=r*2 ^ x.o):
  Calls prog 59 #[.pointer (some ⟨lw,0,none⟩)] W fun e w'=>e=.returned (.int .i64 ((fY x.o r fr).1:Int))/\∃ x' j,PO w w' lw x' j (fY x.o r fr).2 ls/\Sm x x'/\j.m.n=(r-(fY x.o r fr).1)*2 ^ x.o/\Kt (aC x) W w'/\Nb W x x'/\BK t j ls ls:=by
 have Y:r<=1024:=by have h1:=h.nums.2.1;have hz : 0<2 ^ x.o:=ap (by decide);have:r*1<=r*2 ^ x.o:=Nat.mul_le_mul_left _ hz;omega
 have X:=aA (show zG w W lw x t fr ls r 0 W from⟨x,t,fr,h,Sm.refl x,V,az _,by rw[Nat.sub_zero,Nat.zero_add],Kt.refl _ W,fun y e=>.inl e,BK.refl _ _ _⟩);clear h V;go_enter func59,ntmps59;go_wp2_with fail;go_loopw [3] (fun i W'=>∃ c:Nat,c<=r/\i=.int .i64 c/\Hd (zG w W lw x t fr ls r c W')) (fun i _=>r-(intOf i).toNat)
 case atStart=>exact⟨0,az _,rfl,X⟩
 case round=>
  clear X;obtain⟨c,hc,rfl,Q⟩:=hrel;obtain⟨q,l,f,T,hS,hn,_,b,hK,U,v⟩:=Q.o;have B:=aA v;have K:=aA T;have k:=aA hS;have A:=aA hn;have Z:=aA b;have N:=aA hK;have L:=aA U;clear Q T hS hn b hK U v;have hz : 0<2 ^ x.o:=ap (by decide);by_cases a:l.m.n≠0/\l.m.n-2 ^ q.o∈f q.o
  ·have R:=aA (zik K.o a.1 a.2);have P:c<r:=by
    rcases Nat.lt_or_ge c r with e|e
    ·exact e
    ·exfalso
     apply a.1
     rw[A.o,show r-c=0 by omega,Nat.zero_mul]
   have J:=aA a.2;clear a;go_wp2_with fail;refine R.o.mono ?_;rintro e G ⟨rfl,x2,t2,E,z,_,p,C,u,g⟩;have D:=aA (show zG w W lw x t fr ls r (c+1) G from by
    obtain⟨d,hd⟩:∃ d,r-c=d+1:=⟨r-c-1,by omega⟩;have s:l.m.n-2 ^ q.o=d*2 ^ x.o:=by rw[A.o,hd,k.o.o,av,aL,Nat.add_sub_cancel]
    refine⟨x2,t2,_,E,k.o.trans z,?_,P,?_,N.o.trans C (fun _ _ e=>e) (fun y hy e=>?_),fun y hy=>?_,B.o.trans g (fun _ h _=>h)⟩
    ·rw[p,s,show r-(c+1)=d by omega]
    ·have b:=Z.o;have F:=J.o;rw[s,k.o.o] at F;rw[hd] at b;rw[YN F] at b;rw[b,show r-(c+1)=d by omega,s,k.o.o];simp only[Prod.mk.injEq,and_true];omega
    ·rcases L.o y e with e|e
     ·exact e
     ·omega
    ·rcases u y hy with e|e
     ·exact L.o y e
     ·exact .inr (an N.o.size e))
   clear E z p C u g R;go_wp2_with fail;exact⟨⟨c+1,by omega,by simp,D⟩,by simp[intOf];omega⟩
  ·have S:=aA (zi1 K.o (by
    by_cases e:l.m.n=0
    ·exact .inl e
    ·exact .inr fun e2=>a ⟨e,e2⟩))
   have b:fY x.o r fr=(c,f):=by
    rw[Z.o]
    cases hd:r-c with
    | zero=>rfl
    | succ d=>
     have s:l.m.n-2 ^ q.o=d*2 ^ x.o:=by rw[A.o,hd,k.o.o,av,aL,Nat.add_sub_cancel]
     have h0:l.m.n≠0:=by rw[A.o,hd,av,aL];omega
     have F:¬d*2 ^ x.o∈f x.o:=fun e=>a ⟨h0,by rw[s,k.o.o];exact e⟩
     rw[QQ F];rfl
   have HT:=aA b;clear a b;go_wp2_with fail;refine S.o.mono ?_;rintro e G ⟨rfl,I⟩;have D:=aA (show ∃ x' j,PO w G lw x' j f ls/\Sm x x'/\j.m.n=(r-c)*2 ^ x.o/\Kt (aC x) W G/\Nb W x x'/\BK t j ls ls from⟨q,l,K.o.keep I,k.o,A.o,N.o.trans I (fun _ _ e=>e) (fun _ _ e=>e.elim),L.o,B.o⟩);clear I S;go_wp2_with fail;go_ret;rw[HT.o];exact⟨rfl,D.o⟩
theorem Give6_yes{w W lw x t fr ls}(h:PO w W lw x t fr ls)(p k:Nat)(g:(p,k)∈ls)(j:x.P p=none)(a:Nat)(b:a=ad x p):
  Calls prog 113 #[.pointer (some ⟨lw,0,none⟩),.int .u64 a,.int .i64 k] W fun e i=>e=.returned (.int .i64 0)/\∃ d,PO w i lw x d (lF x.o fr p k) (dU ls p)/\d.m.n=t.m.n/\Kt (aC x) W i/\BK t d ls (dU ls p):=by
 have f:=aA (RI x t fr ls h.sf p k g j W h.pl.bd);rw[<-b] at f;have l:=aA h;obtain⟨c0,c1,c2⟩:=h.pl.c;clear h g j b;go_enter func113,ntmps113;go_wp2_with fail;refine f.o.mono ?_;rintro e q ⟨rfl,hd⟩;have D:=aA (pM l.o hd);clear hd f;go_wp2_with fail;go_ret;exact⟨rfl,D.o⟩
end Go.Proofs.YtfmgnljlkdmndaaGreatDoor.K
namespace Go.Proofs.YtfmgnljlkdmndaaGreatDoor
open Tryz
open Go.RowKit
set_option linter.unusedVariables false
def pty(e:TypeId):Prop:=e=131\/e=5\/e=140\/e=97\/e=141\/e=181\/e=22\/e=179\/e=134\/e=135\/e=84
theorem Pol.pty{w W lw x t}(h:Pol w W lw x t){y:Nat}{cs:Array Value}{e:TypeId}{z:Nat×Nat}(hy:W.heap[y]?=some (.cells cs e z))(hb:aC x y\/y=x.b\/y=x.l\/y=lw):pty e:=by
 rcases hb with (hx|hx|⟨k,j,m⟩)|rfl|rfl|rfl
 ·obtain⟨a,i,g,f,c⟩:=mO h.bd.sp hx;have d:=kN hy f;subst d;rcases c with rfl|rfl
  ·exact .inl rfl
  ·exact .inr (.inl rfl)
 ·rw[<-h.bd.mo] at hx;obtain⟨a,i,g,f,c⟩:=nJ h.bd.mp hx;have d:=kN hy f;subst d;rcases c with rfl|rfl|rfl|rfl|rfl
  ·exact .inr (.inr (.inl rfl))
  ·exact .inr (.inr (.inr (.inl rfl)))
  ·exact .inr (.inr (.inr (.inr (.inl rfl))))
  ·exact .inr (.inr (.inr (.inr (.inr (.inl rfl)))))
  ·exact .inr (.inr (.inr (.inr (.inr (.inr (.inl rfl))))))
 ·rw[m] at hy;exact .inr (.inr (.inr (.inr (.inr (.inr (.inr (.inl (kN hy (h.bd.ls k j).hc))))))))
 ·exact .inr (.inr (.inr (.inr (.inr (.inr (.inr (.inr (.inl (kN hy h.bd.bs)))))))))
 ·obtain⟨a,hl,_⟩:=h.bd.lr;exact .inr (.inr (.inr (.inr (.inr (.inr (.inr (.inr (.inr (.inl (kN hy hl))))))))))
 ·exact .inr (.inr (.inr (.inr (.inr (.inr (.inr (.inr (.inr (.inr (kN hy h.box))))))))))
def iT(w:World):Prop:=∀ k,k<8->w.cell? ⟨0,k,none⟩=some (.int .u64 ((16*2 ^ k:Nat):Int))
abbrev rG(lw bS:Nat)(h:Nat->Int):Obj:=.cells #[.pointer (some ⟨lw,0,none⟩),.int .u64 bS,.int .i64 (h 0),.int .i64 (h 1),.int .i64 (h 2),.int .i64 (h 3),.int .i64 (h 4),.int .i64 (h 5),.int .i64 (h 6),.int .i64 (h 7)] 117
structure SW(w W:World)(sb lw:Nat)(x:Bx)(t:Bt)(h:Nat->Int):Prop where
 pl:Pol w W lw x t
 bx:W.heap[sb]?=some (rG lw x.bS h)
 nw:w.heap.size<=sb
 tb:iT w
theorem SW.nsb{w W sb lw x t h}(s:SW w W sb lw x t h):¬(aC x sb\/sb=x.b\/sb=x.l\/sb=lw):=fun e=>absurd (s.pl.pty s.bx e) (by unfold Go.Proofs.YtfmgnljlkdmndaaGreatDoor.pty;decide)
theorem SW.call{w W W' sb lw x t t' h}(s:SW w W sb lw x t h)(hb:BdAt W' x t')(k:Kt (aC x) W W'):SW w W' sb lw x t' h:=
 ⟨s.pl.call hb k,(k.block _ (lH s.bx) (fun e=>s.nsb (.inl e))).trans s.bx,s.nw,s.tb⟩
theorem SW.keep{w W W' sb lw x t h}(s:SW w W sb lw x t h)(k:Kt nO W W'):SW w W' sb lw x t h:=s.call (s.pl.bd.keep k) (jE k)
theorem SW.map{w W W' sb lw x t h}{a:Mp}(s:SW w W sb lw x t h)(c:MpA W' x.m x.B a)(k:Kt (aO x.m x.B t.m.o) W W')(d:a.o=t.m.o):SW w W' sb lw x { t with m:=a } h/\Kt (aC x) W W':=by have b:Kt (aC x) W W':=k.mono (fun y _ e=>.inr (.inl (s.pl.bd.mo▸e)));exact⟨s.call (s.pl.bd.map k c d) b,b⟩
theorem SW.tab{w W sb lw x t h}(s:SW w W sb lw x t h):iT W:=fun k a=>s.pl.kp.cell id (s.tb k a)
theorem SW.c0{w W sb lw x t h}(s:SW w W sb lw x t h):W.cell? ⟨sb,0,none⟩=some (.pointer (some ⟨lw,0,none⟩))/\W.cell? ⟨sb,1,none⟩=some (.int .u64 x.bS):=by constructor <;> simp[World.cell?,s.bx]
theorem uJ{P:Nat->Prop}(h0:P 0)(b:P 1)(f:P 2)(d:P 3)(e:P 4)(c:P 5)(a:P 6)(g:P 7):∀ k,k<8->P k
 | 0,_=>h0
 | 1,_=>b
 | 2,_=>f
 | 3,_=>d
 | 4,_=>e
 | 5,_=>c
 | 6,_=>a
 | 7,_=>g
 | _+8,h=>absurd h (by omega)
theorem SW.hd{w W sb lw x t h}(s:SW w W sb lw x t h)(k:Nat)(a:k<8):W.cell? ⟨sb,2+k,none⟩=some (.int .i64 (h k)):=by
 revert k
 apply uJ <;> simp[World.cell?,s.bx]
def cP(h:Nat->Int)(k:Nat)(v:Int):Nat->Int:=fun j=>if j=k then v else h j
theorem SW.set{w W sb lw x t h}(s:SW w W sb lw x t h)(k:Nat)(b:k<8)(v:Int):SW w (W.setCell ⟨sb,2+k,none⟩ (.int .i64 v)) sb lw x t (cP h k v):=by
 have kp:Kt (fun y=>y=sb) W (W.setCell ⟨sb,2+k,none⟩ (.int .i64 v)):=(Kt.refl (fun y=>y=sb) W).setCell (p:=⟨sb,2+k,none⟩) rfl _;have a:=s.nsb;refine⟨⟨(kp.block _ (lH s.pl.box) (fun e=>a (.inr (.inr (.inr e.symm))))).trans s.pl.box,s.pl.bd.kept kp (fun y hy e=>a ?_),s.pl.nw,s.pl.kp.setNew (p:=⟨sb,2+k,none⟩) (fun e=>absurd s.nw (Nat.not_le.2 e)) _⟩,?_,s.nw,s.tb⟩
 ·subst e;rcases hy with hy|hy|hy
  ·exact .inl hy
  ·exact .inr (.inl hy)
  ·exact .inr (.inr (.inl hy))
 ·rw[cF s.bx];revert k
  apply uJ <;> intros <;> simp[cP]
theorem SW.fz{w W sb lw x t h}(s:SW w W sb lw x t h)(j:Nat):W.frozen? ⟨sb,j,none⟩=false:=by simp[World.frozen?,s.bx]
theorem tQ(p bS:Nat)(hp:p<18446744073709551616)(hb:bS<18446744073709551616):IntKind.u64.wrap ((p:Int)-(bS:Int))=(((p+18446744073709551616-bS)%18446744073709551616:Nat):Int):=by rw[wrap_u64];omega
def aJ(x:Bx)(p:Nat):Nat:=(p+18446744073709551616-x.bS)%18446744073709551616
theorem vE{w W sb lw x t h}(s:SW w W sb lw x t h)(p:Nat)(hp:p<18446744073709551616):
  Calls prog 211 #[.pointer (some ⟨sb,0,none⟩),.int .u64 p] W fun e c=>e=.returned (.int .i64 ((aJ x p/4096:Nat):Int))/\c=W:=by
 obtain⟨c0,c1⟩:=s.c0;have hb:x.bS<18446744073709551616:=by have:=s.pl.bd.sp.cfg.be;omega
 have hw:=tQ p x.bS hp hb;obtain⟨d,hd⟩:=xe ((p+18446744073709551616-x.bS)%18446744073709551616);rw[<-hd] at hw;rw[show aJ x p=d from hd.symm];have f:d<18446744073709551616:=by rw[hd];exact Nat.mod_lt _ (by decide)
 obtain⟨q,hq⟩:=xe (d/4096);have b:(d:Int)/4096=(q:Int):=by omega
 have a:q<4503599627370496:=by omega
 rw[<-hq];clear hd s hb hp hq;go_enter func211,ntmps211;go_wp2_with fail;go_ret;exact⟨by simp,rfl⟩
def SD(w W:World)(sb lw:Nat)(x:Bx)(t:Bt)(h:Nat->Int)(m':Mp)(w':World):Prop:=SW w w' sb lw x { t with m:=m' } h/\Kt (aC x) W w'
theorem zkC(m:Mp)(i a b:Int):(eB m i a b).o=m.o:=by unfold eB;split <;> rfl
theorem IP(m:Mp)(i a b:Int):(eB m i a b).n=m.n:=by unfold eB;split <;> rfl
theorem RU(m:Mp)(i c:Int)(l:Bool):(bX m i c l).o=m.o:=by unfold bX;split <;> rfl
theorem zkD(m:Mp)(i c:Int):(fW m i c).o=m.o:=by unfold fW;split <;> rfl
theorem XQ(m:Mp)(i c:Int):(jO m i c).o=m.o:=by unfold jO;split <;> rfl
theorem XO(m:Mp)(i a b:Int):(cH m i a b).o=m.o:=by unfold cH;split <;> rfl
theorem pZ{w W sb lw x t h}(s:SW w W sb lw x t h)(i a b:Int):
  Calls prog 227 #[.pointer (some ⟨x.m,0,none⟩),.int .i64 i,.int .i64 a,.int .i64 b] W fun e c=>e=.returned (.int .i64 (nI t.m i a b))/\SD w W sb lw x t h (eB t.m i a b) c:=by
 refine(zjl x.m x.B t.m i a b W s.pl.bd.mp).mono ?_;rintro e c ⟨rfl,d,f⟩;exact⟨rfl,s.map d f (zkC _ _ _ _)⟩
theorem zP{w W sb lw x t h}(s:SW w W sb lw x t h)(i c:Int)(l:Bool):
  Calls prog 165 #[.pointer (some ⟨x.m,0,none⟩),.int .i64 i,.int .i64 c,.bool l] W fun e a=>e=.returned (.int .i64 (eD t.m i c l))/\SD w W sb lw x t h (bX t.m i c l) a:=by
 refine(UV x.m x.B t.m i c l W s.pl.bd.mp).mono ?_;rintro e a ⟨rfl,b,d⟩;exact⟨rfl,s.map b d (RU _ _ _ _)⟩
theorem tA{w W sb lw x t h}(s:SW w W sb lw x t h)(i c:Int):
  Calls prog 214 #[.pointer (some ⟨x.m,0,none⟩),.int .i64 i,.int .i64 c] W fun e a=>e=.returned (.int .i64 (kO t.m i c))/\SD w W sb lw x t h (fW t.m i c) a:=by
 refine(zjk x.m x.B t.m i c W s.pl.bd.mp).mono ?_;rintro e a ⟨rfl,b,d⟩;exact⟨rfl,s.map b d (zkD _ _ _)⟩
theorem RJ{w W sb lw x t h}(s:SW w W sb lw x t h)(i c:Int):
  Calls prog 212 #[.pointer (some ⟨x.m,0,none⟩),.int .i64 i,.int .i64 c] W fun e a=>e=.returned (.int .i64 (pO t.m i c))/\SD w W sb lw x t h (jO t.m i c) a:=by
 refine(ZL x.m x.B t.m i c W s.pl.bd.mp).mono ?_;rintro e a ⟨rfl,b,d⟩;exact⟨rfl,s.map b d (XQ _ _ _)⟩
theorem NK{w W sb lw x t h}(s:SW w W sb lw x t h)(p o k:Int):
  Calls prog 175 #[.pointer (some ⟨x.m,0,none⟩),.int .i64 p,.int .i64 o,.int .i64 k] W fun e a=>e=.returned (.int .i64 (fO t.m p o k))/\SD w W sb lw x t h (cH t.m p o k) a:=by
 refine(DE x.m x.B t.m p o k W s.pl.bd.mp).mono ?_;rintro e a ⟨rfl,b,c⟩;exact⟨rfl,s.map b c (XO _ _ _ _)⟩
theorem gD{W:World}{y:Nat}{p:Pg}(h:W.heap[y]?=some (aN p)):W.cell? ⟨y,0,none⟩=some (.int .i64 p.kd)/\W.cell? ⟨y,1,none⟩=some (.int .i64 p.od)/\W.cell? ⟨y,2,none⟩=some (.int .i64 p.cl)/\W.cell? ⟨y,3,none⟩=some (.int .i64 p.lv)/\W.cell? ⟨y,4,none⟩=some (.int .i64 p.nx)/\W.cell? ⟨y,5,none⟩=some (.int .i64 p.pv)/\W.cell? ⟨y,6,none⟩=some (.int .i64 p.fs)/\W.cell? ⟨y,7,none⟩=some (.int .u64 p.b0)/\W.cell? ⟨y,8,none⟩=some (.int .u64 p.b1)/\W.cell? ⟨y,9,none⟩=some (.int .u64 p.b2)/\W.cell? ⟨y,10,none⟩=some (.int .u64 p.b3):=by refine⟨?_,?_,?_,?_,?_,?_,?_,?_,?_,?_,?_⟩ <;> simp[World.cell?,h]
def iY(m:Mp)(i p:Int):Mp:=eB m i (cM m i).nx p
def pA(m:Mp)(i n:Int):Mp:=eB m i n (cM m i).pv
theorem IR{w W sb lw x t h}(s:SW w W sb lw x t h)(i p:Int):
  Calls prog 228 #[.pointer (some ⟨sb,0,none⟩),.int .i64 i,.int .i64 p] W fun e c=>e=.returned (.tuple #[])/\SD w W sb lw x t h (iY t.m i p) c:=by
 obtain⟨q,hq⟩:=xe (cM t.m i);have J:=aA (show Calls prog 45 #[.pointer (some ⟨x.m,0,none⟩),.int .i64 i] W fun e c=>e=.returned (.tuple #[cD q,.bool (aD t.m.n i)])/\Kt nO W c from by rw[hq];exact jC x.m x.B t.m i W s.pl.bd.mp);have F:=aA (bT s.pl);rw[show iY t.m i p=eB t.m i q.nx p by rw[hq];rfl];have H:=aA s;obtain⟨c0,c1⟩:=s.c0;clear s hq;generalize aD t.m.n i=r at *;go_enter func228,ntmps228;go_wp2_with fail;refine F.o.mono ?_;rintro e N ⟨rfl,g⟩;replace g:=g.symm;subst g;go_wp2_with fail;refine J.o.mono ?_;rintro e d ⟨rfl,j⟩;have o:=aA (j.alloc (aN q));have u:=aA (nH d (aN q));have A:=aA (H.o.keep o.o);have G:=aA (show ¬aC x d.heap.size from fun e=>absurd ((H.o.keep j).pl.lt _ (.inl e)) (dc _));clear j c0 c1;go_upto_region 1 with fail;generalize d.heap.size=y at *;generalize d.alloc (aN q)=C at *;have f:=aA ((Kt.refl nO C).drew);have l:=aA (A.o.keep f.o);obtain⟨c0,c1⟩:=l.o.c0;have D:=aA ((f.o.block _ (lH u.o) id).trans u.o);obtain⟨_,_,_,_,E,_⟩:=gD D.o;have v:=aA (bT l.o.pl);have I:=aA (pZ l.o i q.nx p);go_region_held3 (fun c=>c.cell? ⟨sb,0,none⟩=some (.pointer (some ⟨lw,0,none⟩))/\c.cell? ⟨y,4,none⟩=some (.int .i64 q.nx)) ((refine⟨?_,?_⟩ <;> first|with_reducible assumption|fail)) (first
  | (go_at_call 227;(with_reducible refine I.o.mono ?_);rintro e z ⟨rfl,a,b⟩;obtain⟨P,L⟩:=a.c0;have R:=b.cell G.o E;have K:=aA (show SD w W sb lw x t h (eB t.m i q.nx p) z from⟨a,(o.o.trans f.o (fun _ _ e=>e) (fun _ _ e=>e)).trans b (fun _ _ e=>e.elim) (fun _ _ e=>e)⟩);clear a b)
  | (go_at_call 38;(with_reducible refine v.o.mono ?_);rintro e Q ⟨rfl,k⟩;replace k:=k.symm;subst k)
  | fail)
 all_goals
  go_wp2_with fail;exact⟨rfl,.tuple #[],by simp[results,results228,go_sem],rfl,K.o⟩
theorem ziI{w W sb lw x t h}(s:SW w W sb lw x t h)(i n:Int):
  Calls prog 246 #[.pointer (some ⟨sb,0,none⟩),.int .i64 i,.int .i64 n] W fun e c=>e=.returned (.tuple #[])/\SD w W sb lw x t h (pA t.m i n) c:=by
 obtain⟨q,hq⟩:=xe (cM t.m i);have I:=aA (show Calls prog 45 #[.pointer (some ⟨x.m,0,none⟩),.int .i64 i] W fun e c=>e=.returned (.tuple #[cD q,.bool (aD t.m.n i)])/\Kt nO W c from by rw[hq];exact jC x.m x.B t.m i W s.pl.bd.mp);have E:=aA (bT s.pl);rw[show pA t.m i n=eB t.m i n q.pv by rw[hq];rfl];have H:=aA s;obtain⟨c0,c1⟩:=s.c0;clear s hq;generalize aD t.m.n i=r at *;go_enter func246,ntmps246;go_wp2_with fail;refine E.o.mono ?_;rintro e L ⟨rfl,g⟩;replace g:=g.symm;subst g;go_wp2_with fail;refine I.o.mono ?_;rintro e d ⟨rfl,j⟩;have o:=aA (j.alloc (aN q));have p:=aA (nH d (aN q));have z:=aA (H.o.keep o.o);have F:=aA (show ¬aC x d.heap.size from fun e=>absurd ((H.o.keep j).pl.lt _ (.inl e)) (dc _));clear j c0 c1;go_upto_region 1 with fail;generalize d.heap.size=y at *;generalize d.alloc (aN q)=A at *;have f:=aA ((Kt.refl nO A).drew);have l:=aA (z.o.keep f.o);obtain⟨c0,c1⟩:=l.o.c0;have C:=aA ((f.o.block _ (lH p.o) id).trans p.o);obtain⟨_,_,_,_,_,D,_⟩:=gD C.o;have u:=aA (bT l.o.pl);have G:=aA (pZ l.o i n q.pv);go_region_held3 (fun c=>c.cell? ⟨sb,0,none⟩=some (.pointer (some ⟨lw,0,none⟩))/\c.cell? ⟨y,5,none⟩=some (.int .i64 q.pv)) ((refine⟨?_,?_⟩ <;> first|with_reducible assumption|fail)) (first
  | (go_at_call 227;(with_reducible refine G.o.mono ?_);rintro e v ⟨rfl,a,b⟩;obtain⟨N,K⟩:=a.c0;have Q:=b.cell F.o D;have J:=aA (show SD w W sb lw x t h (eB t.m i n q.pv) v from⟨a,(o.o.trans f.o (fun _ _ e=>e) (fun _ _ e=>e)).trans b (fun _ _ e=>e.elim) (fun _ _ e=>e)⟩);clear a b)
  | (go_at_call 38;(with_reducible refine u.o.mono ?_);rintro e P ⟨rfl,k⟩;replace k:=k.symm;subst k)
  | fail)
 all_goals
  go_wp2_with fail;exact⟨rfl,.tuple #[],by simp[results,results246,go_sem],rfl,J.o⟩
def bN(x:Bx)(sb:Nat):Nat->Prop:=fun y=>aC x y\/y=sb
def SE(w W:World)(sb lw:Nat)(x:Bx)(t:Bt)(m':Mp)(h':Nat->Int)(w':World):Prop:=SW w w' sb lw x { t with m:=m' } h'/\Kt (bN x sb) W w'
def eC(m:Mp)(h:Nat->Int)(p:Int)(c:Nat):Mp:=iY (eB m p (h c) (-1)) (h c) p
theorem zO{w W sb lw x t h}(s:SW w W sb lw x t h)(p:Int)(c:Nat)(hc:c<8):
  Calls prog 168 #[.pointer (some ⟨sb,0,none⟩),.int .i64 p,.int .i64 c] W fun e q=>e=.returned (.tuple #[])/\SE w W sb lw x t (eC t.m h p c) (cP h c p) q:=by
 have H:=aA s;have j:=aA (bT s.pl);have i:=aA (pZ s p (h c) (-1));obtain⟨c0,c1⟩:=s.c0;have ch:=s.hd c hc;have n:(c:Int)<8:=by omega
 clear s;rw[show eC t.m h p c=iY (eB t.m p (h c) (-1)) (h c) p from rfl];obtain⟨z,hz⟩:=xe (h c);rw[<-hz] at ch i ⊢;clear hz;go_enter func168,ntmps168;go_wp2_with fail;refine j.o.mono ?_;rintro e r ⟨rfl,g⟩;replace g:=g.symm;subst g;go_wp2_with fail;refine i.o.mono ?_;rintro e y ⟨rfl,b,f⟩;have u:=aA b;have l:=aA f;have k:=aA (IR b z p);clear b f c0 c1 ch i j;go_wp2_with fail;refine k.o.mono ?_;rintro e o ⟨rfl,a,d⟩;have A:=aA a;have v:=a.fz (2+c);have D:=aA (show SE w W sb lw x t (iY (eB t.m p z (-1)) z p) (cP h c p) (o.setCell ⟨sb,2+c,none⟩ (.int .i64 p))from⟨a.set c hc p,((l.o.trans d (fun _ _ e=>e) (fun _ _ e=>e)).mono (fun _ _ e=>.inl e)).setCell (p:=⟨sb,2+c,none⟩) (.inr rfl) _⟩);have c3:=a.hd c hc;clear a d k;go_wp2_with fail;exact⟨rfl,.tuple #[],by simp[results,results168,go_sem],rfl,D.o⟩
def gU(m:Mp)(p:Int):Mp:=eB (if (cM m p).pv = -1 then iY m (cM m p).nx (cM m p).pv else pA (iY m (cM m p).nx (cM m p).pv) (cM m p).pv (cM m p).nx) p (-1) (-1)
def gV(m:Mp)(h:Nat->Int)(p:Int)(c:Nat):Nat->Int:=if (cM m p).pv = -1 then cP h c (cM m p).nx else h
theorem IK{w W sb lw x t h}(s:SW w W sb lw x t h)(p:Int)(c:Nat)(hc:c<8):
  Calls prog 217 #[.pointer (some ⟨sb,0,none⟩),.int .i64 p,.int .i64 c] W fun e P=>e=.returned (.tuple #[])/\SE w W sb lw x t (gU t.m p) (gV t.m h p c) P:=by
 obtain⟨q,hq⟩:=xe (cM t.m p);have HA:=aA (show Calls prog 45 #[.pointer (some ⟨x.m,0,none⟩),.int .i64 p] W fun e P=>e=.returned (.tuple #[cD q,.bool (aD t.m.n p)])/\Kt nO W P from by rw[hq];exact jC x.m x.B t.m p W s.pl.bd.mp);have HM:=aA (bT s.pl);obtain⟨m2,b⟩:=xe (gU t.m p);obtain⟨X,f⟩:=xe (gV t.m h p c);rw[<-b,<-f];unfold gU at b;unfold gV at f;rw[<-hq] at b f;have o:=aA b;have v:=aA f;have H:=aA s;obtain⟨c0,c1⟩:=s.c0;have a0:(c:Int)<8:=by omega
 clear s hq b f;generalize aD t.m.n p=r at *;go_enter func217,ntmps217;go_wp2_with fail;refine HM.o.mono ?_;rintro e w1 ⟨rfl,J⟩;replace J:=J.symm;subst J;go_wp2_with fail;refine HA.o.mono ?_;rintro e z ⟨rfl,C⟩;have Z:=aA (C.alloc (aN q));have K:=aA (nH z (aN q));have H2:=aA (H.o.keep Z.o);have NY:=aA (show ¬aC x z.heap.size from fun e=>absurd ((H.o.keep C).pl.lt _ (.inl e)) (dc _));have NS:=aA (show sb≠z.heap.size from fun e=>absurd (lH (H.o.keep C).bx) (by rw[e];exact dc _));clear C c0 c1;go_upto_region 1 with fail;generalize z.heap.size=y at *;generalize z.alloc (aN q)=W2 at *;obtain⟨_,_,_,_,F,E,_⟩:=gD K.o;have SP:=aA (IR H2.o q.nx q.pv);go_wp2_with fail;refine SP.o.mono ?_;rintro e R ⟨rfl,l,k⟩;have A:=aA l;have Y:=aA (Z.o.trans k (fun _ _ e=>e.elim) (fun _ _ e=>e));have L:=aA ((k.block _ (lH K.o) NY.o).trans K.o);clear l k SP F E;obtain⟨_,_,_,_,F,E,_⟩:=gD L.o;by_cases a:q.pv = -1
 ·have hb:(q.pv == -1)=true:=by rw[a];rfl
  have fz:=A.o.fz (2+c);have c3:=A.o.hd c hc;as_aux_lemma=>
   go_upto_region 3 with fail;have V:=aA ((Kt.refl nO R).drew);have Q:=aA (A.o.keep V.o);have X4:=aA ((V.o.block _ (lH L.o) id).trans L.o);have d4:=(gD X4.o).2.2.2.2.1;have d3:=Q.o.hd c hc;have U:=Q.o.fz (2+c);go_region
   all_goals
    have I:=aA ((A.o.set c hc q.nx).keep ((Kt.refl nO _).drew));have K5:=aA (show Kt (bN x sb) W (R.setCell ⟨sb,2+c,none⟩ (.int .i64 q.nx)).drew from((Y.o.mono (fun _ _ e=>.inl e)).setCell (S:=bN x sb) (p:=⟨sb,2+c,none⟩) (.inr rfl) _).drew);generalize (R.setCell ⟨sb,2+c,none⟩ (.int .i64 q.nx)).drew=W5 at *;have G:=aA (bT I.o.pl);have T:=aA (pZ I.o p (-1) (-1));clear F E d4 d3 U fz c3;obtain⟨c0,c1⟩:=I.o.c0;go_wp2_with fail;refine G.o.mono ?_;rintro e w6 ⟨rfl,j⟩;replace j:=j.symm;subst j;go_wp2_with fail;refine T.o.mono ?_;rintro e N ⟨rfl,d,i⟩;have D:=aA (show SE w W sb lw x t m2 X N from by rw[o.o,v.o,ae a,ae a];exact⟨d,K5.o.trans i (fun _ _ e=>e) (fun _ _ e=>.inl e)⟩)
    clear d i;go_wp2_with fail;exact⟨rfl,.tuple #[],by simp[results,results217,go_sem],rfl,D.o⟩
 ·have hb:(q.pv == -1)=false:=by rw[ag];exact a
  have SN:=aA (ziI A.o q.pv q.nx);as_aux_lemma=>
   go_wp2_with fail;refine SN.o.mono ?_;rintro e w4 ⟨rfl,g,u⟩;have Q:=aA g;have K4:=aA (Y.o.trans u (fun _ _ e=>e) (fun _ _ e=>e));have G:=aA (bT g.pl);have T:=aA (pZ g p (-1) (-1));obtain⟨c0,c1⟩:=g.c0;clear g u SN F E;go_wp2_with fail;refine G.o.mono ?_;rintro e w6 ⟨rfl,j⟩;replace j:=j.symm;subst j;go_wp2_with fail;refine T.o.mono ?_;rintro e N ⟨rfl,d,i⟩;have D:=aA (show SE w W sb lw x t m2 X N from by rw[o.o,v.o,ac a,ac a];exact⟨d,(K4.o.trans i (fun _ _ e=>e) (fun _ _ e=>e)).mono (fun _ _ e=>.inl e)⟩)
   clear d i;go_wp2_with fail;exact⟨rfl,.tuple #[],by simp[results,results217,go_sem],rfl,D.o⟩
def aB(k:Nat):Nat:=16*2 ^ k
theorem cN{k:Nat}(h:k<8) : 16<=aB k/\aB k<=2048:=by
 revert k
 unfold aB;decide
theorem EA{w W sb lw x t h}(s:SW w W sb lw x t h)(c:Nat)(hc:c<8):
  Calls prog 167 #[.int .i64 c] W fun e l=>e=.returned (.int .i64 ((256/2 ^ c:Nat):Int))/\l=W:=by
 have f:=s.tab c hc;have k:(c:Int)<8:=by omega
 obtain⟨z,hz⟩:=xe (16*2 ^ c);have b:=cN hc;unfold aB at b;rw[<-hz] at f b;have hq : 4096/z=256/2 ^ c:=by rw[hz,show 4096=16*256 from rfl,Nat.mul_div_mul_left _ _ (by decide)]
 obtain⟨q,a⟩:=xe (256/2 ^ c);rw[<-a] at hq ⊢;have i:(4096:Int)/(z:Int)=q:=by rw[<-hq];rfl
 have g:q<=256:=by rw[a];exact df _ _
 have d:¬(z:Int)=0:=by omega
 have j:((z:Int) == 0)=false:=by rw[ag];exact d
 clear s hq a hz;go_enter func167,ntmps167;go_wp2_with fail;go_ret;exact⟨by simp,rfl⟩
def aK(x:Bx)(p k n:Nat):Nat:=x.bS+4096*p+n*aB k
theorem xG{w W sb lw x t h}(s:SW w W sb lw x t h)(p c n:Nat)(hp:p<=1024)(hc:c<8)(F:n<=256):
  Calls prog 215 #[.pointer (some ⟨sb,0,none⟩),.int .i64 p,.int .i64 c,.int .i64 n] W fun e E=>e=.returned (.int .u64 ((aK x p c n:Nat):Int))/\Kt nO W E:=by
 obtain⟨c0,c1⟩:=s.c0;have C:=s.tab c hc;have hb:x.bS<=9223372036854775808:=by have:=s.pl.bd.sp.cfg.be;omega
 have D:(c:Int)<8:=by omega
 obtain⟨z,hz⟩:=xe (16*2 ^ c);have b:=cN hc;unfold aB at b;rw[<-hz] at C b;obtain⟨f,a⟩:=xe (n*z);have u:(n:Int)*(z:Int)=f:=by rw[a];simp
 have r:f<=524288:=by rw[a];exact Nat.mul_le_mul F b.2
 obtain⟨g,l⟩:=xe (p*4096);have o:(p:Int)*4096=(g:Int):=by omega
 have A:g<=4194304:=by omega
 obtain⟨bs,d⟩:=xe (x.bS);rw[<-d] at c1 hb;obtain⟨i,m⟩:=xe (bs+g);have v:(bs:Int)+(g:Int)=i:=by omega
 have q:i<=9223372036859000000:=by omega
 obtain⟨j,k⟩:=xe (i+f);have y:(i:Int)+(f:Int)=j:=by omega
 have B:j<=9223372036859600000:=by omega
 have e:aK x p c n=j:=by unfold aK aB;rw[<-hz,<-a,<-d];omega
 rw[e];clear s hz a l d m k e;go_enter func215,ntmps215;have J:IntKind.u64.wrap (p:Int)=p:=by rw[wrap_u64];omega
 have N:IntKind.u64.wrap (n:Int)=n:=by rw[wrap_u64];omega
 have K:IntKind.u64.wrap (g:Int)=g:=by rw[wrap_u64];omega
 have L:IntKind.u64.wrap (i:Int)=i:=by rw[wrap_u64];omega
 have I:IntKind.u64.wrap (f:Int)=f:=by rw[wrap_u64];omega
 have G:IntKind.u64.wrap (j:Int)=j:=by rw[wrap_u64];omega
 go_upto_region 1 with fail;go_quiet (fail)
 go_wp2_with fail;go_ret;exact⟨by simp,(Kt.refl nO _).drewN _⟩
end Go.Proofs.YtfmgnljlkdmndaaGreatDoor
