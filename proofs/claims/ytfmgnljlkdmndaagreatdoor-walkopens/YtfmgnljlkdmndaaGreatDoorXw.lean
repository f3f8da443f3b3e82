import Derived.Test.YtfmgnljlkdmndaaGreatDoorXv
import Derived.Test.YtfmgnljlkdmndaaGreatDoorXg
set_option maxRecDepth 1000000
set_option maxHeartbeats 0
namespace Go.Proofs.YtfmgnljlkdmndaaGreatDoor
open Tryz RowKit
set_option linter.unusedVariables false
theorem BdAt.space{w w' x t}{a':Option Nat}{n':Nat}{f':Nat->Nat}(h:BdAt w x t)(k:Kt (M.own x.s x.a) w w')(hs:M.SpA w' x.s a' x.bS x.R x.dl n' f'):BdAt w' { x with a:=a',n:=n' } { t with f:=f' }:=by have nb:=h.nb;have nl:=h.nl;refine⟨hs,h.mp.kept k (fun y hy e=>tS h.mp h.sp hy e),fun i hi=>(h.ls i hi).kept (fJ k) (fun e=>LC h.sp (h.ls i hi) e),(k.block _ (lH h.bs) (fun e=>nb (.inl e))).trans h.bs,?_,h.mo,h.iL,h.hR⟩;obtain⟨cs,hl,hc⟩:=h.lr;exact⟨cs,(k.block _ (lH hl) (fun e=>nl (.inl e))).trans hl,hc⟩
theorem BdAt.grow{w w' x t}{b:Bs}{a:Mp}(h:BdAt w x t)(k:Kt (aP x.m x.B t.m.o) w w')(c:MpA w' x.m b a)(d:a.o=t.m.o):BdAt w' { x with B:=b } { t with m:=a }:=by have nb:=h.nb;have nl:=h.nl;refine⟨h.sp.kept (fJ k) (fun y hy e=>tS h.mp h.sp e hy),c,fun i hi=>(h.ls i hi).kept (fJ k) (fun e=>xA h.mp (h.ls i hi) e),(k.block _ (lH h.bs) (fun e=>nb (.inr (.inl (h.mo▸e))))).trans h.bs,?_,d.trans h.mo,h.iL,h.hR⟩;obtain⟨cs,hl,hc⟩:=h.lr;exact⟨cs,(k.block _ (lH hl) (fun e=>nl (.inr (.inl (h.mo▸e))))).trans hl,hc⟩
theorem YB(m:Mp):(dD m).o=m.o:=by unfold dD;split <;> rfl
theorem YA{m:Mp}{o:Nat}(a:m.o=o)(h:m.n+2 ^ o<=1024):(dD m).n=m.n+2 ^ o:=by subst a;unfold dD;rw[ac (by show ¬ 1024<m.n+2 ^ m.o;omega)];rfl
theorem kM{W:Wd}{y:Nat}{cs d:Array Vl}{a b:TypeId}{z e:Nat×Nat}(h:W.heap[y]?=some (.cells cs a z))(c:W.heap[y]?=some (.cells d b e)):a=b:=by
 rw[h] at c;injection c with c
 injection c with _ c
theorem JE{w x t}(h:BdAt w x t):(∀ k,k<x.o->∀ i,(t.m.wd k).getD i 0<2 ^ 64)/\∀ k,k<x.o->∀ j,t.m.n/2 ^ (k+1)<=j->aE (t.m.wd k) j=false:=
 ⟨fun k a=>(KH (h.mp.set k (by rw[h.mo];exact a))).1,fun k a=>(KH (h.mp.set k (by rw[h.mo];exact a))).2⟩
theorem Sn.top{x t L}(s:Sn x t L)(d:gJ x t):t.m.n=aN x+2 ^ x.o/\aN x%2 ^ x.o=0:=by
 obtain⟨fr,B,s,f,hL⟩:=s;obtain⟨r,a⟩:=s.dv;obtain⟨i,j⟩:=d;have g:x.n/4096=t.m.n:=by omega
 have c : 1<=r:=by
  rcases dx r with e|e
  ·rw[e,Nat.zero_mul] at a;omega
  ·exact e
 have h:r*2 ^ x.o=(r-1)*2 ^ x.o+2 ^ x.o:=by rw[show r=(r-1)+1 by omega,av,aL];rfl
 have b:aN x=(r-1)*2 ^ x.o:=by unfold aN;omega
 exact⟨by omega,by rw[b];exact Nat.mul_mod_left _ _⟩
def dR(ls:List (Nat×Nat))(pg:Nat):List (Nat×Nat):=ls.filter fun r=>decide (r.1≠pg)
def dJ(fr:Nat->List Nat)(pg frm tt:Nat):Nat->List Nat:=fun j=>if tt<=j/\j<frm then (pg+2 ^ j) :: fr j else fr j
def lE(o:Nat)(fr:Nat->List Nat)(p k:Nat):Nat->List Nat:=cI (dO o (o-k) fr p k).1 (dO o (o-k) fr p k).2.2 ((dO o (o-k) fr p k).2.1 :: (dO o (o-k) fr p k).1 (dO o (o-k) fr p k).2.2)
def Sf(x:Bx)(t:Bt)(fr:Nat->List Nat)(ls:List (Nat×Nat)):Prop:=∃ B,Sd x t fr B/\(∀ q i,¬B 9 q i)/\∀ q i,B 2 q i↔(q,i)∈ls
theorem Sf.sn{x t fr ls}(s:Sf x t fr ls):Sn x t (fun q i=>(q,i)∈ls):=by obtain⟨B,h⟩:=s;exact⟨fr,B,h⟩
theorem Sf.one{x t fr ls}(s:Sf x t fr ls){p k i:Nat}(a:(p,k)∈ls)(c:(p,i)∈ls):i=k:=by have hz : 0<2 ^ k:=ap (by decide);have b : 0<2 ^ i:=ap (by decide);rcases s.sn.apart a c with e|e|e <;> omega
theorem zjw{ls:List (Nat×Nat)}{p q i:Nat} : (q,i)∈dR ls p↔(q,i)∈ls/\q≠p:=by unfold dR;rw[List.mem_filter];simp
theorem Sf.ga{x t fr ls}(s:Sf x t fr ls){p k:Nat}(h:(p,k)∈ls)(q i:Nat):((q,i)∈ls/\¬(q=p/\i=k))↔(q,i)∈dR ls p:=by
 rw[zjw];constructor;·rintro ⟨a,b⟩;exact⟨a,fun e=>b ⟨e,s.one h (e▸a)⟩⟩
 ·rintro ⟨a,b⟩;exact⟨a,fun e=>b e.1⟩
theorem pX{ls:List (Nat×Nat)}{p k q i:Nat} : (q,i)∈ls ++ [(p,k)]↔(q,i)∈ls\/(q=p/\i=k):=by rw[List.mem_append,List.mem_singleton,Prod.mk.injEq]
theorem Sf.li{x t fr ls}(s:Sf x t fr ls){p:Nat}(h:t.m.n<=p):x.P p=none:=by
 obtain⟨B,s,_⟩:=s
 cases hP:x.P p with
 | none=>rfl
 | some q=>have:=(s.al _ _ _ (s.vs p q hP).1).2.2;omega
theorem Sf.jj{x t fr ls}(s:Sf x t fr ls){p k:Nat}(a:k<=x.o)(h:p∈fr k):x.P p=none:=by obtain⟨B,s,_⟩:=s;exact s.nc ((s.fi p k).2 ⟨a,h⟩) (by decide) p (aj _) (by have : 0<2 ^ k:=ap (by decide);omega)
theorem Sf.ki{x t fr ls}(s:Sf x t fr ls){p:Nat}{q:Pg}(h:x.P p=some q):(p,0)∈ls/\q.kd=4/\p<t.m.n/\t.m.pg p=q:=by obtain⟨B,s,_,hL⟩:=s;have a:=s.vs p q h;have ha:=(s.al _ _ _ a.1).2.2;have hp:=s.pg _ _ _ a.1 (by decide) p (aj _) (by omega);rw[h,Option.getD_some] at hp;exact⟨(hL p 0).1 a.1,a.2,by omega,hp⟩
theorem zjx(x:Bx)(t:Bt)(fr:Nat->List Nat)(ls:List (Nat×Nat))(s0:Sf x t fr ls)(f:gJ x t->aN x ∉ fr x.o)(w:Wd)(h:BdAt w x t):Calls prog 156 #[.pointer (some ⟨x.b,0,none⟩)] w fun e c=>e=.returned (.int .i64 9)/\Kt nO w c:=by
 refine UC x t ?_ w h;by_cases a:gJ x t
 ·refine .inr ⟨a,?_⟩;obtain⟨B,s,d,hL⟩:=s0
  cases e:mL x t (aN x) x.o with
  | false=>rfl
  | true=>exact absurd ((s.fi _ _).1 ((s.ii d _ _ (aj _)).1 e)).2 (f a)
 ·exact .inl a
theorem wordTo_congr(f g:Nat->Nat):∀ k,(∀ i,i<k->f i=g i)->M.wordTo f k=M.wordTo g k
 | 0,_=>rfl
 | k+1,h=>by rw[M.wordTo,M.wordTo,wordTo_congr f g k (fun i hi=>h i (by omega)),h k (by omega)]
theorem Sd.bytes{x t fr B}(s:Sd x t fr B){f':Nat->Nat}(h:∀ q j,B 0 q j->∀ i,i<16->f' (4096*q+i)=t.f (4096*q+i)):Sd x { t with f:=f' } fr B:=by
 refine⟨s.mo,s.o8,s.dv,s.nb,s.n1,s.b1,s.b2,s.tg,s.fi,s.al,s.ds,s.cv,s.pg,fun k a=>(s.ch k a).congr fun c hc=>?_,s.wl,s.bt,s.nm,s.vs⟩;obtain⟨q,hq,rfl⟩:=List.mem_map.1 hc;have hb:=h q k ((s.fi q k).2 ⟨a,hq⟩);have d:ad x q-x.bS=4096*q:=by unfold ad;omega
 have b:ad x q+8-x.bS=4096*q+8:=by unfold ad;omega
 constructor
 ·show M.nx x.bS f' (ad x q)=M.nx x.bS t.f (ad x q)
  unfold M.nx M.word;rw[d];exact wordTo_congr _ _ 8 fun i hi=>hb i (by omega)
 ·show M.pv x.bS f' (ad x q)=M.pv x.bS t.f (ad x q)
  unfold M.pv M.word;rw[b];exact wordTo_congr _ _ 8 fun i hi=>by have:=hb (8+i) (by omega);rw[<-Nat.add_assoc] at this;exact this
theorem Sf.grow{w x t fr ls}(s:Sf x t fr ls)(h:BdAt w x t)(x':Bx)(j:x'.P=x.P)(d:x'.o=x.o)(hb:x'.bS=x.bS)(c:x'.n=x.n+x.R)(a:x.bS+x'.n<=9223372036854775808)(hg:t.m.n+2 ^ x.o<=1024):Sf x' ⟨M.more t.f x.n,dD t.m,t.hd⟩ fr (ls ++ [(t.m.n,x.o)]):=by
 obtain⟨hz,hp⟩:=JE h;have hR:=h.hR;obtain⟨B,s,g,hL⟩:=s;have b:=s.nb;refine⟨nZ B 2 t.m.n x.o,s.grow x' j d hb (by rw[c,hR,av,aq (2 ^ x.o)];exact Nat.add_le_add_right b _) a hg _ (fun i hi=>?_) hz hp,?_,?_⟩;·unfold M.more;rw[ae (by omega)]
 ·rintro q i (h|⟨e,_⟩)
  ·exact g q i h
  ·omega
 ·intro q i;rw[pX];unfold nZ;rw[hL];constructor
  ·rintro (h|⟨_,h⟩)
   ·exact .inl h
   ·exact .inr h
  ·rintro (h|h)
   ·exact .inl h
   ·exact .inr ⟨rfl,h⟩
theorem Sf.mi{w x t fr ls}(s0:Sf x t fr ls)(h:BdAt w x t)(c:Nat)(hc:t.m.n=c+2 ^ x.o)(hl:(c,x.o)∈ls)(d:x.P c=none)(x':Bx)(l:x'.P=x.P)(j:x'.o=x.o)(hb:x'.bS=x.bS)(b:c*4096<=x'.n)(k:x'.n<=x.n):Sf x' ⟨t.f,dB t.m c,t.hd⟩ fr (dR ls c):=by
 obtain⟨hz,hp⟩:=JE h;obtain⟨B,s,a,hL⟩:=s0;have g:=s.b2;refine⟨pN B 2 c x.o,s.drop c hc ((hL c x.o).2 hl) d x' l j hb b (by omega) _ (fun i hi=>rfl) hz,fun q i h=>a q i h.1,fun q i=>?_⟩;rw[<-Sf.ga ⟨B,s,a,hL⟩ hl];unfold pN;rw[hL];constructor;·exact fun h=>⟨h.1,fun e=>h.2 ⟨rfl,e⟩⟩
 ·exact fun h=>⟨h.1,fun e=>h.2 e.2⟩
theorem Sf.fill{x t fr ls}(s:Sf x t fr ls){p k:Nat}(hl:(p,k)∈ls){f':Nat->Nat}(h:∀ i,¬(4096*p<=i/\i<4096*(p+2 ^ k))->f' i=t.f i):Sf x { t with f:=f' } fr ls:=by obtain⟨B,s,b,hL⟩:=s;refine⟨B,s.bytes fun q j hb i hi=>h _ fun e=>?_,b,hL⟩;have hz : 0<2 ^ j:=ap (by decide);rcases s.ds _ _ _ _ _ _ hb ((hL p k).2 hl)with ⟨a,_⟩|a|a <;> omega
theorem Sf.new(x:Bx)(f:Nat->Nat)(c:x.P=fun _=>none)(d:x.o<=8)(hb : 1<=x.bS)(b:x.bS+x.n<=9223372036854775808):Sf x ⟨f,aX x.o,fun _=>0⟩ (fun _=>[]) []:=by
 refine⟨fun _ _ _=>False,⟨rfl,d,⟨0,by simp[aX]⟩,by simp[aX],by simp[aX],hb,b,fun _ _ _ h=>h.elim,fun p k=>⟨fun h=>h.elim,fun h=>by cases h.2⟩,fun _ _ _ h=>h.elim,fun _ _ _ _ _ _ h=>h.elim,fun i hi=>absurd hi (Nat.not_lt_zero _),fun _ _ _ h=>h.elim,fun k a=>M.Chn.nil _ _ _,fun k a=>?_,fun k a i hi=>?_,fun k a i h=>(by cases h.1),fun p q h=>(by rw[c] at h;cases h)⟩,fun _ _ h=>h,fun _ _=>⟨fun h=>h.elim,fun h=>by cases h⟩⟩
 ·show 0=(0/2 ^ (k+1)+63)/64
  rw[Nat.zero_div]
 ·have hi:i<0/2 ^ (k+1):=hi;rw[Nat.zero_div] at hi;omega
theorem Sf.congr{x t fr fr' ls}(s:Sf x t fr ls)(h:∀ k,k<=x.o->fr' k=fr k):Sf x t fr' ls:=by
 obtain⟨B,s,b,hL⟩:=s;refine⟨B,⟨s.mo,s.o8,s.dv,s.nb,s.n1,s.b1,s.b2,s.tg,fun p k=>?_,s.al,s.ds,s.cv,s.pg,fun k a=>by rw[h k a];exact s.ch k a,s.wl,fun k a=>?_,fun k a=>?_,s.vs⟩,b,hL⟩
 ·rw[s.fi];constructor
  ·exact fun e=>⟨e.1,by rw[h k e.1];exact e.2⟩
  ·exact fun e=>⟨e.1,by rw[<-h k e.1];exact e.2⟩
 ·rw[h k (Nat.le_of_lt a)];exact s.bt k a
 ·rw[h k (Nat.le_of_lt a)];exact s.nm k a
abbrev rJ(x:Bx):Obj:=.cells #[.pointer (some ⟨x.s,0,none⟩),.pointer (some ⟨x.m,0,none⟩),.pointer (some ⟨x.b,0,none⟩)] 84
structure Pol(w W:Wd)(lw:Nat)(x:Bx)(t:Bt):Prop where
 box:W.heap[lw]?=some (rJ x)
 bd:BdAt W x t
 nw:∀ y,aC x y\/y=x.b\/y=x.l\/y=lw->w.heap.size<=y
 kp:Kt nO w W
theorem Pol.mj{w W lw x t}(h:Pol w W lw x t):¬aC x lw:=by
 rintro (hx|hx|⟨k,d,e⟩)
 ·obtain⟨cs,c,z,a,b⟩:=mO h.bd.sp hx;rw[h.box] at a
  cases a
  rcases b with e|e <;> exact absurd e (by decide)
 ·rw[<-h.bd.mo] at hx;obtain⟨cs,c,z,a,b⟩:=nG h.bd.mp hx;rw[h.box] at a
  cases a
  rcases b with e|e|e|e|e <;> exact absurd e (by decide)
 ·exact absurd e (bX h.box (h.bd.ls k d).hc (by decide))
theorem Pol.call{w W W' lw x t t'}(h:Pol w W lw x t)(hb:BdAt W' x t')(k:Kt (aC x) W W'):Pol w W' lw x t':=
 ⟨(k.block _ (lH h.box) h.mj).trans h.box,hb,h.nw,h.kp.trans k (fun _ _ e=>e) (fun y hy e=>absurd (h.nw y (.inl e)) (by omega))⟩
theorem Pol.dk{w W W' lw x t}(h:Pol w W lw x t)(k:Kt nO W W'):Pol w W' lw x t:=h.call (h.bd.dk k) (jD k)
theorem Pol.space{w W W' lw x t}{b n':Nat}{f':Nat->Nat}(h:Pol w W lw x t)(k:Kt (M.own x.s x.a) W W')(hs:M.SpA W' x.s (some b) x.bS x.R x.dl n' f')(hg:x.a=some b\/W.heap.size<=b):Pol w W' lw { x with a:=some b,n:=n' } { t with f:=f' }:=by
 refine⟨(k.block _ (lH h.box) (fun e=>h.mj (.inl e))).trans h.box,h.bd.space k hs,?_,h.kp.trans k (fun _ _ e=>e) (fun y hy e=>absurd (h.nw y (.inl (.inl e))) (by omega))⟩;have hz:=h.kp.size;rintro y (hy|rfl|rfl|rfl)
 ·rcases hy with hy|hy|⟨k,c,rfl⟩
  ·rcases hy with rfl|hy
   ·exact h.nw _ (.inl (.inl (.inl rfl)))
   ·have hy:some b=some y:=hy
    cases hy
    rcases hg with e|e
    ·exact h.nw _ (.inl (.inl (.inr e)))
    ·omega
  ·exact h.nw _ (.inl (.inr (.inl hy)))
  ·exact h.nw _ (.inl (.inr (.inr ⟨k,c,rfl⟩)))
 ·exact h.nw _ (.inr (.inl rfl))
 ·exact h.nw _ (.inr (.inr (.inl rfl)))
 ·exact h.nw _ (.inr (.inr (.inr rfl)))
theorem Pol.grow{w W W' lw x t}{a:Bs}{b:Mp}(h:Pol w W lw x t)(k:Kt (aP x.m x.B t.m.o) W W')(d:MpA W' x.m a b)(g:b.o=t.m.o)(f:dK W x.m x.B a t.m.o):Pol w W' lw { x with B:=a } { t with m:=b }:=by
 refine⟨(k.block _ (lH h.box) (fun e=>h.mj (.inr (.inl (h.bd.mo▸e))))).trans h.box,h.bd.grow k d g,?_,h.kp.trans k (fun _ _ e=>e) (fun y hy e=>absurd (h.nw y (.inl (.inr (.inl (h.bd.mo▸e))))) (by omega))⟩;have hz:=h.kp.size;rintro y (hy|rfl|rfl|rfl)
 ·rcases hy with hy|hy|⟨k,c,rfl⟩
  ·exact h.nw _ (.inl (.inl hy))
  ·have hy:aP x.m a x.o y:=hy;rw[<-h.bd.mo] at hy;rcases f y hy with e|e
   ·exact h.nw _ (.inl (.inr (.inl (h.bd.mo▸e))))
   ·omega
  ·exact h.nw _ (.inl (.inr (.inr ⟨k,c,rfl⟩)))
 ·exact h.nw _ (.inr (.inl rfl))
 ·exact h.nw _ (.inr (.inr (.inl rfl)))
 ·exact h.nw _ (.inr (.inr (.inr rfl)))
theorem Pol.jp{w W W' lw x t}{n':Nat}{f':Nat->Nat}(h:Pol w W lw x t)(k:Kt (M.own x.s x.a) W W')(hs:M.SpA W' x.s x.a x.bS x.R x.dl n' f'):Pol w W' lw { x with n:=n' } { t with f:=f' }:=
 ⟨(k.block _ (lH h.box) (fun e=>h.mj (.inl e))).trans h.box,h.bd.space k hs,h.nw,h.kp.trans k (fun _ _ e=>e) (fun y hy e=>absurd (h.nw y (.inl (.inl e))) (by omega))⟩
theorem Pol.lt{w W lw x t}(h:Pol w W lw x t):∀ y,aC x y\/y=lw->y<W.heap.size:=by
 rintro y ((hx|hx|⟨j,b,e⟩)|rfl);·obtain⟨cs,c,z,a,d⟩:=mO h.bd.sp hx;exact lH a
 ·rw[<-h.bd.mo] at hx;obtain⟨cs,c,z,a,d⟩:=nG h.bd.mp hx;exact lH a
 ·rw[e];exact lH (h.bd.ls j b).hc
 ·exact lH h.box
theorem Pol.c{w W lw x t}(h:Pol w W lw x t):W.cell? ⟨lw,0,none⟩=some (.pointer (some ⟨x.s,0,none⟩))/\W.cell? ⟨lw,1,none⟩=some (.pointer (some ⟨x.m,0,none⟩))/\W.cell? ⟨lw,2,none⟩=some (.pointer (some ⟨x.b,0,none⟩)):=by refine⟨?_,?_,?_⟩ <;> simp[World.cell?,h.box]
structure PO(w W:Wd)(lw:Nat)(x:Bx)(t:Bt)(fr:Nat->List Nat)(ls:List (Nat×Nat)):Prop where
 pl:Pol w W lw x t
 sf:Sf x t fr ls
 st:t.m.n*4096=x.n
 bm:x.bS%4096=0
theorem PO.dk{w W W' lw x t fr ls}(h:PO w W lw x t fr ls)(k:Kt nO W W'):PO w W' lw x t fr ls:=⟨h.pl.dk k,h.sf,h.st,h.bm⟩
theorem PO.en{w W lw x t fr ls}(h:PO w W lw x t fr ls):x.o<=8/\t.m.n<=1024/\1<=x.bS/\x.bS+x.n<=9223372036854775808/\(∃ r,t.m.n=r*2 ^ x.o/\r<=x.dl/\x.n=r*x.R)/\x.dl<=64/\x.dl*2 ^ x.o<=1024:=by
 obtain⟨n1,f,g⟩:=h.sf.sn.n;have hc:=h.pl.bd.sp.cfg;obtain⟨r,d,c⟩:=h.pl.bd.sp.kn;have hR:=h.pl.bd.hR;have a:=h.st;have b:=hc.lr;refine⟨h.pl.bd.o8,n1,hc.b1,f,⟨r,?_,c,d⟩,hc.l2,?_⟩
 ·rw[d,hR] at a;have e:r*(4096*2 ^ x.o)=(r*2 ^ x.o)*4096:=by rw[aq 4096,cy]
  rw[e] at a;exact Nat.eq_of_mul_eq_mul_right (by decide) a
 ·rw[hR] at b;have e:x.dl*(4096*2 ^ x.o)=(x.dl*2 ^ x.o)*4096:=by rw[aq 4096,cy]
  rw[e] at b;omega
theorem PO.top{w W lw x t fr ls}(h:PO w W lw x t fr ls):(t.m.n=0/\¬gJ x t)\/(2 ^ x.o<=t.m.n/\gJ x t/\aN x=t.m.n-2 ^ x.o):=by
 have a:=h.st;by_cases h0:t.m.n=0;·exact .inl ⟨h0,fun e=>e.1 (by omega)⟩
 ·have b:gJ x t:=⟨by omega,a⟩;obtain⟨c,_⟩:=h.sf.sn.top b;exact .inr ⟨by omega,b,by omega⟩
theorem iI{w W lw x t}(h:Pol w W lw x t):Calls prog 31 #[.pointer (some ⟨lw,0,none⟩)] W fun e a=>e=.returned (.pointer (some ⟨x.s,0,none⟩))/\a=W:=by obtain⟨c0,c1,c2⟩:=h.c;clear h;go_enter func31,ntmps31;go_wp2_with fail;go_ret;exact⟨rfl,rfl⟩
theorem bR{w W lw x t}(h:Pol w W lw x t):Calls prog 38 #[.pointer (some ⟨lw,0,none⟩)] W fun e a=>e=.returned (.pointer (some ⟨x.m,0,none⟩))/\a=W:=by obtain⟨c0,c1,c2⟩:=h.c;clear h;go_enter func38,ntmps38;go_wp2_with fail;go_ret;exact⟨rfl,rfl⟩
theorem AY{w W lw x t}(h:Pol w W lw x t):Calls prog 33 #[.pointer (some ⟨lw,0,none⟩)] W fun e a=>e=.returned (.pointer (some ⟨x.b,0,none⟩))/\a=W:=by obtain⟨c0,c1,c2⟩:=h.c;clear h;go_enter func33,ntmps33;go_wp2_with fail;go_ret;exact⟨rfl,rfl⟩
def QT(w:Wd)(bS dl o:Nat)(e:Ending)(w':Wd):Prop:=∃ lw x,e=.returned (.tuple #[.pointer (some ⟨lw,0,none⟩),.int .i64 0])/\Pol w w' lw x ⟨fun _=>0,aX o,fun _=>0⟩/\x.bS=bS/\x.R=4096*2 ^ o/\x.dl=dl/\x.n=0/\x.o=o/\x.P=fun _=>none
theorem VX(bS:Nat)(j:bS<18446744073709551616)(dl o:Nat)(hl:dl<=64)(ho:o<=8)(K:M.mayB bS (dl:Int) (o:Int)=true)(w:Wd):Calls prog 19 #[fF bS (dl:Int) (o:Int)] w fun e w'=>QT w bS dl o e w':=by
 have C:=aA ((kz w).alloc (cK bS (dl:Int) (o:Int)));have t:=aA (nH w (cK bS (dl:Int) (o:Int)));have S:=aA (fun W=>M.New_ok bS j (dl:Int) (o:Int) (by omega) (by omega) (by omega) (by omega) K (fun _=>0) W);clear K;go_enter func19,ntmps19;obtain⟨g,f,i⟩:=fG t.o;go_wp2_with fail;generalize w.alloc (cK bS (dl:Int) (o:Int))=Z at *;refine(S.o _).mono ?_;rintro e J ⟨s,rfl,hS,d,hs⟩;have a:Kt nO Z J:=dI d;have V:=aA (show M.SpA J s none bS (M.RS o) dl 0 (fun _=>0)from by simpa using hS);have G:=aA (show w.heap.size<=s from an C.o.size hs);have r:=aA ((a.block _ (lH t.o) (fun x=>x)).trans t.o);have F:=aA (nT C.o a);clear g f i a d hS hs t C S;obtain⟨g,f,i⟩:=fG r.o;go_wp2_with fail;refine(XA (o:Int) _).mono ?_;rintro e U ⟨m,B,rfl,v,a,E⟩;have Q:=aA (show MpA U m B (aX o)from by rw[show eV (o:Int)=o by unfold eV;rw[ac (by omega),ac (by omega)];simp] at v;exact v);have I:=aA (show ∀ y,aP m B o y->w.heap.size<=y from fun y hy=>by rw[show eV (o:Int)=o by unfold eV;rw[ac (by omega),ac (by omega)];simp] at E;exact an F.o.size (E y hy));have T:=aA (V.o.dk (fJ a));have N:=aA ((a.block _ (lH r.o) (fun x=>x)).trans r.o);have A:=aA (nT F.o a);clear g f i a v E r F V;obtain⟨g,f,i⟩:=fG N.o;go_wp2_with fail;refine(zl8 bS s m o (dl:Int) ho _).mono ?_;rintro e q ⟨b,rfl,z⟩;have p:Kt nO U q:=by obtain⟨_,_,_,h,_⟩:=z;exact h.kp
 have D:=aA (show ∃ x:Bx,Pol w (q.alloc (rJ x)) q.heap.size x ⟨fun _=>0,aX o,fun _=>0⟩/\x.bS=bS/\x.R=4096*2 ^ o/\x.dl=dl/\x.n=0/\(x.o=o/\x.P=fun _=>none)/\x.s=s/\x.m=m/\x.b=b from by
  obtain⟨l,c,L,hB,X,h2,h3,h4⟩:=z.bd rfl (T.o.dk (fJ p)) (Q.o.dk p) rfl rfl;have hz:=A.o.size;have u:=(nT A.o p).size;refine⟨_,⟨nH _ _,hB.dk ((kz q).alloc _),?_,(nT A.o p).alloc _⟩,rfl,rfl,rfl,rfl,⟨rfl,rfl⟩,rfl,rfl,rfl⟩;rintro y (hy|rfl|rfl|rfl)
  ·rcases hy with hy|hy|⟨k,a,rfl⟩
   ·rcases hy with rfl|hy
    ·exact G.o
    ·cases hy
   ·exact I.o y hy
   ·exact an hz (h3 k a)
  ·exact an hz X
  ·exact an hz h2
  ·exact u)
 clear g f i p z N T Q;go_wp2_with fail;obtain⟨x,hL,e1,Y,e3,e4,e5,e6,e7,e8⟩:=D.o;refine⟨rfl,.tuple #[.pointer (some ⟨q.heap.size,0,none⟩),.int .i64 0],by simp[results,results19,go_sem],_,x,rfl,?_,e1,Y,e3,e4,e5⟩;rw[rJ,e6,e7,e8] at hL;exact hL
theorem VW{w W lw x}(o:Nat)(h:Pol w W lw x ⟨fun _=>0,aX o,fun _=>0⟩)(c:x.n=0)(d:x.o=o)(e:x.P=fun _=>none)(hb:x.bS%4096=0):PO w W lw x ⟨fun _=>0,aX o,fun _=>0⟩ (fun _=>[]) []:=by
 subst d;have hc:=h.bd.sp.cfg;have a:=hc.be;have b:x.bS+x.n<=9223372036854775808:=by rw[c,Nat.add_zero];exact an (Nat.le_add_right _ _) a
 exact⟨h,Sf.new x _ e h.bd.o8 hc.b1 b,by rw[c];exact Nat.zero_mul 4096,hb⟩
theorem zjy(o:Nat)(fr:Nat->List Nat)(n:Nat):lE o fr n o=cI fr o (n :: fr o):=by unfold lE;rw[Nat.sub_self];rfl
theorem zjz{x t fr ls}(s:Sf x t fr ls):dR (ls ++ [(t.m.n,x.o)]) t.m.n=ls:=by
 unfold dR;rw[List.filter_append];have b:ls.filter (fun r=>decide (r.1≠t.m.n))=ls:=List.filter_eq_self.2 fun r a=>by
  obtain⟨q,i⟩:=r;obtain⟨_,_,c⟩:=s.sn.al a;have hz : 0<2 ^ i:=ap (by decide);simp
  omega
 rw[b];simp
structure Sm(x x':Bx):Prop where
 bS:x'.bS=x.bS
 R:x'.R=x.R
 dl:x'.dl=x.dl
 o:x'.o=x.o
 b:x'.b=x.b
 s:x'.s=x.s
 m:x'.m=x.m
 l:x'.l=x.l
 P:x'.P=x.P
theorem Sm.refl(x:Bx):Sm x x:=⟨rfl,rfl,rfl,rfl,rfl,rfl,rfl,rfl,rfl⟩
theorem Sm.trans{x y z:Bx}(h:Sm x y)(k:Sm y z):Sm x z:=⟨k.bS.trans h.bS,k.R.trans h.R,k.dl.trans h.dl,k.o.trans h.o,k.b.trans h.b,k.s.trans h.s,k.m.trans h.m,k.l.trans h.l,k.P.trans h.P⟩
def Nb(W:Wd)(x x':Bx):Prop:=∀ y,aC x' y->aC x y\/W.heap.size<=y
theorem XN{w W lw x t}(h:Pol w W lw x t)(d:Bool)(hd:d=true\/x.n=x.dl*x.R):Calls prog 162 #[.pointer (some ⟨lw,0,none⟩),.bool d] W fun e b=>e=.returned (.int .i64 2)/\Kt nO W b:=by
 have g:=aA (show Calls prog 99 #[.pointer (some ⟨x.s,0,none⟩),.bool d] W fun e b=>e=.returned (.tuple #[.int .u64 0,.int .i64 2])/\Kt nO W b from by
  rcases hd with rfl|hd
  ·exact(M.Commit_deny x.s x.a x.bS x.R x.dl x.n t.f W h.bd.sp).mono fun e b h=>⟨h.1,dI h.2⟩
  ·cases d with
   | true=>exact(M.Commit_deny x.s x.a x.bS x.R x.dl x.n t.f W h.bd.sp).mono fun e b h=>⟨h.1,dI h.2⟩
   | false=>exact(M.Commit_full x.s x.a x.bS x.R x.dl x.n t.f W h.bd.sp hd).mono fun e b h=>⟨h.1,dI h.2⟩)
 obtain⟨c0,c1,c2⟩:=h.c;clear h hd;go_enter func162,ntmps162;go_wp2_with fail;refine g.o.mono ?_;rintro e k ⟨rfl,i⟩;have j:=aA i;clear i g c0 c1 c2;go_wp2_with fail;go_ret;exact⟨rfl,j.o⟩
theorem Sf.iw{x t fr ls}(s:Sf x t fr ls){k p q i:Nat}(a:k<=x.o)(hp:p∈fr k)(hq:(q,i)∈ls):p+2 ^ k<=q\/q+2 ^ i<=p:=by
 obtain⟨B,s,_,hL⟩:=s;rcases s.ds _ _ _ _ _ _ ((s.fi p k).2 ⟨a,hp⟩) ((hL q i).2 hq)with ⟨e,_⟩|e
 ·omega
 ·exact e
theorem zi8{x t fr ls}(s:Sf x t fr ls){p:Nat}(hp:p∈fr x.o):dR (ls ++ [(p,x.o)]) p=ls:=by
 unfold dR;rw[List.filter_append];have b:ls.filter (fun r=>decide (r.1≠p))=ls:=List.filter_eq_self.2 fun r a=>by obtain⟨q,i⟩:=r;have hz : 0<2 ^ i:=ap (by decide);have c : 0<2 ^ x.o:=ap (by decide);rcases s.iw (aj _) hp a with e|e <;> simp <;> omega
 rw[b];simp
theorem zi9{w W lw x t fr ls}(h:PO w W lw x t fr ls)(d:t.m.n=0\/t.m.n-2 ^ x.o ∉ fr x.o):Calls prog 105 #[.pointer (some ⟨lw,0,none⟩)] W fun e g=>e=.returned (.bool false)/\Kt nO W g:=by
 have f:=aA (zjx x t fr ls h.sf (fun j=>by
  rcases h.top with ⟨_,b⟩|⟨h0,b,k⟩
  ·exact absurd j b
  ·rw[k];rcases d with e|e
   ·have hz : 0<2 ^ x.o:=ap (by decide);omega
   ·exact e) W h.pl.bd)
 obtain⟨c0,c1,c2⟩:=h.pl.c;clear h d;go_enter func105,ntmps105;go_wp2_with fail;refine f.o.mono ?_;rintro e l ⟨rfl,a⟩;have i:=aA a;clear a f c0 c1 c2;go_wp2_with fail;go_ret;exact⟨rfl,i.o⟩
def fW(o:Nat):Nat->(Nat->List Nat)->Nat×(Nat->List Nat)
 | 0,fr=>(0,fr)
 | r+1,fr=>if r*2 ^ o∈fr o then ((fW o r (cI fr o (M.dropL (fr o) (r*2 ^ o)))).1+1,(fW o r (cI fr o (M.dropL (fr o) (r*2 ^ o)))).2) else (0,fr)
theorem WB{o r:Nat}{fr:Nat->List Nat}(h:r*2 ^ o∈fr o):fW o (r+1) fr=((fW o r (cI fr o (M.dropL (fr o) (r*2 ^ o)))).1+1,(fW o r (cI fr o (M.dropL (fr o) (r*2 ^ o)))).2):=by
 show(if r*2 ^ o∈fr o then _ else _)=_
 rw[ae h]
theorem UI{o r:Nat}{fr:Nat->List Nat}(h:¬r*2 ^ o∈fr o):fW o (r+1) fr=(0,fr):=by
 show(if r*2 ^ o∈fr o then _ else _)=_
 rw[ac h]
theorem UH{o i:Nat}(h:i<=o):aD (o+1) (i:Int)=true:=by unfold aD;exact af (by omega)
theorem rQ{w W lw x t fr ls}(h:PO w W lw x t fr ls):Calls prog 76 #[.pointer (some ⟨x.s,0,none⟩)] W fun e c=>e=.returned (.int .u64 ((x.bS+x.n:Nat):Int))/\Kt nO W c:=by
 refine(M.end_any x.s x.a x.bS x.R x.dl x.n t.f W h.pl.bd.sp).mono ?_;rintro e c ⟨rfl,b⟩;first
  | exact⟨rfl,dI b⟩
  | (obtain⟨m,rfl⟩:=b;exact⟨rfl,(kz W).drewN m⟩)
  | (subst b;exact⟨rfl,kz _⟩)
theorem BG{w W lw x t fr ls}(h:PO w W lw x t fr ls):Calls prog 44 #[.pointer (some ⟨x.m,0,none⟩)] W fun e a=>e=.returned (.int .i64 t.m.n)/\a=W:=tN x.m x.B t.m W h.pl.bd.mp
theorem LD(f g:Nat->Nat):∀ k,(∀ i,i<k->f i<256)->(∀ i,i<k->g i<256)->M.wordTo f k=M.wordTo g k->∀ i,i<k->f i=g i
 | 0,_,_,_,i,hi=>absurd hi (Nat.not_lt_zero _)
 | k+1,hf,hg,h,i,hi=>by
  have b:=M.wordTo_lt f k (fun i hi=>hf i (by omega));have a:=M.wordTo_lt g k (fun i hi=>hg i (by omega));rw[M.wordTo,M.wordTo] at h;have hz : 0<256 ^ k:=ap (by decide);have j:(M.wordTo f k+f k*256 ^ k)/256 ^ k=f k:=by rw[Nat.add_mul_div_right _ _ hz,Nat.div_eq_of_lt b,dz]
  have d:(M.wordTo g k+g k*256 ^ k)/256 ^ k=g k:=by rw[Nat.add_mul_div_right _ _ hz,Nat.div_eq_of_lt a,dz]
  have c:f k=g k:=by rw[<-j,h,d]
  by_cases e:i=k;·rw[e];exact c
  ·rw[c] at h;exact LD f g k (fun i hi=>hf i (by omega)) (fun i hi=>hg i (by omega)) (Nat.add_right_cancel h) i (by omega)
theorem MG{w s a bS R dl n f}(h:M.SpA w s a bS R dl n f){i:Nat}(hi:i<n):f i<256:=by
 obtain⟨cap,hb,b⟩:=h.ex
 cases a with
 | none=>obtain⟨e,_⟩:=b;omega
 | some g=>obtain⟨_,k,_,_,j,d,c⟩:=b;rw[<-d i hi];exact c i
theorem JX{f g:Nat->Nat}{o:Nat}(hf:∀ i,i<8->f (o+i)<256)(hg:∀ i,i<8->g (o+i)<256)(h:M.word f o=M.word g o)(j:Nat)(a:j<8):f (o+j)=g (o+j):=
 LD (fun i=>f (o+i)) (fun i=>g (o+i)) 8 hf hg h j a
theorem Kp.byte{w w' x t t'}{G:Nat->Prop}(h:Kp x t t' G)(hb:BdAt w x t)(g:BdAt w' x t'){i:Nat}(hi:i/4096*4096+4096<=x.n)(q:G (i/4096)):t'.f i=t.f i:=by
 have hc:=hb.sp.cfg;have r:=hb.sp.fk;have m:=hc.be;have p:=hc.b1;have a:M.IsCell x.bS x.n (x.bS+i/16*16):=by unfold M.IsCell;omega
 obtain⟨c,d⟩:=h _ a (by rw[show(x.bS+i/16*16-x.bS)/4096=i/4096 by omega];exact q);unfold M.nx at c;unfold M.pv at d;rw[show x.bS+i/16*16-x.bS=i/16*16 by omega] at c;rw[show x.bS+i/16*16+8-x.bS=i/16*16+8 by omega] at d;have l:∀ j,j<16->t.f (i/16*16+j)<256:=fun j b=>MG hb.sp (by omega)
 have k:∀ j,j<16->t'.f (i/16*16+j)<256:=fun j b=>MG g.sp (by omega)
 by_cases e:i%16<8;·have:=JX (fun j b=>k j (by omega)) (fun j b=>l j (by omega)) c (i%16) e;rw[show i/16*16+i%16=i by omega] at this;exact this
 ·have:=JX (o:=i/16*16+8) (fun j b=>by have:=k (8+j) (by omega);rw[<-Nat.add_assoc] at this;exact this) (fun j b=>by have:=l (8+j) (by omega);rw[<-Nat.add_assoc] at this;exact this) d (i%16-8) (by omega);rw[show i/16*16+8+(i%16-8)=i by omega] at this;exact this
def Lv(ls:List (Nat×Nat))(g:Nat):Prop:=∃ q k,(q,k)∈ls/\q<=g/\g<q+2 ^ k
def BK(t t':Bt)(ls eF:List (Nat×Nat)):Prop:=∀ i,Lv ls (i/4096)->Lv eF (i/4096)->t'.f i=t.f i
theorem Sf.nfree{x t fr ls}(s:Sf x t fr ls){g:Nat}(h:Lv ls g)(j:Nat)(a:j<=x.o):g ∉ fr j:=fun hg=>by
 obtain⟨q,k,b,c,d⟩:=h;obtain⟨B,s,_,hL⟩:=s;have hz : 0<2 ^ j:=ap (by decide);rcases s.ds _ _ _ _ _ _ ((s.fi g j).2 ⟨a,hg⟩) ((hL q k).2 b)with ⟨e,_⟩|e|e
 ·exact absurd e (by decide)
 ·omega
 ·omega
theorem Sf.kl{x t fr ls}(s:Sf x t fr ls){g:Nat}(h:Lv ls g):g*4096+4096<=x.n:=by obtain⟨q,i,d,f,b⟩:=h;obtain⟨_,_,e⟩:=s.sn.al d;obtain⟨B,s,_,hL⟩:=s;have c:g+1<=t.m.n:=an b e;have a:=ak 4096 c;rw[av,aL] at a;exact an a s.nb
theorem BK.of{w l:Wd}{x:Bx}{t c:Bt}{fr a:Nat->List Nat}{ls b:List (Nat×Nat)}(h:BdAt w x t)(m:BdAt l x c)(s:Sf x t fr ls)(n:Sf x c a b)(k:Kp x t c (fun g=>(∀ i,i<=x.o->g ∉ fr i)/\∀ i,i<=x.o->g ∉ a i)):BK t c ls b:=fun i e f=>by
 have n1:=fun j d=>s.nfree e j d
 have p:=fun j d=>n.nfree f j d
 have hi:=s.kl e;exact Kp.byte (G:=fun g=>(∀ i,i<=x.o->g ∉ fr i)/\∀ i,i<=x.o->g ∉ a i) k h m (i:=i) hi (And.intro n1 p)
theorem BK.refl(t:Bt)(ls a:List (Nat×Nat)):BK t t ls a:=fun _ _ _=>rfl
theorem BK.trans{t j e:Bt}{ls a b:List (Nat×Nat)}(h:BK t j ls a)(k:BK j e a b)(f:∀ g,Lv ls g->Lv b g->Lv a g):BK t e ls b:=fun i c d=>(k i (f _ c d) d).trans (h i c (f _ c d))
namespace K
def DF(x:Bx)(t:Bt)(w w':Wd)(ls0:List (Nat×Nat))(fr:Nat->List Nat)(ls:List (Nat×Nat)):Prop:=∃ t',BdAt w' x t'/\Kt (aC x) w w'/\Sf x t' fr ls/\t'.m.n=t.m.n/\BK t t' ls0 ls
theorem BX(x:Bx)(t:Bt)(fr:Nat->List Nat)(ls:List (Nat×Nat))(s:Sf x t fr ls)(k:Nat)(C:k<=x.o)(w:Wd)(h:BdAt w x t):Calls prog 161 #[.pointer (some ⟨x.b,0,none⟩),.int .i64 k] w fun e m=>
   (e=.returned (.tuple #[.int .u64 0,.int .i64 2])/\m=w/\∀ j,k<=j->j<=x.o->fr j=[])\/
   (∃ j p l,k<=j/\j<=x.o/\(∀ i,k<=i->i<j->fr i=[])/\fr j=p :: l/\e=.returned (.tuple #[.int .u64 ((ad x p:Nat):Int),.int .i64 0])/\DF x t w m ls (dJ (cI fr j (M.dropL (fr j) p)) p j k) (ls ++ [(p,k)])):=by
 have v:=s;obtain⟨B,s,G,hL⟩:=s;rcases ZS x t k with hz|⟨j,c,hl⟩
 ·refine(zh6 x t k C hz w h).mono ?_;rintro e m ⟨rfl,rfl⟩;exact .inl ⟨rfl,rfl,fun j f g=>(s.head j g).1 (hz j f g)⟩
 ·obtain⟨p,l,d⟩:∃ p l,fr j=p :: l:=by
   cases e:fr j with
   | nil=>exact absurd ((s.head j c).2 e) (hl.lh c)
   | cons p l=>exact⟨p,l,rfl⟩
  obtain⟨c1,c2,c3,c4,c5,D,u,y,c7,z,A,n,r⟩:=s.take G hl.lk c d;refine(ZY x t k j p C hl c c1 c2 c3 c4 c5 D w h).mono ?_;rintro e m ⟨rfl,f,g⟩;have a:u=dJ (cI fr j (M.dropL (fr j) p)) p j k:=by
   funext i
   rw[n];unfold dJ cI;by_cases e:k<=i/\i<j;·rw[ae e,ae e,ac (by omega)]
   ·rw[ac e,ac e]
  subst a;exact .inr ⟨j,p,l,hl.lk,c,fun i E F=>(s.head i (by omega)).1 (hl.lz i E F),d,rfl,_,f,g,⟨y,c7,z,fun q i=>by rw[A,hL,pX]⟩,XU _ _ _ _ _,BK.of h f v ⟨y,c7,z,fun q i=>by rw[A,hL,pX]⟩ r⟩
theorem UY(x:Bx)(t:Bt)(fr:Nat->List Nat)(ls:List (Nat×Nat))(s0:Sf x t fr ls)(p k:Nat)(hl:(p,k)∈ls)(v:x.P p=none)(w:Wd)(h:BdAt w x t):Calls prog 170 #[.pointer (some ⟨x.b,0,none⟩),.int .u64 ((ad x p:Nat):Int),.int .i64 k] w fun e y=>e=.returned (.int .i64 0)/\DF x t w y ls (lE x.o fr p k) (dR ls p):=by
 obtain⟨n1,N,S⟩:=s0.sn.n;obtain⟨R,K,L⟩:=s0.sn.al hl;have hz : 0<2 ^ k:=ap (by decide);have c:=(s0.sn.eT p k (by omega)).2 ⟨hl,v⟩;have a:=s0.ga hl;have l:=s0;obtain⟨B,s,F,hL⟩:=s0;obtain⟨d,_⟩:=sX s p (by omega);obtain⟨C,I,G,c1,c2,z,c3,c4,c5,E,A,J⟩:=s.kf F ((hL p k).2 hl) v;refine(GT x t (ad x p) k (by unfold ad;omega) c w h).mono ?_;rintro e y ⟨Q,pr,T,u,rfl,r,D⟩;rw[d,c1] at u
 cases u
 have f:(fB x C I G).m.n=t.m.n:=by rw[tI];have:=DV x (x.o-k) t p k;rw[c1] at this;exact this
 subst E A;exact⟨by rw[c2];rfl,_,r,D,⟨z,c3,c4,fun q i=>by rw[c5,hL];exact a q i⟩,f,BK.of h r l ⟨z,c3,c4,fun q i=>by rw[c5,hL];exact a q i⟩ (J.mono fun g hg=>⟨hg.1,fun j hb=>hg.2 j ((c3.fi g j).1 hb).1 ((c3.fi g j).1 hb).2⟩)⟩
theorem UX(x:Bx)(t:Bt)(fr:Nat->List Nat)(ls:List (Nat×Nat))(s0:Sf x t fr ls)(v:gJ x t)(hl:(aN x,x.o)∈ls)(y:x.P (aN x)=none)(w:Wd)(h:BdAt w x t):Calls prog 222 #[.pointer (some ⟨x.b,0,none⟩)] w fun e z=>e=.returned (.int .i64 0)/\DF x t w z ls (lE x.o fr (aN x) x.o) (dR ls (aN x)):=by
 obtain⟨G,I⟩:=s0.sn.top v;have hz : 0<2 ^ x.o:=ap (by decide);have n:=(s0.sn.eT (aN x) x.o (by omega)).2 ⟨hl,y⟩;have k:=s0.ga hl;have u:=s0;obtain⟨B,s,F,hL⟩:=s0;obtain⟨f,_⟩:=sX s (aN x) (by omega);obtain⟨m,K,J,c1,c2,p,c3,c4,c5,E,C,A⟩:=s.kf F ((hL (aN x) x.o).2 hl) y;subst E C;rw[Nat.sub_self,gL] at c1;have r:m=t:=(congrArg Prod.fst c1).symm;have d:(dO x.o (x.o-x.o) fr (aN x) x.o).2.1=aN x:=by rw[Nat.sub_self];rfl
 have c:(dO x.o (x.o-x.o) fr (aN x) x.o).2.2=x.o:=by rw[Nat.sub_self];rfl
 subst r;rw[d,c] at c2 A;refine(zlW x m v n (by rw[f];exact c2) w h).mono ?_;rintro e z ⟨rfl,l,D⟩;rw[f] at l;have a:Sd x (fB x m (aN x) x.o) (lE x.o fr (aN x) x.o) p:=by have:=c3;rw[d,c] at this;unfold lE;rw[d,c];exact this
 exact⟨rfl,_,l,D,⟨p,a,c4,fun q i=>by rw[c5,hL];exact k q i⟩,tI _ _ _ _,BK.of h l u ⟨p,a,c4,fun q i=>by rw[c5,hL];exact k q i⟩ (A.mono fun g hg=>⟨hg.1,fun j hb=>hg.2 j ((a.fi g j).1 hb).1 ((a.fi g j).1 hb).2⟩)⟩
theorem UW(x:Bx)(t:Bt)(fr:Nat->List Nat)(ls:List (Nat×Nat))(s0:Sf x t fr ls)(n:gJ x t)(d:aN x∈fr x.o)(w:Wd)(h:BdAt w x t):Calls prog 156 #[.pointer (some ⟨x.b,0,none⟩)] w fun e r=>e=.returned (.int .i64 0)/\DF x t w r ls (cI fr x.o (M.dropL (fr x.o) (aN x))) (ls ++ [(aN x,x.o)]):=by
 obtain⟨C,D⟩:=s0.sn.top n;have hz : 0<2 ^ x.o:=ap (by decide);have j:=s0;obtain⟨B,s,u,hL⟩:=s0;have hb:=(s.fi _ _).2 ⟨aj _,d⟩;have f:=(s.ii u _ _ (aj _)).2 hb;obtain⟨c1,c2⟩:=s.leave (aj _) d (q:=aN x) (by omega) rfl;have A:fS (cJ x t (aN x) x.o) (aN x:Int) (x.o:Int)=cJ x t (aN x) x.o:=by unfold fS;rw[GZ _ _ _ (by show ¬x.o<t.m.o;rw[s.mo];exact de _)]
 rw[A] at c2;have c3:=c2.live (p:=aN x) (k:=x.o) (.inr ⟨rfl,rfl,rfl⟩);refine(zlY x t n f c1 w h).mono ?_;rintro e r ⟨rfl,l,v⟩;have c:Sf x (cP (cJ x t (aN x) x.o) (aN x) x.o 2) (cI fr x.o (M.dropL (fr x.o) (aN x))) (ls ++ [(aN x,x.o)]):=by
  refine⟨_,c3,?_,?_⟩
  ·rintro q i (⟨⟨a,_⟩|⟨_,a,y⟩,z⟩|⟨a,_⟩)
   ·exact u q i a
   ·exact z ⟨rfl,a,y⟩
   ·omega
  ·intro q i;show eU (eU B 0 (aN x) x.o 9) 9 (aN x) x.o 2 2 q i↔(q,i)∈ls ++ [(aN x,x.o)]
   rw[pX,<-hL q i];constructor
   ·rintro (⟨⟨a,_⟩|⟨a,_⟩,_⟩|⟨_,a⟩)
    ·exact .inl a
    ·omega
    ·exact .inr a
   ·rintro (a|a)
    ·exact .inl ⟨.inl ⟨a,fun e=>by omega⟩,fun e=>by omega⟩
    ·exact .inr ⟨rfl,a⟩
 exact⟨rfl,_,l,v,c,uZ _ _ _ _,BK.of h l j c (((s.iu (aj _) d).to (t'':=uR x t) rfl).mono fun g hg=>hg.1 x.o (aj _))⟩
theorem pM{w W W' lw x t fr ls fr' eF}(h:PO w W lw x t fr ls)(d:DF x t W W' ls fr' eF):∃ a,PO w W' lw x a fr' eF/\a.m.n=t.m.n/\Kt (aC x) W W'/\BK t a ls eF:=by obtain⟨a,hb,c,hs,e,b⟩:=d;exact⟨a,⟨h.pl.call hb c,hs,by rw[e];exact h.st,h.bm⟩,e,c,b⟩
theorem Lv.more{ls l:List (Nat×Nat)}{g:Nat}(h:Lv ls g):Lv (ls ++ l) g:=by obtain⟨q,k,a,b⟩:=h;exact⟨q,k,List.mem_append_left _ a,b⟩
theorem WJ{i n:Nat}(h:i/4096*4096+4096<=n):i<n:=by have:=dy i 4096;have a:=Nat.mod_lt i (show 0<4096 by decide);omega
theorem WH(f:Nat->Nat)(n i:Nat)(h:i<n):M.more f n i=f i:=by unfold M.more;rw[ae h]
def OA(w W:Wd)(lw:Nat)(x:Bx)(t:Bt)(fr:Nat->List Nat)(ls:List (Nat×Nat))(w':Wd):Prop:=∃ x' t',PO w w' lw x' t' (cI fr x.o (t.m.n :: fr x.o)) ls/\Sm x x'/\x'.n=x.n+x.R/\t'.m.n=t.m.n+2 ^ x.o/\Kt (aC x) W w'/\Nb W x x'/\BK t t' ls ls
theorem WG{w W lw x t fr ls}(h:PO w W lw x t fr ls)(hl:x.n+x.R<=x.dl*x.R):Calls prog 162 #[.pointer (some ⟨lw,0,none⟩),.bool false] W fun e A=>e=.returned (.int .i64 0)/\OA w W lw x t fr ls A:=by
 obtain⟨n1,n2,n3,n4,⟨r,n5,n6,P⟩,n8,n9⟩:=h.en;have p:=h.pl.bd.sp.cfg;have hR:=h.pl.bd.hR;have K:=p.r1;have N:=p.be;have Z:=p.lr;have G:=h.st;have E:=h.pl.bd.mo;have F:r+1<=x.dl:=by rw[P,<-Nat.succ_mul] at hl;exact Nat.le_of_mul_le_mul_right hl (by omega)
 have z:x.R=2 ^ x.o*4096:=by rw[hR,aq]
 have hg:t.m.n+2 ^ x.o<=1024:=by
  have:(t.m.n+2 ^ x.o)*4096<=1024*4096:=by rw[av,G,<-z];omega
  exact Nat.le_of_mul_le_mul_right this (by decide)
 have CM:=aA (M.Commit_ok x.s x.a x.bS x.R x.dl x.n t.f W h.pl.bd.sp ⟨r,P,F⟩);have GW:=aA (show ∀ C,MpA C x.m x.B t.m->Calls prog 221 #[.pointer (some ⟨x.m,0,none⟩)] C fun e A=>e=.returned (.tuple #[])/\∃ l,MpA A x.m l (dD t.m)/\Kt (aP x.m x.B t.m.o) C A/\dK C x.m x.B l t.m.o from fun C hW=>ZT x.m x.B t.m C hW);have T:=aA (show(dD t.m).n=t.m.n+2 ^ x.o from YA E hg);have d:=aA h;have HG:=aA hg;have q:=aA z;have L:=aA (show x.bS+(x.n+x.R)<=9223372036854775808 from by omega);obtain⟨c0,c1,c2⟩:=h.pl.c;clear h n1 n2 n3 n4 n5 n6 P n8 n9 p hR K N Z G E F z hg hl;go_enter func162,ntmps162;go_wp2_with fail;refine CM.o.mono ?_;rintro e w1 ⟨rfl,u,hS,g,v⟩;have J:=aA (d.o.pl.space (dI g) hS v);have K1:=aA (dI g);have NG:=aA v;clear hS g v CM c0 c1 c2;obtain⟨c0,c1,c2⟩:=J.o.c;go_wp2_with fail;refine(GW.o _ J.o.bd.mp).mono ?_;rintro e I ⟨rfl,l,hM,g,X⟩;have V:=aA (J.o.grow g hM (YB _) X);have K2:=aA g;have NF:=aA X;clear hM g X GW c0 c1 c2;have FD:=aA (show Calls prog 222 #[.pointer (some ⟨x.b,0,none⟩)] I fun e A=>e=.returned (.int .i64 0)/\DF { x with a:=some u,n:=x.n + x.R,B:=l } ⟨M.more t.f x.n,dD t.m,t.hd⟩ I A (ls ++ [(t.m.n,x.o)]) (cI fr x.o (t.m.n :: fr x.o)) ls from by
  have s2:=d.o.sf.grow d.o.pl.bd { x with a:=some u,n:=x.n+x.R,B:=l } rfl rfl rfl rfl L.o HG.o;have e1:(dD t.m).n*4096=x.n+x.R:=by rw[T.o,av,d.o.st,<-q.o]
  have hz : 0<2 ^ x.o:=ap (by decide);have j:aN { x with a:=some u,n:=x.n+x.R,B:=l }=t.m.n:=by
   unfold aN;show(x.n+x.R)/4096-2 ^ x.o=t.m.n
   rw[<-d.o.st,q.o,<-av,dh _ (by decide)];omega
  have U:gJ { x with a:=some u,n:=x.n+x.R,B:=l } ⟨M.more t.f x.n,dD t.m,t.hd⟩:=⟨by have:=q.o;show x.n+x.R≠0;omega,e1⟩;have:=UX { x with a:=some u,n:=x.n+x.R,B:=l } ⟨M.more t.f x.n,dD t.m,t.hd⟩ fr _ s2 U (by rw[j];exact List.mem_append_right _ (List.mem_singleton.2 rfl)) (by rw[j];exact d.o.sf.li (aj _)) I V.o.bd;rw[j,zjy,zjz d.o.sf] at this;exact this)
 obtain⟨c0,c1,c2⟩:=V.o.c;go_wp2_with fail;refine FD.o.mono ?_;rintro e w3 ⟨rfl,hd⟩;have D:=aA (show OA w W lw x t fr ls w3 from by
  obtain⟨t',hb,g,hs,hn,Y⟩:=hd;have Q:=K1.o.size;have nb:Nb W x { x with a:=some u,n:=x.n+x.R,B:=l }:=by
   rintro y (hy|hy|⟨k,g,rfl⟩)
   ·rcases hy with rfl|hy
    ·exact .inl (.inl (.inl rfl))
    ·have hy:some u=some y:=hy
     cases hy
     rcases NG.o with e|e
     ·exact .inl (.inl (.inr e))
     ·exact .inr e
   ·have hy:aP x.m l x.o y:=hy;rw[<-d.o.pl.bd.mo] at hy;rcases NF.o y hy with e|e
    ·exact .inl (.inr (.inl (d.o.pl.bd.mo▸e)))
    ·exact .inr (an Q e)
   ·exact .inl (.inr (.inr ⟨k,g,rfl⟩))
  have S:Kt (aC x) W I:=K1.o.trans K2.o (fun _ _ e=>.inl e) (fun _ _ e=>.inr (.inl (d.o.pl.bd.mo▸e)));refine⟨{ x with a:=some u,n:=x.n+x.R,B:=l },t',⟨V.o.call hb g,hs,?_,d.o.bm⟩,⟨rfl,rfl,rfl,rfl,rfl,rfl,rfl,rfl,rfl⟩,rfl,hn.trans T.o,S.trans g (fun _ _ e=>e) (fun y hy e=>?_),nb,fun i h1 h2=>?_⟩
  ·rw[hn];show(dD t.m).n*4096=x.n+x.R
   rw[T.o,av,d.o.st,<-q.o]
  ·rcases nb y e with e|e
   ·exact e
   ·omega
  ·refine(Y i (Lv.more h1) h2).trans ?_;have h3:=d.o.sf.kl h1;exact WH t.f x.n i (WJ h3))
 clear hd FD c0 c1 c2;go_wp2_with fail;go_ret;exact⟨rfl,D.o⟩
inductive NdP(w W:Wd)(lw:Nat)(x:Bx)(t:Bt)(fr:Nat->List Nat)(ls:List (Nat×Nat))(k:Int)(d:Bool)(e:Ending)(w':Wd):Prop where
 | bad (hk:aD (x.o+1) k=false) (he:e=.returned (.tuple #[.int .u64 0,.bool false,.int .i64 1])) (kp:Kt nO W w')
 | here (i j p:Nat) (l:List Nat) (hk:k=(i:Int)) (hi:i<=x.o) (hij:i<=j) (hj:j<=x.o) (hz:∀ a,i<=a->a<j->fr a=[]) (hp:fr j=p :: l) (he:e=.returned (.tuple #[.int .u64 ((ad x p:Nat):Int),.bool false,.int .i64 0])) (hs:∃ t',PO w w' lw x t' (dJ (cI fr j (M.dropL (fr j) p)) p j i) (ls ++ [(p,i)])/\t'.m.n=t.m.n/\BK t t' ls (ls ++ [(p,i)])) (kp:Kt (aC x) W w')
 | stuck (i:Nat) (hk:k=(i:Int)) (hi:i<=x.o) (hz:∀ a,i<=a->a<=x.o->fr a=[]) (hd:d=true\/x.n=x.dl*x.R) (he:e=.returned (.tuple #[.int .u64 0,.bool false,.int .i64 2])) (kp:Kt nO W w')
 | grew (i:Nat) (hk:k=(i:Int)) (hi:i<=x.o) (hz:∀ a,i<=a->a<=x.o->fr a=[]) (hd:d=false) (hl:x.n + x.R<=x.dl*x.R) (he:e=.returned (.tuple #[.int .u64 ((ad x t.m.n:Nat):Int),.bool true,.int .i64 0])) (hs:∃ x' t',PO w w' lw x' t' (dJ fr t.m.n x.o i) (ls ++ [(t.m.n,i)])/\Sm x x'/\x'.n=x.n + x.R/\t'.m.n=t.m.n + 2 ^ x.o/\Nb W x x'/\BK t t' ls (ls ++ [(t.m.n,i)])) (kp:Kt (aC x) W w')
theorem Need_any{w W lw x t fr ls}(h:PO w W lw x t fr ls)(k:Int)(d:Bool):Calls prog 109 #[.pointer (some ⟨lw,0,none⟩),.int .i64 k,.bool d] W fun e w'=>NdP w W lw x t fr ls k d e w':=by
 obtain⟨c0,c1,c2⟩:=h.pl.c;have V:=aA h
 cases hr:aD (x.o+1) k with
 | false=>have L:=aA (zjl x t k hr W h.pl.bd);have HR:=aA hr;clear h hr;go_enter func109,ntmps109;go_wp2_with fail;refine L.o.mono ?_;rintro e X ⟨rfl,C⟩;subst C;go_wp2_with fail;exact⟨rfl,.tuple #[.int .u64 0,.bool false,.int .i64 1],by simp[results,results109,go_sem],.bad HR.o rfl (kz _)⟩
 | true=>
  obtain⟨i,rfl,a5⟩:=gP hr;have hi:i<=x.o:=by omega
  have L:=aA (BX x t fr ls h.sf i hi W h.pl.bd);clear h hr a5;go_enter func109,ntmps109;go_wp2_with fail;refine L.o.mono ?_;rintro e X (⟨rfl,C,hz⟩|⟨j,p,l,f,S,hz,hp,rfl,hd⟩)
  ·subst C;have HZ:=aA hz;clear hz L;by_cases hd:d=true\/x.n=x.dl*x.R
   ·as_aux_lemma=>have GR:=aA (XN V.o.pl d hd);have HD:=aA hd;clear hd;go_wp2_with fail;refine GR.o.mono ?_;rintro e w2 ⟨rfl,hk⟩;have K2:=aA hk;clear hk;go_wp2_with fail;exact⟨rfl,.tuple #[.int .u64 0,.bool false,.int .i64 2],by simp[results,results109,go_sem],.stuck i rfl hi HZ.o HD.o rfl K2.o⟩
   ·as_aux_lemma=>
    obtain rfl:d=false:=by
     cases d with
     | true=>exact absurd (.inl rfl) hd
     | false=>rfl
    have hl:x.n+x.R<=x.dl*x.R:=by
     obtain⟨_,_,_,_,⟨r,_,n6,n7⟩,_,_⟩:=V.o.en;have C:r≠x.dl:=fun e=>hd (.inr (by rw[n7,e]))
     have h2:(r+1)*x.R<=x.dl*x.R:=ak _ (by omega);rw[av,aL,<-n7] at h2;exact h2
    have HL:=aA hl;have GR:=aA (WG V.o hl);clear hd hl;go_wp2_with fail;refine GR.o.mono ?_;rintro e w2 ⟨rfl,x2,t2,g,u,U,J,I,K,z⟩;have a1:=aA z;have P2:=aA g;have Z:=aA u;have P:=aA (And.intro U (And.intro J (And.intro I K)));have a3:=HZ.o x.o hi (aj _);have B:=aA (BX x2 t2 _ ls g.sf i (by rw[u.o];exact hi) w2 g.pl.bd);obtain⟨c0,c1,c2⟩:=g.pl.c;rw[u.b] at c2 B;clear g u U J I K z GR;go_wp2_with fail;refine B.o.mono ?_;rintro e w3 (⟨_,_,A⟩|⟨j,p,l,f,S,A,hp,rfl,hd⟩)
    ·exfalso
     have:=A x.o hi (by rw[Z.o.o];exact aj _);simp[cI] at this
    ·have a4:j=x.o:=by
      rcases du j x.o with e|e
      ·have C:=HZ.o j f (Nat.le_of_lt e);unfold cI at hp;rw[ac (by omega),C] at hp
       cases hp
      ·rw[Z.o.o] at S;omega
     subst a4;have a2:p=t.m.n:=by
      unfold cI at hp;rw[ae rfl] at hp;injection hp with e _
      exact e.symm
     subst a2;have D:=aA (show ∃ x' t',PO w w3 lw x' t' (dJ fr t.m.n x.o i) (ls ++ [(t.m.n,i)])/\Sm x x'/\x'.n=x.n + x.R/\t'.m.n=t.m.n + 2 ^ x.o/\Nb X x x'/\BK t t' ls (ls ++ [(t.m.n,i)])from by
      obtain⟨t3,s,G,T,Q⟩:=pM P2.o hd;refine⟨x2,t3,⟨s.pl,s.sf.congr (fun a ha=>?_),s.st,s.bm⟩,Z.o,P.o.1,G.trans P.o.2.1,P.o.2.2.2,a1.o.trans Q (fun _ h _=>h)⟩;unfold dJ;by_cases ea:i<=a/\a<x.o;·rw[ae ea,ae ea];unfold cI;rw[ac (by omega),ac (by omega)]
      ·rw[ac ea,ac ea];unfold cI;by_cases Y:a=x.o
       ·rw[ae Y,ae rfl,Y,a3];simp[M.dropL]
       ·rw[ac Y,ac Y])
     have KF:=aA (show Kt (aC x) X w3 from by
      obtain⟨t3,s,G,T,_⟩:=pM P2.o hd;refine P.o.2.2.1.trans T (fun _ _ e=>e) (fun y hy e=>?_);rcases P.o.2.2.2 y e with e|e
      ·exact e
      ·omega)
     have a0:ad x2 t.m.n=ad x t.m.n:=(by unfold ad;rw[Z.o.bS]);rw[a0];clear hd A f S hp B c0 c1 c2;go_wp2_with fail;exact⟨rfl,.tuple #[.int .u64 ((ad x t.m.n:Nat):Int),.bool true,.int .i64 0],by simp[results,results109,go_sem],.grew i rfl hi HZ.o rfl HL.o rfl D.o KF.o⟩
  ·as_aux_lemma=>obtain⟨t1,N,E,F,v⟩:=pM V.o hd;have D:=aA (show NdP w W lw x t fr ls (i:Int) d (.returned (.tuple #[.int .u64 ((ad x p:Nat):Int),.bool false,.int .i64 0])) X from .here i j p l rfl hi f S hz hp rfl ⟨t1,N,E,v⟩ F);clear hd N E F v hz hp f S L;generalize ad x p=q at *;go_wp2_with fail;exact⟨rfl,.tuple #[.int .u64 q,.bool false,.int .i64 0],by simp[results,results109,go_sem],D.o⟩
def NN(w W:Wd)(lw:Nat)(x:Bx)(t:Bt)(fr:Nat->List Nat)(ls:List (Nat×Nat))(w':Wd):Prop:=∃ x' t',PO w w' lw x' t' (cI fr x.o (M.dropL (fr x.o) (t.m.n-2 ^ x.o))) ls/\Sm x x'/\x'.n=x.n-x.R/\t'.m.n=t.m.n-2 ^ x.o/\Kt (aC x) W w'/\Nb W x x'/\BK t t' ls ls
theorem zis{w W lw x t fr ls}(h:PO w W lw x t fr ls)(h0:t.m.n≠0)(S:t.m.n-2 ^ x.o∈fr x.o):Calls prog 105 #[.pointer (some ⟨lw,0,none⟩)] W fun e u=>e=.returned (.bool true)/\NN w W lw x t fr ls u:=by
 obtain⟨g,ht,E⟩ : 2 ^ x.o<=t.m.n/\gJ x t/\aN x=t.m.n-2 ^ x.o:=by
  rcases h.top with ⟨G,_⟩|G
  ·exact absurd G h0
  ·exact G
 have A:=aA (UW x t fr ls h.sf ht (by rw[E];exact S) W h.pl.bd);rw[E] at A;have hR:=h.pl.bd.hR;have a1:=h.pl.bd.sp.cfg.r1;have L:=h.st;have a0:=h.pl.bd.mo;have J:=aA h;have r:x.R=2 ^ x.o*4096:=by rw[hR,aq]
 have Y:=aA r;have I:x.R<=x.n:=by rw[r,<-L];exact ak _ g
 have V:=aA I;have U:=aA g;have HM:=aA S;obtain⟨c0,c1,c2⟩:=h.pl.c;clear h hR L I r S h0 ht E;go_enter func105,ntmps105;go_wp2_with fail;refine A.o.mono ?_;rintro e P ⟨rfl,hd⟩;obtain⟨b,F,q,N,j⟩:=pM J.o hd;have Z:=aA j;have d:=aA F;have K1:=aA N;have C:=aA q;clear hd F N j c0 c1 c2 A;obtain⟨c0,c1,c2⟩:=d.o.pl.c;have SH:=aA (show Calls prog 157 #[.pointer (some ⟨x.m,0,none⟩),.int .i64 1] P fun e u=>e=.returned (.int .i64 0)/\∃ v,MpA u x.m v (dB b.m (b.m.n-2 ^ x.o))/\Kt (aP x.m x.B b.m.o) P u/\dK P x.m x.B v b.m.o from by have z:=d.o.pl.bd.mo;have:=zkx x.m x.B b.m 1 P d.o.pl.bd.mp (by rw[z,q];exact Nat.div_pos g (ap (by decide)));rw[aL,z] at this;rw[z];exact this)
 clear q g;go_wp2_with fail;refine SH.o.mono ?_;rintro e Q ⟨rfl,v,hM,p,T⟩;have P2:=aA (d.o.pl.grow p hM rfl T);have K2:=aA p;have NF:=aA T;clear hM p T SH c0 c1 c2;obtain⟨c0,c1,c2⟩:=P2.o.c;have DC:=aA (show Calls prog 158 #[.pointer (some ⟨x.s,0,none⟩),.int .i64 1] Q fun e u=>e=.returned (.int .i64 0)/\M.SpA u x.s x.a x.bS x.R x.dl (x.n-1*x.R) b.f/\M.Kt (M.own x.s x.a) Q u from M.Decommit_ok x.s x.a x.bS x.R x.dl x.n b.f 1 Q P2.o.bd.sp (Nat.div_pos V.o (by omega)));go_wp2_with fail;refine DC.o.mono ?_;rintro e w3 ⟨rfl,hS,p⟩;have D:=aA (show NN w W lw x t fr ls w3 from by
  have k3:Kt (M.own x.s x.a) Q w3:=dI p;have P3:=P2.o.jp k3 hS;have X:=K1.o.size;have e1:x.n-1*x.R=x.n-x.R:=by rw[aL]
  have l:(b.m.n-2 ^ x.o)*4096=x.n-x.R:=by rw[C.o,Nat.mul_sub_right_distrib,J.o.st,<-Y.o]
  have K:=d.o.sf.mi d.o.pl.bd (b.m.n-2 ^ x.o) (by have:=U.o;have:=C.o;omega) (by rw[C.o];exact List.mem_append_right _ (List.mem_singleton.2 rfl)) (by rw[C.o];exact J.o.sf.jj (aj _) HM.o) { x with n:=x.n-1*x.R,B:=v } rfl rfl rfl (by rw[l];show x.n-x.R<=x.n-1*x.R;omega) (by show x.n-1*x.R<=x.n;omega);rw[C.o,zi8 J.o.sf HM.o] at K;have nb:Nb W x { x with n:=x.n-1*x.R,B:=v }:=by
   rintro y (hy|hy|⟨k,p,rfl⟩);·exact .inl (.inl hy)
   ·have hy:aP x.m v x.o y:=hy;rw[<-d.o.pl.bd.mo] at hy;rcases NF.o y hy with e|e
    ·exact .inl (.inr (.inl (d.o.pl.bd.mo▸e)))
    ·exact .inr (an X e)
   ·exact .inl (.inr (.inr ⟨k,p,rfl⟩))
  refine⟨{ x with n:=x.n-1*x.R,B:=v },⟨b.f,dB b.m (b.m.n-2 ^ x.o),b.hd⟩,⟨P3,?_,?_,J.o.bm⟩,⟨rfl,rfl,rfl,rfl,rfl,rfl,rfl,rfl,rfl⟩,e1,?_,?_,nb,fun i G h2=>Z.o i G (Lv.more h2)⟩;·rw[C.o];exact K
  ·show(b.m.n-2 ^ x.o)*4096=x.n-1*x.R
   rw[l,e1]
  ·show b.m.n-2 ^ x.o=t.m.n-2 ^ x.o
   rw[C.o]
  ·exact(K1.o.trans K2.o (fun _ _ e=>e) (fun _ _ e=>.inr (.inl (d.o.pl.bd.mo▸e)))).trans k3 (fun _ _ e=>e) (fun _ _ e=>.inl e))
 clear hS p DC c0 c1 c2;go_wp2_with fail;go_ret;exact⟨rfl,D.o⟩
def zL(w W:Wd)(lw:Nat)(x:Bx)(t:Bt)(fr:Nat->List Nat)(ls:List (Nat×Nat))(r c:Nat)(w':Wd):Prop:=∃ x' t' fr',PO w w' lw x' t' fr' ls/\Sm x x'/\t'.m.n=(r-c)*2 ^ x.o/\c<=r/\fW x.o r fr=(c+(fW x.o (r-c) fr').1,(fW x.o (r-c) fr').2)/\Kt (aC x) W w'/\Nb W x x'/\BK t t' ls ls
theorem Trim_any{w W lw x t fr ls}(h:PO w W lw x t fr ls)(r:Nat)(hr:t.m.n=r*2 ^ x.o):Calls prog 59 #[.pointer (some ⟨lw,0,none⟩)] W fun e S=>e=.returned (.int .i64 ((fW x.o r fr).1:Int))/\∃ x' j,PO w S lw x' j (fW x.o r fr).2 ls/\Sm x x'/\j.m.n=(r-(fW x.o r fr).1)*2 ^ x.o/\Kt (aC x) W S/\Nb W x x'/\BK t j ls ls:=by
 have X:r<=1024:=by have h1:=h.en.2.1;have hz : 0<2 ^ x.o:=ap (by decide);have:r*1<=r*2 ^ x.o:=Nat.mul_le_mul_left _ hz;omega
 have Q:=aA (show zL w W lw x t fr ls r 0 W from⟨x,t,fr,h,Sm.refl x,hr,az _,by rw[Nat.sub_zero,dz],Kt.refl _ W,fun y e=>.inl e,BK.refl _ _ _⟩);clear h hr;go_enter func59,ntmps59;go_wp2_with fail;go_loopw [3] (fun i W'=>∃ c:Nat,c<=r/\i=.int .i64 c/\Hd (zL w W lw x t fr ls r c W')) (fun i _=>r-(intOf i).toNat)
 case atStart=>exact⟨0,az _,rfl,Q⟩
 case round=>
  clear Q;obtain⟨c,hc,rfl,U⟩:=hrel;obtain⟨q,k,b,hP,hS,R,_,f,hK,V,B⟩:=U.o;have C:=aA B;have J:=aA hP;have l:=aA hS;have A:=aA R;have T:=aA f;have N:=aA hK;have K:=aA V;clear U hP hS R f hK V B;have hz : 0<2 ^ x.o:=ap (by decide);by_cases a:k.m.n≠0/\k.m.n-2 ^ q.o∈b q.o
  ·have Z:=aA (zis J.o a.1 a.2);have P:c<r:=by
    rcases du c r with e|e
    ·exact e
    ·exfalso
     apply a.1
     rw[A.o,show r-c=0 by omega,Nat.zero_mul]
   have L:=aA a.2;clear a;go_wp2_with fail;refine Z.o.mono ?_;rintro e G ⟨rfl,x2,t2,z,p,_,v,E,s,g⟩;have D:=aA (show zL w W lw x t fr ls r (c+1) G from by
    obtain⟨d,hd⟩:∃ d,r-c=d+1:=⟨r-c-1,by omega⟩;have u:k.m.n-2 ^ q.o=d*2 ^ x.o:=by rw[A.o,hd,l.o.o,av,aL,eh]
    refine⟨x2,t2,_,z,l.o.trans p,?_,P,?_,N.o.trans E (fun _ _ e=>e) (fun y hy e=>?_),fun y hy=>?_,C.o.trans g (fun _ h _=>h)⟩;·rw[v,u,show r-(c+1)=d by omega]
    ·have f:=T.o;have F:=L.o;rw[u,l.o.o] at F;rw[hd] at f;rw[WB F] at f;rw[f,show r-(c+1)=d by omega,u,l.o.o];simp only[Prod.mk.injEq,and_true];omega
    ·rcases K.o y e with e|e
     ·exact e
     ·omega
    ·rcases s y hy with e|e
     ·exact K.o y e
     ·exact .inr (an N.o.size e))
   clear z p v E s g Z;go_wp2_with fail;exact⟨⟨c+1,by omega,by simp,D⟩,by simp[intOf];omega⟩
  ·have Y:=aA (zi9 J.o (by
    by_cases e:k.m.n=0;·exact .inl e
    ·exact .inr fun e2=>a ⟨e,e2⟩))
   have f:fW x.o r fr=(c,b):=by
    rw[T.o]
    cases hd:r-c with
    | zero=>rfl
    | succ d=>
     have u:k.m.n-2 ^ q.o=d*2 ^ x.o:=by rw[A.o,hd,l.o.o,av,aL,eh]
     have h0:k.m.n≠0:=by rw[A.o,hd,av,aL];omega
     have F:¬d*2 ^ x.o∈b x.o:=fun e=>a ⟨h0,by rw[u,l.o.o];exact e⟩
     rw[UI F];rfl
   have HT:=aA f;clear a f;go_wp2_with fail;refine Y.o.mono ?_;rintro e G ⟨rfl,I⟩;have D:=aA (show ∃ x' j,PO w G lw x' j b ls/\Sm x x'/\j.m.n=(r-c)*2 ^ x.o/\Kt (aC x) W G/\Nb W x x'/\BK t j ls ls from⟨q,k,J.o.dk I,l.o,A.o,N.o.trans I (fun _ _ e=>e) (fun _ _ e=>e.elim),K.o,C.o⟩);clear I Y;go_wp2_with fail;go_ret;rw[HT.o];exact⟨rfl,D.o⟩
theorem Give6_yes{w W lw x t fr ls}(h:PO w W lw x t fr ls)(p k:Nat)(g:(p,k)∈ls)(i:x.P p=none)(a:Nat)(b:a=ad x p):Calls prog 113 #[.pointer (some ⟨lw,0,none⟩),.int .u64 a,.int .i64 k] W fun e j=>e=.returned (.int .i64 0)/\∃ d,PO w j lw x d (lE x.o fr p k) (dR ls p)/\d.m.n=t.m.n/\Kt (aC x) W j/\BK t d ls (dR ls p):=by
 have f:=aA (UY x t fr ls h.sf p k g i W h.pl.bd);rw[<-b] at f;have l:=aA h;obtain⟨c0,c1,c2⟩:=h.pl.c;clear h g i b;go_enter func113,ntmps113;go_wp2_with fail;refine f.o.mono ?_;rintro e q ⟨rfl,hd⟩;have D:=aA (pM l.o hd);clear hd f;go_wp2_with fail;go_ret;exact⟨rfl,D.o⟩
end K
def pty(e:TypeId):Prop:=e=131\/e=5\/e=140\/e=97\/e=141\/e=181\/e=22\/e=179\/e=134\/e=135\/e=84
theorem Pol.pty{w W lw x t}(h:Pol w W lw x t){y:Nat}{cs:Array Vl}{e:TypeId}{z:Nat×Nat}(hy:W.heap[y]?=some (.cells cs e z))(hb:aC x y\/y=x.b\/y=x.l\/y=lw):pty e:=by
 rcases hb with (hx|hx|⟨k,m,g⟩)|rfl|rfl|rfl
 ·obtain⟨a,i,j,c,d⟩:=mO h.bd.sp hx;have f:=kM hy c;subst f;rcases d with rfl|rfl
  ·exact .inl rfl
  ·exact .inr (.inl rfl)
 ·rw[<-h.bd.mo] at hx;obtain⟨a,i,j,c,d⟩:=nG h.bd.mp hx;have f:=kM hy c;subst f;rcases d with rfl|rfl|rfl|rfl|rfl
  ·exact .inr (.inr (.inl rfl))
  ·exact .inr (.inr (.inr (.inl rfl)))
  ·exact .inr (.inr (.inr (.inr (.inl rfl))))
  ·exact .inr (.inr (.inr (.inr (.inr (.inl rfl)))))
  ·exact .inr (.inr (.inr (.inr (.inr (.inr (.inl rfl))))))
 ·rw[g] at hy;exact .inr (.inr (.inr (.inr (.inr (.inr (.inr (.inl (kM hy (h.bd.ls k m).hc))))))))
 ·exact .inr (.inr (.inr (.inr (.inr (.inr (.inr (.inr (.inl (kM hy h.bd.bs)))))))))
 ·obtain⟨a,hl,_⟩:=h.bd.lr;exact .inr (.inr (.inr (.inr (.inr (.inr (.inr (.inr (.inr (.inl (kM hy hl))))))))))
 ·exact .inr (.inr (.inr (.inr (.inr (.inr (.inr (.inr (.inr (.inr (kM hy h.box))))))))))
def iQ(w:Wd):Prop:=∀ k,k<8->w.cell? ⟨0,k,none⟩=some (.int .u64 ((16*2 ^ k:Nat):Int))
abbrev rG(lw bS:Nat)(h:Nat->Int):Obj:=.cells #[.pointer (some ⟨lw,0,none⟩),.int .u64 bS,.int .i64 (h 0),.int .i64 (h 1),.int .i64 (h 2),.int .i64 (h 3),.int .i64 (h 4),.int .i64 (h 5),.int .i64 (h 6),.int .i64 (h 7)] 117
structure SW(w W:Wd)(sb lw:Nat)(x:Bx)(t:Bt)(h:Nat->Int):Prop where
 pl:Pol w W lw x t
 bx:W.heap[sb]?=some (rG lw x.bS h)
 nw:w.heap.size<=sb
 tb:iQ w
theorem SW.mg{w W sb lw x t h}(s:SW w W sb lw x t h):¬(aC x sb\/sb=x.b\/sb=x.l\/sb=lw):=fun e=>absurd (s.pl.pty s.bx e) (by unfold Go.Proofs.YtfmgnljlkdmndaaGreatDoor.pty;decide)
theorem SW.call{w W W' sb lw x t t' h}(s:SW w W sb lw x t h)(hb:BdAt W' x t')(k:Kt (aC x) W W'):SW w W' sb lw x t' h:=
 ⟨s.pl.call hb k,(k.block _ (lH s.bx) (fun e=>s.mg (.inl e))).trans s.bx,s.nw,s.tb⟩
theorem SW.dk{w W W' sb lw x t h}(s:SW w W sb lw x t h)(k:Kt nO W W'):SW w W' sb lw x t h:=s.call (s.pl.bd.dk k) (jD k)
theorem SW.map{w W W' sb lw x t h}{a:Mp}(s:SW w W sb lw x t h)(c:MpA W' x.m x.B a)(k:Kt (aP x.m x.B t.m.o) W W')(d:a.o=t.m.o):SW w W' sb lw x { t with m:=a } h/\Kt (aC x) W W':=by have b:Kt (aC x) W W':=k.mono (fun y _ e=>.inr (.inl (s.pl.bd.mo▸e)));exact⟨s.call (s.pl.bd.map k c d) b,b⟩
theorem SW.kw{w W sb lw x t h}(s:SW w W sb lw x t h):iQ W:=fun k a=>s.pl.kp.cell id (s.tb k a)
theorem SW.c0{w W sb lw x t h}(s:SW w W sb lw x t h):W.cell? ⟨sb,0,none⟩=some (.pointer (some ⟨lw,0,none⟩))/\W.cell? ⟨sb,1,none⟩=some (.int .u64 x.bS):=by constructor <;> simp[World.cell?,s.bx]
theorem uM{P:Nat->Prop}(h0:P 0)(a:P 1)(g:P 2)(b:P 3)(c:P 4)(d:P 5)(f:P 6)(e:P 7):∀ k,k<8->P k
 | 0,_=>h0
 | 1,_=>a
 | 2,_=>g
 | 3,_=>b
 | 4,_=>c
 | 5,_=>d
 | 6,_=>f
 | 7,_=>e
 | _+8,h=>absurd h (by omega)
theorem SW.hd{w W sb lw x t h}(s:SW w W sb lw x t h)(k:Nat)(a:k<8):W.cell? ⟨sb,2+k,none⟩=some (.int .i64 (h k)):=by
 revert k
 apply uM <;> simp[World.cell?,s.bx]
def cO(h:Nat->Int)(k:Nat)(v:Int):Nat->Int:=fun j=>if j=k then v else h j
theorem SW.set{w W sb lw x t h}(s:SW w W sb lw x t h)(k:Nat)(b:k<8)(v:Int):SW w (W.setCell ⟨sb,2+k,none⟩ (.int .i64 v)) sb lw x t (cO h k v):=by
 have kp:Kt (fun y=>y=sb) W (W.setCell ⟨sb,2+k,none⟩ (.int .i64 v)):=(Kt.refl (fun y=>y=sb) W).setCell (p:=⟨sb,2+k,none⟩) rfl _;have a:=s.mg;refine⟨⟨(kp.block _ (lH s.pl.box) (fun e=>a (.inr (.inr (.inr e.symm))))).trans s.pl.box,s.pl.bd.kept kp (fun y hy e=>a ?_),s.pl.nw,s.pl.kp.em (p:=⟨sb,2+k,none⟩) (fun e=>absurd s.nw (Nat.not_le.2 e)) _⟩,?_,s.nw,s.tb⟩
 ·subst e;rcases hy with hy|hy|hy
  ·exact .inl hy
  ·exact .inr (.inl hy)
  ·exact .inr (.inr (.inl hy))
 ·rw[cD s.bx];revert k
  apply uM <;> intros <;> simp[cO]
theorem SW.fz{w W sb lw x t h}(s:SW w W sb lw x t h)(j:Nat):W.frozen? ⟨sb,j,none⟩=false:=by simp[World.frozen?,s.bx]
theorem tT(p bS:Nat)(hp:p<18446744073709551616)(hb:bS<18446744073709551616):IntKind.u64.wrap ((p:Int)-(bS:Int))=(((p+18446744073709551616-bS)%18446744073709551616:Nat):Int):=by rw[wrap_u64];omega
def aK(x:Bx)(p:Nat):Nat:=(p+18446744073709551616-x.bS)%18446744073709551616
theorem vA{w W sb lw x t h}(s:SW w W sb lw x t h)(p:Nat)(hp:p<18446744073709551616):Calls prog 211 #[.pointer (some ⟨sb,0,none⟩),.int .u64 p] W fun e a=>e=.returned (.int .i64 ((aK x p/4096:Nat):Int))/\a=W:=by
 obtain⟨c0,c1⟩:=s.c0;have hb:x.bS<18446744073709551616:=by have:=s.pl.bd.sp.cfg.be;omega
 have hw:=tT p x.bS hp hb;obtain⟨d,hd⟩:=xe ((p+18446744073709551616-x.bS)%18446744073709551616);rw[<-hd] at hw;rw[show aK x p=d from hd.symm];have c:d<18446744073709551616:=by rw[hd];exact Nat.mod_lt _ (by decide)
 obtain⟨q,hq⟩:=xe (d/4096);have f:(d:Int)/4096=(q:Int):=by omega
 have b:q<4503599627370496:=by omega
 rw[<-hq];clear hd s hb hp hq;go_enter func211,ntmps211;go_wp2_with fail;go_ret;exact⟨by simp,rfl⟩
def SD(w W:Wd)(sb lw:Nat)(x:Bx)(t:Bt)(h:Nat->Int)(m':Mp)(w':Wd):Prop:=SW w w' sb lw x { t with m:=m' } h/\Kt (aC x) W w'
theorem zkQ(m:Mp)(i a b:Int):(dZ m i a b).o=m.o:=by unfold dZ;split <;> rfl
theorem JF(m:Mp)(i a b:Int):(dZ m i a b).n=m.n:=by unfold dZ;split <;> rfl
theorem VA(m:Mp)(i c:Int)(l:Bool):(bU m i c l).o=m.o:=by unfold bU;split <;> rfl
theorem zkR(m:Mp)(i c:Int):(fU m i c).o=m.o:=by unfold fU;split <;> rfl
theorem ZD(m:Mp)(i c:Int):(jN m i c).o=m.o:=by unfold jN;split <;> rfl
theorem ZB(m:Mp)(i a b:Int):(cF m i a b).o=m.o:=by unfold cF;split <;> rfl
theorem pZ{w W sb lw x t h}(s:SW w W sb lw x t h)(i a b:Int):Calls prog 227 #[.pointer (some ⟨x.m,0,none⟩),.int .i64 i,.int .i64 a,.int .i64 b] W fun e c=>e=.returned (.int .i64 (nF t.m i a b))/\SD w W sb lw x t h (dZ t.m i a b) c:=by
 refine(zju x.m x.B t.m i a b W s.pl.bd.mp).mono ?_;rintro e c ⟨rfl,d,f⟩;exact⟨rfl,s.map d f (zkQ _ _ _ _)⟩
theorem AM{w W sb lw x t h}(s:SW w W sb lw x t h)(i c:Int)(l:Bool):Calls prog 165 #[.pointer (some ⟨x.m,0,none⟩),.int .i64 i,.int .i64 c,.bool l] W fun e a=>e=.returned (.int .i64 (eB t.m i c l))/\SD w W sb lw x t h (bU t.m i c l) a:=by
 refine(XQ x.m x.B t.m i c l W s.pl.bd.mp).mono ?_;rintro e a ⟨rfl,b,d⟩;exact⟨rfl,s.map b d (VA _ _ _ _)⟩
theorem sZ{w W sb lw x t h}(s:SW w W sb lw x t h)(i c:Int):Calls prog 214 #[.pointer (some ⟨x.m,0,none⟩),.int .i64 i,.int .i64 c] W fun e a=>e=.returned (.int .i64 (kN t.m i c))/\SD w W sb lw x t h (fU t.m i c) a:=by
 refine(zjt x.m x.B t.m i c W s.pl.bd.mp).mono ?_;rintro e a ⟨rfl,b,d⟩;exact⟨rfl,s.map b d (zkR _ _ _)⟩
theorem UZ{w W sb lw x t h}(s:SW w W sb lw x t h)(i c:Int):Calls prog 212 #[.pointer (some ⟨x.m,0,none⟩),.int .i64 i,.int .i64 c] W fun e a=>e=.returned (.int .i64 (pO t.m i c))/\SD w W sb lw x t h (jN t.m i c) a:=by
 refine(ZO x.m x.B t.m i c W s.pl.bd.mp).mono ?_;rintro e a ⟨rfl,b,d⟩;exact⟨rfl,s.map b d (ZD _ _ _)⟩
theorem RD{w W sb lw x t h}(s:SW w W sb lw x t h)(p o k:Int):Calls prog 175 #[.pointer (some ⟨x.m,0,none⟩),.int .i64 p,.int .i64 o,.int .i64 k] W fun e a=>e=.returned (.int .i64 (fM t.m p o k))/\SD w W sb lw x t h (cF t.m p o k) a:=by
 refine(DW x.m x.B t.m p o k W s.pl.bd.mp).mono ?_;rintro e a ⟨rfl,b,c⟩;exact⟨rfl,s.map b c (ZB _ _ _ _)⟩
theorem gB{W:Wd}{y:Nat}{p:Pg}(h:W.heap[y]?=some (aO p)):W.cell? ⟨y,0,none⟩=some (.int .i64 p.kd)/\W.cell? ⟨y,1,none⟩=some (.int .i64 p.od)/\W.cell? ⟨y,2,none⟩=some (.int .i64 p.cl)/\W.cell? ⟨y,3,none⟩=some (.int .i64 p.lv)/\W.cell? ⟨y,4,none⟩=some (.int .i64 p.nx)/\W.cell? ⟨y,5,none⟩=some (.int .i64 p.pv)/\W.cell? ⟨y,6,none⟩=some (.int .i64 p.fs)/\W.cell? ⟨y,7,none⟩=some (.int .u64 p.b0)/\W.cell? ⟨y,8,none⟩=some (.int .u64 p.b1)/\W.cell? ⟨y,9,none⟩=some (.int .u64 p.b2)/\W.cell? ⟨y,10,none⟩=some (.int .u64 p.b3):=by refine⟨?_,?_,?_,?_,?_,?_,?_,?_,?_,?_,?_⟩ <;> simp[World.cell?,h]
def iW(m:Mp)(i p:Int):Mp:=dZ m i (cL m i).nx p
def pC(m:Mp)(i n:Int):Mp:=dZ m i n (cL m i).pv
theorem KM{w W sb lw x t h}(s:SW w W sb lw x t h)(i p:Int):Calls prog 228 #[.pointer (some ⟨sb,0,none⟩),.int .i64 i,.int .i64 p] W fun e c=>e=.returned (.tuple #[])/\SD w W sb lw x t h (iW t.m i p) c:=by
 obtain⟨q,hq⟩:=xe (cL t.m i);have D:=aA (show Calls prog 45 #[.pointer (some ⟨x.m,0,none⟩),.int .i64 i] W fun e c=>e=.returned (.tuple #[cA q,.bool (aD t.m.n i)])/\Kt nO W c from by rw[hq];exact jB x.m x.B t.m i W s.pl.bd.mp);have v:=aA (bR s.pl);rw[show iW t.m i p=dZ t.m i q.nx p by rw[hq];rfl];have H:=aA s;obtain⟨c0,c1⟩:=s.c0;clear s hq;generalize aD t.m.n i=r at *;go_enter func228,ntmps228;go_wp2_with fail;refine v.o.mono ?_;rintro e P ⟨rfl,f⟩;replace f:=f.symm;subst f;go_wp2_with fail;refine D.o.mono ?_;rintro e d ⟨rfl,k⟩;have o:=aA (k.alloc (aO q));have u:=aA (nH d (aO q));have F:=aA (H.o.dk o.o);have K:=aA (show ¬aC x d.heap.size from fun e=>absurd ((H.o.dk k).pl.lt _ (.inl e)) (de _));clear k c0 c1;go_upto_region 1 with fail;generalize d.heap.size=y at *;generalize d.alloc (aO q)=A at *;have j:=aA ((kz A).drew);have l:=aA (F.o.dk j.o);obtain⟨c0,c1⟩:=l.o.c0;have G:=aA ((j.o.block _ (lH u.o) id).trans u.o);obtain⟨_,_,_,_,C,_⟩:=gB G.o;have E:=aA (bR l.o.pl);have z:=aA (pZ l.o i q.nx p);go_region_held3 (fun c=>c.cell? ⟨sb,0,none⟩=some (.pointer (some ⟨lw,0,none⟩))/\c.cell? ⟨y,4,none⟩=some (.int .i64 q.nx)) ((refine⟨?_,?_⟩ <;> first|with_reducible assumption|fail)) (first
  | (go_at_call 227;(with_reducible refine z.o.mono ?_);rintro e J ⟨rfl,a,b⟩;obtain⟨L,R⟩:=a.c0;have N:=b.cell K.o C;have I:=aA (show SD w W sb lw x t h (dZ t.m i q.nx p) J from⟨a,(o.o.trans j.o (fun _ _ e=>e) (fun _ _ e=>e)).trans b (fun _ _ e=>e.elim) (fun _ _ e=>e)⟩);clear a b)
  | (go_at_call 38;(with_reducible refine E.o.mono ?_);rintro e Q ⟨rfl,g⟩;replace g:=g.symm;subst g)
  | fail)
 all_goals
  go_wp2_with fail;exact⟨rfl,.tuple #[],by simp[results,results228,go_sem],rfl,I.o⟩
theorem ziQ{w W sb lw x t h}(s:SW w W sb lw x t h)(i n:Int):Calls prog 246 #[.pointer (some ⟨sb,0,none⟩),.int .i64 i,.int .i64 n] W fun e c=>e=.returned (.tuple #[])/\SD w W sb lw x t h (pC t.m i n) c:=by
 obtain⟨q,hq⟩:=xe (cL t.m i);have C:=aA (show Calls prog 45 #[.pointer (some ⟨x.m,0,none⟩),.int .i64 i] W fun e c=>e=.returned (.tuple #[cA q,.bool (aD t.m.n i)])/\Kt nO W c from by rw[hq];exact jB x.m x.B t.m i W s.pl.bd.mp);have u:=aA (bR s.pl);rw[show pC t.m i n=dZ t.m i n q.pv by rw[hq];rfl];have H:=aA s;obtain⟨c0,c1⟩:=s.c0;clear s hq;generalize aD t.m.n i=r at *;go_enter func246,ntmps246;go_wp2_with fail;refine u.o.mono ?_;rintro e N ⟨rfl,f⟩;replace f:=f.symm;subst f;go_wp2_with fail;refine C.o.mono ?_;rintro e d ⟨rfl,k⟩;have o:=aA (k.alloc (aO q));have p:=aA (nH d (aO q));have E:=aA (H.o.dk o.o);have J:=aA (show ¬aC x d.heap.size from fun e=>absurd ((H.o.dk k).pl.lt _ (.inl e)) (de _));clear k c0 c1;go_upto_region 1 with fail;generalize d.heap.size=y at *;generalize d.alloc (aO q)=z at *;have j:=aA ((kz z).drew);have l:=aA (E.o.dk j.o);obtain⟨c0,c1⟩:=l.o.c0;have F:=aA ((j.o.block _ (lH p.o) id).trans p.o);obtain⟨_,_,_,_,_,A,_⟩:=gB F.o;have D:=aA (bR l.o.pl);have v:=aA (pZ l.o i n q.pv);go_region_held3 (fun c=>c.cell? ⟨sb,0,none⟩=some (.pointer (some ⟨lw,0,none⟩))/\c.cell? ⟨y,5,none⟩=some (.int .i64 q.pv)) ((refine⟨?_,?_⟩ <;> first|with_reducible assumption|fail)) (first
  | (go_at_call 227;(with_reducible refine v.o.mono ?_);rintro e I ⟨rfl,a,b⟩;obtain⟨K,Q⟩:=a.c0;have L:=b.cell J.o A;have G:=aA (show SD w W sb lw x t h (dZ t.m i n q.pv) I from⟨a,(o.o.trans j.o (fun _ _ e=>e) (fun _ _ e=>e)).trans b (fun _ _ e=>e.elim) (fun _ _ e=>e)⟩);clear a b)
  | (go_at_call 38;(with_reducible refine D.o.mono ?_);rintro e P ⟨rfl,g⟩;replace g:=g.symm;subst g)
  | fail)
 all_goals
  go_wp2_with fail;exact⟨rfl,.tuple #[],by simp[results,results246,go_sem],rfl,G.o⟩
def bM(x:Bx)(sb:Nat):Nat->Prop:=fun y=>aC x y\/y=sb
def SE(w W:Wd)(sb lw:Nat)(x:Bx)(t:Bt)(m':Mp)(h':Nat->Int)(w':Wd):Prop:=SW w w' sb lw x { t with m:=m' } h'/\Kt (bM x sb) W w'
def eA(m:Mp)(h:Nat->Int)(p:Int)(c:Nat):Mp:=iW (dZ m p (h c) (-1)) (h c) p
theorem AJ{w W sb lw x t h}(s:SW w W sb lw x t h)(p:Int)(c:Nat)(hc:c<8):Calls prog 168 #[.pointer (some ⟨sb,0,none⟩),.int .i64 p,.int .i64 c] W fun e o=>e=.returned (.tuple #[])/\SE w W sb lw x t (eA t.m h p c) (cO h c p) o:=by
 have H:=aA s;have j:=aA (bR s.pl);have g:=aA (pZ s p (h c) (-1));obtain⟨c0,c1⟩:=s.c0;have ch:=s.hd c hc;have n:(c:Int)<8:=by omega
 clear s;rw[show eA t.m h p c=iW (dZ t.m p (h c) (-1)) (h c) p from rfl];obtain⟨z,hz⟩:=xe (h c);rw[<-hz] at ch g ⊢;clear hz;go_enter func168,ntmps168;go_wp2_with fail;refine j.o.mono ?_;rintro e u ⟨rfl,i⟩;replace i:=i.symm;subst i;go_wp2_with fail;refine g.o.mono ?_;rintro e y ⟨rfl,b,f⟩;have v:=aA b;have l:=aA f;have k:=aA (KM b z p);clear b f c0 c1 ch g j;go_wp2_with fail;refine k.o.mono ?_;rintro e q ⟨rfl,a,d⟩;have A:=aA a;have r:=a.fz (2+c);have D:=aA (show SE w W sb lw x t (iW (dZ t.m p z (-1)) z p) (cO h c p) (q.setCell ⟨sb,2+c,none⟩ (.int .i64 p))from⟨a.set c hc p,((l.o.trans d (fun _ _ e=>e) (fun _ _ e=>e)).mono (fun _ _ e=>.inl e)).setCell (p:=⟨sb,2+c,none⟩) (.inr rfl) _⟩);have c3:=a.hd c hc;clear a d k;go_wp2_with fail;exact⟨rfl,.tuple #[],by simp[results,results168,go_sem],rfl,D.o⟩
def gS(m:Mp)(p:Int):Mp:=dZ (if (cL m p).pv = -1 then iW m (cL m p).nx (cL m p).pv else pC (iW m (cL m p).nx (cL m p).pv) (cL m p).pv (cL m p).nx) p (-1) (-1)
def gT(m:Mp)(h:Nat->Int)(p:Int)(c:Nat):Nat->Int:=if (cL m p).pv = -1 then cO h c (cL m p).nx else h
theorem JD{w W sb lw x t h}(s:SW w W sb lw x t h)(p:Int)(c:Nat)(hc:c<8):Calls prog 217 #[.pointer (some ⟨sb,0,none⟩),.int .i64 p,.int .i64 c] W fun e J=>e=.returned (.tuple #[])/\SE w W sb lw x t (gS t.m p) (gT t.m h p c) J:=by
 obtain⟨q,hq⟩:=xe (cL t.m p);have HA:=aA (show Calls prog 45 #[.pointer (some ⟨x.m,0,none⟩),.int .i64 p] W fun e J=>e=.returned (.tuple #[cA q,.bool (aD t.m.n p)])/\Kt nO W J from by rw[hq];exact jB x.m x.B t.m p W s.pl.bd.mp);have HM:=aA (bR s.pl);obtain⟨m2,d⟩:=xe (gS t.m p);obtain⟨X,f⟩:=xe (gT t.m h p c);rw[<-d,<-f];unfold gS at d;unfold gT at f;rw[<-hq] at d f;have u:=aA d;have v:=aA f;have H:=aA s;obtain⟨c0,c1⟩:=s.c0;have a0:(c:Int)<8:=by omega
 clear s hq d f;generalize aD t.m.n p=r at *;go_enter func217,ntmps217;go_wp2_with fail;refine HM.o.mono ?_;rintro e w1 ⟨rfl,I⟩;replace I:=I.symm;subst I;go_wp2_with fail;refine HA.o.mono ?_;rintro e z ⟨rfl,F⟩;have V:=aA (F.alloc (aO q));have L:=aA (nH z (aO q));have H2:=aA (H.o.dk V.o);have NY:=aA (show ¬aC x z.heap.size from fun e=>absurd ((H.o.dk F).pl.lt _ (.inl e)) (de _));have NS:=aA (show sb≠z.heap.size from fun e=>absurd (lH (H.o.dk F).bx) (by rw[e];exact de _));clear F c0 c1;go_upto_region 1 with fail;generalize z.heap.size=y at *;generalize z.alloc (aO q)=W2 at *;obtain⟨_,_,_,_,C,E,_⟩:=gB L.o;have SP:=aA (KM H2.o q.nx q.pv);go_wp2_with fail;refine SP.o.mono ?_;rintro e R ⟨rfl,l,j⟩;have A:=aA l;have Y:=aA (V.o.trans j (fun _ _ e=>e.elim) (fun _ _ e=>e));have P:=aA ((j.block _ (lH L.o) NY.o).trans L.o);clear l j SP C E;obtain⟨_,_,_,_,C,E,_⟩:=gB P.o;by_cases a:q.pv = -1
 ·have hb:(q.pv == -1)=true:=by rw[a];rfl
  have fz:=A.o.fz (2+c);have c3:=A.o.hd c hc;as_aux_lemma=>
   go_upto_region 3 with fail;have KD:=aA ((kz R).drew);have T:=aA (A.o.dk KD.o);have X4:=aA ((KD.o.block _ (lH P.o) id).trans P.o);have d4:=(gB X4.o).2.2.2.2.1;have d3:=T.o.hd c hc;have N:=T.o.fz (2+c);go_region
   all_goals
    have Q:=aA ((A.o.set c hc q.nx).dk ((kz _).drew));have K5:=aA (show Kt (bM x sb) W (R.setCell ⟨sb,2+c,none⟩ (.int .i64 q.nx)).drew from((Y.o.mono (fun _ _ e=>.inl e)).setCell (S:=bM x sb) (p:=⟨sb,2+c,none⟩) (.inr rfl) _).drew);generalize (R.setCell ⟨sb,2+c,none⟩ (.int .i64 q.nx)).drew=W5 at *;have K:=aA (bR Q.o.pl);have G:=aA (pZ Q.o p (-1) (-1));clear C E d4 d3 N fz c3;obtain⟨c0,c1⟩:=Q.o.c0;go_wp2_with fail;refine K.o.mono ?_;rintro e w6 ⟨rfl,k⟩;replace k:=k.symm;subst k;go_wp2_with fail;refine G.o.mono ?_;rintro e U ⟨rfl,g,b⟩;have D:=aA (show SE w W sb lw x t m2 X U from by rw[u.o,v.o,ae a,ae a];exact⟨g,K5.o.trans b (fun _ _ e=>e) (fun _ _ e=>.inl e)⟩)
    clear g b;go_wp2_with fail;exact⟨rfl,.tuple #[],by simp[results,results217,go_sem],rfl,D.o⟩
 ·have hb:(q.pv == -1)=false:=by rw[ag];exact a
  have Z:=aA (ziQ A.o q.pv q.nx);as_aux_lemma=>
   go_wp2_with fail;refine Z.o.mono ?_;rintro e w4 ⟨rfl,i,o⟩;have T:=aA i;have K4:=aA (Y.o.trans o (fun _ _ e=>e) (fun _ _ e=>e));have K:=aA (bR i.pl);have G:=aA (pZ i p (-1) (-1));obtain⟨c0,c1⟩:=i.c0;clear i o Z C E;go_wp2_with fail;refine K.o.mono ?_;rintro e w6 ⟨rfl,k⟩;replace k:=k.symm;subst k;go_wp2_with fail;refine G.o.mono ?_;rintro e U ⟨rfl,g,b⟩;have D:=aA (show SE w W sb lw x t m2 X U from by rw[u.o,v.o,ac a,ac a];exact⟨g,(K4.o.trans b (fun _ _ e=>e) (fun _ _ e=>e)).mono (fun _ _ e=>.inl e)⟩)
   clear g b;go_wp2_with fail;exact⟨rfl,.tuple #[],by simp[results,results217,go_sem],rfl,D.o⟩
def aB(k:Nat):Nat:=16*2 ^ k
theorem cM{k:Nat}(h:k<8) : 16<=aB k/\aB k<=2048:=by
 revert k
 unfold aB;decide
theorem EK{w W sb lw x t h}(s:SW w W sb lw x t h)(c:Nat)(hc:c<8):Calls prog 167 #[.int .i64 c] W fun e g=>e=.returned (.int .i64 ((256/2 ^ c:Nat):Int))/\g=W:=by
 have j:=s.kw c hc;have f:(c:Int)<8:=by omega
 obtain⟨z,hz⟩:=xe (16*2 ^ c);have b:=cM hc;unfold aB at b;rw[<-hz] at j b;have hq : 4096/z=256/2 ^ c:=by rw[hz,show 4096=16*256 from rfl,Nat.mul_div_mul_left _ _ (by decide)]
 obtain⟨q,a⟩:=xe (256/2 ^ c);rw[<-a] at hq ⊢;have l:(4096:Int)/(z:Int)=q:=by rw[<-hq];rfl
 have i:q<=256:=by rw[a];exact dg _ _
 have d:¬(z:Int)=0:=by omega
 have k:((z:Int) == 0)=false:=by rw[ag];exact d
 clear s hq a hz;go_enter func167,ntmps167;go_wp2_with fail;go_ret;exact⟨by simp,rfl⟩
def aM(x:Bx)(p k n:Nat):Nat:=x.bS+4096*p+n*aB k
theorem xH{w W sb lw x t h}(s:SW w W sb lw x t h)(p c n:Nat)(hp:p<=1024)(hc:c<8)(D:n<=256):Calls prog 215 #[.pointer (some ⟨sb,0,none⟩),.int .i64 p,.int .i64 c,.int .i64 n] W fun e F=>e=.returned (.int .u64 ((aM x p c n:Nat):Int))/\Kt nO W F:=by
 obtain⟨c0,c1⟩:=s.c0;have C:=s.kw c hc;have hb:x.bS<=9223372036854775808:=by have:=s.pl.bd.sp.cfg.be;omega
 have E:(c:Int)<8:=by omega
 obtain⟨z,hz⟩:=xe (16*2 ^ c);have d:=cM hc;unfold aB at d;rw[<-hz] at C d;obtain⟨i,a⟩:=xe (n*z);have u:(n:Int)*(z:Int)=i:=by rw[a];simp
 have o:i<=524288:=by rw[a];exact Nat.mul_le_mul D d.2
 obtain⟨f,l⟩:=xe (p*4096);have q:(p:Int)*4096=(f:Int):=by omega
 have r:f<=4194304:=by omega
 obtain⟨bs,b⟩:=xe (x.bS);rw[<-b] at c1 hb;obtain⟨g,m⟩:=xe (bs+f);have B:(bs:Int)+(f:Int)=g:=by omega
 have v:g<=9223372036859000000:=by omega
 obtain⟨j,k⟩:=xe (g+i);have A:(g:Int)+(i:Int)=j:=by omega
 have y:j<=9223372036859600000:=by omega
 have e:aM x p c n=j:=by unfold aM aB;rw[<-hz,<-a,<-b];omega
 rw[e];clear s hz a l b m k e;go_enter func215,ntmps215;have I:IntKind.u64.wrap (p:Int)=p:=by rw[wrap_u64];omega
 have K:IntKind.u64.wrap (n:Int)=n:=by rw[wrap_u64];omega
 have J:IntKind.u64.wrap (f:Int)=f:=by rw[wrap_u64];omega
 have G:IntKind.u64.wrap (g:Int)=g:=by rw[wrap_u64];omega
 have L:IntKind.u64.wrap (i:Int)=i:=by rw[wrap_u64];omega
 have N:IntKind.u64.wrap (j:Int)=j:=by rw[wrap_u64];omega
 go_upto_region 1 with fail;go_quiet (fail)
 go_wp2_with fail;go_ret;exact⟨by simp,(kz _).drewN _⟩
end Go.Proofs.YtfmgnljlkdmndaaGreatDoor
