import Derived.Test.YtkfmheelhinjdaaGreatDoorXi
import Derived.Test.YtkfmheelhinjdaaGreatDoorXj
import Derived.Test.YtkfmheelhinjdaaGreatDoorXk
import Derived.Test.YtkfmheelhinjdaaGreatDoorXm
set_option maxRecDepth 1000000
set_option maxHeartbeats 80000000
namespace Go.Proofs.YtkfmheelhinjdaaGreatDoor
open _root_.Go.Proofs.Tryz
open Go.RowKit
set_option linter.unusedVariables false
theorem BdAt.space{w w' x t}{a':Option Nat}{n':Nat}{f':Nat->Nat}(h:BdAt w x t)(k:Kt (M.own x.s x.a) w w')(hs:M.SpA w' x.s a' x.bS x.R x.lim n' f'):BdAt w' { x with a:=a',n:=n' } { t with f:=f' }:=by
 have nb:=h.nb;have nl:=h.nl;refine⟨hs,h.mp.kept k (fun y hy e=>sM h.mp h.sp hy e),fun i hi=>(h.ls i hi).kept (jC k) (fun e=>GK h.sp (h.ls i hi) e),(k.block _ (lH h.bs) (fun e=>nb (.inl e))).trans h.bs,?_,h.mo,h.iL,h.hR⟩;obtain⟨cs,hl,hc⟩:=h.lr;exact⟨cs,(k.block _ (lH hl) (fun e=>nl (.inl e))).trans hl,hc⟩
theorem BdAt.grow{w w' x t}{B':Bs}{m':Mp}(h:BdAt w x t)(k:Kt (aP x.m x.B t.m.o) w w')(hm:MpA w' x.m B' m')(ho:m'.o=t.m.o):BdAt w' { x with B:=B' } { t with m:=m' }:=by
 have nb:=h.nb;have nl:=h.nl;refine⟨h.sp.kept (jC k) (fun y hy e=>sM h.mp h.sp e hy),hm,fun i hi=>(h.ls i hi).kept (jC k) (fun e=>vD h.mp (h.ls i hi) e),(k.block _ (lH h.bs) (fun e=>nb (.inr (.inl (h.mo▸e))))).trans h.bs,?_,ho.trans h.mo,h.iL,h.hR⟩;obtain⟨cs,hl,hc⟩:=h.lr;exact⟨cs,(k.block _ (lH hl) (fun e=>nl (.inr (.inl (h.mo▸e))))).trans hl,hc⟩
theorem VF(m:Mp):(cL m).o=m.o:=by unfold cL;split <;> rfl
theorem VE{m:Mp}{o:Nat}(ho:m.o=o)(h:m.n+2 ^ o<=1024):(cL m).n=m.n+2 ^ o:=by
 subst ho;unfold cL;rw[if_neg (by show ¬ 1024<m.n+2 ^ m.o;omega)];rfl
theorem lA{W:World}{y:Nat}{cs cs':Array Value}{a b:TypeId}{z z':Nat×Nat}(h:W.heap[y]?=some (.cells cs a z))(h':W.heap[y]?=some (.cells cs' b z')):a=b:=by
 rw[h] at h';injection h' with h'
 injection h' with _ h'
theorem YI{w x t}(h:BdAt w x t):(∀ k,k<x.o->∀ i,(t.m.wd k).getD i 0<2 ^ 64)/\∀ k,k<x.o->∀ j,t.m.n/2 ^ (k+1)<=j->aC (t.m.wd k) j=false:=
 ⟨fun k hk=>(DB (h.mp.set k (by rw[h.mo];exact hk))).1,fun k hk=>(DB (h.mp.set k (by rw[h.mo];exact hk))).2⟩
theorem Sn.top{x t L}(s:Sn x t L)(hn:oD x t):t.m.n=bB x+2 ^ x.o/\bB x%2 ^ x.o=0:=by
 obtain⟨fr,B,s,hN,hL⟩:=s;obtain⟨r,hr⟩:=s.dv;obtain⟨h1,h2⟩:=hn;have h3:x.n/4096=t.m.n:=by omega
 have hr1 : 1<=r:=by
  rcases Nat.eq_zero_or_pos r with e|e
  ·rw[e,Nat.zero_mul] at hr;omega
  ·exact e
 have h4:r*2 ^ x.o=(r-1)*2 ^ x.o+2 ^ x.o:=by
  rw[show r=(r-1)+1 by omega,Nat.add_mul,Nat.one_mul];rfl
 have h5:bB x=(r-1)*2 ^ x.o:=by unfold bB;omega
 exact⟨by omega,by rw[h5];exact Nat.mul_mod_left _ _⟩
def oB(ls:List (Nat×Nat))(pg:Nat):List (Nat×Nat):=ls.filter fun r=>decide (r.1≠pg)
def cO(fr:Nat->List Nat)(pg frm tt:Nat):Nat->List Nat:=fun j=>if tt<=j/\j<frm then (pg+2 ^ j) :: fr j else fr j
def pH(o:Nat)(fr:Nat->List Nat)(p k:Nat):Nat->List Nat:=cF (cZ o (o-k) fr p k).1 (cZ o (o-k) fr p k).2.2 ((cZ o (o-k) fr p k).2.1 :: (cZ o (o-k) fr p k).1 (cZ o (o-k) fr p k).2.2)
def Sf(x:Bx)(t:Bt)(fr:Nat->List Nat)(ls:List (Nat×Nat)):Prop:=∃ B,Sd x t fr B/\(∀ q i,¬B 9 q i)/\∀ q i,B 2 q i↔(q,i)∈ls
theorem Sf.sn{x t fr ls}(s:Sf x t fr ls):Sn x t (fun q i=>(q,i)∈ls):=by
 obtain⟨B,h⟩:=s;exact⟨fr,B,h⟩
theorem Sf.one{x t fr ls}(s:Sf x t fr ls){p k i:Nat}(h1:(p,k)∈ls)(h2:(p,i)∈ls):i=k:=by
 have hz : 0<2 ^ k:=Nat.pow_pos (by decide);have hz2 : 0<2 ^ i:=Nat.pow_pos (by decide);rcases s.sn.apart h1 h2 with e|e|e <;> omega
theorem zii{ls:List (Nat×Nat)}{p q i:Nat} : (q,i)∈oB ls p↔(q,i)∈ls/\q≠p:=by
 unfold oB;rw[List.mem_filter];simp
theorem Sf.drop_iff{x t fr ls}(s:Sf x t fr ls){p k:Nat}(h:(p,k)∈ls)(q i:Nat):((q,i)∈ls/\¬(q=p/\i=k))↔(q,i)∈oB ls p:=by
 rw[zii];constructor
 ·rintro ⟨h1,h2⟩;exact⟨h1,fun e=>h2 ⟨e,s.one h (e▸h1)⟩⟩
 ·rintro ⟨h1,h2⟩;exact⟨h1,fun e=>h2 e.1⟩
theorem uS{ls:List (Nat×Nat)}{p k q i:Nat} : (q,i)∈ls ++ [(p,k)]↔(q,i)∈ls\/(q=p/\i=k):=by
 rw[List.mem_append,List.mem_singleton,Prod.mk.injEq]
theorem Sf.pout{x t fr ls}(s:Sf x t fr ls){p:Nat}(h:t.m.n<=p):x.P p=none:=by
 obtain⟨B,s,_⟩:=s
 cases hP:x.P p with
 | none=>rfl
 | some q=>
  have:=(s.al _ _ _ (s.vs p q hP).1).2.2;omega
theorem Sf.pfree{x t fr ls}(s:Sf x t fr ls){p k:Nat}(hk:k<=x.o)(h:p∈fr k):x.P p=none:=by
 obtain⟨B,s,_⟩:=s;exact s.pn9 ((s.fi p k).2 ⟨hk,h⟩) (by decide) p (Nat.le_refl _) (by have : 0<2 ^ k:=Nat.pow_pos (by decide);omega)
theorem Sf.pslab{x t fr ls}(s:Sf x t fr ls){p:Nat}{q:Pg}(h:x.P p=some q):(p,0)∈ls/\q.kd=4/\p<t.m.n/\t.m.pg p=q:=by
 obtain⟨B,s,_,hL⟩:=s;have hv:=s.vs p q h;have ha:=(s.al _ _ _ hv.1).2.2;have hp:=s.pg _ _ _ hv.1 (by decide) p (Nat.le_refl _) (by omega);rw[h,Option.getD_some] at hp;exact⟨(hL p 0).1 hv.1,hv.2,by omega,hp⟩
theorem wordTo_congr(f g:Nat->Nat):∀ k,(∀ i,i<k->f i=g i)->M.wordTo f k=M.wordTo g k
 | 0,_=>rfl
 | k+1,h=>by rw[M.wordTo,M.wordTo,wordTo_congr f g k (fun i hi=>h i (by omega)),h k (by omega)]
theorem Sd.bytes{x t fr B}(s:Sd x t fr B){f':Nat->Nat}(h:∀ q j,B 0 q j->∀ i,i<16->f' (4096*q+i)=t.f (4096*q+i)):Sd x { t with f:=f' } fr B:=by
 refine⟨s.mo,s.o8,s.dv,s.nb,s.n1,s.b1,s.b2,s.tg,s.fi,s.al,s.ds,s.cv,s.pg,fun k hk=>(s.ch k hk).congr fun c hc=>?_,s.wl,s.bt,s.nm,s.vs⟩;obtain⟨q,hq,rfl⟩:=List.mem_map.1 hc;have hb:=h q k ((s.fi q k).2 ⟨hk,hq⟩);have e1:ad x q-x.bS=4096*q:=by unfold ad;omega
 have e2:ad x q+8-x.bS=4096*q+8:=by unfold ad;omega
 constructor
 ·show M.nx x.bS f' (ad x q)=M.nx x.bS t.f (ad x q)
  unfold M.nx M.word;rw[e1];exact wordTo_congr _ _ 8 fun i hi=>hb i (by omega)
 ·show M.pv x.bS f' (ad x q)=M.pv x.bS t.f (ad x q)
  unfold M.pv M.word;rw[e2];exact wordTo_congr _ _ 8 fun i hi=>by have:=hb (8+i) (by omega);rw[<-Nat.add_assoc] at this;exact this
theorem Sf.grow{w x t fr ls}(s:Sf x t fr ls)(h:BdAt w x t)(x':Bx)(hP:x'.P=x.P)(ho:x'.o=x.o)(hb:x'.bS=x.bS)(hn:x'.n=x.n+x.R)(h63:x.bS+x'.n<=9223372036854775808)(hg:t.m.n+2 ^ x.o<=1024):
  Sf x' ⟨M.more t.f x.n,cL t.m,t.hd⟩ fr (ls ++ [(t.m.n,x.o)]):=by
 obtain⟨hz,hp⟩:=YI h;have hR:=h.hR;obtain⟨B,s,hN,hL⟩:=s;have hnb:=s.nb;refine⟨nP B 2 t.m.n x.o,s.grow x' hP ho hb (by rw[hn,hR,Nat.add_mul,Nat.mul_comm (2 ^ x.o)];exact Nat.add_le_add_right hnb _) h63 hg _ (fun i hi=>?_) hz hp,?_,?_⟩
 ·unfold M.more;rw[if_pos (by omega)]
 ·rintro q i (h|⟨e,_⟩)
  ·exact hN q i h
  ·omega
 ·intro q i;rw[uS];unfold nP;rw[hL];constructor
  ·rintro (h|⟨_,h⟩)
   ·exact .inl h
   ·exact .inr h
  ·rintro (h|h)
   ·exact .inl h
   ·exact .inr ⟨rfl,h⟩
theorem Sf.fill{x t fr ls}(s:Sf x t fr ls){p k:Nat}(hl:(p,k)∈ls){f':Nat->Nat}(h:∀ i,¬(4096*p<=i/\i<4096*(p+2 ^ k))->f' i=t.f i):Sf x { t with f:=f' } fr ls:=by
 obtain⟨B,s,hN,hL⟩:=s;refine⟨B,s.bytes fun q j hb i hi=>h _ fun e=>?_,hN,hL⟩;have hz : 0<2 ^ j:=Nat.pow_pos (by decide);rcases s.ds _ _ _ _ _ _ hb ((hL p k).2 hl)with ⟨e1,_⟩|e1|e1 <;> omega
theorem Sf.new(x:Bx)(f:Nat->Nat)(hP:x.P=fun _=>none)(ho:x.o<=8)(hb : 1<=x.bS)(h63:x.bS+x.n<=9223372036854775808):Sf x ⟨f,bX x.o,fun _=>0⟩ (fun _=>[]) []:=by
 refine⟨fun _ _ _=>False,⟨rfl,ho,⟨0,by simp[bX]⟩,by simp[bX],by simp[bX],hb,h63,fun _ _ _ h=>h.elim,fun p k=>⟨fun h=>h.elim,fun h=>by cases h.2⟩,fun _ _ _ h=>h.elim,fun _ _ _ _ _ _ h=>h.elim,fun i hi=>absurd hi (Nat.not_lt_zero _),fun _ _ _ h=>h.elim,fun k hk=>M.Chn.nil _ _ _,fun k hk=>?_,fun k hk i hi=>?_,fun k hk i h=>(by cases h.1),fun p q h=>(by rw[hP] at h;cases h)⟩,fun _ _ h=>h,fun _ _=>⟨fun h=>h.elim,fun h=>by cases h⟩⟩
 ·show 0=(0/2 ^ (k+1)+63)/64
  rw[Nat.zero_div]
 ·have hi:i<0/2 ^ (k+1):=hi;rw[Nat.zero_div] at hi;omega
theorem Sf.congr{x t fr fr' ls}(s:Sf x t fr ls)(h:∀ k,k<=x.o->fr' k=fr k):Sf x t fr' ls:=by
 obtain⟨B,s,hN,hL⟩:=s;refine⟨B,⟨s.mo,s.o8,s.dv,s.nb,s.n1,s.b1,s.b2,s.tg,fun p k=>?_,s.al,s.ds,s.cv,s.pg,fun k hk=>by rw[h k hk];exact s.ch k hk,s.wl,fun k hk=>?_,fun k hk=>?_,s.vs⟩,hN,hL⟩
 ·rw[s.fi];constructor
  ·exact fun e=>⟨e.1,by rw[h k e.1];exact e.2⟩
  ·exact fun e=>⟨e.1,by rw[<-h k e.1];exact e.2⟩
 ·rw[h k (Nat.le_of_lt hk)];exact s.bt k hk
 ·rw[h k (Nat.le_of_lt hk)];exact s.nm k hk
abbrev xC(x:Bx):Obj:=.cells #[.pointer (some ⟨x.s,0,none⟩),.pointer (some ⟨x.m,0,none⟩),.pointer (some ⟨x.b,0,none⟩)] 84
structure Pol(w W:World)(lw:Nat)(x:Bx)(t:Bt):Prop where
 box:W.heap[lw]?=some (xC x)
 bd:BdAt W x t
 nw:∀ y,aF x y\/y=x.b\/y=x.l\/y=lw->w.heap.size<=y
 kp:Kt nO w W
theorem Pol.nlw{w W lw x t}(h:Pol w W lw x t):¬aF x lw:=by
 rintro (hx|hx|⟨k,hk,e⟩)
 ·obtain⟨cs,t',z,h1,h2⟩:=nK h.bd.sp hx;rw[h.box] at h1
  cases h1
  rcases h2 with e|e <;> exact absurd e (by decide)
 ·rw[<-h.bd.mo] at hx;obtain⟨cs,t',z,h1,h2⟩:=nF h.bd.mp hx;rw[h.box] at h1
  cases h1
  rcases h2 with e|e|e|e|e <;> exact absurd e (by decide)
 ·exact absurd e (bR h.box (h.bd.ls k hk).hc (by decide))
theorem Pol.call{w W W' lw x t t'}(h:Pol w W lw x t)(hb:BdAt W' x t')(k:Kt (aF x) W W'):Pol w W' lw x t':=
 ⟨(k.block _ (lH h.box) h.nlw).trans h.box,hb,h.nw,h.kp.trans k (fun _ _ e=>e) (fun y hy e=>absurd (h.nw y (.inl e)) (by omega))⟩
theorem Pol.keep{w W W' lw x t}(h:Pol w W lw x t)(k:Kt nO W W'):Pol w W' lw x t:=h.call (h.bd.keep k) (lG k)
theorem Pol.space{w W W' lw x t}{g' n':Nat}{f':Nat->Nat}(h:Pol w W lw x t)(k:Kt (M.own x.s x.a) W W')(hs:M.SpA W' x.s (some g') x.bS x.R x.lim n' f')(hg:x.a=some g'\/W.heap.size<=g'):Pol w W' lw { x with a:=some g',n:=n' } { t with f:=f' }:=by
 refine⟨(k.block _ (lH h.box) (fun e=>h.nlw (.inl e))).trans h.box,h.bd.space k hs,?_,h.kp.trans k (fun _ _ e=>e) (fun y hy e=>absurd (h.nw y (.inl (.inl e))) (by omega))⟩;have hz:=h.kp.size;rintro y (hy|rfl|rfl|rfl)
 ·rcases hy with hy|hy|⟨k,hk,rfl⟩
  ·rcases hy with rfl|hy
   ·exact h.nw _ (.inl (.inl (.inl rfl)))
   ·have hy:some g'=some y:=hy
    cases hy
    rcases hg with e|e
    ·exact h.nw _ (.inl (.inl (.inr e)))
    ·omega
  ·exact h.nw _ (.inl (.inr (.inl hy)))
  ·exact h.nw _ (.inl (.inr (.inr ⟨k,hk,rfl⟩)))
 ·exact h.nw _ (.inr (.inl rfl))
 ·exact h.nw _ (.inr (.inr (.inl rfl)))
 ·exact h.nw _ (.inr (.inr (.inr rfl)))
theorem Pol.grow{w W W' lw x t}{B':Bs}{m':Mp}(h:Pol w W lw x t)(k:Kt (aP x.m x.B t.m.o) W W')(hm:MpA W' x.m B' m')(ho:m'.o=t.m.o)(hF:dP W x.m x.B B' t.m.o):Pol w W' lw { x with B:=B' } { t with m:=m' }:=by
 refine⟨(k.block _ (lH h.box) (fun e=>h.nlw (.inr (.inl (h.bd.mo▸e))))).trans h.box,h.bd.grow k hm ho,?_,h.kp.trans k (fun _ _ e=>e) (fun y hy e=>absurd (h.nw y (.inl (.inr (.inl (h.bd.mo▸e))))) (by omega))⟩;have hz:=h.kp.size;rintro y (hy|rfl|rfl|rfl)
 ·rcases hy with hy|hy|⟨k,hk,rfl⟩
  ·exact h.nw _ (.inl (.inl hy))
  ·have hy:aP x.m B' x.o y:=hy;rw[<-h.bd.mo] at hy;rcases hF y hy with e|e
   ·exact h.nw _ (.inl (.inr (.inl (h.bd.mo▸e))))
   ·omega
  ·exact h.nw _ (.inl (.inr (.inr ⟨k,hk,rfl⟩)))
 ·exact h.nw _ (.inr (.inl rfl))
 ·exact h.nw _ (.inr (.inr (.inl rfl)))
 ·exact h.nw _ (.inr (.inr (.inr rfl)))
theorem Pol.lt{w W lw x t}(h:Pol w W lw x t):∀ y,aF x y\/y=lw->y<W.heap.size:=by
 rintro y ((hx|hx|⟨j,hj,e⟩)|rfl)
 ·obtain⟨cs,t',z,h1,h2⟩:=nK h.bd.sp hx;exact lH h1
 ·rw[<-h.bd.mo] at hx;obtain⟨cs,t',z,h1,h2⟩:=nF h.bd.mp hx;exact lH h1
 ·rw[e];exact lH (h.bd.ls j hj).hc
 ·exact lH h.box
theorem Pol.c{w W lw x t}(h:Pol w W lw x t):W.cell? ⟨lw,0,none⟩=some (.pointer (some ⟨x.s,0,none⟩))/\W.cell? ⟨lw,1,none⟩=some (.pointer (some ⟨x.m,0,none⟩))/\W.cell? ⟨lw,2,none⟩=some (.pointer (some ⟨x.b,0,none⟩)):=by
 refine⟨?_,?_,?_⟩ <;> simp[World.cell?,h.box]
structure PO(w W:World)(lw:Nat)(x:Bx)(t:Bt)(fr:Nat->List Nat)(ls:List (Nat×Nat)):Prop where
 pl:Pol w W lw x t
 sf:Sf x t fr ls
 st:t.m.n*4096=x.n
 bm:x.bS%4096=0
theorem PO.keep{w W W' lw x t fr ls}(h:PO w W lw x t fr ls)(k:Kt nO W W'):PO w W' lw x t fr ls:=⟨h.pl.keep k,h.sf,h.st,h.bm⟩
theorem PO.nums{w W lw x t fr ls}(h:PO w W lw x t fr ls):x.o<=8/\t.m.n<=1024/\1<=x.bS/\x.bS+x.n<=9223372036854775808/\(∃ r,t.m.n=r*2 ^ x.o/\r<=x.lim/\x.n=r*x.R)/\x.lim<=64/\x.lim*2 ^ x.o<=1024:=by
 obtain⟨n1,n2,n3⟩:=h.sf.sn.n;have hc:=h.pl.bd.sp.cfg;obtain⟨r,hr,hr2⟩:=h.pl.bd.sp.kn;have hR:=h.pl.bd.hR;have hst:=h.st;have hlr:=hc.lr;refine⟨h.pl.bd.o8,n1,hc.b1,n2,⟨r,?_,hr2,hr⟩,hc.l2,?_⟩
 ·rw[hr,hR] at hst;have e:r*(4096*2 ^ x.o)=(r*2 ^ x.o)*4096:=by rw[Nat.mul_comm 4096,Nat.mul_assoc]
  rw[e] at hst;exact Nat.eq_of_mul_eq_mul_right (by decide) hst
 ·rw[hR] at hlr;have e:x.lim*(4096*2 ^ x.o)=(x.lim*2 ^ x.o)*4096:=by rw[Nat.mul_comm 4096,Nat.mul_assoc]
  rw[e] at hlr;omega
theorem mI{w W lw x t}(h:Pol w W lw x t):Calls prog 38 #[.pointer (some ⟨lw,0,none⟩)] W fun e w'=>e=.returned (.pointer (some ⟨x.s,0,none⟩))/\w'=W:=by
 obtain⟨c0,c1,c2⟩:=h.c;clear h;go_enter func38,ntmps38;go_wp2_with fail;go_ret;exact⟨rfl,rfl⟩
theorem bZ{w W lw x t}(h:Pol w W lw x t):Calls prog 45 #[.pointer (some ⟨lw,0,none⟩)] W fun e w'=>e=.returned (.pointer (some ⟨x.m,0,none⟩))/\w'=W:=by
 obtain⟨c0,c1,c2⟩:=h.c;clear h;go_enter func45,ntmps45;go_wp2_with fail;go_ret;exact⟨rfl,rfl⟩
theorem OX{w W lw x t}(h:Pol w W lw x t):Calls prog 40 #[.pointer (some ⟨lw,0,none⟩)] W fun e w'=>e=.returned (.pointer (some ⟨x.b,0,none⟩))/\w'=W:=by
 obtain⟨c0,c1,c2⟩:=h.c;clear h;go_enter func40,ntmps40;go_wp2_with fail;go_ret;exact⟨rfl,rfl⟩
def JW(w:World)(bS lim o:Nat)(e:Ending)(w':World):Prop:=∃ lw x,e=.returned (.tuple #[.pointer (some ⟨lw,0,none⟩),.int .i64 0])/\Pol w w' lw x ⟨fun _=>0,bX o,fun _=>0⟩/\x.bS=bS/\x.R=4096*2 ^ o/\x.lim=lim/\x.n=0/\x.o=o/\x.P=fun _=>none
theorem QS(bS:Nat)(hb64:bS<18446744073709551616)(lim o:Nat)(hl:lim<=64)(ho:o<=8)(hm:M.mayB bS (lim:Int) (o:Int)=true)(w:World):
  Calls prog 33 #[gL bS (lim:Int) (o:Int)] w fun e w'=>JW w bS lim o e w':=by
 have K3:=aA ((Kt.refl nO w).alloc (dO bS (lim:Int) (o:Int)));have X3:=aA (nH w (dO bS (lim:Int) (o:Int)));have NW:=aA (fun W=>M.New_ok bS hb64 (lim:Int) (o:Int) (by omega) (by omega) (by omega) (by omega) hm (fun _=>0) W);clear hm;go_enter func33,ntmps33;obtain⟨x0,x1,x2⟩:=iI X3.out;go_wp2_with fail;generalize w.alloc (dO bS (lim:Int) (o:Int))=W3 at *;refine(NW.out _).mono ?_;rintro e w4 ⟨s,rfl,hS,hk',hs⟩;have hk:Kt nO W3 w4:=fX hk';have S4:=aA (show M.SpA w4 s none bS (M.RS o) lim 0 (fun _=>0)from by simpa using hS);have HS4:=aA (show w.heap.size<=s from Nat.le_trans K3.out.size hs);have X4:=aA ((hk.block _ (lH X3.out) (fun x=>x)).trans X3.out);have K4:=aA (nT K3.out hk);clear x0 x1 x2 hk hk' hS hs X3 K3 NW;obtain⟨x0,x1,x2⟩:=iI X4.out;go_wp2_with fail;refine(QH (o:Int) _).mono ?_;rintro e w5 ⟨m,B,rfl,hM,hk,hN⟩;have M5:=aA (show MpA w5 m B (bX o)from by rw[show dW (o:Int)=o by unfold dW;rw[if_neg (by omega),if_neg (by omega)];simp] at hM;exact hM);have N5':=aA (show ∀ y,aP m B o y->w.heap.size<=y from fun y hy=>by rw[show dW (o:Int)=o by unfold dW;rw[if_neg (by omega),if_neg (by omega)];simp] at hN;exact Nat.le_trans K4.out.size (hN y hy));have S5:=aA (S4.out.keep (jC hk));have X5:=aA ((hk.block _ (lH X4.out) (fun x=>x)).trans X4.out);have K5:=aA (nT K4.out hk);clear x0 x1 x2 hk hM hN X4 K4 S4;obtain⟨x0,x1,x2⟩:=iI X5.out;go_wp2_with fail;refine(zjS bS s m o (lim:Int) ho _).mono ?_;rintro e w6 ⟨b,rfl,hO⟩;have k6:Kt nO w5 w6:=by obtain⟨_,_,_,h,_⟩:=hO;exact h.kp
 have D:=aA (show ∃ x:Bx,Pol w (w6.alloc (xC x)) w6.heap.size x ⟨fun _=>0,bX o,fun _=>0⟩/\x.bS=bS/\x.R=4096*2 ^ o/\x.lim=lim/\x.n=0/\(x.o=o/\x.P=fun _=>none)/\x.s=s/\x.m=m/\x.b=b from by
  obtain⟨l,c,L,hB,h1,h2,h3,h4⟩:=hO.bd rfl (S5.out.keep (jC k6)) (M5.out.keep k6) rfl rfl;have hz:=K5.out.size;have hz6:=(nT K5.out k6).size;refine⟨_,⟨nH _ _,hB.keep ((Kt.refl nO w6).alloc _),?_,(nT K5.out k6).alloc _⟩,rfl,rfl,rfl,rfl,⟨rfl,rfl⟩,rfl,rfl,rfl⟩;rintro y (hy|rfl|rfl|rfl)
  ·rcases hy with hy|hy|⟨k,hk,rfl⟩
   ·rcases hy with rfl|hy
    ·exact HS4.out
    ·cases hy
   ·exact N5'.out y hy
   ·exact Nat.le_trans hz (h3 k hk)
  ·exact Nat.le_trans hz h1
  ·exact Nat.le_trans hz h2
  ·exact hz6)
 clear x0 x1 x2 k6 hO X5 S5 M5;go_wp2_with fail;obtain⟨x,hL,e1,e2,e3,e4,e5,e6,e7,e8⟩:=D.out;refine⟨rfl,.tuple #[.pointer (some ⟨w6.heap.size,0,none⟩),.int .i64 0],by simp[results,results33,go_sem],_,x,rfl,?_,e1,e2,e3,e4,e5⟩;rw[xC,e6,e7,e8] at hL;exact hL
theorem QR{w W lw x}(o:Nat)(h:Pol w W lw x ⟨fun _=>0,bX o,fun _=>0⟩)(hn:x.n=0)(ho:x.o=o)(hP:x.P=fun _=>none)(hb:x.bS%4096=0):PO w W lw x ⟨fun _=>0,bX o,fun _=>0⟩ (fun _=>[]) []:=by
 subst ho;have hc:=h.bd.sp.cfg;have hbe:=hc.be;have h63:x.bS+x.n<=9223372036854775808:=by
  rw[hn,Nat.add_zero];exact Nat.le_trans (Nat.le_add_right _ _) hbe
 exact⟨h,Sf.new x _ hP h.bd.o8 hc.b1 h63,by rw[hn];exact Nat.zero_mul 4096,hb⟩
theorem zia(o:Nat)(fr:Nat->List Nat)(n:Nat):pH o fr n o=cF fr o (n :: fr o):=by
 unfold pH;rw[Nat.sub_self];rfl
theorem zib{x t fr ls}(s:Sf x t fr ls):oB (ls ++ [(t.m.n,x.o)]) t.m.n=ls:=by
 unfold oB;rw[List.filter_append];have h1:ls.filter (fun r=>decide (r.1≠t.m.n))=ls:=List.filter_eq_self.2 fun r hr=>by
  obtain⟨q,i⟩:=r;obtain⟨_,_,h3⟩:=s.sn.al hr;have hz : 0<2 ^ i:=Nat.pow_pos (by decide);simp
  omega
 rw[h1];simp
structure Sm(x x':Bx):Prop where
 bS:x'.bS=x.bS
 R:x'.R=x.R
 lim:x'.lim=x.lim
 o:x'.o=x.o
 b:x'.b=x.b
 s:x'.s=x.s
 m:x'.m=x.m
 l:x'.l=x.l
 P:x'.P=x.P
theorem Sm.refl(x:Bx):Sm x x:=⟨rfl,rfl,rfl,rfl,rfl,rfl,rfl,rfl,rfl⟩
def Nb(W:World)(x x':Bx):Prop:=∀ y,aF x' y->aF x y\/W.heap.size<=y
theorem TQ{w W lw x t}(h:Pol w W lw x t)(d:Bool)(hd:d=true\/x.n=x.lim*x.R):
  Calls prog 164 #[.pointer (some ⟨lw,0,none⟩),.bool d] W fun e w'=>e=.returned (.int .i64 2)/\Kt nO W w':=by
 have CM:=aA (show Calls prog 209 #[.pointer (some ⟨x.s,0,none⟩),.bool d] W fun e w'=>e=.returned (.tuple #[.int .u64 0,.int .i64 2])/\Kt nO W w' from by
  rcases hd with rfl|hd
  ·exact(M.Commit_deny x.s x.a x.bS x.R x.lim x.n t.f W h.bd.sp).mono fun e w' h=>⟨h.1,fX h.2⟩
  ·cases d with
   | true=>exact(M.Commit_deny x.s x.a x.bS x.R x.lim x.n t.f W h.bd.sp).mono fun e w' h=>⟨h.1,fX h.2⟩
   | false=>exact(M.Commit_full x.s x.a x.bS x.R x.lim x.n t.f W h.bd.sp hd).mono fun e w' h=>⟨h.1,fX h.2⟩)
 obtain⟨c0,c1,c2⟩:=h.c;clear h hd;go_enter func164,ntmps164;go_wp2_with fail;refine CM.out.mono ?_;rintro e w1 ⟨rfl,hk⟩;have K1:=aA hk;clear hk CM c0 c1 c2;go_wp2_with fail;go_ret;exact⟨rfl,K1.out⟩
theorem Sf.apart0{x t fr ls}(s:Sf x t fr ls){k p q i:Nat}(hk:k<=x.o)(hp:p∈fr k)(hq:(q,i)∈ls):p+2 ^ k<=q\/q+2 ^ i<=p:=by
 obtain⟨B,s,_,hL⟩:=s;rcases s.ds _ _ _ _ _ _ ((s.fi p k).2 ⟨hk,hp⟩) ((hL q i).2 hq)with ⟨e,_⟩|e
 ·omega
 ·exact e
theorem JQ{o i:Nat}(h:i<=o):aB (o+1) (i:Int)=true:=by
 unfold aB;exact decide_eq_true (by omega)
theorem rF{w W lw x t fr ls}(h:PO w W lw x t fr ls):Calls prog 88 #[.pointer (some ⟨x.s,0,none⟩)] W fun e w'=>e=.returned (.int .u64 ((x.bS+x.n:Nat):Int))/\Kt nO W w':=by
 refine(M.end_any x.s x.a x.bS x.R x.lim x.n t.f W h.pl.bd.sp).mono ?_;rintro e w' ⟨rfl,hk⟩;first
  | exact⟨rfl,fX hk⟩
  | (obtain⟨m,rfl⟩:=hk;exact⟨rfl,(Kt.refl nO W).drewN m⟩)
  | (subst hk;exact⟨rfl,Kt.refl nO _⟩)
theorem yI{w W lw x t fr ls}(h:PO w W lw x t fr ls):Calls prog 71 #[.pointer (some ⟨x.m,0,none⟩)] W fun e w'=>e=.returned (.int .i64 t.m.n)/\w'=W:=wF x.m x.B t.m W h.pl.bd.mp
theorem GH(f g:Nat->Nat):∀ k,(∀ i,i<k->f i<256)->(∀ i,i<k->g i<256)->M.wordTo f k=M.wordTo g k->∀ i,i<k->f i=g i
 | 0,_,_,_,i,hi=>absurd hi (Nat.not_lt_zero _)
 | k+1,hf,hg,h,i,hi=>by
  have hf':=M.wordTo_lt f k (fun i hi=>hf i (by omega));have hg':=M.wordTo_lt g k (fun i hi=>hg i (by omega));rw[M.wordTo,M.wordTo] at h;have hz : 0<256 ^ k:=Nat.pow_pos (by decide);have e1:(M.wordTo f k+f k*256 ^ k)/256 ^ k=f k:=by
   rw[Nat.add_mul_div_right _ _ hz,Nat.div_eq_of_lt hf',Nat.zero_add]
  have e2:(M.wordTo g k+g k*256 ^ k)/256 ^ k=g k:=by
   rw[Nat.add_mul_div_right _ _ hz,Nat.div_eq_of_lt hg',Nat.zero_add]
  have e3:f k=g k:=by rw[<-e1,h,e2]
  by_cases e:i=k
  ·rw[e];exact e3
  ·rw[e3] at h;exact GH f g k (fun i hi=>hf i (by omega)) (fun i hi=>hg i (by omega)) (Nat.add_right_cancel h) i (by omega)
theorem GY{w s a bS R lim n f}(h:M.SpA w s a bS R lim n f){i:Nat}(hi:i<n):f i<256:=by
 obtain⟨cap,hb,hr⟩:=h.ex
 cases a with
 | none=>
  obtain⟨e,_⟩:=hr;omega
 | some g=>
  obtain⟨_,rs,_,_,h1,h2,h3⟩:=hr;rw[<-h2 i hi];exact h3 i
theorem ES{f g:Nat->Nat}{o:Nat}(hf:∀ i,i<8->f (o+i)<256)(hg:∀ i,i<8->g (o+i)<256)(h:M.word f o=M.word g o)(j:Nat)(hj:j<8):f (o+j)=g (o+j):=
 GH (fun i=>f (o+i)) (fun i=>g (o+i)) 8 hf hg h j hj
theorem Kp.byte{w w' x t t'}{G:Nat->Prop}(h:Kp x t t' G)(hb:BdAt w x t)(hb':BdAt w' x t'){i:Nat}(hi:i/4096*4096+4096<=x.n)(hG:G (i/4096)):t'.f i=t.f i:=by
 have hc:=hb.sp.cfg;have hn:=hb.sp.nle;have hbe:=hc.be;have hb1:=hc.b1;have hcell:M.IsCell x.bS x.n (x.bS+i/16*16):=by unfold M.IsCell;omega
 obtain⟨h1,h2⟩:=h _ hcell (by rw[show(x.bS+i/16*16-x.bS)/4096=i/4096 by omega];exact hG);unfold M.nx at h1;unfold M.pv at h2;rw[show x.bS+i/16*16-x.bS=i/16*16 by omega] at h1;rw[show x.bS+i/16*16+8-x.bS=i/16*16+8 by omega] at h2;have f1:∀ j,j<16->t.f (i/16*16+j)<256:=fun j hj=>GY hb.sp (by omega)
 have f2:∀ j,j<16->t'.f (i/16*16+j)<256:=fun j hj=>GY hb'.sp (by omega)
 by_cases e:i%16<8
 ·have:=ES (fun j hj=>f2 j (by omega)) (fun j hj=>f1 j (by omega)) h1 (i%16) e;rw[show i/16*16+i%16=i by omega] at this;exact this
 ·have:=ES (o:=i/16*16+8) (fun j hj=>by have:=f2 (8+j) (by omega);rw[<-Nat.add_assoc] at this;exact this) (fun j hj=>by have:=f1 (8+j) (by omega);rw[<-Nat.add_assoc] at this;exact this) h2 (i%16-8) (by omega);rw[show i/16*16+8+(i%16-8)=i by omega] at this;exact this
def Lv(ls:List (Nat×Nat))(g:Nat):Prop:=∃ q k,(q,k)∈ls/\q<=g/\g<q+2 ^ k
def BK(t t':Bt)(ls ls':List (Nat×Nat)):Prop:=∀ i,Lv ls (i/4096)->Lv ls' (i/4096)->t'.f i=t.f i
theorem Sf.nfree{x t fr ls}(s:Sf x t fr ls){g:Nat}(h:Lv ls g)(j:Nat)(hj:j<=x.o):g ∉ fr j:=fun hg=>by
 obtain⟨q,k,hm,h1,h2⟩:=h;obtain⟨B,s,_,hL⟩:=s;have hz : 0<2 ^ j:=Nat.pow_pos (by decide);rcases s.ds _ _ _ _ _ _ ((s.fi g j).2 ⟨hj,hg⟩) ((hL q k).2 hm)with ⟨e,_⟩|e|e
 ·exact absurd e (by decide)
 ·omega
 ·omega
theorem Sf.lv_in{x t fr ls}(s:Sf x t fr ls){g:Nat}(h:Lv ls g):g*4096+4096<=x.n:=by
 obtain⟨q,k',hm,h3,h4⟩:=h;obtain⟨_,_,a3⟩:=s.sn.al hm;obtain⟨B,s,_,hL⟩:=s;have h5:g+1<=t.m.n:=Nat.le_trans h4 a3;have h6:=Nat.mul_le_mul_right 4096 h5;rw[Nat.add_mul,Nat.one_mul] at h6;exact Nat.le_trans h6 s.nb
theorem BK.of{w w':World}{x:Bx}{t t':Bt}{fr fr':Nat->List Nat}{ls ls':List (Nat×Nat)}(h:BdAt w x t)(h':BdAt w' x t')(s:Sf x t fr ls)(s':Sf x t' fr' ls')(k:Kp x t t' (fun g=>(∀ i,i<=x.o->g ∉ fr i)/\∀ i,i<=x.o->g ∉ fr' i)):BK t t' ls ls':=fun i h1 h2=>by
 have n1:=fun j hj=>s.nfree h1 j hj
 have n2:=fun j hj=>s'.nfree h2 j hj
 have hi:=s.lv_in h1;exact Kp.byte (G:=fun g=>(∀ i,i<=x.o->g ∉ fr i)/\∀ i,i<=x.o->g ∉ fr' i) k h h' (i:=i) hi (And.intro n1 n2)
theorem BK.trans{t t1 t2:Bt}{ls ls1 ls2:List (Nat×Nat)}(h:BK t t1 ls ls1)(h':BK t1 t2 ls1 ls2)(hm:∀ g,Lv ls g->Lv ls2 g->Lv ls1 g):BK t t2 ls ls2:=fun i h1 h2=>(h' i (hm _ h1 h2) h2).trans (h i h1 (hm _ h1 h2))
end Go.Proofs.YtkfmheelhinjdaaGreatDoor
namespace Go.Proofs.YtkfmheelhinjdaaGreatDoor.K
open _root_.Go.Proofs.Tryz
open Go.RowKit
set_option linter.unusedVariables false
def DF(x:Bx)(t:Bt)(w w':World)(ls0:List (Nat×Nat))(fr:Nat->List Nat)(ls:List (Nat×Nat)):Prop:=∃ t',BdAt w' x t'/\Kt (aF x) w w'/\Sf x t' fr ls/\t'.m.n=t.m.n/\BK t t' ls0 ls
theorem yF(x:Bx)(t:Bt)(fr:Nat->List Nat)(ls:List (Nat×Nat))(s:Sf x t fr ls)(k:Nat)(hk:k<=x.o)(w:World)(h:BdAt w x t):
  Calls prog 163 #[.pointer (some ⟨x.b,0,none⟩),.int .i64 k] w fun e w'=>
   (e=.returned (.tuple #[.int .u64 0,.int .i64 2])/\w'=w/\∀ j,k<=j->j<=x.o->fr j=[])\/
   (∃ j p l,k<=j/\j<=x.o/\(∀ i,k<=i->i<j->fr i=[])/\fr j=p :: l/\e=.returned (.tuple #[.int .u64 ((ad x p:Nat):Int),.int .i64 0])/\DF x t w w' ls (cO (cF fr j (M.dropL (fr j) p)) p j k) (ls ++ [(p,k)])):=by
 have s00:=s;obtain⟨B,s,hN,hL⟩:=s;rcases XU x t k with hz|⟨j,hj,hl⟩
 ·refine(zhB x t k hk hz w h).mono ?_;rintro e w' ⟨rfl,rfl⟩;exact .inl ⟨rfl,rfl,fun j h1 h2=>(s.head j h2).1 (hz j h1 h2)⟩
 ·obtain⟨p,l,hfr⟩:∃ p l,fr j=p :: l:=by
   cases e:fr j with
   | nil=>exact absurd ((s.head j hj).2 e) (hl.lh hj)
   | cons p l=>exact⟨p,l,rfl⟩
  obtain⟨c1,c2,c3,c4,c5,c6,fr',B',c7,c8,c9,c10,c11⟩:=s.take hN hl.lk hj hfr;refine(ZC x t k j p hk hl hj c1 c2 c3 c4 c5 c6 w h).mono ?_;rintro e w' ⟨rfl,h1,h2⟩;have hfr':fr'=cO (cF fr j (M.dropL (fr j) p)) p j k:=by
   funext i
   rw[c10];unfold cO cF;by_cases e:k<=i/\i<j
   ·rw[if_pos e,if_pos e,if_neg (by omega)]
   ·rw[if_neg e,if_neg e]
  subst hfr';exact .inr ⟨j,p,l,hl.lk,hj,fun i h3 h4=>(s.head i (by omega)).1 (hl.lz i h3 h4),hfr,rfl,_,h1,h2,⟨B',c7,c8,fun q i=>by rw[c9,hL,uS]⟩,QN _ _ _ _ _,BK.of h h1 s00 ⟨B',c7,c8,fun q i=>by rw[c9,hL,uS]⟩ c11⟩
theorem MX(x:Bx)(t:Bt)(fr:Nat->List Nat)(ls:List (Nat×Nat))(s0:Sf x t fr ls)(hn:oD x t)(hl:(bB x,x.o)∈ls)(hv:x.P (bB x)=none)(w:World)(h:BdAt w x t):
  Calls prog 211 #[.pointer (some ⟨x.b,0,none⟩)] w fun e w'=>e=.returned (.int .i64 0)/\DF x t w w' ls (pH x.o fr (bB x) x.o) (oB ls (bB x)):=by
 obtain⟨t1,t2⟩:=s0.sn.top hn;have hz : 0<2 ^ x.o:=Nat.pow_pos (by decide);have hlv:=(s0.sn.live_iff (bB x) x.o (by omega)).2 ⟨hl,hv⟩;have hdr:=s0.drop_iff hl;have s00:=s0;obtain⟨B,s,hN,hL⟩:=s0;obtain⟨pg1,_⟩:=zK s (bB x) (by omega);obtain⟨t',p',k',c1,c2,B',c3,c4,c5,e1,e2,e3⟩:=s.give hN ((hL (bB x) x.o).2 hl) hv;subst e1 e2;rw[Nat.sub_self,gX] at c1;have c1a:t'=t:=(congrArg Prod.fst c1).symm;have c1b:(cZ x.o (x.o-x.o) fr (bB x) x.o).2.1=bB x:=by rw[Nat.sub_self];rfl
 have c1c:(cZ x.o (x.o-x.o) fr (bB x) x.o).2.2=x.o:=by rw[Nat.sub_self];rfl
 subst c1a;rw[c1b,c1c] at c2 e3;refine(zjJ x t' hn hlv (by rw[pg1];exact c2) w h).mono ?_;rintro e w' ⟨rfl,h1,h2⟩;rw[pg1] at h1;have c3':Sd x (eR x t' (bB x) x.o) (pH x.o fr (bB x) x.o) B':=by
  have:=c3;rw[c1b,c1c] at this;unfold pH;rw[c1b,c1c];exact this
 exact⟨rfl,_,h1,h2,⟨B',c3',c4,fun q i=>by rw[c5,hL];exact hdr q i⟩,vH _ _ _ _,BK.of h h1 s00 ⟨B',c3',c4,fun q i=>by rw[c5,hL];exact hdr q i⟩ (e3.mono fun g hg=>⟨hg.1,fun j hb=>hg.2 j ((c3'.fi g j).1 hb).1 ((c3'.fi g j).1 hb).2⟩)⟩
theorem tW{w W W' lw x t fr ls fr' ls'}(h:PO w W lw x t fr ls)(d:DF x t W W' ls fr' ls'):∃ t',PO w W' lw x t' fr' ls'/\t'.m.n=t.m.n/\Kt (aF x) W W'/\BK t t' ls ls':=by
 obtain⟨t',hb,hk,hs,hn,hbk⟩:=d;exact⟨t',⟨h.pl.call hb hk,hs,by rw[hn];exact h.st,h.bm⟩,hn,hk,hbk⟩
theorem Lv.more{ls l:List (Nat×Nat)}{g:Nat}(h:Lv ls g):Lv (ls ++ l) g:=by
 obtain⟨q,k,h1,h2⟩:=h;exact⟨q,k,List.mem_append_left _ h1,h2⟩
theorem UF{i n:Nat}(h:i/4096*4096+4096<=n):i<n:=by
 have:=Nat.div_add_mod i 4096;have h2:=Nat.mod_lt i (show 0<4096 by decide);omega
theorem UE(f:Nat->Nat)(n i:Nat)(h:i<n):M.more f n i=f i:=by
 unfold M.more;rw[if_pos h]
def IJ(w W:World)(lw:Nat)(x:Bx)(t:Bt)(fr:Nat->List Nat)(ls:List (Nat×Nat))(w':World):Prop:=∃ x' t',PO w w' lw x' t' (cF fr x.o (t.m.n :: fr x.o)) ls/\Sm x x'/\x'.n=x.n+x.R/\t'.m.n=t.m.n+2 ^ x.o/\Kt (aF x) W w'/\Nb W x x'/\BK t t' ls ls
theorem UD{w W lw x t fr ls}(h:PO w W lw x t fr ls)(hl:x.n+x.R<=x.lim*x.R):
  Calls prog 164 #[.pointer (some ⟨lw,0,none⟩),.bool false] W fun e w'=>e=.returned (.int .i64 0)/\IJ w W lw x t fr ls w':=by
 obtain⟨n1,n2,n3,n4,⟨r,n5,n6,n7⟩,n8,n9⟩:=h.nums;have hcf:=h.pl.bd.sp.cfg;have hR:=h.pl.bd.hR;have hR1:=hcf.r1;have hbe:=hcf.be;have hlr:=hcf.lr;have hst:=h.st;have hmo:=h.pl.bd.mo;have hr1:r+1<=x.lim:=by
  rw[n7,<-Nat.succ_mul] at hl;exact Nat.le_of_mul_le_mul_right hl (by omega)
 have hR2:x.R=2 ^ x.o*4096:=by rw[hR,Nat.mul_comm]
 have hg:t.m.n+2 ^ x.o<=1024:=by
  have:(t.m.n+2 ^ x.o)*4096<=1024*4096:=by
   rw[Nat.add_mul,hst,<-hR2];omega
  exact Nat.le_of_mul_le_mul_right this (by decide)
 have CM:=aA (M.Commit_ok x.s x.a x.bS x.R x.lim x.n t.f W h.pl.bd.sp ⟨r,n7,hr1⟩);have GW:=aA (show ∀ W1,MpA W1 x.m x.B t.m->Calls prog 210 #[.pointer (some ⟨x.m,0,none⟩)] W1 fun e w'=>e=.returned (.tuple #[])/\∃ B',MpA w' x.m B' (cL t.m)/\Kt (aP x.m x.B t.m.o) W1 w'/\dP W1 x.m x.B B' t.m.o from fun W1 hW=>zjQ x.m x.B t.m W1 hW);have HN:=aA (show(cL t.m).n=t.m.n+2 ^ x.o from VE hmo hg);have HH:=aA h;have HG:=aA hg;have HR2:=aA hR2;have H63:=aA (show x.bS+(x.n+x.R)<=9223372036854775808 from by omega);obtain⟨c0,c1,c2⟩:=h.pl.c;clear h n1 n2 n3 n4 n5 n6 n7 n8 n9 hcf hR hR1 hbe hlr hst hmo hr1 hR2 hg hl;go_enter func164,ntmps164;go_wp2_with fail;refine CM.out.mono ?_;rintro e w1 ⟨rfl,g',hS,hk,hgg⟩;have P1:=aA (HH.out.pl.space (fX hk) hS hgg);have K1:=aA (fX hk);have NG:=aA hgg;clear hS hk hgg CM c0 c1 c2;obtain⟨c0,c1,c2⟩:=P1.out.c;go_wp2_with fail;refine(GW.out _ P1.out.bd.mp).mono ?_;rintro e w2 ⟨rfl,B',hM,hk,hF⟩;have P2:=aA (P1.out.grow hk hM (VF _) hF);have K2:=aA hk;have NF:=aA hF;clear hM hk hF GW c0 c1 c2;have FD:=aA (show Calls prog 211 #[.pointer (some ⟨x.b,0,none⟩)] w2 fun e w'=>e=.returned (.int .i64 0)/\DF { x with a:=some g',n:=x.n + x.R,B:=B' } ⟨M.more t.f x.n,cL t.m,t.hd⟩ w2 w' (ls ++ [(t.m.n,x.o)]) (cF fr x.o (t.m.n :: fr x.o)) ls from by
  have s2:=HH.out.sf.grow HH.out.pl.bd { x with a:=some g',n:=x.n+x.R,B:=B' } rfl rfl rfl rfl H63.out HG.out;have e1:(cL t.m).n*4096=x.n+x.R:=by rw[HN.out,Nat.add_mul,HH.out.st,<-HR2.out]
  have hz : 0<2 ^ x.o:=Nat.pow_pos (by decide);have htop:bB { x with a:=some g',n:=x.n+x.R,B:=B' }=t.m.n:=by
   unfold bB;show(x.n+x.R)/4096-2 ^ x.o=t.m.n
   rw[<-HH.out.st,HR2.out,<-Nat.add_mul,Nat.mul_div_cancel _ (by decide)];omega
  have hok:oD { x with a:=some g',n:=x.n+x.R,B:=B' } ⟨M.more t.f x.n,cL t.m,t.hd⟩:=⟨by have:=HR2.out;show x.n+x.R≠0;omega,e1⟩;have:=MX { x with a:=some g',n:=x.n+x.R,B:=B' } ⟨M.more t.f x.n,cL t.m,t.hd⟩ fr _ s2 hok (by rw[htop];exact List.mem_append_right _ (List.mem_singleton.2 rfl)) (by rw[htop];exact HH.out.sf.pout (Nat.le_refl _)) w2 P2.out.bd;rw[htop,zia,zib HH.out.sf] at this;exact this)
 obtain⟨c0,c1,c2⟩:=P2.out.c;go_wp2_with fail;refine FD.out.mono ?_;rintro e w3 ⟨rfl,hd⟩;have D:=aA (show IJ w W lw x t fr ls w3 from by
  obtain⟨t',hb,hk,hs,hn,hbk⟩:=hd;have hz1:=K1.out.size;have nb:Nb W x { x with a:=some g',n:=x.n+x.R,B:=B' }:=by
   rintro y (hy|hy|⟨k,hk,rfl⟩)
   ·rcases hy with rfl|hy
    ·exact .inl (.inl (.inl rfl))
    ·have hy:some g'=some y:=hy
     cases hy
     rcases NG.out with e|e
     ·exact .inl (.inl (.inr e))
     ·exact .inr e
   ·have hy:aP x.m B' x.o y:=hy;rw[<-HH.out.pl.bd.mo] at hy;rcases NF.out y hy with e|e
    ·exact .inl (.inr (.inl (HH.out.pl.bd.mo▸e)))
    ·exact .inr (Nat.le_trans hz1 e)
   ·exact .inl (.inr (.inr ⟨k,hk,rfl⟩))
  have k12:Kt (aF x) W w2:=K1.out.trans K2.out (fun _ _ e=>.inl e) (fun _ _ e=>.inr (.inl (HH.out.pl.bd.mo▸e)));refine⟨{ x with a:=some g',n:=x.n+x.R,B:=B' },t',⟨P2.out.call hb hk,hs,?_,HH.out.bm⟩,⟨rfl,rfl,rfl,rfl,rfl,rfl,rfl,rfl,rfl⟩,rfl,hn.trans HN.out,k12.trans hk (fun _ _ e=>e) (fun y hy e=>?_),nb,fun i h1 h2=>?_⟩
  ·rw[hn];show(cL t.m).n*4096=x.n+x.R
   rw[HN.out,Nat.add_mul,HH.out.st,<-HR2.out]
  ·rcases nb y e with e|e
   ·exact e
   ·omega
  ·refine(hbk i (Lv.more h1) h2).trans ?_;have h3:=HH.out.sf.lv_in h1;exact UE t.f x.n i (UF h3))
 clear hd FD c0 c1 c2;go_wp2_with fail;go_ret;exact⟨rfl,D.out⟩
inductive NdP(w W:World)(lw:Nat)(x:Bx)(t:Bt)(fr:Nat->List Nat)(ls:List (Nat×Nat))(k:Int)(d:Bool)(e:Ending)(w':World):Prop where
 | bad (hk:aB (x.o+1) k=false) (he:e=.returned (.tuple #[.int .u64 0,.bool false,.int .i64 1])) (kp:Kt nO W w')
 | here (i j p:Nat) (l:List Nat) (hk:k=(i:Int)) (hi:i<=x.o) (hij:i<=j) (hj:j<=x.o) (hz:∀ a,i<=a->a<j->fr a=[]) (hp:fr j=p :: l) (he:e=.returned (.tuple #[.int .u64 ((ad x p:Nat):Int),.bool false,.int .i64 0])) (hs:∃ t',PO w w' lw x t' (cO (cF fr j (M.dropL (fr j) p)) p j i) (ls ++ [(p,i)])/\t'.m.n=t.m.n/\BK t t' ls (ls ++ [(p,i)])) (kp:Kt (aF x) W w')
 | stuck (i:Nat) (hk:k=(i:Int)) (hi:i<=x.o) (hz:∀ a,i<=a->a<=x.o->fr a=[]) (hd:d=true\/x.n=x.lim*x.R) (he:e=.returned (.tuple #[.int .u64 0,.bool false,.int .i64 2])) (kp:Kt nO W w')
 | grew (i:Nat) (hk:k=(i:Int)) (hi:i<=x.o) (hz:∀ a,i<=a->a<=x.o->fr a=[]) (hd:d=false) (hl:x.n + x.R<=x.lim*x.R) (he:e=.returned (.tuple #[.int .u64 ((ad x t.m.n:Nat):Int),.bool true,.int .i64 0])) (hs:∃ x' t',PO w w' lw x' t' (cO fr t.m.n x.o i) (ls ++ [(t.m.n,i)])/\Sm x x'/\x'.n=x.n + x.R/\t'.m.n=t.m.n + 2 ^ x.o/\Nb W x x'/\BK t t' ls (ls ++ [(t.m.n,i)])) (kp:Kt (aF x) W w')
theorem Need_any{w W lw x t fr ls}(h:PO w W lw x t fr ls)(k:Int)(d:Bool):
  Calls prog 130 #[.pointer (some ⟨lw,0,none⟩),.int .i64 k,.bool d] W fun e w'=>NdP w W lw x t fr ls k d e w':=by
 obtain⟨c0,c1,c2⟩:=h.pl.c;have HH:=aA h
 cases hr:aB (x.o+1) k with
 | false=>
  have TK:=aA (zi4 x t k hr W h.pl.bd);have HR:=aA hr;clear h hr;go_enter func130,ntmps130;go_wp2_with fail;refine TK.out.mono ?_;rintro e w1 ⟨rfl,h1⟩;subst h1;go_wp2_with fail;exact⟨rfl,.tuple #[.int .u64 0,.bool false,.int .i64 1],by simp[results,results130,go_sem],.bad HR.out rfl (Kt.refl nO _)⟩
 | true=>
  obtain⟨i,rfl,hi'⟩:=gS hr;have hi:i<=x.o:=by omega
  have TK:=aA (yF x t fr ls h.sf i hi W h.pl.bd);clear h hr hi';go_enter func130,ntmps130;go_wp2_with fail;refine TK.out.mono ?_;rintro e w1 (⟨rfl,h1,hz⟩|⟨j,p,l,hij,hj,hz,hp,rfl,hd⟩)
  ·subst h1;have HZ:=aA hz;clear hz TK;by_cases hd:d=true\/x.n=x.lim*x.R
   ·as_aux_lemma=>
    have GR:=aA (TQ HH.out.pl d hd);have HD:=aA hd;clear hd;go_wp2_with fail;refine GR.out.mono ?_;rintro e w2 ⟨rfl,hk⟩;have K2:=aA hk;clear hk;go_wp2_with fail;exact⟨rfl,.tuple #[.int .u64 0,.bool false,.int .i64 2],by simp[results,results130,go_sem],.stuck i rfl hi HZ.out HD.out rfl K2.out⟩
   ·as_aux_lemma=>
    obtain rfl:d=false:=by
     cases d with
     | true=>exact absurd (.inl rfl) hd
     | false=>rfl
    have hl:x.n+x.R<=x.lim*x.R:=by
     obtain⟨_,_,_,_,⟨r,_,n6,n7⟩,_,_⟩:=HH.out.nums;have h1:r≠x.lim:=fun e=>hd (.inr (by rw[n7,e]))
     have h2:(r+1)*x.R<=x.lim*x.R:=Nat.mul_le_mul_right _ (by omega);rw[Nat.add_mul,Nat.one_mul,<-n7] at h2;exact h2
    have HL:=aA hl;have GR:=aA (UD HH.out hl);clear hd hl;go_wp2_with fail;refine GR.out.mono ?_;rintro e w2 ⟨rfl,x2,t2,hP2,hs2,hx2,ht2,hk2,hn2,hbk2⟩;have BK2:=aA hbk2;have P2:=aA hP2;have S2:=aA hs2;have E2:=aA (And.intro hx2 (And.intro ht2 (And.intro hk2 hn2)));have hfo:=HZ.out x.o hi (Nat.le_refl _);have TK2:=aA (yF x2 t2 _ ls hP2.sf i (by rw[hs2.o];exact hi) w2 hP2.pl.bd);obtain⟨c0,c1,c2⟩:=hP2.pl.c;rw[hs2.b] at c2 TK2;clear hP2 hs2 hx2 ht2 hk2 hn2 hbk2 GR;go_wp2_with fail;refine TK2.out.mono ?_;rintro e w3 (⟨_,_,hz3⟩|⟨j,p,l,hij,hj,hz3,hp,rfl,hd⟩)
    ·exfalso
     have:=hz3 x.o hi (by rw[S2.out.o];exact Nat.le_refl _);simp[cF] at this
    ·have hjo:j=x.o:=by
      rcases Nat.lt_or_ge j x.o with e|e
      ·have h1:=HZ.out j hij (Nat.le_of_lt e);unfold cF at hp;rw[if_neg (by omega),h1] at hp
       cases hp
      ·rw[S2.out.o] at hj;omega
     subst hjo;have hpn:p=t.m.n:=by
      unfold cF at hp;rw[if_pos rfl] at hp;injection hp with e _
      exact e.symm
     subst hpn;have D:=aA (show ∃ x' t',PO w w3 lw x' t' (cO fr t.m.n x.o i) (ls ++ [(t.m.n,i)])/\Sm x x'/\x'.n=x.n + x.R/\t'.m.n=t.m.n + 2 ^ x.o/\Nb w1 x x'/\BK t t' ls (ls ++ [(t.m.n,i)])from by
      obtain⟨t3,hP3,hn3,hk3,hbk3⟩:=tW P2.out hd;refine⟨x2,t3,⟨hP3.pl,hP3.sf.congr (fun a ha=>?_),hP3.st,hP3.bm⟩,S2.out,E2.out.1,hn3.trans E2.out.2.1,E2.out.2.2.2,BK2.out.trans hbk3 (fun _ h _=>h)⟩;unfold cO;by_cases ea:i<=a/\a<x.o
      ·rw[if_pos ea,if_pos ea];unfold cF;rw[if_neg (by omega),if_neg (by omega)]
      ·rw[if_neg ea,if_neg ea];unfold cF;by_cases eo:a=x.o
       ·rw[if_pos eo,if_pos rfl,eo,hfo];simp[M.dropL]
       ·rw[if_neg eo,if_neg eo])
     have KF:=aA (show Kt (aF x) w1 w3 from by
      obtain⟨t3,hP3,hn3,hk3,_⟩:=tW P2.out hd;refine E2.out.2.2.1.trans hk3 (fun _ _ e=>e) (fun y hy e=>?_);rcases E2.out.2.2.2 y e with e|e
      ·exact e
      ·omega)
     have had:ad x2 t.m.n=ad x t.m.n:=(by unfold ad;rw[S2.out.bS]);rw[had];clear hd hz3 hij hj hp TK2 c0 c1 c2;go_wp2_with fail;exact⟨rfl,.tuple #[.int .u64 ((ad x t.m.n:Nat):Int),.bool true,.int .i64 0],by simp[results,results130,go_sem],.grew i rfl hi HZ.out rfl HL.out rfl D.out KF.out⟩
  ·as_aux_lemma=>
   obtain⟨t1,hP1,hn1,hk1,hbk1⟩:=tW HH.out hd;have D:=aA (show NdP w W lw x t fr ls (i:Int) d (.returned (.tuple #[.int .u64 ((ad x p:Nat):Int),.bool false,.int .i64 0])) w1 from .here i j p l rfl hi hij hj hz hp rfl ⟨t1,hP1,hn1,hbk1⟩ hk1);clear hd hP1 hn1 hk1 hbk1 hz hp hij hj TK;generalize ad x p=q at *;go_wp2_with fail;exact⟨rfl,.tuple #[.int .u64 q,.bool false,.int .i64 0],by simp[results,results130,go_sem],D.out⟩
end Go.Proofs.YtkfmheelhinjdaaGreatDoor.K
namespace Go.Proofs.YtkfmheelhinjdaaGreatDoor
open _root_.Go.Proofs.Tryz
open Go.RowKit
set_option linter.unusedVariables false
def pty(e:TypeId):Prop:=e=140\/e=5\/e=149\/e=99\/e=150\/e=181\/e=27\/e=179\/e=143\/e=144\/e=84
theorem Pol.pty{w W lw x t}(h:Pol w W lw x t){y:Nat}{cs:Array Value}{e:TypeId}{z:Nat×Nat}(hy:W.heap[y]?=some (.cells cs e z))(hb:aF x y\/y=x.b\/y=x.l\/y=lw):pty e:=by
 rcases hb with (hx|hx|⟨k,hk,e2⟩)|rfl|rfl|rfl
 ·obtain⟨cs',t',z',h1,h2⟩:=nK h.bd.sp hx;have e3:=lA hy h1;subst e3;rcases h2 with rfl|rfl
  ·exact .inl rfl
  ·exact .inr (.inl rfl)
 ·rw[<-h.bd.mo] at hx;obtain⟨cs',t',z',h1,h2⟩:=nF h.bd.mp hx;have e3:=lA hy h1;subst e3;rcases h2 with rfl|rfl|rfl|rfl|rfl
  ·exact .inr (.inr (.inl rfl))
  ·exact .inr (.inr (.inr (.inl rfl)))
  ·exact .inr (.inr (.inr (.inr (.inl rfl))))
  ·exact .inr (.inr (.inr (.inr (.inr (.inl rfl)))))
  ·exact .inr (.inr (.inr (.inr (.inr (.inr (.inl rfl))))))
 ·rw[e2] at hy;exact .inr (.inr (.inr (.inr (.inr (.inr (.inr (.inl (lA hy (h.bd.ls k hk).hc))))))))
 ·exact .inr (.inr (.inr (.inr (.inr (.inr (.inr (.inr (.inl (lA hy h.bd.bs)))))))))
 ·obtain⟨cs',hl,_⟩:=h.bd.lr;exact .inr (.inr (.inr (.inr (.inr (.inr (.inr (.inr (.inr (.inl (lA hy hl))))))))))
 ·exact .inr (.inr (.inr (.inr (.inr (.inr (.inr (.inr (.inr (.inr (lA hy h.box))))))))))
def jI(w:World):Prop:=∀ k,k<8->w.cell? ⟨0,k,none⟩=some (.int .u64 ((16*2 ^ k:Nat):Int))
abbrev rB(lw bS:Nat)(h:Nat->Int):Obj:=.cells #[.pointer (some ⟨lw,0,none⟩),.int .u64 bS,.int .i64 (h 0),.int .i64 (h 1),.int .i64 (h 2),.int .i64 (h 3),.int .i64 (h 4),.int .i64 (h 5),.int .i64 (h 6),.int .i64 (h 7)] 135
structure SW(w W:World)(sb lw:Nat)(x:Bx)(t:Bt)(h:Nat->Int):Prop where
 pl:Pol w W lw x t
 bx:W.heap[sb]?=some (rB lw x.bS h)
 nw:w.heap.size<=sb
 tb:jI w
theorem SW.nsb{w W sb lw x t h}(s:SW w W sb lw x t h):¬(aF x sb\/sb=x.b\/sb=x.l\/sb=lw):=fun e=>absurd (s.pl.pty s.bx e) (by unfold Go.Proofs.YtkfmheelhinjdaaGreatDoor.pty;decide)
theorem SW.call{w W W' sb lw x t t' h}(s:SW w W sb lw x t h)(hb:BdAt W' x t')(k:Kt (aF x) W W'):SW w W' sb lw x t' h:=
 ⟨s.pl.call hb k,(k.block _ (lH s.bx) (fun e=>s.nsb (.inl e))).trans s.bx,s.nw,s.tb⟩
theorem SW.keep{w W W' sb lw x t h}(s:SW w W sb lw x t h)(k:Kt nO W W'):SW w W' sb lw x t h:=s.call (s.pl.bd.keep k) (lG k)
theorem SW.map{w W W' sb lw x t h}{m':Mp}(s:SW w W sb lw x t h)(hm:MpA W' x.m x.B m')(k:Kt (aP x.m x.B t.m.o) W W')(ho:m'.o=t.m.o):SW w W' sb lw x { t with m:=m' } h/\Kt (aF x) W W':=by
 have k':Kt (aF x) W W':=k.mono (fun y _ e=>.inr (.inl (s.pl.bd.mo▸e)));exact⟨s.call (s.pl.bd.map k hm ho) k',k'⟩
theorem SW.tab{w W sb lw x t h}(s:SW w W sb lw x t h):jI W:=fun k hk=>s.pl.kp.cell id (s.tb k hk)
theorem SW.c0{w W sb lw x t h}(s:SW w W sb lw x t h):W.cell? ⟨sb,0,none⟩=some (.pointer (some ⟨lw,0,none⟩))/\W.cell? ⟨sb,1,none⟩=some (.int .u64 x.bS):=by
 constructor <;> simp[World.cell?,s.bx]
theorem tO{P:Nat->Prop}(h0:P 0)(h1:P 1)(h2:P 2)(h3:P 3)(h4:P 4)(h5:P 5)(h6:P 6)(h7:P 7):∀ k,k<8->P k
 | 0,_=>h0
 | 1,_=>h1
 | 2,_=>h2
 | 3,_=>h3
 | 4,_=>h4
 | 5,_=>h5
 | 6,_=>h6
 | 7,_=>h7
 | _+8,h=>absurd h (by omega)
theorem SW.hd{w W sb lw x t h}(s:SW w W sb lw x t h)(k:Nat)(hk:k<8):W.cell? ⟨sb,2+k,none⟩=some (.int .i64 (h k)):=by
 revert k
 apply tO <;> simp[World.cell?,s.bx]
def dB(h:Nat->Int)(k:Nat)(v:Int):Nat->Int:=fun j=>if j=k then v else h j
theorem SW.set{w W sb lw x t h}(s:SW w W sb lw x t h)(k:Nat)(hk:k<8)(v:Int):SW w (W.setCell ⟨sb,2+k,none⟩ (.int .i64 v)) sb lw x t (dB h k v):=by
 have kp:Kt (fun y=>y=sb) W (W.setCell ⟨sb,2+k,none⟩ (.int .i64 v)):=(Kt.refl (fun y=>y=sb) W).setCell (p:=⟨sb,2+k,none⟩) rfl _;have hn:=s.nsb;refine⟨⟨(kp.block _ (lH s.pl.box) (fun e=>hn (.inr (.inr (.inr e.symm))))).trans s.pl.box,s.pl.bd.kept kp (fun y hy e=>hn ?_),s.pl.nw,s.pl.kp.setNew (p:=⟨sb,2+k,none⟩) (fun e=>absurd s.nw (Nat.not_le.2 e)) _⟩,?_,s.nw,s.tb⟩
 ·subst e;rcases hy with hy|hy|hy
  ·exact .inl hy
  ·exact .inr (.inl hy)
  ·exact .inr (.inr (.inl hy))
 ·rw[heap_set s.bx];revert k
  apply tO <;> intros <;> simp[dB]
theorem SW.fz{w W sb lw x t h}(s:SW w W sb lw x t h)(j:Nat):W.frozen? ⟨sb,j,none⟩=false:=by simp[World.frozen?,s.bx]
theorem wA(p bS:Nat)(hp:p<18446744073709551616)(hb:bS<18446744073709551616):IntKind.u64.wrap ((p:Int)-(bS:Int))=(((p+18446744073709551616-bS)%18446744073709551616:Nat):Int):=by
 rw[wrap_u64];omega
def bF(x:Bx)(p:Nat):Nat:=(p+18446744073709551616-x.bS)%18446744073709551616
theorem uC{w W sb lw x t h}(s:SW w W sb lw x t h)(p:Nat)(hp:p<18446744073709551616):
  Calls prog 193 #[.pointer (some ⟨sb,0,none⟩),.int .u64 p] W fun e w'=>e=.returned (.int .i64 ((bF x p/4096:Nat):Int))/\w'=W:=by
 obtain⟨c0,c1⟩:=s.c0;have hb:x.bS<18446744073709551616:=by have:=s.pl.bd.sp.cfg.be;omega
 have hw:=wA p x.bS hp hb;obtain⟨d,hd⟩:=xe ((p+18446744073709551616-x.bS)%18446744073709551616);rw[<-hd] at hw;rw[show bF x p=d from hd.symm];have hdb:d<18446744073709551616:=by rw[hd];exact Nat.mod_lt _ (by decide)
 obtain⟨q,hq⟩:=xe (d/4096);have hqi:(d:Int)/4096=(q:Int):=by omega
 have hqb:q<4503599627370496:=by omega
 rw[<-hq];clear hd s hb hp hq;go_enter func193,ntmps193;go_wp2_with fail;go_ret;exact⟨by simp,rfl⟩
end Go.Proofs.YtkfmheelhinjdaaGreatDoor
