import Derived.Test.YtkfmheelhinjdaaGreatDoorXh
import Derived.Test.YtkfmheelhinjdaaGreatDoorXk
set_option maxRecDepth 1000000
set_option maxHeartbeats 80000000
namespace Go.Proofs.YtkfmheelhinjdaaGreatDoor
open _root_.Go.Proofs.Tryz
open Go.RowKit
set_option linter.unusedVariables false
theorem BdAt.space{w w' x t}{a':Option Nat}{n':Nat}{f':Nat->Nat}(h:BdAt w x t)(k:Kt (M.own x.s x.a) w w')(hs:M.SpA w' x.s a' x.bS x.R x.lim n' f'):BdAt w' { x with a:=a',n:=n' } { t with f:=f' }:=by
 have nb:=h.nb;have nl:=h.nl;refine⟨hs,h.mp.kept k (fun y hy e=>rD h.mp h.sp hy e),fun i hi=>(h.ls i hi).kept (iP k) (fun e=>BE h.sp (h.ls i hi) e),(k.block _ (lH h.bs) (fun e=>nb (.inl e))).trans h.bs,?_,h.mo,h.iL,h.hR⟩;obtain⟨cs,hl,hc⟩:=h.lr;exact⟨cs,(k.block _ (lH hl) (fun e=>nl (.inl e))).trans hl,hc⟩
theorem BdAt.grow{w w' x t}{B':Bs}{m':Mp}(h:BdAt w x t)(k:Kt (aM x.m x.B t.m.o) w w')(hm:MpA w' x.m B' m')(ho:m'.o=t.m.o):BdAt w' { x with B:=B' } { t with m:=m' }:=by
 have nb:=h.nb;have nl:=h.nl;refine⟨h.sp.kept (iP k) (fun y hy e=>rD h.mp h.sp e hy),hm,fun i hi=>(h.ls i hi).kept (iP k) (fun e=>tH h.mp (h.ls i hi) e),(k.block _ (lH h.bs) (fun e=>nb (.inr (.inl (h.mo▸e))))).trans h.bs,?_,ho.trans h.mo,h.iL,h.hR⟩;obtain⟨cs,hl,hc⟩:=h.lr;exact⟨cs,(k.block _ (lH hl) (fun e=>nl (.inr (.inl (h.mo▸e))))).trans hl,hc⟩
theorem MZ(m:Mp):(cG m).o=m.o:=by unfold cG;split <;> rfl
theorem MY{m:Mp}{o:Nat}(ho:m.o=o)(h:m.n+2 ^ o<=1024):(cG m).n=m.n+2 ^ o:=by
 subst ho;unfold cG
 rw[if_neg (by show ¬ 1024<m.n+2 ^ m.o;omega)];rfl
theorem kD{W:World}{y:Nat}{cs cs':Array Value}{a b:TypeId}{z z':Nat×Nat}(h:W.heap[y]?=some (.cells cs a z))(h':W.heap[y]?=some (.cells cs' b z')):a=b:=by
 rw[h] at h';injection h' with h'
 injection h' with _ h'
theorem UA{w x t}(h:BdAt w x t):(∀ k,k<x.o->∀ i,(t.m.wd k).getD i 0<2 ^ 64)/\∀ k,k<x.o->∀ j,t.m.n/2 ^ (k+1)<=j->aF (t.m.wd k) j=false:=
 ⟨fun k hk=>(zG (h.mp.set k (by rw[h.mo];exact hk))).1,fun k hk=>(zG (h.mp.set k (by rw[h.mo];exact hk))).2⟩
theorem Sn.top{x t L}(s:Sn x t L)(hn:nB x t):t.m.n=bC x+2 ^ x.o/\bC x%2 ^ x.o=0:=by
 obtain⟨fr,B,s,hN,hL⟩:=s;obtain⟨r,hr⟩:=s.dv;obtain⟨h1,h2⟩:=hn;have h3:x.n/4096=t.m.n:=by omega
 have hr1 : 1<=r:=by
  rcases Nat.eq_zero_or_pos r with e|e
  ·rw[e,Nat.zero_mul] at hr;omega
  ·exact e
 have h4:r*2 ^ x.o=(r-1)*2 ^ x.o+2 ^ x.o:=by
  rw[show r=(r-1)+1 by omega,Nat.add_mul,Nat.one_mul];rfl
 have h5:bC x=(r-1)*2 ^ x.o:=by unfold bC;omega
 exact⟨by omega,by rw[h5];exact Nat.mul_mod_left _ _⟩
def nA(ls:List (Nat×Nat))(pg:Nat):List (Nat×Nat):=ls.filter fun r=>decide (r.1≠pg)
def cK(fr:Nat->List Nat)(pg frm tt:Nat):Nat->List Nat:=fun j=>if tt<=j/\j<frm then (pg+2 ^ j) :: fr j else fr j
def oF(o:Nat)(fr:Nat->List Nat)(p k:Nat):Nat->List Nat:=cD (cS o (o-k) fr p k).1 (cS o (o-k) fr p k).2.2 ((cS o (o-k) fr p k).2.1 :: (cS o (o-k) fr p k).1 (cS o (o-k) fr p k).2.2)
def Sf(x:Bx)(t:Bt)(fr:Nat->List Nat)(ls:List (Nat×Nat)):Prop:=∃ B,Sd x t fr B/\(∀ q i,¬B 9 q i)/\∀ q i,B 2 q i↔(q,i)∈ls
theorem Sf.sn{x t fr ls}(s:Sf x t fr ls):Sn x t (fun q i=>(q,i)∈ls):=by
 obtain⟨B,h⟩:=s;exact⟨fr,B,h⟩
theorem Sf.one{x t fr ls}(s:Sf x t fr ls){p k i:Nat}(h1:(p,k)∈ls)(h2:(p,i)∈ls):i=k:=by
 have hz : 0<2 ^ k:=Nat.pow_pos (by decide);have hz2 : 0<2 ^ i:=Nat.pow_pos (by decide);rcases s.sn.apart h1 h2 with e|e|e <;> omega
theorem XQ{ls:List (Nat×Nat)}{p q i:Nat} : (q,i)∈nA ls p↔(q,i)∈ls/\q≠p:=by
 unfold nA;rw[List.mem_filter];simp
theorem Sf.drop_iff{x t fr ls}(s:Sf x t fr ls){p k:Nat}(h:(p,k)∈ls)(q i:Nat):((q,i)∈ls/\¬(q=p/\i=k))↔(q,i)∈nA ls p:=by
 rw[XQ];constructor
 ·rintro ⟨h1,h2⟩;exact⟨h1,fun e=>h2 ⟨e,s.one h (e▸h1)⟩⟩
 ·rintro ⟨h1,h2⟩;exact⟨h1,fun e=>h2 e.1⟩
theorem sO{ls:List (Nat×Nat)}{p k q i:Nat} : (q,i)∈ls ++ [(p,k)]↔(q,i)∈ls\/(q=p/\i=k):=by
 rw[List.mem_append,List.mem_singleton,Prod.mk.injEq]
theorem Sf.pout{x t fr ls}(s:Sf x t fr ls){p:Nat}(h:t.m.n<=p):x.P p=none:=by
 obtain⟨B,s,_⟩:=s
 cases hP:x.P p with
 | none=>rfl
 | some q=>
  have:=(s.al _ _ _ (s.vs p q hP).1).2.2;omega
theorem Sf.pfree{x t fr ls}(s:Sf x t fr ls){p k:Nat}(hk:k<=x.o)(h:p∈fr k):x.P p=none:=by
 obtain⟨B,s,_⟩:=s;exact s.pn9 ((s.fi p k).2 ⟨hk,h⟩) (by decide) p (Nat.le_refl _) (by have : 0<2 ^ k:=Nat.pow_pos (by decide);omega)
theorem Sf.pslab{x t fr ls}(s:Sf x t fr ls){p:Nat}{q:Pg}(h:x.P p=some q):(p,0)∈ls/\q.kd=4/\p<t.m.n/\t.m.pg p=q:=by
 obtain⟨B,s,_,hL⟩:=s;have hv:=s.vs p q h;have ha:=(s.al _ _ _ hv.1).2.2;have hp:=s.pg _ _ _ hv.1 (by decide) p (Nat.le_refl _) (by omega);rw[h,Option.getD_some] at hp;exact⟨(hL p 0).1 hv.1,hv.2,by omega,hp⟩
theorem wordTo_congr(f g:Nat->Nat):∀ k,(∀ i,i<k->f i=g i)->M.wordTo f k=M.wordTo g k
 | 0,_=>rfl
 | k+1,h=>by rw[M.wordTo,M.wordTo,wordTo_congr f g k (fun i hi=>h i (by omega)),h k (by omega)]
theorem Sd.bytes{x t fr B}(s:Sd x t fr B){f':Nat->Nat}(h:∀ q j,B 0 q j->∀ i,i<16->f' (4096*q+i)=t.f (4096*q+i)):Sd x { t with f:=f' } fr B:=by
 refine⟨s.mo,s.o8,s.dv,s.nb,s.n1,s.b1,s.b2,s.tg,s.fi,s.al,s.ds,s.cv,s.pg,fun k hk=>(s.ch k hk).congr fun c hc=>?_,s.wl,s.bt,s.nm,s.vs⟩;obtain⟨q,hq,rfl⟩:=List.mem_map.1 hc;have hb:=h q k ((s.fi q k).2 ⟨hk,hq⟩);have e1:ad x q-x.bS=4096*q:=by unfold ad;omega
 have e2:ad x q+8-x.bS=4096*q+8:=by unfold ad;omega
 constructor
 ·show M.nx x.bS f' (ad x q)=M.nx x.bS t.f (ad x q)
  unfold M.nx M.word;rw[e1];exact wordTo_congr _ _ 8 fun i hi=>hb i (by omega)
 ·show M.pv x.bS f' (ad x q)=M.pv x.bS t.f (ad x q)
  unfold M.pv M.word;rw[e2];exact wordTo_congr _ _ 8 fun i hi=>by have:=hb (8+i) (by omega);rw[<-Nat.add_assoc] at this;exact this
theorem Sf.grow{w x t fr ls}(s:Sf x t fr ls)(h:BdAt w x t)(x':Bx)(hP:x'.P=x.P)(ho:x'.o=x.o)(hb:x'.bS=x.bS)(hn:x'.n=x.n+x.R)(h63:x.bS+x'.n<=9223372036854775808)(hg:t.m.n+2 ^ x.o<=1024):
  Sf x' ⟨M.more t.f x.n,cG t.m,t.hd⟩ fr (ls ++ [(t.m.n,x.o)]):=by
 obtain⟨hz,hp⟩:=UA h;have hR:=h.hR;obtain⟨B,s,hN,hL⟩:=s;have hnb:=s.nb;refine⟨mP B 2 t.m.n x.o,s.grow x' hP ho hb (by rw[hn,hR,Nat.add_mul,Nat.mul_comm (2 ^ x.o)];exact Nat.add_le_add_right hnb _) h63 hg _ (fun i hi=>?_) hz hp,?_,?_⟩
 ·unfold M.more;rw[if_pos (by omega)]
 ·rintro q i (h|⟨e,_⟩)
  ·exact hN q i h
  ·omega
 ·intro q i;rw[sO];unfold mP;rw[hL];constructor
  ·rintro (h|⟨_,h⟩)
   ·exact .inl h
   ·exact .inr h
  ·rintro (h|h)
   ·exact .inl h
   ·exact .inr ⟨rfl,h⟩
theorem Sf.fill{x t fr ls}(s:Sf x t fr ls){p k:Nat}(hl:(p,k)∈ls){f':Nat->Nat}(h:∀ i,¬(4096*p<=i/\i<4096*(p+2 ^ k))->f' i=t.f i):Sf x { t with f:=f' } fr ls:=by
 obtain⟨B,s,hN,hL⟩:=s;refine⟨B,s.bytes fun q j hb i hi=>h _ fun e=>?_,hN,hL⟩;have hz : 0<2 ^ j:=Nat.pow_pos (by decide);rcases s.ds _ _ _ _ _ _ hb ((hL p k).2 hl)with ⟨e1,_⟩|e1|e1 <;> omega
theorem Sf.new(x:Bx)(f:Nat->Nat)(hP:x.P=fun _=>none)(ho:x.o<=8)(hb : 1<=x.bS)(h63:x.bS+x.n<=9223372036854775808):Sf x ⟨f,bX x.o,fun _=>0⟩ (fun _=>[]) []:=by
 refine⟨fun _ _ _=>False,⟨rfl,ho,⟨0,by simp[bX]⟩,by simp[bX],by simp[bX],hb,h63,fun _ _ _ h=>h.elim,fun p k=>⟨fun h=>h.elim,fun h=>by cases h.2⟩,fun _ _ _ h=>h.elim,fun _ _ _ _ _ _ h=>h.elim,fun i hi=>absurd hi (Nat.not_lt_zero _),fun _ _ _ h=>h.elim,fun k hk=>M.Chn.nil _ _ _,fun k hk=>?_,fun k hk i hi=>?_,fun k hk i h=>(by cases h.1),fun p q h=>(by rw[hP] at h;cases h)⟩,fun _ _ h=>h,fun _ _=>⟨fun h=>h.elim,fun h=>by cases h⟩⟩
 ·show 0=(0/2 ^ (k+1)+63)/64
  rw[Nat.zero_div]
 ·have hi:i<0/2 ^ (k+1):=hi;rw[Nat.zero_div] at hi;omega
theorem Sf.congr{x t fr fr' ls}(s:Sf x t fr ls)(h:∀ k,k<=x.o->fr' k=fr k):Sf x t fr' ls:=by
 obtain⟨B,s,hN,hL⟩:=s;refine⟨B,⟨s.mo,s.o8,s.dv,s.nb,s.n1,s.b1,s.b2,s.tg,fun p k=>?_,s.al,s.ds,s.cv,s.pg,fun k hk=>by rw[h k hk];exact s.ch k hk,s.wl,fun k hk=>?_,fun k hk=>?_,s.vs⟩,hN,hL⟩
 ·rw[s.fi];constructor
  ·exact fun e=>⟨e.1,by rw[h k e.1];exact e.2⟩
  ·exact fun e=>⟨e.1,by rw[<-h k e.1];exact e.2⟩
 ·rw[h k (Nat.le_of_lt hk)];exact s.bt k hk
 ·rw[h k (Nat.le_of_lt hk)];exact s.nm k hk
abbrev vF(x:Bx):Obj:=.cells #[.pointer (some ⟨x.s,0,none⟩),.pointer (some ⟨x.m,0,none⟩),.pointer (some ⟨x.b,0,none⟩)] 84
structure Pol(w W:World)(lw:Nat)(x:Bx)(t:Bt):Prop where
 box:W.heap[lw]?=some (vF x)
 bd:BdAt W x t
 nw:∀ y,aD x y\/y=x.b\/y=x.l\/y=lw->w.heap.size<=y
 kp:Kt nO w W
theorem Pol.nlw{w W lw x t}(h:Pol w W lw x t):¬aD x lw:=by
 rintro (hx|hx|⟨k,hk,e⟩)
 ·obtain⟨cs,t',z,h1,h2⟩:=mI h.bd.sp hx;rw[h.box] at h1
  cases h1
  rcases h2 with e|e <;> exact absurd e (by decide)
 ·rw[<-h.bd.mo] at hx;obtain⟨cs,t',z,h1,h2⟩:=mE h.bd.mp hx;rw[h.box] at h1
  cases h1
  rcases h2 with e|e|e|e|e <;> exact absurd e (by decide)
 ·exact absurd e (bT h.box (h.bd.ls k hk).hc (by decide))
theorem Pol.call{w W W' lw x t t'}(h:Pol w W lw x t)(hb:BdAt W' x t')(k:Kt (aD x) W W'):Pol w W' lw x t':=
 ⟨(k.block _ (lH h.box) h.nlw).trans h.box,hb,h.nw,h.kp.trans k (fun _ _ e=>e) (fun y hy e=>absurd (h.nw y (.inl e)) (by omega))⟩
theorem Pol.keep{w W W' lw x t}(h:Pol w W lw x t)(k:Kt nO W W'):Pol w W' lw x t:=h.call (h.bd.keep k) (kJ k)
theorem Pol.space{w W W' lw x t}{g' n':Nat}{f':Nat->Nat}(h:Pol w W lw x t)(k:Kt (M.own x.s x.a) W W')(hs:M.SpA W' x.s (some g') x.bS x.R x.lim n' f')(hg:x.a=some g'\/W.heap.size<=g'):Pol w W' lw { x with a:=some g',n:=n' } { t with f:=f' }:=by
 refine⟨(k.block _ (lH h.box) (fun e=>h.nlw (.inl e))).trans h.box,h.bd.space k hs,?_,h.kp.trans k (fun _ _ e=>e) (fun y hy e=>absurd (h.nw y (.inl (.inl e))) (by omega))⟩;have hz:=h.kp.size;rintro y (hy|rfl|rfl|rfl)
 ·rcases hy with hy|hy|⟨k,hk,rfl⟩
  ·rcases hy with rfl|hy
   ·exact h.nw _ (.inl (.inl (.inl rfl)))
   ·have hy:some g'=some y:=hy
    cases hy
    rcases hg with e|e
    ·exact h.nw _ (.inl (.inl (.inr e)))
    ·omega
  ·exact h.nw _ (.inl (.inr (.inl hy)))
  ·exact h.nw _ (.inl (.inr (.inr ⟨k,hk,rfl⟩)))
 ·exact h.nw _ (.inr (.inl rfl))
 ·exact h.nw _ (.inr (.inr (.inl rfl)))
 ·exact h.nw _ (.inr (.inr (.inr rfl)))
theorem Pol.grow{w W W' lw x t}{B':Bs}{m':Mp}(h:Pol w W lw x t)(k:Kt (aM x.m x.B t.m.o) W W')(hm:MpA W' x.m B' m')(ho:m'.o=t.m.o)(hF:dL W x.m x.B B' t.m.o):Pol w W' lw { x with B:=B' } { t with m:=m' }:=by
 refine⟨(k.block _ (lH h.box) (fun e=>h.nlw (.inr (.inl (h.bd.mo▸e))))).trans h.box,h.bd.grow k hm ho,?_,h.kp.trans k (fun _ _ e=>e) (fun y hy e=>absurd (h.nw y (.inl (.inr (.inl (h.bd.mo▸e))))) (by omega))⟩;have hz:=h.kp.size;rintro y (hy|rfl|rfl|rfl)
 ·rcases hy with hy|hy|⟨k,hk,rfl⟩
  ·exact h.nw _ (.inl (.inl hy))
  ·have hy:aM x.m B' x.o y:=hy;rw[<-h.bd.mo] at hy;rcases hF y hy with e|e
   ·exact h.nw _ (.inl (.inr (.inl (h.bd.mo▸e))))
   ·omega
  ·exact h.nw _ (.inl (.inr (.inr ⟨k,hk,rfl⟩)))
 ·exact h.nw _ (.inr (.inl rfl))
 ·exact h.nw _ (.inr (.inr (.inl rfl)))
 ·exact h.nw _ (.inr (.inr (.inr rfl)))
theorem Pol.lt{w W lw x t}(h:Pol w W lw x t):∀ y,aD x y\/y=lw->y<W.heap.size:=by
 rintro y ((hx|hx|⟨j,hj,e⟩)|rfl)
 ·obtain⟨cs,t',z,h1,h2⟩:=mI h.bd.sp hx;exact lH h1
 ·rw[<-h.bd.mo] at hx;obtain⟨cs,t',z,h1,h2⟩:=mE h.bd.mp hx;exact lH h1
 ·rw[e];exact lH (h.bd.ls j hj).hc
 ·exact lH h.box
theorem Pol.c{w W lw x t}(h:Pol w W lw x t):W.cell? ⟨lw,0,none⟩=some (.pointer (some ⟨x.s,0,none⟩))/\W.cell? ⟨lw,1,none⟩=some (.pointer (some ⟨x.m,0,none⟩))/\W.cell? ⟨lw,2,none⟩=some (.pointer (some ⟨x.b,0,none⟩)):=by
 refine⟨?_,?_,?_⟩ <;> simp[World.cell?,h.box]
structure PO(w W:World)(lw:Nat)(x:Bx)(t:Bt)(fr:Nat->List Nat)(ls:List (Nat×Nat)):Prop where
 pl:Pol w W lw x t
 sf:Sf x t fr ls
 st:t.m.n*4096=x.n
 bm:x.bS%4096=0
theorem PO.keep{w W W' lw x t fr ls}(h:PO w W lw x t fr ls)(k:Kt nO W W'):PO w W' lw x t fr ls:=⟨h.pl.keep k,h.sf,h.st,h.bm⟩
theorem PO.nums{w W lw x t fr ls}(h:PO w W lw x t fr ls):x.o<=8/\t.m.n<=1024/\1<=x.bS/\x.bS+x.n<=9223372036854775808/\(∃ r,t.m.n=r*2 ^ x.o/\r<=x.lim/\x.n=r*x.R)/\x.lim<=64/\x.lim*2 ^ x.o<=1024:=by
 obtain⟨n1,n2,n3⟩:=h.sf.sn.n;have hc:=h.pl.bd.sp.cfg;obtain⟨r,hr,hr2⟩:=h.pl.bd.sp.kn;have hR:=h.pl.bd.hR;have hst:=h.st;have hlr:=hc.lr;refine⟨h.pl.bd.o8,n1,hc.b1,n2,⟨r,?_,hr2,hr⟩,hc.l2,?_⟩
 ·rw[hr,hR] at hst;have e:r*(4096*2 ^ x.o)=(r*2 ^ x.o)*4096:=by rw[Nat.mul_comm 4096,Nat.mul_assoc]
  rw[e] at hst;exact Nat.eq_of_mul_eq_mul_right (by decide) hst
 ·rw[hR] at hlr;have e:x.lim*(4096*2 ^ x.o)=(x.lim*2 ^ x.o)*4096:=by rw[Nat.mul_comm 4096,Nat.mul_assoc]
  rw[e] at hlr;omega
theorem lO{w W lw x t}(h:Pol w W lw x t):Calls prog 38 #[.pointer (some ⟨lw,0,none⟩)] W fun e w'=>e=.returned (.pointer (some ⟨x.s,0,none⟩))/\w'=W:=by
 obtain⟨c0,c1,c2⟩:=h.c;clear h;go_enter func38,ntmps38;go_wp2_with fail;go_ret;exact⟨rfl,rfl⟩
theorem bZ{w W lw x t}(h:Pol w W lw x t):Calls prog 45 #[.pointer (some ⟨lw,0,none⟩)] W fun e w'=>e=.returned (.pointer (some ⟨x.m,0,none⟩))/\w'=W:=by
 obtain⟨c0,c1,c2⟩:=h.c;clear h;go_enter func45,ntmps45;go_wp2_with fail;go_ret;exact⟨rfl,rfl⟩
theorem DP{w W lw x t}(h:Pol w W lw x t):Calls prog 40 #[.pointer (some ⟨lw,0,none⟩)] W fun e w'=>e=.returned (.pointer (some ⟨x.b,0,none⟩))/\w'=W:=by
 obtain⟨c0,c1,c2⟩:=h.c;clear h;go_enter func40,ntmps40;go_wp2_with fail;go_ret;exact⟨rfl,rfl⟩
def DA(w:World)(bS lim o:Nat)(e:Ending)(w':World):Prop:=∃ lw x,e=.returned (.tuple #[.pointer (some ⟨lw,0,none⟩),.int .i64 0])/\Pol w w' lw x ⟨fun _=>0,bX o,fun _=>0⟩/\x.bS=bS/\x.R=4096*2 ^ o/\x.lim=lim/\x.n=0/\x.o=o/\x.P=fun _=>none
theorem JN(bS:Nat)(hb64:bS<18446744073709551616)(lim o:Nat)(hl:lim<=64)(ho:o<=8)(hm:M.mayB bS (lim:Int) (o:Int)=true)(w:World):
  Calls prog 33 #[gG bS (lim:Int) (o:Int)] w fun e w'=>DA w bS lim o e w':=by
 have K3:=aA ((Kt.refl nO w).alloc (dK bS (lim:Int) (o:Int)));have X3:=aA (nH w (dK bS (lim:Int) (o:Int)));have NW:=aA (fun W=>M.New_ok bS hb64 (lim:Int) (o:Int) (by omega) (by omega) (by omega) (by omega) hm (fun _=>0) W);clear hm;go_enter func33,ntmps33;obtain⟨x0,x1,x2⟩:=gX X3.out;go_wp2_with fail;generalize w.alloc (dK bS (lim:Int) (o:Int))=W3 at *;refine(NW.out _).mono ?_;rintro e w4 ⟨s,rfl,hS,hk',hs⟩;have hk:Kt nO W3 w4:=fQ hk';have S4:=aA (show M.SpA w4 s none bS (M.RS o) lim 0 (fun _=>0)from by simpa using hS);have HS4:=aA (show w.heap.size<=s from Nat.le_trans K3.out.size hs);have X4:=aA ((hk.block _ (lH X3.out) (fun x=>x)).trans X3.out);have K4:=aA (nT K3.out hk);clear x0 x1 x2 hk hk' hS hs X3 K3 NW;obtain⟨x0,x1,x2⟩:=gX X4.out;go_wp2_with fail;refine(IS (o:Int) _).mono ?_;rintro e w5 ⟨m,B,rfl,hM,hk,hN⟩;have M5:=aA (show MpA w5 m B (bX o)from by rw[show dQ (o:Int)=o by unfold dQ;rw[if_neg (by omega),if_neg (by omega)];simp] at hM;exact hM);have N5':=aA (show ∀ y,aM m B o y->w.heap.size<=y from fun y hy=>by rw[show dQ (o:Int)=o by unfold dQ;rw[if_neg (by omega),if_neg (by omega)];simp] at hN;exact Nat.le_trans K4.out.size (hN y hy));have S5:=aA (S4.out.keep (iP hk));have X5:=aA ((hk.block _ (lH X4.out) (fun x=>x)).trans X4.out);have K5:=aA (nT K4.out hk);clear x0 x1 x2 hk hM hN X4 K4 S4;obtain⟨x0,x1,x2⟩:=gX X5.out;go_wp2_with fail;refine(SG bS s m o (lim:Int) ho _).mono ?_;rintro e w6 ⟨b,rfl,hO⟩;have k6:Kt nO w5 w6:=by obtain⟨_,_,_,h,_⟩:=hO;exact h.kp
 have D:=aA (show ∃ x:Bx,Pol w (w6.alloc (vF x)) w6.heap.size x ⟨fun _=>0,bX o,fun _=>0⟩/\x.bS=bS/\x.R=4096*2 ^ o/\x.lim=lim/\x.n=0/\(x.o=o/\x.P=fun _=>none)/\x.s=s/\x.m=m/\x.b=b from by
  obtain⟨l,c,L,hB,h1,h2,h3,h4⟩:=hO.bd rfl (S5.out.keep (iP k6)) (M5.out.keep k6) rfl rfl;have hz:=K5.out.size;have hz6:=(nT K5.out k6).size;refine⟨_,⟨nH _ _,hB.keep ((Kt.refl nO w6).alloc _),?_,(nT K5.out k6).alloc _⟩,rfl,rfl,rfl,rfl,⟨rfl,rfl⟩,rfl,rfl,rfl⟩;rintro y (hy|rfl|rfl|rfl)
  ·rcases hy with hy|hy|⟨k,hk,rfl⟩
   ·rcases hy with rfl|hy
    ·exact HS4.out
    ·cases hy
   ·exact N5'.out y hy
   ·exact Nat.le_trans hz (h3 k hk)
  ·exact Nat.le_trans hz h1
  ·exact Nat.le_trans hz h2
  ·exact hz6)
 clear x0 x1 x2 k6 hO X5 S5 M5;go_wp2_with fail;obtain⟨x,hL,e1,e2,e3,e4,e5,e6,e7,e8⟩:=D.out;refine⟨rfl,.tuple #[.pointer (some ⟨w6.heap.size,0,none⟩),.int .i64 0],by simp[results,results33,go_sem],_,x,rfl,?_,e1,e2,e3,e4,e5⟩;rw[vF,e6,e7,e8] at hL;exact hL
theorem JL{w W lw x}(o:Nat)(h:Pol w W lw x ⟨fun _=>0,bX o,fun _=>0⟩)(hn:x.n=0)(ho:x.o=o)(hP:x.P=fun _=>none)(hb:x.bS%4096=0):PO w W lw x ⟨fun _=>0,bX o,fun _=>0⟩ (fun _=>[]) []:=by
 subst ho;have hc:=h.bd.sp.cfg;have hbe:=hc.be;have h63:x.bS+x.n<=9223372036854775808:=by
  rw[hn,Nat.add_zero];exact Nat.le_trans (Nat.le_add_right _ _) hbe
 exact⟨h,Sf.new x _ hP h.bd.o8 hc.b1 h63,by rw[hn];exact Nat.zero_mul 4096,hb⟩
theorem XZ(o:Nat)(fr:Nat->List Nat)(n:Nat):oF o fr n o=cD fr o (n :: fr o):=by
 unfold oF;rw[Nat.sub_self];rfl
theorem XY{x t fr ls}(s:Sf x t fr ls):nA (ls ++ [(t.m.n,x.o)]) t.m.n=ls:=by
 unfold nA;rw[List.filter_append];have h1:ls.filter (fun r=>decide (r.1≠t.m.n))=ls:=List.filter_eq_self.2 fun r hr=>by
  obtain⟨q,i⟩:=r;obtain⟨_,_,h3⟩:=s.sn.al hr;have hz : 0<2 ^ i:=Nat.pow_pos (by decide);simp
  omega
 rw[h1];simp
structure Sm(x x':Bx):Prop where
 bS:x'.bS=x.bS
 R:x'.R=x.R
 lim:x'.lim=x.lim
 o:x'.o=x.o
 b:x'.b=x.b
 s:x'.s=x.s
 m:x'.m=x.m
 l:x'.l=x.l
 P:x'.P=x.P
theorem Sm.refl(x:Bx):Sm x x:=⟨rfl,rfl,rfl,rfl,rfl,rfl,rfl,rfl,rfl⟩
def Nb(W:World)(x x':Bx):Prop:=∀ y,aD x' y->aD x y\/W.heap.size<=y
theorem KY{w W lw x t}(h:Pol w W lw x t)(d:Bool)(hd:d=true\/x.n=x.lim*x.R):
  Calls prog 164 #[.pointer (some ⟨lw,0,none⟩),.bool d] W fun e w'=>e=.returned (.int .i64 2)/\Kt nO W w':=by
 have CM:=aA (show Calls prog 209 #[.pointer (some ⟨x.s,0,none⟩),.bool d] W fun e w'=>e=.returned (.tuple #[.int .u64 0,.int .i64 2])/\Kt nO W w' from by
  rcases hd with rfl|hd
  ·exact(M.Commit_deny x.s x.a x.bS x.R x.lim x.n t.f W h.bd.sp).mono fun e w' h=>⟨h.1,fQ h.2⟩
  ·cases d with
   | true=>exact(M.Commit_deny x.s x.a x.bS x.R x.lim x.n t.f W h.bd.sp).mono fun e w' h=>⟨h.1,fQ h.2⟩
   | false=>exact(M.Commit_full x.s x.a x.bS x.R x.lim x.n t.f W h.bd.sp hd).mono fun e w' h=>⟨h.1,fQ h.2⟩)
 obtain⟨c0,c1,c2⟩:=h.c;clear h hd;go_enter func164,ntmps164;go_wp2_with fail;refine CM.out.mono ?_;rintro e w1 ⟨rfl,hk⟩;have K1:=aA hk;clear hk CM c0 c1 c2;go_wp2_with fail;go_ret;exact⟨rfl,K1.out⟩
theorem Sf.apart0{x t fr ls}(s:Sf x t fr ls){k p q i:Nat}(hk:k<=x.o)(hp:p∈fr k)(hq:(q,i)∈ls):p+2 ^ k<=q\/q+2 ^ i<=p:=by
 obtain⟨B,s,_,hL⟩:=s;rcases s.ds _ _ _ _ _ _ ((s.fi p k).2 ⟨hk,hp⟩) ((hL q i).2 hq)with ⟨e,_⟩|e
 ·omega
 ·exact e
theorem FW{o i:Nat}(h:i<=o):aC (o+1) (i:Int)=true:=by
 unfold aC;exact decide_eq_true (by omega)
theorem pY{w W lw x t fr ls}(h:PO w W lw x t fr ls):Calls prog 88 #[.pointer (some ⟨x.s,0,none⟩)] W fun e w'=>e=.returned (.int .u64 ((x.bS+x.n:Nat):Int))/\Kt nO W w':=by
 refine(M.end_any x.s x.a x.bS x.R x.lim x.n t.f W h.pl.bd.sp).mono ?_;rintro e w' ⟨rfl,hk⟩;first
  | exact⟨rfl,fQ hk⟩
  | (obtain⟨m,rfl⟩:=hk;exact⟨rfl,(Kt.refl nO W).drewN m⟩)
  | (subst hk;exact⟨rfl,Kt.refl nO _⟩)
theorem wC{w W lw x t fr ls}(h:PO w W lw x t fr ls):Calls prog 71 #[.pointer (some ⟨x.m,0,none⟩)] W fun e w'=>e=.returned (.int .i64 t.m.n)/\w'=W:=tW x.m x.B t.m W h.pl.bd.mp
theorem BA(f g:Nat->Nat):∀ k,(∀ i,i<k->f i<256)->(∀ i,i<k->g i<256)->M.wordTo f k=M.wordTo g k->∀ i,i<k->f i=g i
 | 0,_,_,_,i,hi=>absurd hi (Nat.not_lt_zero _)
 | k+1,hf,hg,h,i,hi=>by
  have hf':=M.wordTo_lt f k (fun i hi=>hf i (by omega));have hg':=M.wordTo_lt g k (fun i hi=>hg i (by omega));rw[M.wordTo,M.wordTo] at h;have hz : 0<256 ^ k:=Nat.pow_pos (by decide);have e1:(M.wordTo f k+f k*256 ^ k)/256 ^ k=f k:=by
   rw[Nat.add_mul_div_right _ _ hz,Nat.div_eq_of_lt hf',Nat.zero_add]
  have e2:(M.wordTo g k+g k*256 ^ k)/256 ^ k=g k:=by
   rw[Nat.add_mul_div_right _ _ hz,Nat.div_eq_of_lt hg',Nat.zero_add]
  have e3:f k=g k:=by rw[<-e1,h,e2]
  by_cases e:i=k
  ·rw[e];exact e3
  ·rw[e3] at h;exact BA f g k (fun i hi=>hf i (by omega)) (fun i hi=>hg i (by omega)) (Nat.add_right_cancel h) i (by omega)
theorem BQ{w s a bS R lim n f}(h:M.SpA w s a bS R lim n f){i:Nat}(hi:i<n):f i<256:=by
 obtain⟨cap,hb,hr⟩:=h.ex
 cases a with
 | none=>
  obtain⟨e,_⟩:=hr;omega
 | some g=>
  obtain⟨_,rs,_,_,h1,h2,h3⟩:=hr;rw[<-h2 i hi];exact h3 i
theorem zF{f g:Nat->Nat}{o:Nat}(hf:∀ i,i<8->f (o+i)<256)(hg:∀ i,i<8->g (o+i)<256)(h:M.word f o=M.word g o)(j:Nat)(hj:j<8):f (o+j)=g (o+j):=
 BA (fun i=>f (o+i)) (fun i=>g (o+i)) 8 hf hg h j hj
theorem Kp.byte{w w' x t t'}{G:Nat->Prop}(h:Kp x t t' G)(hb:BdAt w x t)(hb':BdAt w' x t'){i:Nat}(hi:i/4096*4096+4096<=x.n)(hG:G (i/4096)):t'.f i=t.f i:=by
 have hc:=hb.sp.cfg;have hn:=hb.sp.nle;have hbe:=hc.be;have hb1:=hc.b1;have hcell:M.IsCell x.bS x.n (x.bS+i/16*16):=by unfold M.IsCell;omega
 obtain⟨h1,h2⟩:=h _ hcell (by rw[show(x.bS+i/16*16-x.bS)/4096=i/4096 by omega];exact hG);unfold M.nx at h1;unfold M.pv at h2;rw[show x.bS+i/16*16-x.bS=i/16*16 by omega] at h1;rw[show x.bS+i/16*16+8-x.bS=i/16*16+8 by omega] at h2;have f1:∀ j,j<16->t.f (i/16*16+j)<256:=fun j hj=>BQ hb.sp (by omega)
 have f2:∀ j,j<16->t'.f (i/16*16+j)<256:=fun j hj=>BQ hb'.sp (by omega)
 by_cases e:i%16<8
 ·have:=zF (fun j hj=>f2 j (by omega)) (fun j hj=>f1 j (by omega)) h1 (i%16) e;rw[show i/16*16+i%16=i by omega] at this;exact this
 ·have:=zF (o:=i/16*16+8) (fun j hj=>by have:=f2 (8+j) (by omega);rw[<-Nat.add_assoc] at this;exact this) (fun j hj=>by have:=f1 (8+j) (by omega);rw[<-Nat.add_assoc] at this;exact this) h2 (i%16-8) (by omega);rw[show i/16*16+8+(i%16-8)=i by omega] at this;exact this
def Lv(ls:List (Nat×Nat))(g:Nat):Prop:=∃ q k,(q,k)∈ls/\q<=g/\g<q+2 ^ k
def BK(t t':Bt)(ls ls':List (Nat×Nat)):Prop:=∀ i,Lv ls (i/4096)->Lv ls' (i/4096)->t'.f i=t.f i
theorem Sf.nfree{x t fr ls}(s:Sf x t fr ls){g:Nat}(h:Lv ls g)(j:Nat)(hj:j<=x.o):g ∉ fr j:=fun hg=>by
 obtain⟨q,k,hm,h1,h2⟩:=h;obtain⟨B,s,_,hL⟩:=s;have hz : 0<2 ^ j:=Nat.pow_pos (by decide);rcases s.ds _ _ _ _ _ _ ((s.fi g j).2 ⟨hj,hg⟩) ((hL q k).2 hm)with ⟨e,_⟩|e|e
 ·exact absurd e (by decide)
 ·omega
 ·omega
theorem Sf.lv_in{x t fr ls}(s:Sf x t fr ls){g:Nat}(h:Lv ls g):g*4096+4096<=x.n:=by
 obtain⟨q,k',hm,h3,h4⟩:=h;obtain⟨_,_,a3⟩:=s.sn.al hm;obtain⟨B,s,_,hL⟩:=s;have h5:g+1<=t.m.n:=Nat.le_trans h4 a3;have h6:=Nat.mul_le_mul_right 4096 h5;rw[Nat.add_mul,Nat.one_mul] at h6;exact Nat.le_trans h6 s.nb
theorem BK.of{w w':World}{x:Bx}{t t':Bt}{fr fr':Nat->List Nat}{ls ls':List (Nat×Nat)}(h:BdAt w x t)(h':BdAt w' x t')(s:Sf x t fr ls)(s':Sf x t' fr' ls')(k:Kp x t t' (fun g=>(∀ i,i<=x.o->g ∉ fr i)/\∀ i,i<=x.o->g ∉ fr' i)):BK t t' ls ls':=fun i h1 h2=>by
 have n1:=fun j hj=>s.nfree h1 j hj
 have n2:=fun j hj=>s'.nfree h2 j hj
 have hi:=s.lv_in h1;exact Kp.byte (G:=fun g=>(∀ i,i<=x.o->g ∉ fr i)/\∀ i,i<=x.o->g ∉ fr' i) k h h' (i:=i) hi (And.intro n1 n2)
theorem BK.trans{t t1 t2:Bt}{ls ls1 ls2:List (Nat×Nat)}(h:BK t t1 ls ls1)(h':BK t1 t2 ls1 ls2)(hm:∀ g,Lv ls g->Lv ls2 g->Lv ls1 g):BK t t2 ls ls2:=fun i h1 h2=>(h' i (hm _ h1 h2) h2).trans (h i h1 (hm _ h1 h2))
end Go.Proofs.YtkfmheelhinjdaaGreatDoor
namespace Go.Proofs.YtkfmheelhinjdaaGreatDoor.K
open _root_.Go.Proofs.Tryz
open Go.RowKit
set_option linter.unusedVariables false
def DF(x:Bx)(t:Bt)(w w':World)(ls0:List (Nat×Nat))(fr:Nat->List Nat)(ls:List (Nat×Nat)):Prop:=∃ t',BdAt w' x t'/\Kt (aD x) w w'/\Sf x t' fr ls/\t'.m.n=t.m.n/\BK t t' ls0 ls
theorem wV(x:Bx)(t:Bt)(fr:Nat->List Nat)(ls:List (Nat×Nat))(s:Sf x t fr ls)(k:Nat)(hk:k<=x.o)(w:World)(h:BdAt w x t):
  Calls prog 163 #[.pointer (some ⟨x.b,0,none⟩),.int .i64 k] w fun e w'=>
   (e=.returned (.tuple #[.int .u64 0,.int .i64 2])/\w'=w/\∀ j,k<=j->j<=x.o->fr j=[])\/
   (∃ j p l,k<=j/\j<=x.o/\(∀ i,k<=i->i<j->fr i=[])/\fr j=p :: l/\e=.returned (.tuple #[.int .u64 ((ad x p:Nat):Int),.int .i64 0])/\DF x t w w' ls (cK (cD fr j (M.dropL (fr j) p)) p j k) (ls ++ [(p,k)])):=by
 have s00:=s;obtain⟨B,s,hN,hL⟩:=s;rcases TI x t k with hz|⟨j,hj,hl⟩
 ·refine(ZF x t k hk hz w h).mono ?_;rintro e w' ⟨rfl,rfl⟩;exact .inl ⟨rfl,rfl,fun j h1 h2=>(s.head j h2).1 (hz j h1 h2)⟩
 ·obtain⟨p,l,hfr⟩:∃ p l,fr j=p :: l:=by
   cases e:fr j with
   | nil=>exact absurd ((s.head j hj).2 e) (hl.lh hj)
   | cons p l=>exact⟨p,l,rfl⟩
  obtain⟨c1,c2,c3,c4,c5,c6,fr',B',c7,c8,c9,c10,c11⟩:=s.take hN hl.lk hj hfr;refine(UE x t k j p hk hl hj c1 c2 c3 c4 c5 c6 w h).mono ?_;rintro e w' ⟨rfl,h1,h2⟩;have hfr':fr'=cK (cD fr j (M.dropL (fr j) p)) p j k:=by
   funext i
   rw[c10];unfold cK cD;by_cases e:k<=i/\i<j
   ·rw[if_pos e,if_pos e,if_neg (by omega)]
   ·rw[if_neg e,if_neg e]
  subst hfr';exact .inr ⟨j,p,l,hl.lk,hj,fun i h3 h4=>(s.head i (by omega)).1 (hl.lz i h3 h4),hfr,rfl,_,h1,h2,⟨B',c7,c8,fun q i=>by rw[c9,hL,sO]⟩,NV _ _ _ _ _,BK.of h h1 s00 ⟨B',c7,c8,fun q i=>by rw[c9,hL,sO]⟩ c11⟩
theorem IY(x:Bx)(t:Bt)(fr:Nat->List Nat)(ls:List (Nat×Nat))(s0:Sf x t fr ls)(hn:nB x t)(hl:(bC x,x.o)∈ls)(hv:x.P (bC x)=none)(w:World)(h:BdAt w x t):
  Calls prog 211 #[.pointer (some ⟨x.b,0,none⟩)] w fun e w'=>e=.returned (.int .i64 0)/\DF x t w w' ls (oF x.o fr (bC x) x.o) (nA ls (bC x)):=by
 obtain⟨t1,t2⟩:=s0.sn.top hn;have hz : 0<2 ^ x.o:=Nat.pow_pos (by decide);have hlv:=(s0.sn.live_iff (bC x) x.o (by omega)).2 ⟨hl,hv⟩;have hdr:=s0.drop_iff hl;have s00:=s0;obtain⟨B,s,hN,hL⟩:=s0;obtain⟨pg1,_⟩:=xH s (bC x) (by omega);obtain⟨t',p',k',c1,c2,B',c3,c4,c5,e1,e2,e3⟩:=s.give hN ((hL (bC x) x.o).2 hl) hv;subst e1 e2;rw[Nat.sub_self,gO] at c1;have c1a:t'=t:=(congrArg Prod.fst c1).symm;have c1b:(cS x.o (x.o-x.o) fr (bC x) x.o).2.1=bC x:=by rw[Nat.sub_self];rfl
 have c1c:(cS x.o (x.o-x.o) fr (bC x) x.o).2.2=x.o:=by rw[Nat.sub_self];rfl
 subst c1a;rw[c1b,c1c] at c2 e3;refine(WJ x t' hn hlv (by rw[pg1];exact c2) w h).mono ?_;rintro e w' ⟨rfl,h1,h2⟩;rw[pg1] at h1;have c3':Sd x (eH x t' (bC x) x.o) (oF x.o fr (bC x) x.o) B':=by
  have:=c3;rw[c1b,c1c] at this;unfold oF;rw[c1b,c1c];exact this
 exact⟨rfl,_,h1,h2,⟨B',c3',c4,fun q i=>by rw[c5,hL];exact hdr q i⟩,tL _ _ _ _,BK.of h h1 s00 ⟨B',c3',c4,fun q i=>by rw[c5,hL];exact hdr q i⟩ (e3.mono fun g hg=>⟨hg.1,fun j hb=>hg.2 j ((c3'.fi g j).1 hb).1 ((c3'.fi g j).1 hb).2⟩)⟩
theorem sG{w W W' lw x t fr ls fr' ls'}(h:PO w W lw x t fr ls)(d:DF x t W W' ls fr' ls'):∃ t',PO w W' lw x t' fr' ls'/\t'.m.n=t.m.n/\Kt (aD x) W W'/\BK t t' ls ls':=by
 obtain⟨t',hb,hk,hs,hn,hbk⟩:=d;exact⟨t',⟨h.pl.call hb hk,hs,by rw[hn];exact h.st,h.bm⟩,hn,hk,hbk⟩
theorem Lv.more{ls l:List (Nat×Nat)}{g:Nat}(h:Lv ls g):Lv (ls ++ l) g:=by
 obtain⟨q,k,h1,h2⟩:=h;exact⟨q,k,List.mem_append_left _ h1,h2⟩
theorem LZ{i n:Nat}(h:i/4096*4096+4096<=n):i<n:=by
 have:=Nat.div_add_mod i 4096;have h2:=Nat.mod_lt i (show 0<4096 by decide);omega
theorem LW(f:Nat->Nat)(n i:Nat)(h:i<n):M.more f n i=f i:=by
 unfold M.more;rw[if_pos h]
def CT(w W:World)(lw:Nat)(x:Bx)(t:Bt)(fr:Nat->List Nat)(ls:List (Nat×Nat))(w':World):Prop:=∃ x' t',PO w w' lw x' t' (cD fr x.o (t.m.n :: fr x.o)) ls/\Sm x x'/\x'.n=x.n+x.R/\t'.m.n=t.m.n+2 ^ x.o/\Kt (aD x) W w'/\Nb W x x'/\BK t t' ls ls
theorem LU{w W lw x t fr ls}(h:PO w W lw x t fr ls)(hl:x.n+x.R<=x.lim*x.R):
  Calls prog 164 #[.pointer (some ⟨lw,0,none⟩),.bool false] W fun e w'=>e=.returned (.int .i64 0)/\CT w W lw x t fr ls w':=by
 obtain⟨n1,n2,n3,n4,⟨r,n5,n6,n7⟩,n8,n9⟩:=h.nums;have hcf:=h.pl.bd.sp.cfg;have hR:=h.pl.bd.hR;have hR1:=hcf.r1;have hbe:=hcf.be;have hlr:=hcf.lr;have hst:=h.st;have hmo:=h.pl.bd.mo;have hr1:r+1<=x.lim:=by
  rw[n7,<-Nat.succ_mul] at hl;exact Nat.le_of_mul_le_mul_right hl (by omega)
 have hR2:x.R=2 ^ x.o*4096:=by rw[hR,Nat.mul_comm]
 have hg:t.m.n+2 ^ x.o<=1024:=by
  have:(t.m.n+2 ^ x.o)*4096<=1024*4096:=by
   rw[Nat.add_mul,hst,<-hR2];omega
  exact Nat.le_of_mul_le_mul_right this (by decide)
 have CM:=aA (M.Commit_ok x.s x.a x.bS x.R x.lim x.n t.f W h.pl.bd.sp ⟨r,n7,hr1⟩);have GW:=aA (show ∀ W1,MpA W1 x.m x.B t.m->Calls prog 210 #[.pointer (some ⟨x.m,0,none⟩)] W1 fun e w'=>e=.returned (.tuple #[])/\∃ B',MpA w' x.m B' (cG t.m)/\Kt (aM x.m x.B t.m.o) W1 w'/\dL W1 x.m x.B B' t.m.o from fun W1 hW=>WB x.m x.B t.m W1 hW);have HN:=aA (show(cG t.m).n=t.m.n+2 ^ x.o from MY hmo hg);have HH:=aA h;have HG:=aA hg;have HR2:=aA hR2;have H63:=aA (show x.bS+(x.n+x.R)<=9223372036854775808 from by omega);obtain⟨c0,c1,c2⟩:=h.pl.c;clear h n1 n2 n3 n4 n5 n6 n7 n8 n9 hcf hR hR1 hbe hlr hst hmo hr1 hR2 hg hl;go_enter func164,ntmps164;go_wp2_with fail;refine CM.out.mono ?_;rintro e w1 ⟨rfl,g',hS,hk,hgg⟩;have P1:=aA (HH.out.pl.space (fQ hk) hS hgg);have K1:=aA (fQ hk);have NG:=aA hgg;clear hS hk hgg CM c0 c1 c2;obtain⟨c0,c1,c2⟩:=P1.out.c;go_wp2_with fail;refine(GW.out _ P1.out.bd.mp).mono ?_;rintro e w2 ⟨rfl,B',hM,hk,hF⟩;have P2:=aA (P1.out.grow hk hM (MZ _) hF);have K2:=aA hk;have NF:=aA hF;clear hM hk hF GW c0 c1 c2;have FD:=aA (show Calls prog 211 #[.pointer (some ⟨x.b,0,none⟩)] w2 fun e w'=>e=.returned (.int .i64 0)/\DF { x with a:=some g',n:=x.n + x.R,B:=B' } ⟨M.more t.f x.n,cG t.m,t.hd⟩ w2 w' (ls ++ [(t.m.n,x.o)]) (cD fr x.o (t.m.n :: fr x.o)) ls from by
  have s2:=HH.out.sf.grow HH.out.pl.bd { x with a:=some g',n:=x.n+x.R,B:=B' } rfl rfl rfl rfl H63.out HG.out;have e1:(cG t.m).n*4096=x.n+x.R:=by rw[HN.out,Nat.add_mul,HH.out.st,<-HR2.out]
  have hz : 0<2 ^ x.o:=Nat.pow_pos (by decide);have htop:bC { x with a:=some g',n:=x.n+x.R,B:=B' }=t.m.n:=by
   unfold bC;show(x.n+x.R)/4096-2 ^ x.o=t.m.n
   rw[<-HH.out.st,HR2.out,<-Nat.add_mul,Nat.mul_div_cancel _ (by decide)];omega
  have hok:nB { x with a:=some g',n:=x.n+x.R,B:=B' } ⟨M.more t.f x.n,cG t.m,t.hd⟩:=⟨by have:=HR2.out;show x.n+x.R≠0;omega,e1⟩;have:=IY { x with a:=some g',n:=x.n+x.R,B:=B' } ⟨M.more t.f x.n,cG t.m,t.hd⟩ fr _ s2 hok (by rw[htop];exact List.mem_append_right _ (List.mem_singleton.2 rfl)) (by rw[htop];exact HH.out.sf.pout (Nat.le_refl _)) w2 P2.out.bd;rw[htop,XZ,XY HH.out.sf] at this;exact this)
 obtain⟨c0,c1,c2⟩:=P2.out.c;go_wp2_with fail;refine FD.out.mono ?_;rintro e w3 ⟨rfl,hd⟩;have D:=aA (show CT w W lw x t fr ls w3 from by
  obtain⟨t',hb,hk,hs,hn,hbk⟩:=hd;have hz1:=K1.out.size;have nb:Nb W x { x with a:=some g',n:=x.n+x.R,B:=B' }:=by
   rintro y (hy|hy|⟨k,hk,rfl⟩)
   ·rcases hy with rfl|hy
    ·exact .inl (.inl (.inl rfl))
    ·have hy:some g'=some y:=hy
     cases hy
     rcases NG.out with e|e
     ·exact .inl (.inl (.inr e))
     ·exact .inr e
   ·have hy:aM x.m B' x.o y:=hy;rw[<-HH.out.pl.bd.mo] at hy;rcases NF.out y hy with e|e
    ·exact .inl (.inr (.inl (HH.out.pl.bd.mo▸e)))
    ·exact .inr (Nat.le_trans hz1 e)
   ·exact .inl (.inr (.inr ⟨k,hk,rfl⟩))
  have k12:Kt (aD x) W w2:=K1.out.trans K2.out (fun _ _ e=>.inl e) (fun _ _ e=>.inr (.inl (HH.out.pl.bd.mo▸e)));refine⟨{ x with a:=some g',n:=x.n+x.R,B:=B' },t',⟨P2.out.call hb hk,hs,?_,HH.out.bm⟩,⟨rfl,rfl,rfl,rfl,rfl,rfl,rfl,rfl,rfl⟩,rfl,hn.trans HN.out,k12.trans hk (fun _ _ e=>e) (fun y hy e=>?_),nb,fun i h1 h2=>?_⟩
  ·rw[hn];show(cG t.m).n*4096=x.n+x.R
   rw[HN.out,Nat.add_mul,HH.out.st,<-HR2.out]
  ·rcases nb y e with e|e
   ·exact e
   ·omega
  ·refine(hbk i (Lv.more h1) h2).trans ?_;have h3:=HH.out.sf.lv_in h1;exact LW t.f x.n i (LZ h3))
 clear hd FD c0 c1 c2;go_wp2_with fail;go_ret;exact⟨rfl,D.out⟩
inductive NdP(w W:World)(lw:Nat)(x:Bx)(t:Bt)(fr:Nat->List Nat)(ls:List (Nat×Nat))(k:Int)(d:Bool)(e:Ending)(w':World):Prop where
 | bad (hk:aC (x.o+1) k=false) (he:e=.returned (.tuple #[.int .u64 0,.bool false,.int .i64 1])) (kp:Kt nO W w')
 | here (i j p:Nat) (l:List Nat) (hk:k=(i:Int)) (hi:i<=x.o) (hij:i<=j) (hj:j<=x.o) (hz:∀ a,i<=a->a<j->fr a=[]) (hp:fr j=p :: l) (he:e=.returned (.tuple #[.int .u64 ((ad x p:Nat):Int),.bool false,.int .i64 0])) (hs:∃ t',PO w w' lw x t' (cK (cD fr j (M.dropL (fr j) p)) p j i) (ls ++ [(p,i)])/\t'.m.n=t.m.n/\BK t t' ls (ls ++ [(p,i)])) (kp:Kt (aD x) W w')
 | stuck (i:Nat) (hk:k=(i:Int)) (hi:i<=x.o) (hz:∀ a,i<=a->a<=x.o->fr a=[]) (hd:d=true\/x.n=x.lim*x.R) (he:e=.returned (.tuple #[.int .u64 0,.bool false,.int .i64 2])) (kp:Kt nO W w')
 | grew (i:Nat) (hk:k=(i:Int)) (hi:i<=x.o) (hz:∀ a,i<=a->a<=x.o->fr a=[]) (hd:d=false) (hl:x.n + x.R<=x.lim*x.R) (he:e=.returned (.tuple #[.int .u64 ((ad x t.m.n:Nat):Int),.bool true,.int .i64 0])) (hs:∃ x' t',PO w w' lw x' t' (cK fr t.m.n x.o i) (ls ++ [(t.m.n,i)])/\Sm x x'/\x'.n=x.n + x.R/\t'.m.n=t.m.n + 2 ^ x.o/\Nb W x x'/\BK t t' ls (ls ++ [(t.m.n,i)])) (kp:Kt (aD x) W w')
theorem Need_any{w W lw x t fr ls}(h:PO w W lw x t fr ls)(k:Int)(d:Bool):
  Calls prog 130 #[.pointer (some ⟨lw,0,none⟩),.int .i64 k,.bool d] W fun e w'=>NdP w W lw x t fr ls k d e w':=by
 obtain⟨c0,c1,c2⟩:=h.pl.c;have HH:=aA h
 cases hr:aC (x.o+1) k with
 | false=>
  have TK:=aA (UN x t k hr W h.pl.bd);have HR:=aA hr;clear h hr;go_enter func130,ntmps130;go_wp2_with fail;refine TK.out.mono ?_;rintro e w1 ⟨rfl,h1⟩;subst h1;go_wp2_with fail;exact⟨rfl,.tuple #[.int .u64 0,.bool false,.int .i64 1],by simp[results,results130,go_sem],.bad HR.out rfl (Kt.refl nO _)⟩
 | true=>
  obtain⟨i,rfl,hi'⟩:=gM hr;have hi:i<=x.o:=by omega
  have TK:=aA (wV x t fr ls h.sf i hi W h.pl.bd);clear h hr hi';go_enter func130,ntmps130;go_wp2_with fail;refine TK.out.mono ?_;rintro e w1 (⟨rfl,h1,hz⟩|⟨j,p,l,hij,hj,hz,hp,rfl,hd⟩)
  ·subst h1;have HZ:=aA hz;clear hz TK;by_cases hd:d=true\/x.n=x.lim*x.R
   ·as_aux_lemma=>
    have GR:=aA (KY HH.out.pl d hd);have HD:=aA hd;clear hd;go_wp2_with fail;refine GR.out.mono ?_;rintro e w2 ⟨rfl,hk⟩;have K2:=aA hk;clear hk;go_wp2_with fail;exact⟨rfl,.tuple #[.int .u64 0,.bool false,.int .i64 2],by simp[results,results130,go_sem],.stuck i rfl hi HZ.out HD.out rfl K2.out⟩
   ·as_aux_lemma=>
    obtain rfl:d=false:=by
     cases d with
     | true=>exact absurd (.inl rfl) hd
     | false=>rfl
    have hl:x.n+x.R<=x.lim*x.R:=by
     obtain⟨_,_,_,_,⟨r,_,n6,n7⟩,_,_⟩:=HH.out.nums;have h1:r≠x.lim:=fun e=>hd (.inr (by rw[n7,e]))
     have h2:(r+1)*x.R<=x.lim*x.R:=Nat.mul_le_mul_right _ (by omega);rw[Nat.add_mul,Nat.one_mul,<-n7] at h2;exact h2
    have HL:=aA hl;have GR:=aA (LU HH.out hl);clear hd hl;go_wp2_with fail;refine GR.out.mono ?_;rintro e w2 ⟨rfl,x2,t2,hP2,hs2,hx2,ht2,hk2,hn2,hbk2⟩;have BK2:=aA hbk2;have P2:=aA hP2;have S2:=aA hs2;have E2:=aA (And.intro hx2 (And.intro ht2 (And.intro hk2 hn2)));have hfo:=HZ.out x.o hi (Nat.le_refl _);have TK2:=aA (wV x2 t2 _ ls hP2.sf i (by rw[hs2.o];exact hi) w2 hP2.pl.bd);obtain⟨c0,c1,c2⟩:=hP2.pl.c;rw[hs2.b] at c2 TK2;clear hP2 hs2 hx2 ht2 hk2 hn2 hbk2 GR;go_wp2_with fail;refine TK2.out.mono ?_;rintro e w3 (⟨_,_,hz3⟩|⟨j,p,l,hij,hj,hz3,hp,rfl,hd⟩)
    ·exfalso
     have:=hz3 x.o hi (by rw[S2.out.o];exact Nat.le_refl _);simp[cD] at this
    ·have hjo:j=x.o:=by
      rcases Nat.lt_or_ge j x.o with e|e
      ·have h1:=HZ.out j hij (Nat.le_of_lt e);unfold cD at hp;rw[if_neg (by omega),h1] at hp
       cases hp
      ·rw[S2.out.o] at hj;omega
     subst hjo;have hpn:p=t.m.n:=by
      unfold cD at hp;rw[if_pos rfl] at hp;injection hp with e _
      exact e.symm
     subst hpn;have D:=aA (show ∃ x' t',PO w w3 lw x' t' (cK fr t.m.n x.o i) (ls ++ [(t.m.n,i)])/\Sm x x'/\x'.n=x.n + x.R/\t'.m.n=t.m.n + 2 ^ x.o/\Nb w1 x x'/\BK t t' ls (ls ++ [(t.m.n,i)])from by
      obtain⟨t3,hP3,hn3,hk3,hbk3⟩:=sG P2.out hd;refine⟨x2,t3,⟨hP3.pl,hP3.sf.congr (fun a ha=>?_),hP3.st,hP3.bm⟩,S2.out,E2.out.1,hn3.trans E2.out.2.1,E2.out.2.2.2,BK2.out.trans hbk3 (fun _ h _=>h)⟩;unfold cK;by_cases ea:i<=a/\a<x.o
      ·rw[if_pos ea,if_pos ea];unfold cD;rw[if_neg (by omega),if_neg (by omega)]
      ·rw[if_neg ea,if_neg ea];unfold cD;by_cases eo:a=x.o
       ·rw[if_pos eo,if_pos rfl,eo,hfo];simp[M.dropL]
       ·rw[if_neg eo,if_neg eo])
     have KF:=aA (show Kt (aD x) w1 w3 from by
      obtain⟨t3,hP3,hn3,hk3,_⟩:=sG P2.out hd;refine E2.out.2.2.1.trans hk3 (fun _ _ e=>e) (fun y hy e=>?_);rcases E2.out.2.2.2 y e with e|e
      ·exact e
      ·omega)
     have had:ad x2 t.m.n=ad x t.m.n:=(by unfold ad;rw[S2.out.bS]);rw[had];clear hd hz3 hij hj hp TK2 c0 c1 c2;go_wp2_with fail;exact⟨rfl,.tuple #[.int .u64 ((ad x t.m.n:Nat):Int),.bool true,.int .i64 0],by simp[results,results130,go_sem],.grew i rfl hi HZ.out rfl HL.out rfl D.out KF.out⟩
  ·as_aux_lemma=>
   obtain⟨t1,hP1,hn1,hk1,hbk1⟩:=sG HH.out hd;have D:=aA (show NdP w W lw x t fr ls (i:Int) d (.returned (.tuple #[.int .u64 ((ad x p:Nat):Int),.bool false,.int .i64 0])) w1 from .here i j p l rfl hi hij hj hz hp rfl ⟨t1,hP1,hn1,hbk1⟩ hk1);clear hd hP1 hn1 hk1 hbk1 hz hp hij hj TK;generalize ad x p=q at *;go_wp2_with fail;exact⟨rfl,.tuple #[.int .u64 q,.bool false,.int .i64 0],by simp[results,results130,go_sem],D.out⟩
end Go.Proofs.YtkfmheelhinjdaaGreatDoor.K
namespace Go.Proofs.YtkfmheelhinjdaaGreatDoor
open _root_.Go.Proofs.Tryz
open Go.RowKit
set_option linter.unusedVariables false
def pty(e:TypeId):Prop:=e=140\/e=5\/e=149\/e=99\/e=150\/e=181\/e=27\/e=179\/e=143\/e=144\/e=84
theorem Pol.pty{w W lw x t}(h:Pol w W lw x t){y:Nat}{cs:Array Value}{e:TypeId}{z:Nat×Nat}(hy:W.heap[y]?=some (.cells cs e z))(hb:aD x y\/y=x.b\/y=x.l\/y=lw):pty e:=by
 rcases hb with (hx|hx|⟨k,hk,e2⟩)|rfl|rfl|rfl
 ·obtain⟨cs',t',z',h1,h2⟩:=mI h.bd.sp hx;have e3:=kD hy h1;subst e3;rcases h2 with rfl|rfl
  ·exact .inl rfl
  ·exact .inr (.inl rfl)
 ·rw[<-h.bd.mo] at hx;obtain⟨cs',t',z',h1,h2⟩:=mE h.bd.mp hx;have e3:=kD hy h1;subst e3;rcases h2 with rfl|rfl|rfl|rfl|rfl
  ·exact .inr (.inr (.inl rfl))
  ·exact .inr (.inr (.inr (.inl rfl)))
  ·exact .inr (.inr (.inr (.inr (.inl rfl))))
  ·exact .inr (.inr (.inr (.inr (.inr (.inl rfl)))))
  ·exact .inr (.inr (.inr (.inr (.inr (.inr (.inl rfl))))))
 ·rw[e2] at hy;exact .inr (.inr (.inr (.inr (.inr (.inr (.inr (.inl (kD hy (h.bd.ls k hk).hc))))))))
 ·exact .inr (.inr (.inr (.inr (.inr (.inr (.inr (.inr (.inl (kD hy h.bd.bs)))))))))
 ·obtain⟨cs',hl,_⟩:=h.bd.lr;exact .inr (.inr (.inr (.inr (.inr (.inr (.inr (.inr (.inr (.inl (kD hy hl))))))))))
 ·exact .inr (.inr (.inr (.inr (.inr (.inr (.inr (.inr (.inr (.inr (kD hy h.box))))))))))
def lG(w:World):Prop:=∀ k,k<8->w.cell? ⟨0,k,none⟩=some (.int .u64 ((16*2 ^ k:Nat):Int))
abbrev pU(lw bS:Nat)(h:Nat->Int):Obj:=.cells #[.pointer (some ⟨lw,0,none⟩),.int .u64 bS,.int .i64 (h 0),.int .i64 (h 1),.int .i64 (h 2),.int .i64 (h 3),.int .i64 (h 4),.int .i64 (h 5),.int .i64 (h 6),.int .i64 (h 7)] 135
structure SW(w W:World)(sb lw:Nat)(x:Bx)(t:Bt)(h:Nat->Int):Prop where
 pl:Pol w W lw x t
 bx:W.heap[sb]?=some (pU lw x.bS h)
 nw:w.heap.size<=sb
 tb:lG w
theorem SW.nsb{w W sb lw x t h}(s:SW w W sb lw x t h):¬(aD x sb\/sb=x.b\/sb=x.l\/sb=lw):=fun e=>absurd (s.pl.pty s.bx e) (by unfold Go.Proofs.YtkfmheelhinjdaaGreatDoor.pty;decide)
theorem SW.call{w W W' sb lw x t t' h}(s:SW w W sb lw x t h)(hb:BdAt W' x t')(k:Kt (aD x) W W'):SW w W' sb lw x t' h:=
 ⟨s.pl.call hb k,(k.block _ (lH s.bx) (fun e=>s.nsb (.inl e))).trans s.bx,s.nw,s.tb⟩
theorem SW.keep{w W W' sb lw x t h}(s:SW w W sb lw x t h)(k:Kt nO W W'):SW w W' sb lw x t h:=s.call (s.pl.bd.keep k) (kJ k)
theorem SW.map{w W W' sb lw x t h}{m':Mp}(s:SW w W sb lw x t h)(hm:MpA W' x.m x.B m')(k:Kt (aM x.m x.B t.m.o) W W')(ho:m'.o=t.m.o):SW w W' sb lw x { t with m:=m' } h/\Kt (aD x) W W':=by
 have k':Kt (aD x) W W':=k.mono (fun y _ e=>.inr (.inl (s.pl.bd.mo▸e)));exact⟨s.call (s.pl.bd.map k hm ho) k',k'⟩
theorem SW.tab{w W sb lw x t h}(s:SW w W sb lw x t h):lG W:=fun k hk=>s.pl.kp.cell id (s.tb k hk)
theorem SW.c0{w W sb lw x t h}(s:SW w W sb lw x t h):W.cell? ⟨sb,0,none⟩=some (.pointer (some ⟨lw,0,none⟩))/\W.cell? ⟨sb,1,none⟩=some (.int .u64 x.bS):=by
 constructor <;> simp[World.cell?,s.bx]
theorem rZ{P:Nat->Prop}(h0:P 0)(h1:P 1)(h2:P 2)(h3:P 3)(h4:P 4)(h5:P 5)(h6:P 6)(h7:P 7):∀ k,k<8->P k
 | 0,_=>h0
 | 1,_=>h1
 | 2,_=>h2
 | 3,_=>h3
 | 4,_=>h4
 | 5,_=>h5
 | 6,_=>h6
 | 7,_=>h7
 | _+8,h=>absurd h (by omega)
theorem SW.hd{w W sb lw x t h}(s:SW w W sb lw x t h)(k:Nat)(hk:k<8):W.cell? ⟨sb,2+k,none⟩=some (.int .i64 (h k)):=by
 revert k
 apply rZ <;> simp[World.cell?,s.bx]
def cU(h:Nat->Int)(k:Nat)(v:Int):Nat->Int:=fun j=>if j=k then v else h j
theorem SW.set{w W sb lw x t h}(s:SW w W sb lw x t h)(k:Nat)(hk:k<8)(v:Int):SW w (W.setCell ⟨sb,2+k,none⟩ (.int .i64 v)) sb lw x t (cU h k v):=by
 have kp:Kt (fun y=>y=sb) W (W.setCell ⟨sb,2+k,none⟩ (.int .i64 v)):=(Kt.refl (fun y=>y=sb) W).setCell (p:=⟨sb,2+k,none⟩) rfl _;have hn:=s.nsb;refine⟨⟨(kp.block _ (lH s.pl.box) (fun e=>hn (.inr (.inr (.inr e.symm))))).trans s.pl.box,s.pl.bd.kept kp (fun y hy e=>hn ?_),s.pl.nw,s.pl.kp.setNew (p:=⟨sb,2+k,none⟩) (fun e=>absurd s.nw (Nat.not_le.2 e)) _⟩,?_,s.nw,s.tb⟩
 ·subst e;rcases hy with hy|hy|hy
  ·exact .inl hy
  ·exact .inr (.inl hy)
  ·exact .inr (.inr (.inl hy))
 ·rw[heap_set s.bx];revert k
  apply rZ <;> intros <;> simp[cU]
theorem SW.fz{w W sb lw x t h}(s:SW w W sb lw x t h)(j:Nat):W.frozen? ⟨sb,j,none⟩=false:=by simp[World.frozen?,s.bx]
theorem uO(p bS:Nat)(hp:p<18446744073709551616)(hb:bS<18446744073709551616):IntKind.u64.wrap ((p:Int)-(bS:Int))=(((p+18446744073709551616-bS)%18446744073709551616:Nat):Int):=by
 rw[wrap_u64];omega
def bF(x:Bx)(p:Nat):Nat:=(p+18446744073709551616-x.bS)%18446744073709551616
theorem sN{w W sb lw x t h}(s:SW w W sb lw x t h)(p:Nat)(hp:p<18446744073709551616):
  Calls prog 193 #[.pointer (some ⟨sb,0,none⟩),.int .u64 p] W fun e w'=>e=.returned (.int .i64 ((bF x p/4096:Nat):Int))/\w'=W:=by
 obtain⟨c0,c1⟩:=s.c0;have hb:x.bS<18446744073709551616:=by have:=s.pl.bd.sp.cfg.be;omega
 have hw:=uO p x.bS hp hb;obtain⟨d,hd⟩:=xe ((p+18446744073709551616-x.bS)%18446744073709551616);rw[<-hd] at hw;rw[show bF x p=d from hd.symm];have hdb:d<18446744073709551616:=by rw[hd];exact Nat.mod_lt _ (by decide)
 obtain⟨q,hq⟩:=xe (d/4096);have hqi:(d:Int)/4096=(q:Int):=by omega
 have hqb:q<4503599627370496:=by omega
 rw[<-hq];clear hd s hb hp hq;go_enter func193,ntmps193;go_wp2_with fail;go_ret;exact⟨by simp,rfl⟩
def SD(w W:World)(sb lw:Nat)(x:Bx)(t:Bt)(h:Nat->Int)(m':Mp)(w':World):Prop:=SW w w' sb lw x { t with m:=m' } h/\Kt (aD x) W w'
theorem SY(m:Mp)(i a b:Int):(dH m i a b).o=m.o:=by unfold dH;split <;> rfl
theorem yI(m:Mp)(i a b:Int):(dH m i a b).n=m.n:=by unfold dH;split <;> rfl
theorem EG(m:Mp)(i c:Int)(l:Bool):(cQ m i c l).o=m.o:=by unfold cQ;split <;> rfl
theorem SX(m:Mp)(i c:Int):(fP m i c).o=m.o:=by unfold fP;split <;> rfl
theorem IR(m:Mp)(i c:Int):(iX m i c).o=m.o:=by unfold iX;split <;> rfl
theorem oQ{w W sb lw x t h}(s:SW w W sb lw x t h)(i a b:Int):
  Calls prog 250 #[.pointer (some ⟨x.m,0,none⟩),.int .i64 i,.int .i64 a,.int .i64 b] W fun e w'=>e=.returned (.int .i64 (mG t.m i a b))/\SD w W sb lw x t h (dH t.m i a b) w':=by
 refine(UW x.m x.B t.m i a b W s.pl.bd.mp).mono ?_;rintro e w' ⟨rfl,h1,h2⟩;exact⟨rfl,s.map h1 h2 (SY _ _ _ _)⟩
theorem GK{w W sb lw x t h}(s:SW w W sb lw x t h)(i c:Int)(l:Bool):
  Calls prog 200 #[.pointer (some ⟨x.m,0,none⟩),.int .i64 i,.int .i64 c,.bool l] W fun e w'=>e=.returned (.int .i64 (dX t.m i c l))/\SD w W sb lw x t h (cQ t.m i c l) w':=by
 refine(II x.m x.B t.m i c l W s.pl.bd.mp).mono ?_;rintro e w' ⟨rfl,h1,h2⟩;exact⟨rfl,s.map h1 h2 (EG _ _ _ _)⟩
theorem xC{w W sb lw x t h}(s:SW w W sb lw x t h)(i c:Int):
  Calls prog 196 #[.pointer (some ⟨x.m,0,none⟩),.int .i64 i,.int .i64 c] W fun e w'=>e=.returned (.int .i64 (jM t.m i c))/\SD w W sb lw x t h (fP t.m i c) w':=by
 refine(UY x.m x.B t.m i c W s.pl.bd.mp).mono ?_;rintro e w' ⟨rfl,h1,h2⟩;exact⟨rfl,s.map h1 h2 (SX _ _ _)⟩
theorem EF{w W sb lw x t h}(s:SW w W sb lw x t h)(i c:Int):
  Calls prog 194 #[.pointer (some ⟨x.m,0,none⟩),.int .i64 i,.int .i64 c] W fun e w'=>e=.returned (.int .i64 (oD t.m i c))/\SD w W sb lw x t h (iX t.m i c) w':=by
 refine(SJ x.m x.B t.m i c W s.pl.bd.mp).mono ?_;rintro e w' ⟨rfl,h1,h2⟩;exact⟨rfl,s.map h1 h2 (IR _ _ _)⟩
theorem fI{W:World}{y:Nat}{p:Pg}(h:W.heap[y]?=some (aI p)):W.cell? ⟨y,0,none⟩=some (.int .i64 p.kd)/\W.cell? ⟨y,1,none⟩=some (.int .i64 p.od)/\W.cell? ⟨y,2,none⟩=some (.int .i64 p.cl)/\W.cell? ⟨y,3,none⟩=some (.int .i64 p.lv)/\W.cell? ⟨y,4,none⟩=some (.int .i64 p.nx)/\W.cell? ⟨y,5,none⟩=some (.int .i64 p.pv)/\W.cell? ⟨y,6,none⟩=some (.int .i64 p.fs)/\W.cell? ⟨y,7,none⟩=some (.int .u64 p.b0)/\W.cell? ⟨y,8,none⟩=some (.int .u64 p.b1)/\W.cell? ⟨y,9,none⟩=some (.int .u64 p.b2)/\W.cell? ⟨y,10,none⟩=some (.int .u64 p.b3):=by
 refine⟨?_,?_,?_,?_,?_,?_,?_,?_,?_,?_,?_⟩ <;> simp[World.cell?,h]
def iA(m:Mp)(i p:Int):Mp:=dH m i (cF m i).nx p
def nP(m:Mp)(i n:Int):Mp:=dH m i n (cF m i).pv
theorem zJ{w W sb lw x t h}(s:SW w W sb lw x t h)(i p:Int):
  Calls prog 251 #[.pointer (some ⟨sb,0,none⟩),.int .i64 i,.int .i64 p] W fun e w'=>e=.returned (.tuple #[])/\SD w W sb lw x t h (iA t.m i p) w':=by
 obtain⟨q,hq⟩:=xe (cF t.m i);have HA:=aA (show Calls prog 72 #[.pointer (some ⟨x.m,0,none⟩),.int .i64 i] W fun e w'=>e=.returned (.tuple #[cC q,.bool (aC t.m.n i)])/\Kt nO W w' from by rw[hq];exact jA x.m x.B t.m i W s.pl.bd.mp);have HM:=aA (bZ s.pl);rw[show iA t.m i p=dH t.m i q.nx p by rw[hq];rfl];have H:=aA s;obtain⟨c0,c1⟩:=s.c0;clear s hq;generalize aC t.m.n i=r at *;go_enter func251,ntmps251;go_wp2_with fail;refine HM.out.mono ?_;rintro e w1 ⟨rfl,h1⟩;replace h1:=h1.symm;subst h1;go_wp2_with fail;refine HA.out.mono ?_;rintro e w2 ⟨rfl,hk⟩;have K2:=aA (hk.alloc (aI q));have X2:=aA (nH w2 (aI q));have H2:=aA (H.out.keep K2.out);have NY:=aA (show ¬aD x w2.heap.size from fun e=>absurd ((H.out.keep hk).pl.lt _ (.inl e)) (Nat.lt_irrefl _));clear hk c0 c1;go_upto_region 1 with fail;generalize w2.heap.size=y at *;generalize w2.alloc (aI q)=W2 at *;have KD:=aA ((Kt.refl nO W2).drew);have H3:=aA (H2.out.keep KD.out);obtain⟨c0,c1⟩:=H3.out.c0;have X3:=aA ((KD.out.block _ (lH X2.out) id).trans X2.out);obtain⟨_,_,_,_,x4,_⟩:=fI X3.out;have MP:=aA (bZ H3.out.pl);have CH:=aA (oQ H3.out i q.nx p);go_region_held3 (fun w'=>w'.cell? ⟨sb,0,none⟩=some (.pointer (some ⟨lw,0,none⟩))/\w'.cell? ⟨y,4,none⟩=some (.int .i64 q.nx)) ((refine⟨?_,?_⟩ <;> first|with_reducible assumption|fail)) (first
  | (go_at_call 250;(with_reducible refine CH.out.mono ?_);rintro e w5 ⟨rfl,hs5,hk5⟩;obtain⟨f0,f1⟩:=hs5.c0;have f4:=hk5.cell NY.out x4;have D5:=aA (show SD w W sb lw x t h (dH t.m i q.nx p) w5 from⟨hs5,(K2.out.trans KD.out (fun _ _ e=>e) (fun _ _ e=>e)).trans hk5 (fun _ _ e=>e.elim) (fun _ _ e=>e)⟩);clear hs5 hk5)
  | (go_at_call 45;(with_reducible refine MP.out.mono ?_);rintro e w3 ⟨rfl,h3⟩;replace h3:=h3.symm;subst h3)
  | fail)
 all_goals
  go_wp2_with fail;exact⟨rfl,.tuple #[],by simp[results,results251,go_sem],rfl,D5.out⟩
theorem VD{w W sb lw x t h}(s:SW w W sb lw x t h)(i n:Int):
  Calls prog 255 #[.pointer (some ⟨sb,0,none⟩),.int .i64 i,.int .i64 n] W fun e w'=>e=.returned (.tuple #[])/\SD w W sb lw x t h (nP t.m i n) w':=by
 obtain⟨q,hq⟩:=xe (cF t.m i);have HA:=aA (show Calls prog 72 #[.pointer (some ⟨x.m,0,none⟩),.int .i64 i] W fun e w'=>e=.returned (.tuple #[cC q,.bool (aC t.m.n i)])/\Kt nO W w' from by rw[hq];exact jA x.m x.B t.m i W s.pl.bd.mp);have HM:=aA (bZ s.pl);rw[show nP t.m i n=dH t.m i n q.pv by rw[hq];rfl];have H:=aA s;obtain⟨c0,c1⟩:=s.c0;clear s hq;generalize aC t.m.n i=r at *;go_enter func255,ntmps255;go_wp2_with fail;refine HM.out.mono ?_;rintro e w1 ⟨rfl,h1⟩;replace h1:=h1.symm;subst h1;go_wp2_with fail;refine HA.out.mono ?_;rintro e w2 ⟨rfl,hk⟩;have K2:=aA (hk.alloc (aI q));have X2:=aA (nH w2 (aI q));have H2:=aA (H.out.keep K2.out);have NY:=aA (show ¬aD x w2.heap.size from fun e=>absurd ((H.out.keep hk).pl.lt _ (.inl e)) (Nat.lt_irrefl _));clear hk c0 c1;go_upto_region 1 with fail;generalize w2.heap.size=y at *;generalize w2.alloc (aI q)=W2 at *;have KD:=aA ((Kt.refl nO W2).drew);have H3:=aA (H2.out.keep KD.out);obtain⟨c0,c1⟩:=H3.out.c0;have X3:=aA ((KD.out.block _ (lH X2.out) id).trans X2.out);obtain⟨_,_,_,_,_,x4,_⟩:=fI X3.out;have MP:=aA (bZ H3.out.pl);have CH:=aA (oQ H3.out i n q.pv);go_region_held3 (fun w'=>w'.cell? ⟨sb,0,none⟩=some (.pointer (some ⟨lw,0,none⟩))/\w'.cell? ⟨y,5,none⟩=some (.int .i64 q.pv)) ((refine⟨?_,?_⟩ <;> first|with_reducible assumption|fail)) (first
  | (go_at_call 250;(with_reducible refine CH.out.mono ?_);rintro e w5 ⟨rfl,hs5,hk5⟩;obtain⟨f0,f1⟩:=hs5.c0;have f4:=hk5.cell NY.out x4;have D5:=aA (show SD w W sb lw x t h (dH t.m i n q.pv) w5 from⟨hs5,(K2.out.trans KD.out (fun _ _ e=>e) (fun _ _ e=>e)).trans hk5 (fun _ _ e=>e.elim) (fun _ _ e=>e)⟩);clear hs5 hk5)
  | (go_at_call 45;(with_reducible refine MP.out.mono ?_);rintro e w3 ⟨rfl,h3⟩;replace h3:=h3.symm;subst h3)
  | fail)
 all_goals
  go_wp2_with fail;exact⟨rfl,.tuple #[],by simp[results,results255,go_sem],rfl,D5.out⟩
def cW(x:Bx)(sb:Nat):Nat->Prop:=fun y=>aD x y\/y=sb
def SE(w W:World)(sb lw:Nat)(x:Bx)(t:Bt)(m':Mp)(h':Nat->Int)(w':World):Prop:=SW w w' sb lw x { t with m:=m' } h'/\Kt (cW x sb) W w'
def fG(m:Mp)(h:Nat->Int)(p:Int)(c:Nat):Mp:=iA (dH m p (h c) (-1)) (h c) p
theorem CX{w W sb lw x t h}(s:SW w W sb lw x t h)(p:Int)(c:Nat)(hc:c<8):
  Calls prog 197 #[.pointer (some ⟨sb,0,none⟩),.int .i64 p,.int .i64 c] W fun e w'=>e=.returned (.tuple #[])/\SE w W sb lw x t (fG t.m h p c) (cU h c p) w':=by
 have H:=aA s;have HM:=aA (bZ s.pl);have CH:=aA (oQ s p (h c) (-1));obtain⟨c0,c1⟩:=s.c0;have ch:=s.hd c hc;have hci:(c:Int)<8:=by omega
 clear s;rw[show fG t.m h p c=iA (dH t.m p (h c) (-1)) (h c) p from rfl];obtain⟨z,hz⟩:=xe (h c);rw[<-hz] at ch CH ⊢;clear hz;go_enter func197,ntmps197;go_wp2_with fail;refine HM.out.mono ?_;rintro e w1 ⟨rfl,h1⟩;replace h1:=h1.symm;subst h1;go_wp2_with fail;refine CH.out.mono ?_;rintro e w2 ⟨rfl,hs2,hk2⟩;have S2:=aA hs2;have K2:=aA hk2;have SP:=aA (zJ hs2 z p);clear hs2 hk2 c0 c1 ch CH HM;go_wp2_with fail;refine SP.out.mono ?_;rintro e w3 ⟨rfl,hs3,hk3⟩;have S3:=aA hs3;have fz:=hs3.fz (2+c);have D:=aA (show SE w W sb lw x t (iA (dH t.m p z (-1)) z p) (cU h c p) (w3.setCell ⟨sb,2+c,none⟩ (.int .i64 p))from⟨hs3.set c hc p,((K2.out.trans hk3 (fun _ _ e=>e) (fun _ _ e=>e)).mono (fun _ _ e=>.inl e)).setCell (p:=⟨sb,2+c,none⟩) (.inr rfl) _⟩);have c3:=hs3.hd c hc;clear hs3 hk3 SP;go_wp2_with fail;exact⟨rfl,.tuple #[],by simp[results,results197,go_sem],rfl,D.out⟩
def iM(m:Mp)(p:Int):Mp:=dH (if (cF m p).pv = -1 then iA m (cF m p).nx (cF m p).pv else nP (iA m (cF m p).nx (cF m p).pv) (cF m p).pv (cF m p).nx) p (-1) (-1)
def iN(m:Mp)(h:Nat->Int)(p:Int)(c:Nat):Nat->Int:=if (cF m p).pv = -1 then cU h c (cF m p).nx else h
theorem ON{w W sb lw x t h}(s:SW w W sb lw x t h)(p:Int)(c:Nat)(hc:c<8):
  Calls prog 202 #[.pointer (some ⟨sb,0,none⟩),.int .i64 p,.int .i64 c] W fun e w'=>e=.returned (.tuple #[])/\SE w W sb lw x t (iM t.m p) (iN t.m h p c) w':=by
 obtain⟨q,hq⟩:=xe (cF t.m p);have HA:=aA (show Calls prog 72 #[.pointer (some ⟨x.m,0,none⟩),.int .i64 p] W fun e w'=>e=.returned (.tuple #[cC q,.bool (aC t.m.n p)])/\Kt nO W w' from by rw[hq];exact jA x.m x.B t.m p W s.pl.bd.mp);have HM:=aA (bZ s.pl);obtain⟨m2,hm2⟩:=xe (iM t.m p);obtain⟨h2,hh2⟩:=xe (iN t.m h p c);rw[<-hm2,<-hh2];unfold iM at hm2;unfold iN at hh2;rw[<-hq] at hm2 hh2;have HM2:=aA hm2;have HH2:=aA hh2;have H:=aA s;obtain⟨c0,c1⟩:=s.c0;have hci:(c:Int)<8:=by omega
 clear s hq hm2 hh2;generalize aC t.m.n p=r at *;go_enter func202,ntmps202;go_wp2_with fail;refine HM.out.mono ?_;rintro e w1 ⟨rfl,h1⟩;replace h1:=h1.symm;subst h1;go_wp2_with fail;refine HA.out.mono ?_;rintro e w2 ⟨rfl,hk⟩;have K2:=aA (hk.alloc (aI q));have X2:=aA (nH w2 (aI q));have H2:=aA (H.out.keep K2.out);have NY:=aA (show ¬aD x w2.heap.size from fun e=>absurd ((H.out.keep hk).pl.lt _ (.inl e)) (Nat.lt_irrefl _));have NS:=aA (show sb≠w2.heap.size from fun e=>absurd (lH (H.out.keep hk).bx) (by rw[e];exact Nat.lt_irrefl _));clear hk c0 c1;go_upto_region 1 with fail;generalize w2.heap.size=y at *;generalize w2.alloc (aI q)=W2 at *;obtain⟨_,_,_,_,x4,x5,_⟩:=fI X2.out;have SP:=aA (zJ H2.out q.nx q.pv);go_wp2_with fail;refine SP.out.mono ?_;rintro e w3 ⟨rfl,hs3,hk3⟩;have S3:=aA hs3;have K3:=aA (K2.out.trans hk3 (fun _ _ e=>e.elim) (fun _ _ e=>e));have X3:=aA ((hk3.block _ (lH X2.out) NY.out).trans X2.out);clear hs3 hk3 SP x4 x5;obtain⟨_,_,_,_,x4,x5,_⟩:=fI X3.out;by_cases hpv:q.pv = -1
 ·have hb:(q.pv == -1)=true:=by rw[hpv];rfl
  have fz:=S3.out.fz (2+c);have c3:=S3.out.hd c hc;as_aux_lemma=>
   go_upto_region 3 with fail;have KD:=aA ((Kt.refl nO w3).drew);have S4:=aA (S3.out.keep KD.out);have X4:=aA ((KD.out.block _ (lH X3.out) id).trans X3.out);have d4:=(fI X4.out).2.2.2.2.1;have d3:=S4.out.hd c hc;have fz4:=S4.out.fz (2+c);go_region
   all_goals
    have S5:=aA ((S3.out.set c hc q.nx).keep ((Kt.refl nO _).drew));have K5:=aA (show Kt (cW x sb) W (w3.setCell ⟨sb,2+c,none⟩ (.int .i64 q.nx)).drew from((K3.out.mono (fun _ _ e=>.inl e)).setCell (S:=cW x sb) (p:=⟨sb,2+c,none⟩) (.inr rfl) _).drew);generalize (w3.setCell ⟨sb,2+c,none⟩ (.int .i64 q.nx)).drew=W5 at *;have MP:=aA (bZ S5.out.pl);have CH:=aA (oQ S5.out p (-1) (-1));clear x4 x5 d4 d3 fz4 fz c3;obtain⟨c0,c1⟩:=S5.out.c0;go_wp2_with fail;refine MP.out.mono ?_;rintro e w6 ⟨rfl,h6⟩;replace h6:=h6.symm;subst h6;go_wp2_with fail;refine CH.out.mono ?_;rintro e w7 ⟨rfl,hs7,hk7⟩;have D:=aA (show SE w W sb lw x t m2 h2 w7 from by
     rw[HM2.out,HH2.out,if_pos hpv,if_pos hpv];exact⟨hs7,K5.out.trans hk7 (fun _ _ e=>e) (fun _ _ e=>.inl e)⟩)
    clear hs7 hk7;go_wp2_with fail;exact⟨rfl,.tuple #[],by simp[results,results202,go_sem],rfl,D.out⟩
 ·have hb:(q.pv == -1)=false:=by rw[beq_eq_false_iff_ne];exact hpv
  have SN:=aA (VD S3.out q.pv q.nx);as_aux_lemma=>
   go_wp2_with fail;refine SN.out.mono ?_;rintro e w4 ⟨rfl,hs4,hk4⟩;have S4:=aA hs4;have K4:=aA (K3.out.trans hk4 (fun _ _ e=>e) (fun _ _ e=>e));have MP:=aA (bZ hs4.pl);have CH:=aA (oQ hs4 p (-1) (-1));obtain⟨c0,c1⟩:=hs4.c0;clear hs4 hk4 SN x4 x5;go_wp2_with fail;refine MP.out.mono ?_;rintro e w6 ⟨rfl,h6⟩;replace h6:=h6.symm;subst h6;go_wp2_with fail;refine CH.out.mono ?_;rintro e w7 ⟨rfl,hs7,hk7⟩;have D:=aA (show SE w W sb lw x t m2 h2 w7 from by
    rw[HM2.out,HH2.out,if_neg hpv,if_neg hpv];exact⟨hs7,(K4.out.trans hk7 (fun _ _ e=>e) (fun _ _ e=>e)).mono (fun _ _ e=>.inl e)⟩)
   clear hs7 hk7;go_wp2_with fail;exact⟨rfl,.tuple #[],by simp[results,results202,go_sem],rfl,D.out⟩
def aE(k:Nat):Nat:=16*2 ^ k
theorem dV{k:Nat}(h:k<8) : 16<=aE k/\aE k<=2048:=by
 revert k
 unfold aE;decide
theorem IN{w W sb lw x t h}(s:SW w W sb lw x t h)(c:Nat)(hc:c<8):
  Calls prog 201 #[.int .i64 c] W fun e w'=>e=.returned (.int .i64 ((256/2 ^ c:Nat):Int))/\w'=W:=by
 have ct:=s.tab c hc;have hci:(c:Int)<8:=by omega
 obtain⟨z,hz⟩:=xe (16*2 ^ c);have hzb:=dV hc;unfold aE at hzb;rw[<-hz] at ct hzb;have hq : 4096/z=256/2 ^ c:=by rw[hz,show 4096=16*256 from rfl,Nat.mul_div_mul_left _ _ (by decide)]
 obtain⟨q,hq2⟩:=xe (256/2 ^ c);rw[<-hq2] at hq ⊢;have hqi:(4096:Int)/(z:Int)=q:=by rw[<-hq];rfl
 have hqb:q<=256:=by rw[hq2];exact Nat.div_le_self _ _
 have hz0:¬(z:Int)=0:=by omega
 have hz1:((z:Int) == 0)=false:=by rw[beq_eq_false_iff_ne];exact hz0
 clear s hq hq2 hz;go_enter func201,ntmps201;go_wp2_with fail;go_ret;exact⟨by simp,rfl⟩
def aQ(x:Bx)(p k n:Nat):Nat:=x.bS+4096*p+n*aE k
theorem VA{w W sb lw x t h}(s:SW w W sb lw x t h)(p c n:Nat)(hp:p<=1024)(hc:c<8)(hn:n<=256):
  Calls prog 198 #[.pointer (some ⟨sb,0,none⟩),.int .i64 p,.int .i64 c,.int .i64 n] W fun e w'=>e=.returned (.int .u64 ((aQ x p c n:Nat):Int))/\Kt nO W w':=by
 obtain⟨c0,c1⟩:=s.c0;have ct:=s.tab c hc;have hb:x.bS<=9223372036854775808:=by have:=s.pl.bd.sp.cfg.be;omega
 have hci:(c:Int)<8:=by omega
 obtain⟨z,hz⟩:=xe (16*2 ^ c);have hzb:=dV hc;unfold aE at hzb;rw[<-hz] at ct hzb;obtain⟨nz,hnz⟩:=xe (n*z);have hnzi:(n:Int)*(z:Int)=nz:=by rw[hnz];simp
 have hnzb:nz<=524288:=by rw[hnz];exact Nat.mul_le_mul hn hzb.2
 obtain⟨p4,hp4⟩:=xe (p*4096);have hp4i:(p:Int)*4096=(p4:Int):=by omega
 have hp4b:p4<=4194304:=by omega
 obtain⟨bs,hbs⟩:=xe (x.bS);rw[<-hbs] at c1 hb;obtain⟨a1,ha1⟩:=xe (bs+p4);have ha1i:(bs:Int)+(p4:Int)=a1:=by omega
 have ha1b:a1<=9223372036859000000:=by omega
 obtain⟨a2,ha2⟩:=xe (a1+nz);have ha2i:(a1:Int)+(nz:Int)=a2:=by omega
 have ha2b:a2<=9223372036859600000:=by omega
 have e:aQ x p c n=a2:=by
  unfold aQ aE;rw[<-hz,<-hnz,<-hbs];omega
 rw[e];clear s hz hnz hp4 hbs ha1 ha2 e;go_enter func198,ntmps198;have w1:IntKind.u64.wrap (p:Int)=p:=by rw[wrap_u64];omega
 have w2:IntKind.u64.wrap (n:Int)=n:=by rw[wrap_u64];omega
 have w3:IntKind.u64.wrap (p4:Int)=p4:=by rw[wrap_u64];omega
 have w4:IntKind.u64.wrap (a1:Int)=a1:=by rw[wrap_u64];omega
 have w5:IntKind.u64.wrap (nz:Int)=nz:=by rw[wrap_u64];omega
 have w6:IntKind.u64.wrap (a2:Int)=a2:=by rw[wrap_u64];omega
 go_upto_region 1 with fail;go_quiet (fail)
 go_wp2_with fail;go_ret;exact⟨by simp,(Kt.refl nO _).drewN _⟩
end Go.Proofs.YtkfmheelhinjdaaGreatDoor
