import Derived.Test.YtfmgnljlkdmndaaGreatDoorWe
import Derived.Test.YtfmgnljlkdmndaaGreatDoorWi
set_option maxRecDepth 1000000
set_option maxHeartbeats 80000000
namespace Go.Proofs.YtfmgnljlkdmndaaGreatDoor
open Tryz
open Go.RowKit
set_option linter.unusedVariables false
theorem bZ{P:Program}{ops:Array Oper}{Q:Exit->Act->World->Prop}{i:Nat}{o:Oper}{K:Act->World->Prop}{a:Act}{w:World}(b:ops[i]?=some o)(h:wpList P ops (Exit.then K Q) [o] a w):wpOp P ops Q i K a w:=W.wpOp_of_list b h
def aP(v:Nat->Value)(i:Nat)(u:Value):Nat->Value:=fun j=>if j=i then u else v j
theorem EF{v:Nat->Value}{i:Nat}{u:Value} : aP v i u i=u:=ae rfl
theorem ED{v:Nat->Value}{i j:Nat}{u:Value}(h:j≠i):aP v i u j=v j:=ac h
def gZ(ops:Array Oper)(i j:Nat):Bool:=match ops[i]? with
 | none=>false
 | some o=>o.after.any fun e=>Region.binds .any e && e.on == j
def mN(ops:Array Oper):Nat->Nat->Nat->Bool
 | 0,_,_=>false
 | n+1,i,j=>gZ ops i j || match ops[i]? with
  | none=>false
  | some o=>o.after.any fun e=>Region.binds .any e && mN ops n e.on j
def jI(ops:Array Oper):Bool:=(List.range ops.size).all fun i=>match ops[i]? with
 | none=>true
 | some o=>o.after.all fun e=>!Region.binds .any e || decide (e.on<i)
def NM(ops:Array Oper)(last:Nat):Bool:=(List.range last).all fun j=>mN ops 40 last j
section
variable {P:Program} {ops:Array Oper} {Q:Exit->Act->World->Prop} {ls:Array Bool}
theorem GT{i j:Nat} : gZ ops i j=true↔∃ o,ops[i]?=some o/\∃ e∈o.after,Region.binds .any e=true/\e.on=j:=by
 unfold gZ
 cases h:ops[i]? with
 | none=>simp
 | some o=>
  simp[Array.any_eq_true,Array.mem_iff_getElem];grind
theorem xU(hc:∀ i j,gZ ops i j=true->ls.getD i false=true->ls.getD j false=true){i j:Nat}(a:∀ j,gZ ops i j=true->ls.getD j false=true):∀ n,mN ops n i j=true->ls.getD j false=true:=by
 intro n;induction n generalizing i with
 | zero=>intro h;cases h
 | succ n b=>
  intro h;unfold mN at h;rw[Bool.or_eq_true] at h;rcases h with h|h
  ·exact a _ h
  ·cases ho:ops[i]? with
   | none=>rw[ho] at h;cases h
   | some o=>
    rw[ho] at h;simp only[Array.any_eq_true',bu] at h;obtain⟨e,he,hb,h⟩:=h;have hd:=a _ (GT.2 ⟨o,ho,e,he,hb,rfl⟩);exact b (fun k c=>hc _ _ c hd) h
theorem tM{i:Nat}(hi:i∈Region.ready .any ops ls):∀ j,gZ ops i j=true->ls.getD j false=true:=by
 intro j b;obtain⟨f,o,c,hd⟩:=mem_ready.1 hi;obtain⟨d,a,e,he,hb,rfl⟩:=GT.1 b;rw[c] at a
 cases a
 exact hd e he hb
theorem vL{i:Nat}(a:ls.getD i true=false):i<ls.size/\ls.getD i false=false:=by
 rcases Nat.lt_or_ge i ls.size with hl|hl
 ·exact⟨hl,by simpa [hl] using a⟩
 ·simp[Array.getElem?_eq_none hl] at a
theorem qW{i j:Nat}(hi:i<ls.size):(ls.setIfInBounds i true).getD j false=true↔j=i\/ls.getD j false=true:=by
 by_cases h:i=j
 ·subst h;simp[hi]
 ·rw[Go.getD_set_ne _ h];exact⟨.inr,fun a=>a.resolve_left (fun e=>h e.symm)⟩
theorem IQ(hs:ls.size=ops.size)(a:jI ops=true)(c:Region.ready .any ops ls=[]):∀ n i,i<=n->i<ops.size->ls.getD i false=true:=by
 intro n;induction n with
 | zero=>
  intro i hi hl;obtain rfl:i=0:=by omega
  cases h:ls.getD 0 false with
  | true=>rfl
  | false=>
   have : 0∈Region.ready .any ops ls:=mem_ready.2 ⟨(by have:0<ls.size:=(by omega);simpa[this] using h),ops[0],by simp,fun e he hb=>by
    unfold jI at a;have:=List.all_eq_true.1 a 0 (by simpa using hl);simp only[Array.getElem?_eq_getElem hl] at this;have:=Array.all_eq_true'.1 this e he;simp[hb] at this⟩
   rw[c] at this
   cases this
 | succ n b=>
  intro i hi hl;rcases Nat.lt_or_ge i (n+1)with d|d
  ·exact b i (by omega) hl
  cases h:ls.getD i false with
  | true=>rfl
  | false=>
   have:i∈Region.ready .any ops ls:=mem_ready.2 ⟨(by have:i<ls.size:=(by omega);simpa[this] using h),ops[i],by simp,fun e he hb=>by
    unfold jI at a;have:=List.all_eq_true.1 a i (by simpa using hl);simp only[Array.getElem?_eq_getElem hl] at this;have:=Array.all_eq_true'.1 this e he;simp[hb] at this;exact b _ (by omega) (by omega)⟩
   rw[c] at this
   cases this
theorem pR{n i:Nat} : (Array.replicate n false).getD i false=false:=by
 rcases Nat.lt_or_ge i n with h|h
 ·simp[h]
 ·simp[Nat.not_lt.2 h]
structure Flw(ops:Array Oper)(G:World->World->Prop)(w1:World)(R:Nat->Value->World->Prop)(ls:Array Bool)(v:Nat->Value)(w:World):Prop where
 sz:ls.size=ops.size
 cl:∀ i j,gZ ops i j=true->ls.getD i false=true->ls.getD j false=true
 k:G w1 w
 d:∀ i,ls.getD i false=true->R i (v i) w
theorem Flw.put{G:World->World->Prop}{g W W':World}{R:Nat->Value->World->Prop}{v:Nat->Value}{i:Nat}{u:Value}(n:∀ a b c,G a b->G b c->G a c)(hR:∀ i u W W',R i u W->G W W'->R i u W')
  (h:Flw ops G g R ls v W) (hi:i∈Region.ready .any ops ls) (o:R i u W') (k:G W W'):Flw ops G g R (ls.setIfInBounds i true) (aP v i u) W':=by
 have hd:=tM hi;have m:=vL (mem_ready.1 hi).1;refine⟨by simpa using h.sz,fun a b f ha=>?_,n _ _ _ h.k k,fun j l=>?_⟩
 ·rw[qW m.1] at ha ⊢;rcases ha with rfl|ha
  ·exact .inr (hd _ f)
  ·exact .inr (h.cl _ _ f ha)
 ·rw[qW m.1] at l;by_cases e:j=i
  ·subst e;rw[EF];exact o
  ·rw[ED e];exact hR _ _ _ _ (h.d j (l.resolve_left e)) k
theorem zee{id:Nat}{w:World}(q:P.follows .mixedOrders=true)(F:(Nat->Value)->Act)(v0:Nat->Value)(B:World->Prop)(G:Nat->World->World->Prop)(R:Nat->Value->World->Prop)
  (p:∀ i W W',B W->G i W W'->B W') (hR:∀ i j u W W',j≠i->B W->R j u W->G i W W'->R j u W') (n:jI ops=true) (hw:B w.drew)
  (hs:∀ i o,ops[i]?=some o->∀ v W,B W->(∀ j,mN ops 40 i j=true->R j (v j) W)->wpOp P ops Q i (fun a' W'=>∃ u,a'=F (aP v i u)/\R i u W'/\G i W W') (F v) W)
  (hl:∀ v W,B W->(∀ i,i<ops.size->R i (v i) W)->Q .normal (F v) W):(Code.region id ops true).wp P Q (F v0) w:=by
 refine W.wp_region_inv q (fun ls a W=>∃ v,a=F v/\(ls.size=ops.size/\(∀ i j,gZ ops i j=true->ls.getD i false=true->ls.getD j false=true)/\B W/\∀ i,ls.getD i false=true->R i (v i) W)) ⟨v0,rfl,by simp,fun i j _ h=>(by rw[pR] at h;cases h),hw,fun i h=>(by rw[pR] at h;cases h)⟩ ?_ ?_
 ·rintro ls a W i ⟨v,rfl,hz,hc,hb,c⟩ hi;obtain⟨z,o,r,hd⟩:=mem_ready.1 hi;have d:=vL z;have g:=tM hi;refine wpOp_mono ?_ (hs i o r v W hb fun j l=>c j (xU hc g _ l));rintro a' W' ⟨u,rfl,m,k⟩;refine⟨_,rfl,by simpa using hz,fun a b f ha=>?_,p _ _ _ hb k,fun j l=>?_⟩
  ·rw[qW d.1] at ha ⊢;rcases ha with rfl|ha
   ·exact .inr (g _ f)
   ·exact .inr (hc _ _ f ha)
  ·rw[qW d.1] at l;by_cases e:j=i
   ·subst e;rw[EF];exact m
   ·rw[ED e];exact hR _ _ _ _ _ e hb (c j (l.resolve_left e)) k
 ·rintro ls a W ⟨v,rfl,hz,hc,hb,c⟩ y;exact hl v W hb fun i hi=>c i (IQ hz n y i i (aj _) hi)
theorem zcm{id:Nat}{w p:World}(C:P.follows .mixedOrders=true)(F:(Nat->Value)->Act)(v0:Nat->Value)(G:World->World->Prop)(A:∀ a b c,G a b->G b c->G a c)(R:Nat->Value->World->Prop)
  (hR:∀ i u W W',R i u W->G W W'->R i u W') (f:Nat) (hz:ops.size=f+1) (z:jI ops=true) (hL:NM ops f=true) (hw:G p w.drew)
  (hs:∀ i o,ops[i]?=some o->i<f->∀ v W,G p W->(∀ j,mN ops 40 i j=true->R j (v j) W)->wpOp P ops Q i (fun a' W'=>∃ u,a'=F (aP v i u)/\R i u W'/\G W W') (F v) W)
  (hl:∀ o,ops[f]?=some o->∀ v W,G p W->(∀ i,i<f->R i (v i) W)->wpOp P ops Q f (fun a' W'=>Q .normal a' W') (F v) W):(Code.region id ops true).wp P Q (F v0) w:=by
 refine W.wp_region_inv C (fun ls a W=>ls.size=ops.size/\((ls.getD f false=false/\∃ v,a=F v/\Flw ops G p R ls v W)\/(∀ i,i<=f->ls.getD i false=true)/\Q .normal a W)) ⟨by simp,.inl ⟨pR,v0,rfl,by simp,fun i j _ h=>(by rw[pR] at h;cases h),hw,fun i h=>(by rw[pR] at h;cases h)⟩⟩ ?_ ?_
 ·rintro ls a W i ⟨g,h⟩ hi;obtain⟨E,o,q,hd⟩:=mem_ready.1 hi;have m:=vL E;rcases h with ⟨l,v,rfl,h⟩|⟨h,_⟩
  ·rcases Nat.lt_trichotomy i f with r|rfl|r
   ·refine wpOp_mono ?_ (hs i o q r v W h.k fun j n=>h.d j (xU h.cl (tM hi) _ n));rintro a' W' ⟨u,rfl,y,k⟩;exact⟨by simpa using g,.inl ⟨by rw[Go.getD_set_ne _ (by omega)];exact l,_,rfl,h.put A hR hi y k⟩⟩
   ·have ha:∀ j,j<i->ls.getD j false=true:=fun j n=>xU h.cl (tM hi) _ (List.all_eq_true.1 hL j (by simpa using n))
    refine wpOp_mono ?_ (hl o q v W h.k fun j n=>h.d j (ha j n));intro a' W' hq;refine⟨by simpa using g,.inr ⟨fun j n=>(qW m.1).2 ?_,hq⟩⟩;by_cases e:j=i
    ·exact .inl e
    ·exact .inr (ha j (by omega))
   ·omega
  ·rw[h i (by omega)] at m
   cases m.2
 ·rintro ls a W ⟨g,h⟩ D;rcases h with ⟨l,v,rfl,h⟩|⟨_,h⟩
  ·rw[IQ g z D f f (aj _) (by omega)] at l
   cases l
  ·exact h
def eI:Value->World->Prop:=fun _ _=>True
theorem zdf{id:Nat}{w:World}(z:P.follows .mixedOrders=true)(F:(Nat->Value)->Act)(v0:Nat->Value)(B:World->Prop)(N Wr:World->World->Prop)(a:List (Value->World->Prop))(RS:Value->World->Prop)(k:Nat)(C:a.length=k)(hz:ops.size=k+1)
  (E:∀ W W',B W->N W W'->B W') (A:∀ W W',B W->Wr W W'->B W') (l:∀ r∈a,∀ u W W',B W->r u W->N W W'->r u W') (p:∀ u W W',B W->RS u W->N W W'->RS u W') (n:∀ r∈a,∀ u W W',B W->r u W->Wr W W'->r u W') (y:jI ops=true) (hw:B w.drew)
  (hs:∀ i o,ops[i]?=some o->i<k->∀ v W,B W->(∀ j,mN ops 40 i j=true->((a ++ [RS]).getD j eI) (v j) W)->wpOp P ops Q i (fun a' W'=>∃ u,a'=F (aP v i u)/\(a.getD i eI) u W'/\N W W') (F v) W)
  (hx:∀ o,ops[k]?=some o->∀ v W,B W->(∀ j,mN ops 40 k j=true->((a ++ [RS]).getD j eI) (v j) W)->wpOp P ops Q k (fun a' W'=>∃ u,a'=F (aP v k u)/\RS u W'/\Wr W W') (F v) W)
  (hl:∀ v W,B W->(∀ i,i<k->(a.getD i eI) (v i) W)->RS (v k) W->Q .normal (F v) W):(Code.region id ops true).wp P Q (F v0) w:=by
 subst C;have lt:∀ j,j<a.length->(a ++ [RS]).getD j eI=a.getD j eI:=fun j d=>by rw[ai,ai,List.getElem?_append_left d]
 have q:(a ++ [RS]).getD a.length eI=RS:=by rw[ai,List.getElem?_append_right (aj _),Nat.sub_self];rfl
 have D:∀ j,a.length<j->(a ++ [RS]).getD j eI=eI:=fun j d=>by rw[ai,dh (by simp;omega)];rfl
 have mem:∀ j,j<a.length->a.getD j eI∈a:=fun j d=>by rw[ai,bo d];exact List.getElem_mem _
 refine zee z F v0 B (fun i=>if i=a.length then Wr else N) (fun j=>(a ++ [RS]).getD j eI) (fun i W W' hb hg=>?_) (fun i j u W W' m hb c hg=>?_) y hw (fun i o g v W hb hd=>?_) (fun v W hb hd=>?_)
 ·by_cases e:i=a.length
  ·rw[ae e] at hg;exact A _ _ hb hg
  ·rw[ac e] at hg;exact E _ _ hb hg
 ·rcases Nat.lt_trichotomy j a.length with b|rfl|b
  ·rw[lt j b] at c ⊢;by_cases e:i=a.length
   ·rw[ae e] at hg;exact n _ (mem j b) _ _ _ hb c hg
   ·rw[ac e] at hg;exact l _ (mem j b) _ _ _ hb c hg
  ·rw[ac (Ne.symm m)] at hg;rw[q] at c ⊢;exact p _ _ _ hb c hg
  ·rw[D j b];exact True.intro
 ·have hi:i<ops.size:=(Array.getElem?_eq_some_iff.1 g).1;by_cases e:i=a.length
  ·subst e;refine wpOp_mono ?_ (hx o g v W hb hd);rintro a' W' ⟨u,b,f,h⟩;exact⟨u,b,by rw[q];exact f,by rw[ae rfl];exact h⟩
  ·refine wpOp_mono ?_ (hs i o g (by omega) v W hb hd);rintro a' W' ⟨u,b,f,h⟩;exact⟨u,b,by rw[lt i (by omega)];exact f,by rw[ac e];exact h⟩
 ·refine hl v W hb (fun i hi=>?_) ?_
  ·have:=hd i (by omega);rwa [lt i hi] at this
  ·have:=hd a.length (by omega);rwa [q] at this
end
def NF(x:Bx)(fr:Nat->List Nat)(S:Sb)(r:Nat):Prop:=(∃ k,k<8/\r=aB k/\S.pl k=[]/\∀ a,a<=x.o->fr a=[])\/(∃ k,k<=x.o/\r=4096*2 ^ k/\∀ a,k<=a->a<=x.o->fr a=[])
inductive Td(x:Bx)(t:Bt)(fr:Nat->List Nat)(ls:List (Nat×Nat))(S:Sb)(r:Nat)(d:Bool)(p:Nat)(b:Bool)(fr':Nat->List Nat)(ls':List (Nat×Nat))(S':Sb):Prop where
 | old (k g i:Nat) (l rr:List Nat) (hk:k<8) (hr:r=aB k) (hl:S.pl k=g :: l) (hf:S.fl g=i :: rr) (hp:p=aK x g k i) (hb:b=false) (e1:fr'=fr) (e2:ls'=ls) (e3:S'=bB S g k rr)
 | new (k g:Nat) (hk:k<8) (hr:r=aB k) (hl:S.pl k=[]) (hp:p=aK x g k 0) (nd:Ned x t fr d g b fr') (e2:ls'=ls ++ [(g,0)]) (e3:S'=bB (bK S g k) g k (List.range' 1 (aF k-1)))
 | here (k g j:Nat) (l:List Nat) (hk:k<=x.o) (hr:r=4096*2 ^ k) (hkj:k<=j) (hj:j<=x.o) (hz:∀ a,k<=a->a<j->fr a=[]) (hl:fr j=g :: l) (hp:p=ad x g) (hb:b=false) (e1:fr'=dL (cK fr j (M.dropL (fr j) g)) g j k) (e2:ls'=ls ++ [(g,k)]) (e3:S'=S)
 | grew (k:Nat) (hk:k<=x.o) (hr:r=4096*2 ^ k) (hz:∀ a,k<=a->a<=x.o->fr a=[]) (hp:p=ad x t.m.n) (hb:b=true) (e1:fr'=dL fr t.m.n x.o k) (e2:ls'=ls ++ [(t.m.n,k)]) (e3:S'=S)
structure Nx(w W W':World)(hb sb lw:Nat)(x:Bx)(t:Bt)(ls:List (Nat×Nat))(S:Sb)(s:Int)(x':Bx)(t':Bt)(fr':Nat->List Nat)(ls':List (Nat×Nat))(S':Sb):Prop where
 H:HW w W' hb sb lw x' t' fr' ls' S' s
 ch:Ch x t ls S x' t' ls' S'
 kp:Kt (bN x sb) W W'
 ns:∀ y,bN x' sb y->bN x sb y\/W.heap.size<=y
inductive Tq(w W:World)(hb sb lw:Nat)(x:Bx)(t:Bt)(fr:Nat->List Nat)(ls:List (Nat×Nat))(S:Sb)(s:Int)(r:Nat)(d:Bool)(p:Nat)(er:Int)(w':World):Prop where
 | no (hp:p=0) (he:er=2) (nf:NF x fr S r) (hd:d=true\/x.n=x.lim*x.R) (kp:Kt nO W w')
 | yes (x':Bx) (t':Bt) (fr':Nat->List Nat) (ls':List (Nat×Nat)) (S':Sb) (b:Bool) (he:er=0) (td:Td x t fr ls S r d p b fr' ls' S') (nx:Nx w W w' hb sb lw x t ls S s x' t' fr' ls' S') (hL:∀ a z,aS x' ls' S' a z↔aS x ls S a z\/(a=p/\z=r)) (hN:∀ z,¬aS x ls S p z) (hn:x'.n=(if b=true then x.n+x.R else x.n)) (hm:p%r=0) (hb1:b=true->NF x fr S r/\d=false/\x.n+x.R<=x.lim*x.R) (hb2:b=false->¬NF x fr S r)
abbrev rE(p:Nat)(g:Bool)(er:Int):Ending:=.returned (.tuple #[.int .u64 p,.bool g,.int .i64 er])
theorem ZZ{k j:Nat}(h:aB k=aB j):k=j:=by unfold aB at h;exact CX _ _ (Nat.eq_of_mul_eq_mul_left (show 0<16 by decide) h)
theorem VG{k j:Nat}(h : 4096*2 ^ k=4096*2 ^ j):k=j:=CX _ _ (Nat.eq_of_mul_eq_mul_left (show 0<4096 by decide) h)
theorem AH{k j:Nat}(a:k<8):aB k≠4096*2 ^ j:=fun e=>by have:=(cN a).2;have : 0<2 ^ j:=ap (by decide);omega
theorem NF.cell{x fr S k}(c:k<8):NF x fr S (aB k)↔S.pl k=[]/\∀ a,a<=x.o->fr a=[]:=by
 constructor
 ·rintro (⟨j,e,b,d⟩|⟨j,e,b,d⟩)
  ·obtain rfl:=ZZ b;exact d
  ·exact absurd b (AH c)
 ·exact fun h=>.inl ⟨k,c,rfl,h⟩
theorem NF.page{x:Bx}{fr S k}(e:k<=x.o):NF x fr S (4096*2 ^ k)↔∀ a,k<=a->a<=x.o->fr a=[]:=by
 constructor
 ·rintro (⟨j,c,b,d⟩|⟨j,c,b,d⟩)
  ·exact absurd b.symm (AH c)
  ·obtain rfl:=VG b;exact d
 ·exact fun h=>.inr ⟨k,e,rfl,h⟩
theorem GO{b k i p:Nat}(c:k<8)(hb:b%4096=0):(b+4096*p+i*aB k)%aB k=0:=by
 have hc:=(cW c).1;have a:b=b/4096*(aF k*aB k):=by rw[hc];omega
 rw[a,show 4096*p=p*(aF k*aB k)by rw[hc];omega,<-cx,<-cx,<-av,<-av];exact Nat.mul_mod_left _ _
theorem SO.pnone8{w W sb lw x t fr ls S h}(o:SO w W sb lw x t fr ls S h){q:Nat}(hc:S.c q=none):x.P q=none:=by rw[o.si.eP];exact iW hc
section
variable {w W W':World} {hb sb lw:Nat} {x:Bx} {t:Bt} {fr:Nat->List Nat} {ls:List (Nat×Nat)} {S:Sb} {s:Int}
theorem HW.take_small(H:HW w W hb sb lw x t fr ls S s){k:Nat}(f:k<8)(d:Bool):
  Calls prog 107 #[.pointer (some ⟨sb,0,none⟩),.int .i64 k,.bool d] W fun e U=>∃ p g K,e=rE p g K/\Tq w W hb sb lw x t fr ls S s (aB k) d p K U:=by
 obtain⟨h,o⟩:=H.so;have hz:=cN f;refine(zkI o (k:Int) d).mono fun e U hT=>?_
 cases hT with
 | bad hc=>exact absurd ⟨by omega,by omega⟩ hc
 | stuck E C hc hl c hd he kp=>
  obtain rfl:k=E:=by omega
  exact⟨0,false,2,he,.no rfl rfl ((NF.cell f).2 ⟨hl,c⟩) hd kp⟩
 | old E p i l r C hc hl hf he so kp=>
  obtain rfl:k=E:=by omega
  obtain⟨P,Z,h',n,hn⟩:=so;have u:=((o.si.pm k f p).1 (by rw[hl];exact aw)).1;have hL:∀ a z,aS { x with P:=P } ls (bB S p k r) a z↔aS x ls S a z\/(a=aK x p k i/\z=aB k):=fun a z=>by rw[qF (x:=x) (x':={ x with P:=P }) rfl];exact WX o u hf a z
  have ch:Ch x t ls S { x with P:=P } { t with m:=Z } ls (bB S p k r):=⟨rfl,rfl,rfl,rfl,fun j _ _=>rfl⟩;refine⟨aK x p k i,false,0,he,.yes _ _ _ _ _ false rfl (.old k p i l r f rfl hl hf rfl rfl rfl rfl rfl) ⟨H.call n (fB.old o H.lv f hl hf) ch kp,ch,kp,fun y e=>.inl e⟩ hL (o.free_no u (by rw[hf];exact aw)) rfl (GO f o.bm) (fun e=>by cases e) (fun _ e=>?_)⟩;have:=((NF.cell f).1 e).1;rw[hl] at this
  cases this
 | new E p b C hc hl he so u nl kp=>
  obtain rfl:k=E:=by omega
  obtain⟨x',Y,a0,h',J,n,v,G,nb,a1,D⟩:=so;have hL:∀ a z,aS x' (ls ++ [(p,0)]) (bB (bK S p k) p k (List.range' 1 (aF k-1))) a z↔aS x ls S a z\/(a=aK x p k 0/\z=aB k):=fun a z=>by rw[qF (x:=x) (x':=x') v.bS];exact WW f u nl a z
  have I:∀ z,¬aS x ls S (aK x p k 0) z:=fun z e=>by
   have h0 : 0<z:=(o.span e).1;obtain⟨_,q,j,N,X,T⟩:=o.span e;have c : 0<2 ^ j:=ap (by decide);unfold aK at X T;unfold ad at X T;rcases n.apart (List.mem_append_left _ N) (List.mem_append_right ls (List.mem_singleton.2 rfl))with ⟨F,e4⟩|F|F
   ·subst F;exact nl _ N
   ·omega
   ·rw[Nat.pow_zero] at F;omega
  have ch:Ch x t ls S x' Y (ls ++ [(p,0)]) (bB (bK S p k) p k (List.range' 1 (aF k-1))):=⟨v.bS,v.R,v.lim,v.o,fun j h1 _=>G j (o.byte h1)⟩;refine⟨aK x p k 0,b,0,he,.yes _ _ _ _ _ b rfl (.new k p f rfl hl rfl J rfl rfl) ⟨H.call n (H.lv.new f) ch kp,ch,kp,fun y e=>e.elim (fun e=>(nb y e).imp (fun e=>.inl e) id) (fun e=>.inl (.inr e))⟩ hL I D (GO f o.bm) (fun e=>?_) (fun e hf=>?_)⟩
  ·cases J with
   | here j l2 V c hp hb=>rw[hb] at e;cases e
   | grew c hd A hb hp=>exact⟨(NF.cell f).2 ⟨hl,c⟩,hd,A⟩
  ·cases J with
   | here j l2 V c hp hb=>
    have:=((NF.cell f).1 hf).2 j V;rw[hp] at this
    cases this
   | grew c hd A hb hp=>rw[hb] at e;cases e
theorem HW.need_big(H:HW w W hb sb lw x t fr ls S s){k:Nat}(G:k<=x.o)(d:Bool):
  Calls prog 109 #[.pointer (some ⟨lw,0,none⟩),.int .i64 k,.bool d] W fun e A=>∃ p g T,e=rE p g T/\Tq w W hb sb lw x t fr ls S s (4096*2 ^ k) d p T A:=by
 obtain⟨h,o⟩:=H.so;have hz : 0<2 ^ k:=ap (by decide);have V:∀ (p:Nat) (b:Bool) (x':Bx) (C:Bt) (D:Nat->List Nat) (e:Ending) (A:World),e=.returned (.tuple #[.int .u64 ((ad x p:Nat):Int),.bool b,.int .i64 0])->PO w A lw x' C D (ls ++ [(p,k)])->Sm x x'->BK t C ls (ls ++ [(p,k)])->Nb W x x'->Kt (aC x) W A->S.c p=none->(∀ i,(p,i) ∉ ls)->x'.n=(if b=true then x.n + x.R else x.n)->Td x t fr ls S (4096*2 ^ k) d (ad x p) b D (ls ++ [(p,k)]) S->(b=true->NF x fr S (4096*2 ^ k)/\d=false/\x.n + x.R<=x.lim*x.R)->(b=false->¬NF x fr S (4096*2 ^ k))->∃ p g T,e=rE p g T/\Tq w W hb sb lw x t fr ls S s (4096*2 ^ k) d p T A:=by
  rintro p b x' C D e A he v E bk nb kp u nl a3 td r J;have X:=o.pool v E bk (fun a c ha=>List.mem_append_left _ (o.mem ha).1) kp;have hL:∀ a z,aS x' (ls ++ [(p,k)]) S a z↔aS x ls S a z\/(a=ad x p/\z=4096*2 ^ k):=fun a z=>by rw[qF (x:=x) (x':=x') E.bS];exact IE u a z
  have a0:p%2 ^ k=0:=(X.al (List.mem_append_right ls (List.mem_singleton.2 rfl))).2.1;have a1:∀ z,¬aS x ls S (ad x p) z:=fun z e=>by
   have h0 : 0<z:=(o.span e).1;obtain⟨_,q,j,q1,q2,q3⟩:=o.span e;have f : 0<2 ^ j:=ap (by decide);unfold ad at q2 q3;rcases X.apart (List.mem_append_left _ q1) (List.mem_append_right ls (List.mem_singleton.2 rfl))with ⟨e3,e4⟩|e3|e3
   ·subst e3;exact nl _ q1
   ·omega
   ·omega
  have ch:Ch x t ls S x' C (ls ++ [(p,k)]) S:=⟨E.bS,E.R,E.lim,E.o,fun j r J=>bk j (o.byte r) (X.byte J)⟩;have N:Kt (bN x sb) W A:=kp.mono (fun _ _ e=>.inl e);refine⟨ad x p,b,0,he,.yes x' C D _ S b rfl td ⟨H.call X H.lv ch N,ch,N,fun y e=>e.elim (fun e=>(nb y e).imp (fun e=>.inl e) id) (fun e=>.inl (.inr e))⟩ hL a1 a3 ?_ r J⟩;have hR:=o.sw.pl.bd.hR;have r : 4096*2 ^ k ∣ x.bS:=Nat.dvd_trans (by rw[hR];exact Nat.mul_dvd_mul_left _ (Nat.pow_dvd_pow 2 G)) (cz H.br);have J : 4096*2 ^ k ∣ 4096*p:=Nat.mul_dvd_mul_left _ (cz a0);exact Nat.mod_eq_zero_of_dvd (Nat.dvd_add r J)
 refine(K.Need_any o.po (k:Int) d).mono fun e A hN=>?_
 cases hN with
 | bad hb he kp=>
  exfalso
  rw[TU G] at hb
  cases hb
 | stuck i hi I f hd he kp=>
  obtain rfl:k=i:=by omega
  exact⟨0,false,2,he,.no rfl rfl ((NF.page G).2 f) hd kp⟩
 | here i j p l hi I U Y f hp he hs kp=>
  obtain rfl:k=i:=by omega
  obtain⟨C,v,hn,bk⟩:=hs;have u:S.c p=none:=by
   have r:=o.sf.pfree Y (show p∈fr j by rw[hp];exact aw)
   cases e:S.c p with
   | none=>rfl
   | some c=>
    rw[o.si.eP,jS e] at r
    cases r
  refine V p false x C _ e A he v (Sm.refl x) bk (fun y e=>.inl e) kp u (fun i F=>?_) rfl (.here k p j l G rfl U Y f hp rfl rfl rfl rfl rfl) (fun e=>by cases e) (fun _ e=>?_)
  ·have h0:=o.sf.apart0 Y (show p∈fr j by rw[hp];exact aw) F;have Z : 0<2 ^ i:=ap (by decide);have f : 0<2 ^ j:=ap (by decide);omega
  ·have:=(NF.page G).1 e j U Y;rw[hp] at this
   cases this
 | grew i hi I f hd a2 he hs kp=>
  obtain rfl:k=i:=by omega
  obtain⟨x',C,v,E,hn,a4,nb,bk⟩:=hs;have u:S.c t.m.n=none:=by
   have r:=o.sf.pout (aj t.m.n)
   cases e:S.c t.m.n with
   | none=>rfl
   | some c=>
    rw[o.si.eP,jS e] at r
    cases r
  refine V t.m.n true x' C _ e A he v E bk nb kp u (fun i F=>?_) (by rw[ae rfl];exact hn) (.grew k G rfl f rfl rfl rfl rfl rfl) (fun _=>⟨(NF.page G).2 f,hd,a2⟩) (fun e=>by cases e);have:=(o.al F).2.2;have Z : 0<2 ^ i:=ap (by decide);omega
inductive Gd(x:Bx)(fr:Nat->List Nat)(ls:List (Nat×Nat))(S:Sb)(p z:Nat)(fr':Nat->List Nat)(ls':List (Nat×Nat))(S':Sb):Prop where
 | back (g k i:Nat) (hv:iZ x S p g k i) (hz:z=aB k) (hl:(S.fl g).length+1<aF k) (e1:fr'=fr) (e2:ls'=ls) (e3:S'=bD S g k i)
 | rel (g k i:Nat) (hv:iZ x S p g k i) (hz:z=aB k) (hl:(S.fl g).length+1=aF k) (e1:fr'=lF x.o fr g 0) (e2:ls'=dU ls g) (e3:S'=cC S g k)
 | pages (q k:Nat) (hm:(q,k)∈ls) (hc:S.c q=none) (hp:p=ad x q) (hz:z=4096*2 ^ k) (e1:fr'=lF x.o fr q k) (e2:ls'=dU ls q) (e3:S'=S)
def Gq(w W:World)(hb sb lw:Nat)(x:Bx)(t:Bt)(fr:Nat->List Nat)(ls:List (Nat×Nat))(S:Sb)(s:Int)(p z:Nat)(w':World):Prop:=∃ x' t' fr' ls' S',Gd x fr ls S p z fr' ls' S'/\Nx w W w' hb sb lw x t ls S s x' t' fr' ls' S'/\(∀ a c,aS x' ls' S' a c↔aS x ls S a c/\a≠p)/\x'.n=x.n
theorem HW.give_cell(H:HW w W hb sb lw x t fr ls S s){p g k i:Nat}(c:iZ x S p g k i):
  Calls prog 112 #[.pointer (some ⟨sb,0,none⟩),.int .u64 p] W fun e u=>e=.returned (.int .i64 0)/\Gq w W hb sb lw x t fr ls S s p (aB k) u:=by
 obtain⟨h,o⟩:=H.so;have q:=(o.si.pg g k c.1).1;have hz:=cN q;have hp:p=aK x g k i:=c.2.2.2;have d:iZ x S (aK x g k i) g k i:=by rw[<-hp];exact c
 have J:=o.mem c.1;have I:=o.po.nums.2.2.2.1;have E:=fV (x:=x) (p:=g) q c.2.1 (by omega);refine(zi6 o H.lv _ g k i c).mono ?_;rintro e u ⟨rfl,A⟩;refine⟨rfl,?_⟩
 cases A with
 | back hl so kp=>
  obtain⟨P,m,D,b,hf,G⟩:=so;have hL:∀ a z,aS { x with P:=P } ls (bD S g k i) a z↔aS x ls S a z/\a≠p:=fun a z=>by rw[hp,qF (x:=x) (x':={ x with P:=P }) rfl];exact zkm o d a z
  have ch:Ch x t ls S { x with P:=P } m ls (bD S g k i):=⟨rfl,rfl,rfl,rfl,fun j _ F=>by
   refine hf j (fun C=>?_);obtain⟨a,z,f,l,r⟩:=F;obtain⟨f,v⟩:=(hL a z).1 f;have l:a<=x.bS+j:=l;have r:x.bS+j<a+z:=r;rw[hp] at v;have e:aK x g k i=x.bS+4096*g+i*aB k:=rfl;rcases o.two f (.inl ⟨g,k,i,d,rfl⟩)with ⟨n,_⟩|n|n
   ·exact v n
   ·omega
   ·omega⟩
  exact⟨_,_,_,_,_,.back g k i c rfl hl rfl rfl rfl,⟨H.call b (H.lv.back c.1 hl) ch kp,ch,kp,fun y e=>.inl e⟩,hL,rfl⟩
 | rel hl so=>
  obtain⟨P,m,D,b,G,bk,kp⟩:=so;have hL:∀ a z,aS { x with P:=P } (dU ls g) (cC S g k) a z↔aS x ls S a z/\a≠p:=fun a z=>by rw[hp,qF (x:=x) (x':={ x with P:=P }) rfl];exact WV o d hl a z
  have ch:Ch x t ls S { x with P:=P } m (dU ls g) (cC S g k):=⟨rfl,rfl,rfl,rfl,fun j f l=>bk j (o.byte f) (b.byte l)⟩;exact⟨_,_,_,_,_,.rel g k i c rfl hl rfl rfl rfl,⟨H.call b (H.lv.rel g k) ch kp,ch,kp,fun y e=>.inl e⟩,hL,rfl⟩
theorem HW.give_pages(H:HW w W hb sb lw x t fr ls S s){p q k:Nat}(hq:(q,k)∈ls)(hc:S.c q=none)(hp:p=ad x q):
  Calls prog 113 #[.pointer (some ⟨lw,0,none⟩),.int .u64 p,.int .i64 k] W fun e d=>e=.returned (.int .i64 0)/\Gq w W hb sb lw x t fr ls S s p (4096*2 ^ k) d:=by
 obtain⟨h,o⟩:=H.so;refine(K.Give6_yes o.po q k hq (o.pnone8 hc) _ hp).mono ?_;rintro e d ⟨rfl,m,f,r,g,bk⟩;have i:=o.pool f (Sm.refl _) bk (fun a c ha=>List.mem_filter.2 ⟨(o.mem ha).1,af fun e=>by
  have e:a=q:=e;rw[e,hc] at ha
  cases ha⟩) g
 have hL:∀ a z,aS x (dU ls q) S a z↔aS x ls S a z/\a≠p:=fun a z=>by rw[hp];exact DW o hq hc a z
 have ch:Ch x t ls S x m (dU ls q) S:=⟨rfl,rfl,rfl,rfl,fun j n l=>bk j (o.byte n) (i.byte l)⟩;have b:Kt (bN x sb) W d:=g.mono (fun _ _ e=>.inl e);exact⟨rfl,_,_,_,_,_,.pages q k hq hc hp rfl rfl rfl rfl,⟨H.call i H.lv ch b,ch,b,fun y e=>.inl e⟩,hL,rfl⟩
end
end Go.Proofs.YtfmgnljlkdmndaaGreatDoor
namespace Go.Proofs.YtfmgnljlkdmndaaGreatDoor.W
open Tryz
open Go.RowKit
set_option linter.unusedVariables false
theorem isF_od{p:Pg}{o:Int}(h:isF p o=true):p.kd=0/\p.od=o:=by simpa [isF] using h
theorem ok6_bad{I:Img}{k a i:Nat}(hi:i<k)(c:a%(2*2 ^ i)=0)(b:isF (I.pg a) (i:Int)=true)(d:isF (I.pg (a+2 ^ i)) (i:Int)=true):ok6 I k a=false:=by obtain⟨-,e⟩:=isF_od b;unfold ok6;rw[e,aa,b,d,af (show(i:Int)<k by omega),af c];rfl
theorem zkB{I:Img}{k r a:Nat}(hS:Sn9 I k r)(ha:a<I.np)(h:∀ i,i<k->a%(2*2 ^ i)=0->isF (I.pg a) (i:Int)=true->isF (I.pg (a+2 ^ i)) (i:Int)=false):ok6 I k a=true:=by
 obtain⟨kd,o,c,l,-,-,e,g,-⟩:=hS.pg a ha;unfold ok6;rw[e,aa];by_cases b:isF (I.pg a) (o:Int)=true
 ·by_cases f:o<k
  ·by_cases d:a%(2*2 ^ o)=0
   ·rw[h o f d b];simp
   ·rw[ah d];simp
  ·rw[ah (show ¬(o:Int)<k by omega)];simp
 ·rw[Bool.not_eq_true] at b;rw[b];simp
theorem XV(I:Img)(V:ImV)(k r:Nat)(hS:Sn9 I k r)(w:World)(Z:ImD w I V):
  Calls prog 82 #[imA I V] w fun e w'=>e=.returned (.int .i64 (fE (fst1 I.np (ok6 I k))))/\Kt nO w w':=by
 obtain⟨⟨ma,mc,K⟩,⟨pa,pc,hp⟩,⟨ra,rc,hr⟩,⟨ha,hc,hh⟩,⟨ta,tc,ht⟩,-⟩:=Z.sl;obtain⟨vm,vp,vr,vh,vt⟩:=V;dsimp only at K hp hr hh ht;subst K hp hr hh ht;have a3:=aA (show ImAt (w.alloc (aQ I _)) w.heap.size I _ from⟨nH _ _,Z.keep ((Kt.refl _ w).alloc _)⟩);have K0:=aA (show Kt nO w (w.alloc (aQ I _))from(Kt.refl _ w).alloc (aQ I ⟨.slice ma I.nm mc,.slice pa I.np pc,.slice ra I.no rc,.slice ha I.hd.length hc,.slice ta I.pt.length tc⟩));obtain⟨c0,c1,c2,c3,c4,c5,v,c7,C⟩:=a3.o.cells;have HS:=aA hS;have OP:=aA (fun g o hg W Z=>uS I ⟨.slice ma I.nm mc,.slice pa I.np pc,.slice ra I.no rc,.slice ha I.hd.length hc,.slice ta I.pt.length tc⟩ g o hg W Z);have PW:=aA (fun j X W=>nG j X W);obtain⟨rr,n⟩:=xe (fE (fst1 I.np (ok6 I k)));rw[<-n];have a9:=aA (show ∀ a,a<I.np->(∀ j,j<a->ok6 I k j=true)->ok6 I k a=false->rr=(a:Int)from fun a h1 h2 h3=>by rw[n,gA h1 h2 h3];rfl);have Y:=aA (show(∀ j,j<I.np->ok6 I k j=true)->rr = -1 from fun h=>by rw[n,fst1_ok h];rfl);have a2:=aA hS.np1;have D:=aA hS.k8;have HO:=aA hS.ord;clear Z n hS;go_enter func82,ntmps82;go_wp2_with fail;clear c0 c1 c2 c3 c4 c5 v c7 C;generalize w.heap.size=ib at *;generalize w.alloc (aQ I ⟨.slice ma I.nm mc,.slice pa I.np pc,.slice ra I.no rc,.slice ha I.hd.length hc,.slice ta I.pt.length tc⟩)=W0 at *;go_loopw [3] (fun u W=>∃ a:Nat,a<=I.np/\u=.int .i64 a/\Hd (Kt nO W0 W/\∀ j,j<a->ok6 I k j=true)) (fun u _=>I.np-(intOf u).toNat)
 case atStart=>exact⟨0,az _,rfl,aA ⟨Kt.refl _ _,fun j X=>by omega⟩⟩
 case round=>
  obtain⟨a,a8,rfl,J⟩:=hrel;have z:=aA (a3.o.keep J.o.1);obtain⟨c0,c1,c2,c3,c4,c5,v,c7,C⟩:=z.o.cells;dsimp only at c5;by_cases T:a<I.np
  ·have b4:(a:Int)<I.np:=(by omega);have f:=aA T;have p:=aA J.o.2;have KA:=aA J.o.1;clear T a8 J;go_wp2_with fail;clear c0 c1 c2 c3 c4 c5 v c7 C;obtain⟨wq,y⟩:∃ W,W=wr:=⟨_,rfl⟩;rw[<-y] at KA z;rw[<-y];clear y;go_loopw [4] (fun u W=>∃ j:Nat,j<=k/\u=.int .i64 j/\Hd (Kt nO wq W/\∀ i,i<j->a%(2*2 ^ i)=0->isF (I.pg a) (i:Int)=true->isF (I.pg (a+2 ^ i)) (i:Int)=false)) (fun u _=>k-(intOf u).toNat)
   case atStart=>exact⟨0,az _,rfl,aA ⟨Kt.refl _ _,fun i hi=>by omega⟩⟩
   case round=>
    obtain⟨j,X,rfl,hJ⟩:=hrel;have A:=aA (z.o.keep hJ.o.1);obtain⟨c0,c1,c2,c3,c4,c5,v,c7,C⟩:=A.o.cells;by_cases N:j<k
    ·have b0:(j:Int)<I.ord:=(by rw[HO.o];omega);have c:=aA N;have b5:=aA hJ.o.2;have KJ:=aA hJ.o.1;clear N X hJ;go_wp2_with fail;refine(PW.o j (by have:=D.o;have:=c.o;omega) _).mono ?_;rintro e w1 ⟨rfl,rfl⟩;obtain⟨P,G⟩:=xe (2 ^ j);rw[<-G];have a6 : 1<=P:=(by rw[G];exact ax j);have b3:P<=512:=(by rw[G];exact nF j (by have:=D.o;have:=c.o;omega));have E:=aA G;have m1:wrap64 (2*(P:Int))=((2*P:Nat):Int):=(by rw[wrap64];omega);have a4:=aA (show a%(2*P)=0->a+P<I.np from fun h=>by
      have h2 : 2*P=2 ^ (j+1):=(by rw[G,ci,aq]);have:=mul_fits (HS.o.dvd (j+1) (by have:=c.o;omega)) (by rw[<-h2];exact h) f.o;omega)
     obtain⟨Q,hQ⟩:=xe (2*P);rw[<-hQ] at m1 a4;have b8:¬(Q:Int)=0:=(by omega);have b7:((Q:Int) == 0)=false:=(by rw[ag];omega);have b9:¬(Q:Int) = -1:=(by omega);obtain⟨m,K⟩:=xe (a%Q);have r1:(a:Int)%(Q:Int)=m:=(by rw[K];rfl);have r2:(a:Int).tmod (Q:Int)=m:=(by rw[Int.tmod_eq_emod_of_nonneg (by omega)];exact r1);have a7:=aA (show a+P<=5000 by have:=f.o;have:=a2.o;omega);have HM:=aA K;have HQ:=aA hQ;clear G hQ K a6 b3;have l:=aA (show(a%(2*2 ^ j)=0->isF (I.pg a) (j:Int)=true->isF (I.pg (a+2 ^ j)) (j:Int)=false)->∀ i,i<j+1->a%(2*2 ^ i)=0->isF (I.pg a) (i:Int)=true->isF (I.pg (a+2 ^ i)) (i:Int)=false from fun h i hi=>by
      by_cases e:i=j
      ·subst e;exact h
      ·exact b5.o i (by omega))
     have ME:=aA (show a%(2*2 ^ j)=m by rw[HM.o,HQ.o,E.o]);have hw:wrap64 ((j:Int)+1)=((j+1:Nat):Int):=(by have:=D.o;have:=c.o;rw[wrap64];omega);have HW:=aA hw;clear hw;by_cases h0:m=0
     case neg=>
      have q0:((m:Int) == 0)=false:=(by rw[ag];omega);have N1:=aA (l.o (fun h=>absurd (ME.o.symm.trans h) h0));clear h0;go_wp2_with fail;rw[HW.o];exact⟨⟨j+1,by have:=c.o;omega,rfl,aA ⟨KJ.o,N1.o⟩⟩,by have:=c.o;simp only[intOf,aa];omega⟩
     have q0:((m:Int) == 0)=true:=(by rw[co];omega);have H0:=aA h0;clear h0;obtain⟨b1,a5⟩:∃ b,b=isF (I.pg a) (j:Int):=⟨_,rfl⟩;have q:=aA a5;clear a5;go_wp2_with fail;refine(OP.o a (j:Int) f.o _ A.o.d).mono ?_;rintro e w2 ⟨rfl,k2⟩;rw[<-q.o];have U:=aA (A.o.keep k2);have K2:=aA (nT KJ.o k2);clear k2 c0 c1 c2 c3 c4 c5 v c7 C
     cases b1 with
     | false=>
      have N1:=aA (l.o (fun _ h=>by rw[<-q.o] at h;cases h));go_wp2_with fail;rw[HW.o];exact⟨⟨j+1,by have:=c.o;omega,rfl,aA ⟨K2.o,N1.o⟩⟩,by have:=c.o;simp only[intOf,aa];omega⟩
     | true=>
      obtain⟨c0,c1,c2,c3,c4,c5,v,c7,C⟩:=U.o.cells;obtain⟨g,hg⟩:=xe (a+P);have a1:wrap64 ((a:Int)+(P:Int))=(g:Int):=(by have:=a7.o;rw[wrap64];omega);have R:=aA hg;have b6:=aA (show g<I.np by rw[hg];exact a4.o (by rw[<-HM.o];exact H0.o));obtain⟨b2,a0⟩:∃ b,b=isF (I.pg g) (j:Int):=⟨_,rfl⟩;have F:=aA a0;clear a0 hg;go_wp2_with fail;refine(OP.o g (j:Int) b6.o _ U.o.d).mono ?_;rintro e w3 ⟨rfl,k3⟩;rw[<-F.o];have K3:=aA (nT K2.o k3);clear k3 c0 c1 c2 c3 c4 c5 v c7 C
      cases b2 with
      | false=>
       have N1:=aA (l.o (fun _ _=>by rw[<-E.o,<-R.o];exact F.o.symm));go_wp2_with fail;rw[HW.o];exact⟨⟨j+1,by have:=c.o;omega,rfl,aA ⟨K3.o,N1.o⟩⟩,by have:=c.o;simp only[intOf,aa];omega⟩
      | true=>
       have er:=a9.o a f.o p.o (ok6_bad c.o (ME.o.trans H0.o) q.o.symm (by rw[<-E.o,<-R.o];exact F.o.symm));subst er;go_wp2_with fail;go_ret;exact⟨rfl,nT K0.o (nT KA.o K3.o)⟩
    ·have b0:¬(j:Int)<I.ord:=(by rw[HO.o];omega);have eo:=zkB HS.o f.o (fun i hi=>hJ.o.2 i (by omega));have KE:=aA (nT KA.o hJ.o.1);have EO:=aA eo;clear hJ eo;go_wp2_with fail;have hw:wrap64 ((a:Int)+1)=((a+1:Nat):Int):=(by have:=a2.o;have:=f.o;rw[wrap64];omega);go_round
     case rel=>exact⟨a+1,by have:=f.o;omega,by rw[hw],aA ⟨KE.o,fun i hi=>by
      by_cases e:i=a
      ·rw[e];exact EO.o
      ·exact p.o i (by omega)⟩⟩
     case measure=>rw[hw];have:=f.o;simp only[intOf,aa];omega
  ·have b4:¬(a:Int)<I.np:=(by omega);have er:=Y.o (fun j X=>J.o.2 j (by omega));subst er;go_wp2_with fail;go_ret;exact⟨rfl,nT K0.o J.o.1⟩
end Go.Proofs.YtfmgnljlkdmndaaGreatDoor.W
namespace Go.Proofs.YtfmgnljlkdmndaaGreatDoor
open Tryz
open Go.RowKit
set_option linter.unusedVariables false
def bO(x:Bx)(t:Bt)(S:Sb)(L:Nat):W.Img:=⟨x.bS,(L:Int),(x.o:Int),((t.m.n/2 ^ x.o:Nat):Int),x.n,t.f,t.m.n,t.m.pg,x.o,t.m.wd,(List.range (x.o+1)).map t.hd,(List.range 8).map fun k=>bC (S.pl k)⟩
structure St0(x:Bx)(t:Bt)(fr:Nat->List Nat)(B:Nat->Nat->Nat->Prop)(S:Sb)(L:Nat):Prop where
 sd:Sd x t fr B
 n9:∀ q i,¬B 9 q i
 st:t.m.n*4096=x.n
 si:SI x t S
 lv:fB S
 may:M.mayB x.bS (L:Int) (x.o:Int)=true
 le:t.m.n/2 ^ x.o<=L
 hz:∀ k,k<x.o->∀ j,t.m.n/2 ^ (k+1)<=j->aE (t.m.wd k) j=false
 pin:∀ i,i<t.m.n->W.PgIn (t.m.pg i)
section
variable {x:Bx} {t:Bt} {fr:Nat->List Nat} {B:Nat->Nat->Nat->Prop} {S:Sb} {L:Nat}
theorem St0.tag(h:St0 x t fr B S L){g p k:Nat}(hb:B g p k):(g=0\/g=2)/\g≠9:=by
 rcases h.sd.tg g p k hb with e|e|e
 ·exact⟨.inl e,by omega⟩
 ·exact⟨.inr e,by omega⟩
 ·subst e;exact absurd hb (h.n9 p k)
theorem St0.page(h:St0 x t fr B S L){i:Nat}(hi:i<t.m.n):(∃ k,S.c i=some k/\k<8/\SlP S i k (t.m.pg i)/\B 2 i 0)\/(S.c i=none/\∃ g p k,B g p k/\p<=i/\i<p+2 ^ k/\(g=0\/g=2)/\t.m.pg i=aU (if i=p then (g:Int) else (g:Int)+1) (k:Int)):=by
 cases e:S.c i with
 | some k=>
  obtain⟨a,b⟩:=h.si.pg i k e;exact .inl ⟨k,rfl,a,b,(h.sd.vs i (t.m.pg i) (by rw[h.si.eP];exact jS e)).1⟩
 | none=>
  obtain⟨g,p,k,hb,a,b⟩:=h.sd.cv i hi;have hp:=h.sd.pg g p k hb (h.tag hb).2 i a b;rw[h.si.eP,iW e,Option.getD_none] at hp;exact .inr ⟨rfl,g,p,k,hb,a,b,(h.tag hb).1,hp⟩
theorem St0.first(h:St0 x t fr B S L){g i k:Nat}(hb:B g i k)(hc:S.c i=none):t.m.pg i=aU (g:Int) (k:Int):=by have hp:=h.sd.pg g i k hb (h.tag hb).2 i (aj _) (by have:=ax k;omega);rwa [h.si.eP,iW hc,Option.getD_none,ae rfl] at hp
theorem St0.slabB(h:St0 x t fr B S L){i k:Nat}(hc:S.c i=some k):B 2 i 0:=(h.sd.vs i (t.m.pg i) (by rw[h.si.eP];exact jS hc)).1
theorem St0.one(h:St0 x t fr B S L){g i k b a:Nat}(c:B g i k)(d:B b i a):g=b/\k=a:=by
 rcases h.sd.ds _ _ _ _ _ _ c d with ⟨j,-,f⟩|e|e
 ·exact⟨j,f⟩
 ·have:=ax k;omega
 ·have:=ax a;omega
theorem St0.isF_iff(h:St0 x t fr B S L){i j:Nat}(hi:i<t.m.n):W.isF (t.m.pg i) (j:Int)=true↔B 0 i j:=by
 constructor
 ·intro hf;unfold W.isF at hf;rw[bu,bW,bW] at hf;rcases h.page hi with ⟨k,o,l,d,q⟩|⟨o,g,p,k,hb,l,d,q,r⟩
  ·rw[d.kd] at hf;omega
  ·rw[r] at hf;obtain⟨a,b⟩:=hf;have a:(if i=p then (g:Int) else (g:Int)+1)=0:=a;have b:(k:Int)=j:=b;by_cases e:i=p
   ·rw[ae e] at a;have f:g=0:=(by omega);have u:k=j:=(by omega);rw[e,<-u,<-f];exact hb
   ·rw[ac e] at a;omega
 ·intro hb;have hc:S.c i=none:=by
   cases e:S.c i with
   | none=>rfl
   | some k=>have:=(h.one hb (h.slabB e)).1;omega
  rw[h.first hb hc];simp[W.isF,aU]
theorem St0.isF_mem(h:St0 x t fr B S L){i j:Nat}(hi:i<t.m.n)(a:j<=x.o):W.isF (t.m.pg i) (j:Int)=decide (i∈fr j):=by rw[Bool.eq_iff_iff,h.isF_iff hi,h.sd.fi,bW];exact⟨fun e=>e.2,fun e=>⟨a,e⟩⟩
theorem St0.np(h:St0 x t fr B S L):t.m.n/2 ^ x.o*2 ^ x.o=t.m.n:=by obtain⟨r,a⟩:=h.sd.dv;rw[a,dg _ (ax _)]
theorem St0.rl0(h:St0 x t fr B S L):W.rl (bO x t S L) 0=none:=by
 show(if _ then _ else _)=_
 exact ae h.may
theorem St0.rl1(h:St0 x t fr B S L):W.rl (bO x t S L) 1=none:=by
 show W.r2 (bO x t S L) (x.o:Int).toNat=none
 rw[aa];unfold W.r2;have c:(bO x t S L).reg.toNat*2 ^ x.o=t.m.n:=by
  show((t.m.n/2 ^ x.o:Nat):Int).toNat*2 ^ x.o=_
  rw[aa];exact h.np
 have a:W.wiB (bO x t S L).reg 0 (bO x t S L).lim=true:=by
  unfold W.wiB;have hq:=h.le;show decide ((0:Int)<=((t.m.n/2 ^ x.o:Nat):Int)/\((t.m.n/2 ^ x.o:Nat):Int)<=(L:Int))=true
  generalize t.m.n/2 ^ x.o=q at hq;exact af ⟨by omega,by omega⟩
 rw[c,ac (by rw[a];simp),ac (bi (show(bO x t S L).nm=t.m.n*4096 from h.st.symm)),ac (bi (show(bO x t S L).np=t.m.n from rfl)),ac (bi (show(bO x t S L).no=x.o from rfl)),ac,ac (bi (show(bO x t S L).hd.length=x.o+1 by simp[bO])),ac (bi (show(bO x t S L).pt.length=8 by simp[bO]))];exact bi (W.fst1_ok fun j b=>af (h.sd.wl j b))
theorem St0.rl2(h:St0 x t fr B S L):W.rl (bO x t S L) 2=none:=by
 refine W.fst1_ok fun i hi=>?_
 have hi:i<t.m.n:=hi;show W.rngB (x.o:Int) (t.m.n:Int) (t.m.pg i)=true
 have n1:=h.sd.n1;simp only[W.rngB,W.wiB,bu,bW];rcases h.page hi with ⟨k,f,c,a,j⟩|⟨f,g,p,k,hb,c,a,j,l⟩
 ·have u:=cW c;have d:∀ r,r∈S.pl k->r<t.m.n:=fun r b=>by
   have:=h.sd.al _ _ _ (h.slabB ((h.si.pm k c r).1 b).1);simp at this;omega
  have hf:(-1:Int)<=bC (S.fl i)/\bC (S.fl i)<=255:=by
   rcases oV (S.fl i)with e|⟨r,e,b⟩
   ·omega
   ·have:=(h.si.fl i k f).2.1 r b;omega
  have hx:(-1:Int)<=bE (S.pl k) i/\bE (S.pl k) i<=(t.m.n:Int)-1:=by
   rcases mA (S.pl k) i (h.si.pn k c)with e|⟨r,e,b,-⟩
   ·omega
   ·have:=d r b;omega
  have hy:(-1:Int)<=bH (S.pl k) i/\bH (S.pl k) i<=(t.m.n:Int)-1:=by
   rcases nQ (S.pl k) i (h.si.pn k c)with e|⟨r,e,b,-⟩
   ·omega
   ·have:=d r b;omega
  rw[a.kd,a.od,a.cl,a.lv,a.nx,a.pv,a.fs];refine⟨?_,?_,?_,?_,hx,hy,hf⟩ <;> omega
 ·have q:=(h.sd.al _ _ _ hb).1;rw[l];simp only[aU];refine⟨?_,?_,?_,?_,?_,?_,?_⟩ <;> (try split) <;> omega
theorem St0.starts(h:St0 x t fr B S L){a:Nat}(ha:a<t.m.n)(hs:a=0\/∃ g p k,B g p k/\p+2 ^ k=a):∃ g k,B g a k:=by
 obtain⟨g,p,k,hb,j,d⟩:=h.sd.cv a ha;by_cases e:p=a
 ·exact⟨g,k,by rw[<-e];exact hb⟩
 rcases hs with o|⟨r,q,f,c,l⟩
 ·omega
 ·exfalso
  rcases h.sd.ds _ _ _ _ _ _ hb c with ⟨-,b,i⟩|b|b
  ·rw[b,i] at d;omega
  ·have:=ax f;omega
  ·omega
theorem St0.r4(h:St0 x t fr B S L):∀ m a,t.m.n-a<m->(a=t.m.n\/∃ g k,B g a k)->W.r4F (bO x t S L) m a=none
 | 0,a,j,_=>by omega
 | m+1,a,j,hs=>by
  by_cases e:a=t.m.n
  ·subst e;exact W.r4F_end
  rcases hs with p|⟨g,k,hb⟩
  ·exact absurd p e
  have d:=h.sd.al _ _ _ hb;have hp:=ax k;have ha:a<t.m.n:=by omega
  have b:a+2 ^ k=t.m.n\/∃ z q,B z (a+2 ^ k) q:=by
   by_cases v:a+2 ^ k=t.m.n
   ·exact .inl v
   ·exact .inr (h.starts (by omega) (.inr ⟨g,a,k,hb,rfl⟩))
  cases hc:S.c a with
  | some c=>
   obtain⟨-,i⟩:=h.si.pg a c hc;obtain⟨-,r⟩:=h.one hb (h.slabB hc);subst r;have hd:W.hdOk ((bO x t S L).pg a) a=true:=by
    show W.hdOk (t.m.pg a) a=true
    unfold W.hdOk;rw[ae i.kd,i.od];rfl
   rw[W.r4F_ok (o:=0) ha (by show(t.m.pg a).od=_;rw[i.od];rfl) hd (fun x hx=>by simp at hx)];exact h.r4 m (a+2 ^ 0) (by omega) b
  | none=>
   have hf:=h.first hb hc
   have hd:W.hdOk ((bO x t S L).pg a) a=true:=by
    show W.hdOk (t.m.pg a) a=true
    rw[hf];unfold W.hdOk;have hg:=(h.tag hb).1;rw[ac (by show ¬(g:Int)=4;omega),ae (by show(g:Int)=0\/(g:Int)=2;omega)];show(decide (a%2 ^ (k:Int).toNat=0) && W.pgE (aU (g:Int) (k:Int)) (aU (g:Int) (k:Int)))=true
    rw[aa,af d.2.1,bf];exact af rfl
   rw[W.r4F_ok (o:=k) ha (by show(t.m.pg a).od=_;rw[hf];rfl) hd]
   ·exact h.r4 m (a+2 ^ k) (by omega) b
   ·intro y hy;show W.rsOk (t.m.pg a) (t.m.pg (a+1+y))=true
    have u:S.c (a+1+y)=none:=by
     cases l:S.c (a+1+y)with
     | none=>rfl
     | some c=>
      rcases h.sd.ds _ _ _ _ _ _ hb (h.slabB l)with ⟨-,f,-⟩|f|f
      ·omega
      ·omega
      ·simp at f;omega
    have hq:=h.sd.pg g a k hb (h.tag hb).2 (a+1+y) (by omega) (by omega);rw[h.si.eP,iW u,Option.getD_none,ac (by omega)] at hq;rw[hq,hf];show W.pgE (aU ((g:Int)+1) (k:Int)) (aU ((g:Int)+1) (k:Int))=true
    simp[W.pgE]
theorem St0.rl3(h:St0 x t fr B S L):W.rl (bO x t S L) 3=none:=by
 show W.r4F (bO x t S L) (t.m.n+1) 0=none
 refine h.r4 _ 0 (by omega) ?_;by_cases e:t.m.n=0
 ·exact .inl e.symm
 ·exact .inr (h.starts (by omega) (.inl rfl))
theorem St0.rl5(h:St0 x t fr B S L):W.rl (bO x t S L) 5=none:=by
 show W.fst1 t.m.n (W.ok6 (bO x t S L) (x.o:Int).toNat)=none
 rw[aa];refine W.fst1_ok fun a ha=>?_
 unfold W.ok6;show(!(W.isF (t.m.pg a) (t.m.pg a).od && decide ((t.m.pg a).od<(x.o:Int)) && decide (a%(2*2 ^ (t.m.pg a).od.toNat)=0)) || !W.isF (t.m.pg (a+2 ^ (t.m.pg a).od.toNat)) (t.m.pg a).od)=true
 cases hf:W.isF (t.m.pg a) (t.m.pg a).od with
 | false=>rfl
 | true=>
  have:∃ j:Nat,(t.m.pg a).od=(j:Int):=by
   rcases h.page ha with ⟨k,u,r,l,y⟩|⟨u,g,p,k,hb,r,l,y,z⟩
   ·exact⟨0,l.od⟩
   ·exact⟨k,by rw[z];rfl⟩
  obtain⟨j,v⟩:=this;rw[v] at hf ⊢;rw[aa];have hb:=(h.isF_iff ha).1 hf;obtain⟨e,f⟩:=(h.sd.fi _ _).1 hb;by_cases c:j<x.o
  ·by_cases b:a%(2*2 ^ j)=0
   ·rw[af (show(j:Int)<x.o by omega),af b];obtain⟨i,hi⟩:=cz b;have d:a+2 ^ j<t.m.n:=by
     have hd : 2*2 ^ j ∣ t.m.n:=by rw[<-h.np,show 2*2 ^ j=2 ^ (j+1)by rw[ci,aq]];exact Nat.dvd_trans (Nat.pow_dvd_pow 2 c) (Nat.dvd_mul_left _ _)
     have:=W.mul_fits hd b ha;have:=ax j;omega
    rw[h.isF_mem d e,ah]
    ·rfl
    ·intro q;refine h.sd.nm j c i ⟨?_,?_⟩
     ·rw[show 2*i*2 ^ j=a by rw[hi,Nat.mul_right_comm]];exact f
     ·rw[show(2*i+1)*2 ^ j=a+2 ^ j by rw[av,aL,hi,Nat.mul_right_comm]];exact q
   ·rw[ah b];simp
  ·rw[ah (show ¬(j:Int)<x.o by omega)];simp
theorem St0.rl6(h:St0 x t fr B S L):W.rl (bO x t S L) 6=none:=by
 show W.fstO x.o (W.r7k (bO x t S L))=none
 refine W.fstO_ok fun a ha=>W.r7k_good (fun i hi=>?_) (fun i hi _=>h.hz a ha i hi)
 have hi:i<t.m.n/2 ^ (a+1):=hi;show aE (t.m.wd a) i=(W.isF (t.m.pg (i*2 ^ (a+1))) (a:Int) != W.isF (t.m.pg (i*2 ^ (a+1)+2 ^ a)) (a:Int))
 have hl:=W.half_lt hi;have hp:=ax a;rw[h.sd.bt a ha i hi,h.isF_mem (by omega) (by omega),h.isF_mem hl (by omega)];rw[show i*2 ^ (a+1)=2*i*2 ^ a by rw[ci,aq 2 i,cx,aq 2],show(2*i+1)*2 ^ a=2*i*2 ^ a+2 ^ a by rw[av,aL]]
end
theorem DP(p:Pg){i:Nat}(hi:i<256):aE (W.wsP p) i=aI p i:=by
 unfold aE aI;have:(W.wsP p).getD (i/64) 0=wP p (i/64):=by
  obtain⟨q,hq⟩:=xe (i/64);rw[<-hq];match q,(show q<4 by omega)with
  | 0,_=>rfl
  | 1,_=>rfl
  | 2,_=>rfl
  | 3,_=>rfl
  | _+4,h=>omega
 rw[this]
theorem WP(l:List Nat):∀ n,l.Nodup->(∀ i∈l,i<n)->aH (fun i=>decide (i ∉ l)) n+l.length=n:=by
 intro n hd hl;have a:∀ n,aH (fun i=>decide (i ∉ l)) n+((List.range n).filter fun i=>decide (i∈l)).length=n:=by
  intro n;induction n with
  | zero=>rfl
  | succ n c=>
   rw[List.range_succ,List.filter_append,List.length_append];by_cases h:n∈l
   ·have b : [n].filter (fun i=>decide (i∈l))=[n]:=(by simp[h]);rw[lM _ _ (ah (bi h)),b,<-Nat.add_assoc,c];rfl
   ·have b : [n].filter (fun i=>decide (i∈l))=[]:=(by simp[h]);rw[mB _ _ (af h),b,List.length_nil];omega
 have hp:((List.range n).filter fun i=>decide (i∈l)).length=l.length:=by refine List.Perm.length_eq ((List.perm_ext_iff_of_nodup (List.nodup_range.filter _) hd).2 fun i=>?_);simp only[List.mem_filter,List.mem_range,bW];exact⟨fun h=>h.2,fun h=>⟨hl i h,h⟩⟩
 have:=a n;omega
section
variable {x:Bx} {t:Bt} {fr:Nat->List Nat} {B:Nat->Nat->Nat->Prop} {S:Sb} {L:Nat}
theorem St0.bits(h:St0 x t fr B S L){i k:Nat}(hc:S.c i=some k)(j:Nat)(a:j<256):aE (W.wsP (t.m.pg i)) j=decide (j<aF k/\j ∉ S.fl i):=by rw[DP _ a];exact(h.si.pg i k hc).2.bt j a
theorem St0.cnt(h:St0 x t fr B S L){i k:Nat}(hc:S.c i=some k):aH (aE (W.wsP (t.m.pg i))) 256=aF k-(S.fl i).length:=by
 obtain⟨b,-⟩:=h.si.pg i k hc;have n:=cW b;have e:=WP (S.fl i) (aF k) (h.si.fl i k hc).1 (h.si.fl i k hc).2.1;have a:aH (aE (W.wsP (t.m.pg i))) (aF k+(256-aF k))=aH (aE (W.wsP (t.m.pg i))) (aF k):=W.cntB_cut _ _ _ fun j g l=>by rw[h.bits hc j (by omega),ah];omega
 rw[show aF k+(256-aF k)=256 by omega] at a;rw[a,uC _ (fun f=>decide (f ∉ S.fl i)) (aF k) fun j d=>by rw[h.bits hc j (by omega)];simp[d]];omega
theorem St0.rule5(h:St0 x t fr B S L){i:Nat}(hi:i<t.m.n):W.ok5 (t.m.pg i)=true:=by
 rcases h.page hi with ⟨k,a,e,b,f⟩|⟨a,g,p,k,hb,e,b,f,d⟩
 ·rw[W.ok5_iff (t.m.pg i) (h.pin i hi) k b.cl b.kd,b.lv,h.cnt a];have:=h.lv i k a;refine⟨⟨by omega,rfl⟩,fun j c l=>?_⟩;rw[h.bits a j l,ah];have:aF k<=j:=c;omega
 ·unfold W.ok5;rw[d,ah]
  ·rfl
  ·show ¬(if i=p then (g:Int) else (g:Int)+1)=4
   split <;> omega
theorem St0.rl4(h:St0 x t fr B S L):W.rl (bO x t S L) 4=none:=W.fst1_ok fun i hi=>h.rule5 hi
theorem St0.sn9(h:St0 x t fr B S L):∃ r,W.Sn9 (bO x t S L) x.o r:=by have:=W.sn9_of h.rl0 h.rl1 h.rl2;rwa [show(bO x t S L).ord.toNat=x.o from aa _] at this
theorem St0.rl10(h:St0 x t fr B S L):W.rl (bO x t S L) 10=none:=by
 refine W.fst1_ok fun i hi=>?_
 have hi:i<t.m.n:=hi;unfold W.ok11;show(!(decide ((t.m.pg i).kd=4) && decide ((t.m.pg i).lv=(W.celN9 (t.m.pg i).cl.toNat:Int))) || (decide ((t.m.pg i).nx = -1) && decide ((t.m.pg i).pv = -1)))=true
 rcases h.page hi with ⟨k,d,b,a,o⟩|⟨d,g,p,k,hb,b,a,o,j⟩
 ·by_cases e:S.fl i=[]
  ·have c:i ∉ S.pl k:=fun l=>((h.si.pm k b i).1 l).2 e
   rw[a.nx,a.pv,sT c,oU c];simp
  ·have hl : 0<(S.fl i).length:=List.length_pos_iff.2 e;have f:=h.si.lv i k d;have c:=cW b;rw[a.lv,a.cl,aa,ah (show ¬((aF k-(S.fl i).length:Nat):Int)=((W.celN9 k:Nat):Int)from fun e=>by
    have e:aF k-(S.fl i).length=aF k:=Int.ofNat.inj e;omega)]
   simp
 ·rw[j,ah]
  ·rfl
  ·show ¬(if i=p then (g:Int) else (g:Int)+1)=4
   split <;> omega
theorem zj9{α : Type}[DecidableEq α]{dec : α->Option Nat}{nil : α}{nxt bk:Nat->α}{S:Nat->Bool}{n i:Nat}{p b : α}(h:dec p=some i):W.refL dec nil nxt bk S (n+1) p b=(S i && (decide (bk i=b) && W.refL dec nil nxt bk S n (nxt i) p)):=by rw[W.refL,h]
theorem wB{α : Type}[DecidableEq α]{dec : α->Option Nat}{nil : α}{nxt bk:Nat->α}{P:Nat->Bool}(cod:Nat->α)(a:List Nat)(b:∀ i∈a,dec (cod i)=some i)(c:∀ i∈a,P i=true)
  (f:∀ j,j<a.length->nxt (a.getD j 0)=if j+1<a.length then cod (a.getD (j+1) 0) else nil) (hb:∀ j,j<a.length->bk (a.getD j 0)=if j=0 then nil else cod (a.getD (j-1) 0)):
  ∀ d j,j+d=a.length->W.refL dec nil nxt bk P d (if j<a.length then cod (a.getD j 0) else nil) (if j=0 then nil else cod (a.getD (j-1) 0))=true
 | 0,j,g=>by rw[ac (by omega)];exact af rfl
 | d+1,j,g=>by
  have e:a.getD j 0∈a:=by rw[ai,bo (by omega)];exact List.getElem_mem _
  rw[ae (by omega),zj9 (b _ e),c _ e,hb j (by omega),af rfl,f j (by omega),bf,bf];have:=wB cod a b c f hb d (j+1) (by omega);rwa [ac (by omega:¬j+1=0),Nat.add_sub_cancel] at this
theorem CV{I:W.Img}{P:Pg->Bool}{a:List Nat}(hd:a.Nodup)(h:∀ i,i∈a↔i<I.np/\P (I.pg i)=true):(W.pgL I P).length=a.length:=
 List.Perm.length_eq ((List.perm_ext_iff_of_nodup (W.pgL_nodup I P) hd).2 fun i=>by rw[W.pgL_mem];exact(h i).symm)
theorem oY(f:Nat->Nat)(l:List Nat)(j:Nat)(a:j<l.length):(l.map f).getD j 0=f (l.getD j 0):=by simp[bo a]
theorem St0.rl7(h:St0 x t fr B S L):W.rl (bO x t S L) 7=none:=by
 show W.fst1 ((x.o:Int).toNat+1) (W.ok8 (bO x t S L))=none
 rw[aa];refine W.fst1_ok fun k g=>?_
 obtain⟨r,hS⟩:=h.sn9;have g:k<=x.o:=by omega
 have hc:=h.sd.ch k g;have c:∀ i∈fr k,i<t.m.n:=fun i hi=>by have:=h.sd.al _ _ _ ((h.sd.fi i k).2 ⟨g,hi⟩);have:=ax k;omega
 have b:∀ i,i∈fr k↔i<t.m.n/\W.isF (t.m.pg i) (k:Int)=true:=fun i=>by
  constructor
  ·intro hi;exact⟨c i hi,by rw[h.isF_mem (c i hi) g];exact af hi⟩
  ·rintro ⟨y,v⟩;rw[h.isF_mem y g] at v;exact bw v
 have q:(fr k).Nodup:=(List.pairwise_map.1 hc.nodup).imp fun u e=>u (by rw[e])
 rw[W.ok8_eq hS,CV (I:=bO x t S L) (P:=fun p=>W.isF p (k:Int)) q b];have d:((fr k).map (ad x)).length=(fr k).length:=List.length_map _;have a:=wB (dec:=W.decP (bO x t S L)) (nil:=0) (nxt:=fun i=>M.word t.f (4096*i)) (bk:=fun i=>M.word t.f (4096*i+8)) (P:=fun i=>W.isF (t.m.pg i) (k:Int)) (ad x) (fr k) ?_ ?_ ?_ ?_ (fr k).length 0 (by omega)
 ·rw[ae rfl] at a;show W.refL _ 0 _ _ _ _ (((List.range (x.o+1)).map t.hd).getD k 0) 0=true
  have z:((List.range (x.o+1)).map t.hd).getD k 0=t.hd k:=by simp[show k<x.o+1 by omega]
  rw[z,hc.head];by_cases e : 0<(fr k).length
  ·rw[ae e] at a;rw[oY _ _ 0 e];exact a
  ·rw[ac e] at a;have:fr k=[]:=bq (by omega);rw[this] at a ⊢;exact a
 ·intro i hi;have hl:=c i hi;have A:=h.st;unfold W.decP;show(if x.bS<=ad x i/\ad x i-x.bS<x.n/\(ad x i-x.bS)%4096=0 then some ((ad x i-x.bS)/4096) else none)=some i
  unfold ad;rw[ae ⟨by omega,by omega,by omega⟩];congr 1
  omega
 ·intro i hi;exact((b i).1 hi).2
 ·intro j l;have:=hc.nxt j (by rw[d];exact l);rw[oY _ _ j l] at this;unfold M.nx ad at this;rw[Nat.add_sub_cancel_left] at this;rw[this];by_cases e:j+1<(fr k).length
  ·rw[ae e];exact oY _ _ _ e
  ·rw[ac e,ai,dh (by rw[List.length_map];omega)];rfl
 ·intro j l;have:=hc.prv j (by rw[d];exact l);rw[oY _ _ j l] at this;unfold M.pv ad at this;rw[show x.bS+4096*(fr k).getD j 0+8-x.bS=4096*(fr k).getD j 0+8 by omega] at this;rw[this];by_cases e:j=0
  ·rw[ae e,ae e]
  ·rw[ac e,ac e];exact oY _ _ _ (by omega)
end
theorem vD:∀ (l:List Nat),l.Nodup->∀ j,j<l.length->bE l (l.getD j 0)=if j+1<l.length then ((l.getD (j+1) 0:Nat):Int) else -1
 | [],_,j,c=>by simp at c
 | a :: l,hd,0,_=>by
  show(if a=a then bC l else _)=_
  rw[ae rfl]
  cases l with
  | nil=>rfl
  | cons b l=>rw[ae (by simp)];rfl
 | a :: l,hd,j+1,c=>by
  rw[List.nodup_cons] at hd;have c:j<l.length:=by simpa using c
  have d:l.getD j 0∈l:=by rw[ai,bo c];exact List.getElem_mem _
  show(if a=l.getD j 0 then bC l else bE l (l.getD j 0))=if j+1+1<l.length+1 then ((l.getD (j+1) 0:Nat):Int) else -1
  rw[ac (fun e=>hd.1 (by rw[e];exact d)),vD l hd.2 j c];by_cases e:j+1<l.length
  ·rw[ae e,ae (by omega)]
  ·rw[ac e,ac (by omega)]
theorem vC:∀ (l:List Nat),l.Nodup->∀ j,j<l.length->bH l (l.getD j 0)=if j=0 then -1 else ((l.getD (j-1) 0:Nat):Int)
 | [],_,j,c=>by simp at c
 | a :: l,hd,0,_=>by
  rw[List.nodup_cons] at hd;show(if bC l=(a:Int) then (a:Int) else bH l a)=_
  rw[ac (fun e=>hd.1 (oR e)),ae rfl];exact oU hd.1
 | a :: l,hd,j+1,c=>by
  rw[List.nodup_cons] at hd;have c:j<l.length:=by simpa using c
  show(if bC l=((l.getD j 0:Nat):Int) then (a:Int) else bH l (l.getD j 0))=_
  rw[ac (by omega:¬j+1=0),Nat.add_sub_cancel]
  cases j with
  | zero=>
   cases l with
   | nil=>simp at c
   | cons b l=>exact ae rfl
  | succ j=>
   rw[ac,vC l hd.2 (j+1) c,ac (by omega),Nat.add_sub_cancel]
   ·rfl
   ·intro e
    cases l with
    | nil=>simp at c
    | cons b l=>
     have e:(b:Int)=((l.getD j 0:Nat):Int):=e;have d:=(List.nodup_cons.1 hd.2).1;have c:j<l.length:=(by simpa using c);apply d
     rw[show b=l.getD j 0 by omega,ai,bo c];exact List.getElem_mem _
def oH(nx:Nat->Option Int):List Nat->Prop
 | []=>True
 | i :: r=>nx i=some (bC r)/\oH nx r
theorem JP{nx:Nat->Option Int} : ∀ (fl l:List Nat),l.Nodup->fl.Nodup->(∀ i,i∈l↔i∈fl)->oH nx fl->W.prg9 nx (l.length+1) l (bC fl)=true
 | [],l,_,_,b,_=>by
  have:l=[]:=List.eq_nil_iff_forall_not_mem.2 fun i hi=>by simpa using (b i).1 hi
  subst this;exact W.prg9_end
 | i :: r,l,hd,hf,b,hl=>by
  rw[List.nodup_cons] at hf;have hi:i∈l:=(b i).2 aw;show W.prg9 nx (l.length+1) l (i:Int)=true
  rw[W.prg9_yes hi hl.1];refine JP r (l.erase i) (hd.erase i) hf.2 (fun j=>?_) hl.2;rw[hd.mem_erase_iff,b j,List.mem_cons];constructor
  ·rintro ⟨c,a|a⟩
   ·exact absurd a c
   ·exact a
  ·intro a;exact⟨fun e=>hf.1 (by rw[<-e];exact a),.inr a⟩
section
variable {x:Bx} {t:Bt} {fr:Nat->List Nat} {B:Nat->Nat->Nat->Prop} {S:Sb} {L:Nat}
theorem St0.rl9(h:St0 x t fr B S L):W.rl (bO x t S L) 9=none:=by
 refine W.fst1_ok fun k u=>?_
 have f:=h.si.pn k u;have b:∀ i,i∈S.pl k↔i<t.m.n/\W.prS (k:Int) (t.m.pg i)=true:=fun i=>by
  rw[h.si.pm k u i];unfold W.prS;constructor
  ·rintro ⟨q,z⟩;obtain⟨-,d⟩:=h.si.pg i k q;have:=h.sd.al _ _ _ (h.slabB q);have hl : 0<(S.fl i).length:=List.length_pos_iff.2 z;have F:=h.si.lv i k q;refine⟨by simp at this;omega,?_⟩;rw[d.kd,d.cl,d.lv,aa,ah (show ¬((aF k-(S.fl i).length:Nat):Int)=((W.celN9 k:Nat):Int)from fun e=>by
    have e:aF k-(S.fl i).length=aF k:=Int.ofNat.inj e;have R:=cW u;omega)]
   simp
  ·rintro ⟨hi,hp⟩;simp only[bu,bW,Bool.not_eq_true'] at hp;obtain⟨y,E,A⟩:=hp;rcases h.page hi with ⟨c,q,z,d,G⟩|⟨q,g,p,N,hb,z,d,G,J⟩
   ·rw[d.cl] at E;have:c=k:=by omega
    subst this;refine⟨q,fun e=>?_⟩;rw[d.lv,d.cl,e,aa] at A;exact of_decide_eq_false A rfl
   ·rw[J] at y;have y:(if i=p then (g:Int) else (g:Int)+1)=4:=y;split at y <;> omega
 rw[W.ok10_eq,CV (I:=bO x t S L) (P:=W.prS (k:Int)) f b];have r:∀ j,j<(S.pl k).length->SlP S ((S.pl k).getD j 0) k (t.m.pg ((S.pl k).getD j 0)):=fun j o=>by
  have C:(S.pl k).getD j 0∈S.pl k:=by rw[ai,bo o];exact List.getElem_mem _
  exact(h.si.pg _ k ((h.si.pm k u _).1 C).1).2
 have v:=wB (dec:=W.dec10 (bO x t S L)) (nil:=(-1:Int)) (nxt:=fun i=>(t.m.pg i).nx) (bk:=fun i=>(t.m.pg i).pv) (P:=fun i=>W.prS (k:Int) (t.m.pg i)) (fun i=>(i:Int)) (S.pl k) ?_ ?_ ?_ ?_ (S.pl k).length 0 (by omega)
 ·rw[ae rfl] at v;show W.refL _ (-1) _ _ _ _ (((List.range 8).map fun k=>bC (S.pl k)).getD k 0) (-1)=true
  have K:((List.range 8).map fun k=>bC (S.pl k)).getD k 0=bC (S.pl k):=by simp[u]
  rw[K];have D:bC (S.pl k)=if 0<(S.pl k).length then (((S.pl k).getD 0 0:Nat):Int) else -1:=by
   cases S.pl k with
   | nil=>rfl
   | cons a l=>rw[ae (by simp)];rfl
  rw[D];exact v
 ·intro i hi;unfold W.dec10;have hl:=((b i).1 hi).1;show(if 0<=(i:Int)/\(i:Int)<t.m.n then some (i:Int).toNat else none)=some i
  rw[ae ⟨by omega,by omega⟩,aa]
 ·intro i hi;exact((b i).1 hi).2
 ·intro j o;show(t.m.pg ((S.pl k).getD j 0)).nx=_
  rw[(r j o).nx];exact vD _ f j o
 ·intro j o;show(t.m.pg ((S.pl k).getD j 0)).pv=_
  rw[(r j o).pv];exact vC _ f j o
theorem St0.lp9(h:St0 x t fr B S L){g k:Nat}(b:k<8):∀ l:List Nat,(∀ i∈l,i<aF k)->mI x t.f g k l->oH (W.nx9 (bO x t S L) g k) l
 | [],_,_=>trivial
 | i :: r,hl,c=>by
  refine⟨?_,h.lp9 b r (fun j a=>hl j (List.mem_cons_of_mem _ a)) c.2⟩;have e:=c.1;have hb:=h.sd.b1;have hc:=cW b;unfold W.nx9;show(if M.word t.f (4096*g+i*aB k)=0 then some (-1) else if x.bS+g*4096<=M.word t.f (4096*g+i*aB k)/\M.word t.f (4096*g+i*aB k)-(x.bS+g*4096)<4096/\(M.word t.f (4096*g+i*aB k)-(x.bS+g*4096))%aB k=0 then some (((M.word t.f (4096*g+i*aB k)-(x.bS+g*4096))/aB k:Nat):Int) else none)=some (bC r)
  rw[e]
  cases r with
  | nil=>exact ae rfl
  | cons j o=>
   have a:=hl j (by simp);have d:(j+1)*aB k<=aF k*aB k:=ak _ a;rw[hc.1,av,aL] at d;have hs : 0<aB k:=Nat.mul_pos (by decide) (ax k);show(if aK x g k j=0 then _ else if x.bS+g*4096<=aK x g k j/\aK x g k j-(x.bS+g*4096)<4096/\(aK x g k j-(x.bS+g*4096))%aB k=0 then some (((aK x g k j-(x.bS+g*4096))/aB k:Nat):Int) else none)=some (j:Int)
   have n:aK x g k j-(x.bS+g*4096)=j*aB k:=(by unfold aK;omega);have m:x.bS+g*4096<=aK x g k j:=(by unfold aK;omega);rw[n,ac (by omega),ae ⟨m,by omega,Nat.mul_mod_left _ _⟩,dg _ hs]
theorem St0.rl8(h:St0 x t fr B S L):W.rl (bO x t S L) 8=none:=by
 refine W.fst1_ok fun i hi=>?_
 have hi:i<t.m.n:=hi;unfold W.ok9;rcases h.page hi with ⟨k,a,c,d,r⟩|⟨a,g,p,k,hb,c,d,r,y⟩
 ·show(!decide ((t.m.pg i).kd=4) || W.ok9c (bO x t S L) i (t.m.pg i).cl.toNat)=true
  rw[d.cl,aa];have:W.ok9c (bO x t S L) i k=true:=by
   unfold W.ok9c;show W.prg9 (W.nx9 (bO x t S L) i k) ((W.frL (t.m.pg i) (aF k)).length+1) (W.frL (t.m.pg i) (aF k)) (t.m.pg i).fs=true
   rw[d.fs];obtain⟨q,b,u⟩:=h.si.fl i k a;have z:=cW c;refine JP (S.fl i) _ (List.nodup_range.filter _) q (fun j=>?_) (h.lp9 c _ b u);simp only[W.frL,List.mem_filter,List.mem_range,Bool.not_eq_true'];constructor
   ·rintro ⟨v,o⟩;rw[h.bits a j (by omega)] at o;exact Decidable.not_not.1 fun f=>of_decide_eq_false o ⟨v,f⟩
   ·intro l;refine⟨b j l,?_⟩;rw[h.bits a j (by have:=b j l;omega)];exact ah fun e=>e.2 l
  rw[this];simp
 ·show(!decide ((t.m.pg i).kd=4) || _)=true
  rw[y,ah]
  ·rfl
  ·show ¬(if i=p then (g:Int) else (g:Int)+1)=4
   split <;> omega
theorem St0.sound(h:St0 x t fr B S L):W.chk (bO x t S L)=(0,0):=by
 refine W.chk_ok fun a ha=>?_
 match a,ha with
 | 0,_=>exact h.rl0
 | 1,_=>exact h.rl1
 | 2,_=>exact h.rl2
 | 3,_=>exact h.rl3
 | 4,_=>exact h.rl4
 | 5,_=>exact h.rl5
 | 6,_=>exact h.rl6
 | 7,_=>exact h.rl7
 | 8,_=>exact h.rl8
 | 9,_=>exact h.rl9
 | 10,_=>exact h.rl10
end
end Go.Proofs.YtfmgnljlkdmndaaGreatDoor
