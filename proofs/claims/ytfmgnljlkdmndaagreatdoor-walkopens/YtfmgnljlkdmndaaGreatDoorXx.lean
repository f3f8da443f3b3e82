import Derived.Test.YtfmgnljlkdmndaaGreatDoorXt
import Derived.Deep.DeepCutAuto
import Derived.Test.YtfmgnljlkdmndaaGreatDoorWi
set_option maxRecDepth 1000000
set_option maxHeartbeats 0
namespace Go.Proofs.YtfmgnljlkdmndaaGreatDoor
namespace M
open Tryz RowKit Shelf
set_option linter.unusedVariables false
def IsCell(bS n x:Nat):Prop:=1<=bS/\bS+n<=9223372036854775808/\bS<=x/\x+16<=bS+n/\(x-bS)%16=0
theorem IsCell.lp{bS n x:Nat}(h:IsCell bS n x):In bS n x 16:=by unfold IsCell at h;unfold In;omega
theorem IsCell.lt{bS n x:Nat}(h:IsCell bS n x):x<18446744073709551616:=by unfold IsCell at h;omega
theorem IsCell.ln{bS n x:Nat}(h:IsCell bS n x):x≠0:=by unfold IsCell at h;omega
theorem word_far(f:Nat->Nat)(o v a:Nat)(h:o+8<=a\/a+8<=o):word (upd f o 8 (byteOf v)) a=word f a:=by unfold word;exact wordTo_congr _ _ 8 (fun i hi=>upd_out _ _ _ _ _ (by omega))
theorem sM{bS n:Nat}(f:Nat->Nat)(x y v:Nat)(hx:IsCell bS n x)(hy:IsCell bS n y)(a:v<18446744073709551616):nx bS (eG bS f y v) x=if x=y then v else nx bS f x:=by
 unfold nx eG;unfold IsCell at hx hy;by_cases e:x=y;·rw[ae e,e];exact word_upd f _ v a
 ·rw[ac e];exact word_far f _ v _ (by omega)
theorem sK{bS n:Nat}(f:Nat->Nat)(x y v:Nat)(hx:IsCell bS n x)(hy:IsCell bS n y):pv bS (eG bS f y v) x=pv bS f x:=by unfold pv eG;unfold IsCell at hx hy;exact word_far f _ v _ (by omega)
theorem qD{bS n:Nat}(f:Nat->Nat)(x y v:Nat)(hx:IsCell bS n x)(hy:IsCell bS n y):nx bS (eG bS f (y+8) v) x=nx bS f x:=by unfold nx eG;unfold IsCell at hx hy;exact word_far f _ v _ (by omega)
theorem qC{bS n:Nat}(f:Nat->Nat)(x y v:Nat)(hx:IsCell bS n x)(hy:IsCell bS n y)(a:v<18446744073709551616):pv bS (eG bS f (y+8) v) x=if x=y then v else pv bS f x:=by
 unfold pv eG;unfold IsCell at hx hy;by_cases e:x=y;·rw[ae e,e];exact word_upd f _ v a
 ·rw[ac e];exact word_far f _ v _ (by omega)
structure Chn(bS n:Nat)(f:Nat->Nat)(hd:Nat)(xs:List Nat):Prop where
 cell:∀ x∈xs,IsCell bS n x
 nodup:xs.Nodup
 head:hd=xs.getD 0 0
 ez:∀ i,i<xs.length->nx bS f (xs.getD i 0)=xs.getD (i+1) 0
 jt:∀ i,i<xs.length->pv bS f (xs.getD i 0)=if i=0 then 0 else xs.getD (i-1) 0
theorem mP{a:List Nat}{i:Nat}(h:i<a.length):a.getD i 0∈a:=by rw[ai,bo h];exact List.getElem_mem h
theorem wU{a:List Nat}{i:Nat}(h:a.length<=i):a.getD i 0=0:=by rw[ai,dj h];rfl
theorem oW{a:List Nat}(c:a.Nodup){i j:Nat}(hi:i<a.length)(b:j<a.length)(h:a.getD i 0=a.getD j 0):i=j:=by
 rw[ai,bo hi,ai,bo b] at h;have hp:=List.pairwise_iff_getElem.1 c;rcases Nat.lt_trichotomy i j with e|e|e
 ·exact absurd h (hp i j hi b e)
 ·exact e
 ·exact absurd h.symm (hp j i b hi e)
theorem mem_getD{a:List Nat}{p:Nat}(h:p∈a):∃ j,j<a.length/\a.getD j 0=p:=by obtain⟨j,b,e⟩:=List.mem_iff_getElem.1 h;exact⟨j,b,by rw[ai,bo b];exact e⟩
theorem Chn.eH{bS n f hd xs}(h:Chn bS n f hd xs){i:Nat}(hi:i<xs.length):IsCell bS n (xs.getD i 0):=h.cell _ (mP hi)
theorem Chn.lt{bS n f hd xs}(h:Chn bS n f hd xs)(i:Nat):xs.getD i 0<18446744073709551616:=by
 rcases du i xs.length with hi|hi
 ·exact(h.eH hi).lt
 ·rw[wU hi];decide
theorem Chn.zero{bS n f hd xs}(h:Chn bS n f hd xs):hd=0↔xs=[]:=by
 constructor
 ·intro e
  cases xs with
  | nil=>rfl
  | cons x r=>exact absurd (h.head.symm.trans e) (h.cell x (by simp)).ln
 ·rintro rfl;exact h.head
theorem Chn.nil(bS n:Nat)(f:Nat->Nat):Chn bS n f 0 []:=⟨fun _ h=>(by cases h),List.nodup_nil,rfl,fun _ h=>(by cases h),fun _ h=>(by cases h)⟩
theorem Chn.congr{bS n f f' hd a}(h:Chn bS n f hd a)(hf:∀ x∈a,nx bS f' x=nx bS f x/\pv bS f' x=pv bS f x):Chn bS n f' hd a:=
 ⟨h.cell,h.nodup,h.head,fun i hi=>(hf _ (mP hi)).1.trans (h.ez i hi),fun i hi=>(hf _ (mP hi)).2.trans (h.jt i hi)⟩
def Same(bS n:Nat)(f f':Nat->Nat)(xs:List Nat):Prop:=∀ x,IsCell bS n x->x ∉ xs->nx bS f' x=nx bS f x/\pv bS f' x=pv bS f x
theorem Chn.push{bS n f hd xs}(h:Chn bS n f hd xs)(p:Nat)(hp:IsCell bS n p)(d:p ∉ xs):(pushR bS n f hd p).2.2=0/\Chn bS n (pushR bS n f hd p).1 (pushR bS n f hd p).2.1 (p :: xs)/\Same bS n f (pushR bS n f hd p).1 (p :: xs):=by
 have b:gK bS n f hd 0=true:=by
  unfold gK;apply af
  cases xs with
  | nil=>exact .inl h.head
  | cons x r=>
   refine .inr ⟨?_,?_⟩;·rw[h.head];exact(h.cell x (by simp)).lp
   ·have:=h.jt 0 (by simp);rw[h.head];simpa using this
 have he:pushR bS n f hd p=(kE bS f hd p,p,0):=by unfold pushR;rw[ae hp.lp,ae b]
 rw[he];refine⟨rfl,?_⟩;have c:hd<18446744073709551616:=by rw[h.head];exact h.lt 0
 have N:∀ x,IsCell bS n x->nx bS (kE bS f hd p) x=if x=p then hd else nx bS f x:=by
  intro x hx;unfold kE;split;·rw[qD _ _ _ _ hx hp,sM _ _ _ _ hx hp c]
  ·next h0=>
   have j:IsCell bS n hd:=by
    cases xs with
    | nil=>exact absurd h.head h0
    | cons y r=>rw[h.head];exact h.cell y (by simp)
   rw[qD _ _ _ _ hx j,qD _ _ _ _ hx hp,sM _ _ _ _ hx hp c]
 have V:∀ x,IsCell bS n x->pv bS (kE bS f hd p) x=if x=hd/\hd≠0 then p else if x=p then 0 else pv bS f x:=by
  intro x hx;unfold kE;split;·next h0=>rw[ac (by simp[h0]),qC _ _ _ _ hx hp (by decide),sK _ _ _ _ hx hp]
  ·next h0=>
   have j:IsCell bS n hd:=by
    cases xs with
    | nil=>exact absurd h.head h0
    | cons y r=>rw[h.head];exact h.cell y (by simp)
   rw[qC _ _ _ _ hx j hp.lt,qC _ _ _ _ hx hp (by decide),sK _ _ _ _ hx hp];by_cases e:x=hd;·simp[e,h0]
   ·simp[e]
 have g:p≠hd:=by
  intro e
  cases xs with
  | nil=>rw[h.head] at e;exact hp.ln e
  | cons y r=>exact d (by rw[e,h.head];simp)
 refine⟨⟨?_,?_,rfl,?_,?_⟩,?_⟩
 ·intro x hx;rcases eg.1 hx with rfl|hx
  ·exact hp
  ·exact h.cell x hx
 ·exact dr.2 ⟨d,h.nodup⟩
 ·intro i hi
  cases i with
  | zero=>
   show nx bS _ p=xs.getD 0 0
   rw[N p hp,ae rfl,h.head]
  | succ i=>
   have a:i<xs.length:=(by simpa using hi);show nx bS _ (xs.getD i 0)=xs.getD (i+1) 0
   rw[N _ (h.eH a),ac (show ¬xs.getD i 0=p from fun e=>d (e▸mP a)),h.ez i a]
 ·intro i hi
  cases i with
  | zero=>
   show pv bS _ p=_
   rw[V p hp,ac (by simp[g]),ae rfl];rfl
  | succ i=>
   have a:i<xs.length:=(by simpa using hi);show pv bS _ (xs.getD i 0)=_
   rw[V _ (h.eH a)]
   cases i with
   | zero=>have h0:hd≠0:=(by rw[h.head];exact(h.eH a).ln);rw[ae ⟨h.head.symm,h0⟩];rfl
   | succ i=>
    rw[ac,ac (show ¬xs.getD (i+1) 0=p from fun e=>d (e▸mP a)),h.jt _ a];·rfl
    ·rintro ⟨e,_⟩;rw[h.head] at e;have:=oW h.nodup a (by omega) e;omega
 ·intro x hx l;have k:x≠p:=fun e=>l (by simp[e])
  have m:¬(x=hd/\hd≠0):=by
   rintro ⟨e,h0⟩
   cases xs with
   | nil=>exact h0 h.head
   | cons y r=>exact l (by rw[e,h.head];simp)
  rw[N x hx,V x hx,ac k,ac m,ac k];exact⟨rfl,rfl⟩
theorem Chn.walk{bS n f hd xs}(h:Chn bS n f hd xs)(m:Nat)(d:xs.length<=m):∀ k i,i+k=m->i<=xs.length->walkR bS n f k (if i=0 then 0 else xs.getD (i-1) 0) (xs.getD i 0)=xs.drop i:=by
 intro k;induction k with
 | zero=>intro i a c;rw[List.drop_eq_nil_of_le (by omega)];rfl
 | succ k b=>
  intro i a c;unfold walkR;rcases du i xs.length with hi|hi
  ·rw[ae ⟨(h.eH hi).ln,(h.eH hi).lp,h.jt i hi⟩,h.ez i hi];have:=b (i+1) (by omega) hi;rw[ac (by omega),eh] at this;rw[this,List.drop_eq_getElem_cons hi,ai,bo hi];rfl
  ·rw[ac (by rw[wU hi];simp),List.drop_eq_nil_of_le hi]
theorem Chn.all{bS n f hd xs}(h:Chn bS n f hd xs)(m:Nat)(a:xs.length<=m):walkR bS n f m 0 hd=xs:=by have:=h.walk m a m 0 (by omega) (az _);rw[ae rfl,<-h.head,List.drop_zero] at this;exact this
theorem nodup_len:∀ (n:Nat) (l:List Nat),l.Nodup->(∀ x∈l,x<n)->l.length<=n:=by
 intro n;induction n with
 | zero=>
  intro l _ h
  cases l with
  | nil=>exact aj _
  | cons x r=>exact absurd (h x (by simp)) (by omega)
 | succ n f=>
  intro l d h;have b:=f (l.erase n) (d.erase n) (fun x hx=>by
   have j:=h x (List.mem_of_mem_erase hx);have g:x≠n:=fun e=>by subst e;exact(List.Nodup.not_mem_erase d) hx
   omega)
  have i:=List.length_erase_le (a:=n) (l:=l);by_cases c:n∈l;·rw[dp c] at b;omega
  ·rw[List.erase_of_not_mem c] at b;omega
def dropL(xs:List Nat)(p:Nat):List Nat:=xs.filter fun x=>decide (x≠p)
theorem MO:∀ (a:List Nat) (j:Nat),a.Nodup->j<a.length->dropL a (a.getD j 0)=a.eraseIdx j:=by
 intro a;induction a with
 | nil=>intro j _ h;simp at h
 | cons y r k=>
  intro j f i;have hy:=(dr.1 f).1
  cases j with
  | zero=>
   have d:dropL r y=r:=List.filter_eq_self.2 (fun x hx=>by simp;intro e;exact hy (e▸hx));show dropL (y :: r) y=r
   unfold dropL at d ⊢;rw[List.filter_cons_of_neg (by simp)];exact d
  | succ j=>
   have b:j<r.length:=(by simpa using i);have g:=k j (dr.1 f).2 b;have c:y≠r.getD j 0:=fun e=>hy (e▸mP b)
   show dropL (y :: r) (r.getD j 0)=y :: r.eraseIdx j
   unfold dropL at g ⊢;rw[List.filter_cons_of_pos (by simpa using c),g]
theorem zhT{a:List Nat}(c:a.Nodup){j:Nat}(b:j<a.length)(i:Nat):(dropL a (a.getD j 0)).getD i 0=if i<j then a.getD i 0 else a.getD (i+1) 0:=by
 rw[MO a j c b,ai,List.getElem?_eraseIdx];split;·rw[ai]
 ·rw[ai]
theorem zfx{a:List Nat}(c:a.Nodup){j:Nat}(b:j<a.length):(dropL a (a.getD j 0)).length+1=a.length:=by rw[MO a j c b,List.length_eraseIdx_of_lt b];omega
theorem ziH{a:List Nat}{p x:Nat}(h:x∈dropL a p):x∈a:=(List.mem_filter.1 h).1
theorem Chn.remove{bS n f hd xs}(h:Chn bS n f hd xs)(j:Nat)(B:j<xs.length):(removeR bS n f hd (xs.getD j 0)).2.2=0/\Chn bS n (removeR bS n f hd (xs.getD j 0)).1 (removeR bS n f hd (xs.getD j 0)).2.1 (dropL xs (xs.getD j 0))/\Same bS n f (removeR bS n f hd (xs.getD j 0)).1 xs:=by
 obtain⟨p,l⟩:=xe (xs.getD j 0);have hp:IsCell bS n p:=by rw[l];exact h.eH B
 obtain⟨q,hq⟩:=xe (pv bS f p);obtain⟨m,J⟩:=xe (nx bS f p);have k:q=if j=0 then 0 else xs.getD (j-1) 0:=by rw[hq,l];exact h.jt j B
 have d:m=xs.getD (j+1) 0:=by rw[J,l];exact h.ez j B
 have g:q=0↔j=0:=by
  rw[k];by_cases e:j=0;·simp[e]
  ·rw[ac e];exact⟨fun h0=>absurd h0 (h.eH (by omega)).ln,fun h0=>absurd h0 e⟩
 have v:m=0↔j+1=xs.length:=by
  rw[d];rcases du (j+1) xs.length with e|e
  ·exact⟨fun h0=>absurd h0 (h.eH e).ln,fun h0=>by omega⟩
  ·exact⟨fun _=>by omega,fun _=>wU e⟩
 have u:q≠0->IsCell bS n q:=fun h0=>by
  have:¬j=0:=fun e=>h0 (g.2 e)
  rw[k,ac this];exact h.eH (by omega)
 have t:m≠0->IsCell bS n m:=fun h0=>by
  have:¬j+1=xs.length:=fun e=>h0 (v.2 e)
  rw[d];exact h.eH (by omega)
 have F:q<18446744073709551616:=by
  by_cases e:q=0;·rw[e];decide
  ·exact(u e).lt
 have G:m<18446744073709551616:=by
  by_cases e:m=0;·rw[e];decide
  ·exact(t e).lt
 have E:p=hd↔j=0:=by rw[l,h.head];exact⟨fun e=>oW h.nodup B (by omega) e,fun e=>by rw[e]⟩
 have y:iH bS n f hd q p=true:=by
  unfold iH;by_cases e:j=0;·rw[ae (.inl (g.2 e))];exact af ⟨g.2 e,E.2 e⟩
  ·have h0:q≠0:=fun b=>e (g.1 b)
   rw[ac (by rintro (b|b);exact h0 b;exact e (E.1 b))];refine af ⟨(u h0).lp,?_⟩;rw[k,ac e,h.ez (j-1) (by omega),l];congr 1
   omega
 have z:gK bS n f m p=true:=by
  unfold gK;apply af
  by_cases e:m=0;·exact .inl e
  ·refine .inr ⟨(t e).lp,?_⟩;have:¬j+1=xs.length:=fun b=>e (v.2 b)
   rw[d,h.jt (j+1) (by omega),ac (by omega),l];congr 1
 have he:removeR bS n f hd p=(jO bS f p,(if q=0 then m else hd),0):=by unfold removeR;rw[ae hp.lp,<-hq,<-J,y,z];rfl
 have C:jO bS f p=(let L:=if q=0 then f else eG bS f q m;if m=0 then L else eG bS L (m+8) q):=by unfold jO;rw[<-hq,<-J]
 rw[<-l,he];refine⟨rfl,?_⟩;have N:∀ x,IsCell bS n x->nx bS (jO bS f p) x=if q≠0/\x=q then m else nx bS f x:=by
  intro x hx;rw[C];by_cases o:q=0
  ·by_cases c:m=0
   ·simp[o,c]
   ·simp only[o,c,if_true,if_false];rw[qD _ _ _ _ hx (t c)];simp
  ·by_cases c:m=0
   ·simp only[o,c,if_true,if_false];rw[sM _ _ _ _ hx (u o) (by decide)];simp[o]
   ·simp only[o,c,if_false];rw[qD _ _ _ _ hx (t c),sM _ _ _ _ hx (u o) G];simp[o]
 have V:∀ x,IsCell bS n x->pv bS (jO bS f p) x=if m≠0/\x=m then q else pv bS f x:=by
  intro x hx;rw[C];by_cases o:q=0
  ·by_cases c:m=0
   ·simp[o,c]
   ·simp only[o,c,if_true,if_false];rw[qC _ _ _ _ hx (t c) (by decide)];simp[c]
  ·by_cases c:m=0
   ·simp only[o,c,if_true,if_false];rw[sK _ _ _ _ hx (u o)];simp
   ·simp only[o,c,if_false];rw[qC _ _ _ _ hx (t c) F,sK _ _ _ _ hx (u o)];simp[c]
 have I:=zfx h.nodup B;have a:=zhT h.nodup B;rw[<-l] at I a;refine⟨⟨fun x hx=>h.cell x (ziH hx),h.nodup.filter _,?_,?_,?_⟩,?_⟩
 ·show(if q=0 then m else hd)=_
  rw[a 0];by_cases e:j=0;·rw[ae (g.2 e),ac (by omega),d,e]
  ·rw[ac (fun b=>e (g.1 b)),ae (by omega),h.head]
 ·intro i hi;show nx bS (jO bS f p) _=_
  rw[a i,a (i+1)];by_cases e:i<j
  ·rw[ae e,N _ (h.eH (by omega))];have r:¬j=0:=(by omega);by_cases c:i+1=j
   ·rw[ae ⟨fun b=>r (g.1 b),by rw[k,ac r];congr 1;omega⟩,ac (by omega),d];congr 1
    omega
   ·rw[ac,ae (by omega),h.ez i (by omega)];rintro ⟨_,s⟩;rw[k,ac r] at s;have:=oW h.nodup (by omega) (by omega) s;omega
  ·rw[ac e,N _ (h.eH (by omega)),ac,ac (by omega),h.ez (i+1) (by omega)];rintro ⟨w,s⟩;have r:¬j=0:=fun b=>w (g.2 b)
   rw[k,ac r] at s;have:=oW h.nodup (by omega) (by omega) s;omega
 ·intro i hi;show pv bS (jO bS f p) _=_
  rw[a i];by_cases e:i<j
  ·rw[ae e,V _ (h.eH (by omega)),ac,h.jt i (by omega)]
   ·by_cases A:i=0
    ·rw[ae A,ae A]
    ·rw[ac A,ac A,a (i-1),ae (by omega)]
   ·rintro ⟨w,s⟩;rw[d] at s;have D:¬j+1=xs.length:=fun b=>w (v.2 b)
    have:=oW h.nodup (by omega) (by omega) s;omega
  ·rw[ac e,V _ (h.eH (by omega))];by_cases c:i=j
   ·rw[ae ⟨fun b=>by have:=v.1 b;omega,by rw[d,c]⟩,k];by_cases A:j=0
    ·rw[ae A,ae (by omega)]
    ·rw[ac A,ac (by omega),a (i-1),ae (by omega),c]
   ·rw[ac,h.jt (i+1) (by omega),ac (by omega),ac (by omega),a (i-1),ac (by omega)]
    ·congr 1
     omega
    ·rintro ⟨w,s⟩;rw[d] at s;have D:¬j+1=xs.length:=fun b=>w (v.2 b)
     have:=oW h.nodup (by omega) (by omega) s;omega
 ·intro x hx K;show nx bS (jO bS f p) x=_/\pv bS (jO bS f p) x=_
  rw[N x hx,V x hx,ac,ac];·exact⟨rfl,rfl⟩
  ·rintro ⟨w,s⟩;have D:¬j+1=xs.length:=fun b=>w (v.2 b)
   exact K (by rw[s,d];exact mP (by omega))
  ·rintro ⟨w,s⟩;have r:¬j=0:=fun b=>w (g.2 b)
   exact K (by rw[s,k,ac r];exact mP (by omega))
end M
open Tryz RowKit
set_option linter.unusedVariables false
theorem CG(a b:Nat):(a ^^^ b)%2=(a+b)%2:=by
 have h:=Nat.xor_mod_two_pow (a:=a) (b:=b) (n:=1);rw[Nat.pow_one] at h;rw[h];rcases Nat.mod_two_eq_zero_or_one a with ha|ha <;> rcases Nat.mod_two_eq_zero_or_one b with hb|hb <;> rw[ha,hb]
 ·show 0=_;omega
 ·show 1=_;omega
 ·show 1=_;omega
 ·show 0=_;omega
theorem vG:∀ (r x:Nat),x/2 ^ r%2=0->x ^^^ 2 ^ r=x+2 ^ r
 | 0,x,h=>by
  have h0:x%2=0:=by simpa using h
  have c:=Nat.xor_div_two (a:=x) (b:=1);have g:=CG x 1;rw[show 1/2=0 from rfl,Nat.xor_zero] at c;rw[Nat.pow_zero];omega
 | r+1,x,h=>by
  have hd:x/2/2 ^ r%2=0:=by rw[Nat.div_div_eq_div_mul,<-Nat.pow_succ'];exact h
  have f:=vG r (x/2) hd;have c:=Nat.xor_div_two (a:=x) (b:=2 ^ (r+1));have g:=CG x (2 ^ (r+1));have d : 2 ^ (r+1)=2*2 ^ r:=by rw[co,aq]
  have e : 2 ^ (r+1)/2=2 ^ r:=by rw[d];omega
  rw[e,f] at c;generalize x ^^^ 2 ^ (r+1)=z at *;generalize 2 ^ r=y at *;omega
theorem zkG(r x:Nat)(h:x/2 ^ r%2=1) : 2 ^ r<=x/\x ^^^ 2 ^ r=x-2 ^ r:=by
 have hb:(x ^^^ 2 ^ r)/2 ^ r%2=0:=by
  have b:(x ^^^ 2 ^ r).testBit r=!x.testBit r:=by rw[Nat.testBit_xor,Nat.testBit_two_pow];simp
  have a:x.testBit r=true:=by rw[dn,h];rfl
  rw[a,dn] at b;have:¬(x ^^^ 2 ^ r)/2 ^ r%2=1:=by simpa using b
  omega
 have a:=vG r (x ^^^ 2 ^ r) hb;rw[Nat.xor_assoc,Nat.xor_self,Nat.xor_zero] at a;omega
structure Sd(x:Bx)(t:Bt)(fr:Nat->List Nat)(B:Nat->Nat->Nat->Prop):Prop where
 mo:t.m.o=x.o
 o8:x.o<=8
 dv:∃ r,t.m.n=r*2 ^ x.o
 nb:t.m.n*4096<=x.n
 n1:t.m.n<=1024
 b1 : 1<=x.bS
 b2:x.bS+x.n<=9223372036854775808
 tg:∀ g p k,B g p k->g=0\/g=2\/g=9
 fi:∀ p k,B 0 p k↔(k<=x.o/\p∈fr k)
 al:∀ g p k,B g p k->k<=x.o/\p%2 ^ k=0/\p+2 ^ k<=t.m.n
 ds:∀ g p k h q j,B g p k->B h q j->(g=h/\p=q/\k=j)\/p+2 ^ k<=q\/q+2 ^ j<=p
 cv:∀ i,i<t.m.n->∃ g p k,B g p k/\p<=i/\i<p+2 ^ k
 pg:∀ g p k,B g p k->g≠9->∀ i,p<=i->i<p+2 ^ k->t.m.pg i=(x.P i).getD (aT (if i=p then (g:Int) else (g:Int)+1) (k:Int))
 ch:∀ k,k<=x.o->M.Chn x.bS x.n t.f (t.hd k) ((fr k).map (ad x))
 wl:∀ k,k<x.o->(t.m.wd k).length=(t.m.n/2 ^ (k+1)+63)/64
 bt:∀ k,k<x.o->∀ i,i<t.m.n/2 ^ (k+1)->aE (t.m.wd k) i=(decide (2*i*2 ^ k∈fr k) != decide ((2*i+1)*2 ^ k∈fr k))
 nm:∀ k,k<x.o->∀ i,¬(2*i*2 ^ k∈fr k/\(2*i+1)*2 ^ k∈fr k)
 vs:∀ p q,x.P p=some q->B 2 p 0/\q.kd=4
theorem Sd.pn{x t fr B}(s:Sd x t fr B){g p k:Nat}(hb:B g p k)(h:g=2->k=0->x.P p=none):∀ i,p<=i->i<p+2 ^ k->x.P i=none:=by
 intro i f j
 cases hP:x.P i with
 | none=>rfl
 | some q=>
  exfalso
  have a:=(s.vs i q hP).1;rcases s.ds _ _ _ _ _ _ a hb with ⟨c,b,d⟩|e|e
  ·have:=h c.symm d.symm;rw[<-b,hP] at this
   cases this
  ·omega
  ·omega
theorem Sd.nc{x t fr B}(s:Sd x t fr B){g p k:Nat}(hb:B g p k)(h:g≠2):∀ i,p<=i->i<p+2 ^ k->x.P i=none:=s.pn hb (fun e=>absurd e h)
def eU(B:Nat->Nat->Nat->Prop)(g p k h:Nat):Nat->Nat->Nat->Prop:=fun a b c=>(B a b c/\¬(a=g/\b=p/\c=k))\/(a=h/\b=p/\c=k)
theorem sD{x t fr B}(s:Sd x t fr B){g p k h:Nat}(hb:B g p k):∀ a b c a' d f,eU B g p k h a b c->eU B g p k h a' d f->(a=a'/\b=d/\c=f)\/b+2 ^ c<=d\/d+2 ^ f<=b:=by
 rintro a b c a' d f (⟨i,m⟩|⟨rfl,rfl,rfl⟩) (⟨j,l⟩|⟨rfl,rfl,rfl⟩);·exact s.ds _ _ _ _ _ _ i j
 ·rcases s.ds _ _ _ _ _ _ i hb with ⟨rfl,rfl,rfl⟩|e
  ·exact absurd ⟨rfl,rfl,rfl⟩ m
  ·exact .inr e
 ·rcases s.ds _ _ _ _ _ _ hb j with ⟨rfl,rfl,rfl⟩|e
  ·exact absurd ⟨rfl,rfl,rfl⟩ l
  ·exact .inr e
 ·exact .inl ⟨rfl,rfl,rfl⟩
theorem sC{x t fr B}(s:Sd x t fr B){g p k h:Nat}(hb:B g p k):∀ a b c,eU B g p k h a b c->c<=x.o/\b%2 ^ c=0/\b+2 ^ c<=t.m.n:=by
 rintro a b c (⟨d,e⟩|⟨rfl,rfl,rfl⟩);·exact s.al _ _ _ d
 ·exact s.al _ _ _ hb
theorem sB{x t fr B}(s:Sd x t fr B){g p k h:Nat}(hb:B g p k):∀ i,i<t.m.n->∃ a b c,eU B g p k h a b c/\b<=i/\i<b+2 ^ c:=by
 intro i hi;obtain⟨a,b,c,j,f,d⟩:=s.cv i hi;by_cases e:a=g/\b=p/\c=k;·obtain⟨rfl,rfl,rfl⟩:=e;exact⟨h,b,c,.inr ⟨rfl,rfl,rfl⟩,f,d⟩
 ·exact⟨a,b,c,.inl ⟨j,e⟩,f,d⟩
theorem Sd.die{x t fr B}(s:Sd x t fr B){p k:Nat}(hb:B 2 p k)(i:x.P p=none):Sd x t fr (eU B 2 p k 9):=by
 refine⟨s.mo,s.o8,s.dv,s.nb,s.n1,s.b1,s.b2,?_,?_,sC s hb,sD s hb,sB s hb,?_,s.ch,s.wl,s.bt,s.nm,fun q r h=>⟨.inl ⟨(s.vs q r h).1,fun e=>by
   rw[e.2.1,i] at h
   cases h⟩,(s.vs q r h).2⟩⟩
 ·rintro a b c (⟨d,g⟩|⟨rfl,rfl,rfl⟩)
  ·exact s.tg _ _ _ d
  ·exact .inr (.inr rfl)
 ·intro q j;rw[<-s.fi q j];constructor
  ·rintro (⟨d,g⟩|⟨e,_⟩)
   ·exact d
   ·omega
  ·exact fun d=>.inl ⟨d,fun e=>by omega⟩
 ·rintro a b c (⟨d,g⟩|⟨rfl,rfl,rfl⟩) f
  ·exact s.pg _ _ _ d f
  ·exact absurd rfl f
theorem wQ{x t fr B}(s:Sd x t fr B){g p k:Nat}(hb:B g p k)(kd:Int)(a:kd=0\/kd=2):cF t.m (p:Int) (k:Int) kd={ t.m with pg:=fC t.m.pg p k kd }:=by
 obtain⟨c,b,d⟩:=s.al _ _ _ hb;have hp : 0<2 ^ k:=ap (by decide);have c1:decide ((kd=0\/kd=2)/\0<=(k:Int)/\(k:Int)<=t.m.o)=true:=af ⟨a,by omega,by rw[s.mo];omega⟩;have c2:aD t.m.n (p:Int)=true:=af ⟨by omega,by omega⟩;have c3:decide ((p:Int)%2 ^ (k:Int).toNat=0)=true:=af (by rw[aa,show(2:Int) ^ k=((2 ^ k:Nat):Int)by simp,<-Int.natCast_emod,b];rfl)
 unfold cF;rw[show jR t.m (p:Int) (k:Int) kd=true by unfold jR;rw[c1,c2,c3];rfl,ae rfl];simp
theorem Sd.km{x t fr B}(s:Sd x t fr B){p k:Nat}(hb:B 9 p k)(g:Nat)(hg:g=0\/g=2):∀ a b c,eU B 9 p k g a b c->a≠9->∀ i,b<=i->i<b+2 ^ c->(cP t p k (g:Int)).m.pg i=(x.P i).getD (aT (if i=b then (a:Int) else (a:Int)+1) (c:Int)):=by
 intro a b c l j i f d;show(cF t.m (p:Int) (k:Int) (g:Int)).pg i=_
 rw[wQ s hb (g:Int) (by omega)];show fC t.m.pg p k (g:Int) i=_
 unfold fC;rcases l with ⟨h,n⟩|⟨rfl,rfl,rfl⟩
 ·have hd:=s.ds _ _ _ _ _ _ hb h;have hp : 0<2 ^ k:=ap (by decide);rw[ac (by omega),ac (by omega)];exact s.pg _ _ _ h j i f d
 ·rw[s.nc hb (by decide) i f d,ej];by_cases e:i=b
  ·rw[ae e,ae e]
  ·rw[ac e,ac e,ae ⟨by omega,d⟩]
theorem Sd.live{x t fr B}(s:Sd x t fr B){p k:Nat}(hb:B 9 p k):Sd x (cP t p k 2) fr (eU B 9 p k 2):=by
 have f:=wQ s hb 2 (.inr rfl);have e:cP t p k 2={ t with m:={ t.m with pg:=fC t.m.pg p k 2 } }:=by unfold cP;rw[f]
 have pt:=s.km hb 2 (.inr rfl);rw[show((2:Nat):Int)=2 from rfl,e] at pt;rw[e];refine⟨s.mo,s.o8,s.dv,s.nb,s.n1,s.b1,s.b2,?_,?_,sC s hb,sD s hb,sB s hb,pt,s.ch,s.wl,s.bt,s.nm,fun q r h=>⟨.inl ⟨(s.vs q r h).1,fun e=>by omega⟩,(s.vs q r h).2⟩⟩
 ·rintro a b c (⟨d,g⟩|⟨rfl,rfl,rfl⟩)
  ·exact s.tg _ _ _ d
  ·exact .inr (.inl rfl)
 ·intro q j;rw[<-s.fi q j];constructor
  ·rintro (⟨d,g⟩|⟨e,_⟩)
   ·exact d
   ·omega
  ·exact fun d=>.inl ⟨d,fun e=>by omega⟩
theorem tY{p k:Nat}(hp:p<2 ^ 62)(q:k<=8)(n:p%2 ^ k=0):(p%2 ^ (k+1)=0/\aW p k=p+2 ^ k/\dS p k=p)\/(2 ^ k<=p/\(p-2 ^ k)%2 ^ (k+1)=0/\aW p k=p-2 ^ k/\dS p k=p-2 ^ k):=by
 have hz : 0<2 ^ k:=ap (by decide);have g : 2 ^ (k+1)=2*2 ^ k:=by rw[co,aq]
 obtain⟨c,hc⟩:∃ c,p=c*2 ^ k:=⟨p/2 ^ k,by have:=dy p (2 ^ k);rw[n,Nat.add_zero,aq] at this;exact this.symm⟩;have a:p/2 ^ k=c:=by rw[hc,dh _ hz]
 have b:∀ i,(dS p k).testBit i=(p.testBit i && decide (i≠k)):=fun i=>by
  have j : 2 ^ k<2 ^ 64:=Nat.pow_lt_pow_right (by decide) (by omega);unfold dS;rw[show 18446744073709551615-2 ^ k=2 ^ 64-(2 ^ k+1)by omega,Nat.testBit_and,Nat.testBit_two_pow_sub_succ j,Nat.testBit_two_pow];by_cases e:i<64
  ·by_cases d:k=i
   ·simp[e,d]
   ·have o:i≠k:=fun h=>d h.symm
    simp[e,d,o]
  ·have:p.testBit i=false:=Nat.testBit_lt_two_pow (bg hp (bj (by decide) (by omega)));rw[this];simp
 have f:p.testBit k=decide (c%2=1):=by rw[dn,a]
 rcases Nat.mod_two_eq_zero_or_one c with h0|h0
 ·left
  refine⟨?_,vG k p (by rw[a];exact h0),?_⟩;·rw[g,hc,aq 2,aq c,Nat.mul_mod_mul_left,h0,Nat.mul_zero]
  ·apply Nat.eq_of_testBit_eq
   intro i;rw[b];by_cases e:i=k;·subst e;rw[f,h0];rfl
   ·simp[e]
 ·right
  obtain⟨m,l⟩:=zkG k p (by rw[a];exact h0);refine⟨m,?_,l,?_⟩;·rw[hc,show c*2 ^ k-2 ^ k=(c-1)*2 ^ k by rw[Nat.sub_mul,aL],g,aq 2,aq (c-1),Nat.mul_mod_mul_left,show(c-1)%2=0 by omega,Nat.mul_zero]
  ·rw[<-l];apply Nat.eq_of_testBit_eq
   intro i;rw[b,Nat.testBit_xor,Nat.testBit_two_pow];by_cases e:i=k;·subst e;rw[f,h0];simp
   ·have d:¬k=i:=fun h=>e h.symm
    simp[e,d]
def oP(B:Nat->Nat->Nat->Prop)(p k:Nat):Nat->Nat->Nat->Prop:=fun a b c=>(B a b c/\¬(a=9/\b=p/\c=k+1))\/(a=9/\b=p/\c=k)\/(a=9/\b=p+2 ^ k/\c=k)
theorem zkA{p k:Nat}(h:p%2 ^ (k+1)=0):p%2 ^ k=0/\(p+2 ^ k)%2 ^ k=0:=by
 have a:p%2 ^ k=0:=by have : 2 ^ k ∣ p:=Nat.dvd_trans ⟨2,by rw[co]⟩ (da h);exact Nat.mod_eq_zero_of_dvd this
 exact⟨a,by rw[Nat.add_mod_right];exact a⟩
theorem Sd.split{x t fr B}(s:Sd x t fr B){p k:Nat}(hb:B 9 p (k+1)):Sd x t fr (oP B p k):=by
 obtain⟨D,v,z⟩:=s.al _ _ _ hb;have w : 2 ^ (k+1)=2 ^ k+2 ^ k:=by rw[co];omega
 have hz : 0<2 ^ k:=ap (by decide);obtain⟨o,y⟩:=zkA v;refine⟨s.mo,s.o8,s.dv,s.nb,s.n1,s.b1,s.b2,?_,?_,?_,?_,?_,?_,s.ch,s.wl,s.bt,s.nm,fun q r h=>⟨.inl ⟨(s.vs q r h).1,fun e=>by omega⟩,(s.vs q r h).2⟩⟩
 ·rintro a b c (⟨d,f⟩|⟨rfl,rfl,rfl⟩|⟨rfl,rfl,rfl⟩)
  ·exact s.tg _ _ _ d
  ·exact .inr (.inr rfl)
  ·exact .inr (.inr rfl)
 ·intro q j;rw[<-s.fi q j];constructor
  ·rintro (⟨d,f⟩|⟨e,_⟩|⟨e,_⟩)
   ·exact d
   ·omega
   ·omega
  ·exact fun d=>.inl ⟨d,fun e=>by omega⟩
 ·rintro a b c (⟨d,f⟩|⟨rfl,rfl,rfl⟩|⟨rfl,rfl,rfl⟩)
  ·exact s.al _ _ _ d
  ·exact⟨by omega,o,by omega⟩
  ·exact⟨by omega,y,by omega⟩
 ·have g:∀ a b c,B a b c->¬(a=9/\b=p/\c=k+1)->b+2 ^ c<=p\/p+2 ^ (k+1)<=b:=fun a b c d f=>by
   rcases s.ds _ _ _ _ _ _ d hb with e|e
   ·exact absurd e f
   ·exact e
  rintro a b c a' C A (⟨d,f⟩|⟨rfl,rfl,rfl⟩|⟨rfl,rfl,rfl⟩) (⟨l,n⟩|⟨rfl,rfl,rfl⟩|⟨rfl,rfl,rfl⟩);·exact s.ds _ _ _ _ _ _ d l
  ·have:=g _ _ _ d f;right;omega
  ·have:=g _ _ _ d f;right;omega
  ·have:=g _ _ _ l n;right;omega
  ·exact .inl ⟨rfl,rfl,rfl⟩
  ·right;omega
  ·have:=g _ _ _ l n;right;omega
  ·right;omega
  ·exact .inl ⟨rfl,rfl,rfl⟩
 ·intro i hi;obtain⟨a,b,c,d,f,l⟩:=s.cv i hi;by_cases e:a=9/\b=p/\c=k+1
  ·obtain⟨rfl,rfl,rfl⟩:=e;by_cases u:i<b+2 ^ k
   ·exact⟨9,b,k,.inr (.inl ⟨rfl,rfl,rfl⟩),f,u⟩
   ·exact⟨9,b+2 ^ k,k,.inr (.inr ⟨rfl,rfl,rfl⟩),by omega,by omega⟩
  ·exact⟨a,b,c,.inl ⟨d,e⟩,f,l⟩
 ·rintro a b c (⟨d,f⟩|⟨rfl,rfl,rfl⟩|⟨rfl,rfl,rfl⟩) m
  ·exact s.pg _ _ _ d m
  ·exact absurd rfl m
  ·exact absurd rfl m
def SJ(B:Nat->Nat->Nat->Prop)(p k:Nat):Nat->Nat->Nat->Prop:=fun a b c=>(B a b c/\¬(a=9/\b=p/\c=k)/\¬(a=9/\b=p+2 ^ k/\c=k))\/(a=9/\b=p/\c=k+1)
theorem Sd.mf{x t fr B}(s:Sd x t fr B){p k:Nat}(hb:B 9 p k)(hc:B 9 (p+2 ^ k) k)(u:p%2 ^ (k+1)=0)(I:k<x.o):Sd x t fr (SJ B p k):=by
 obtain⟨G,z,A⟩:=s.al _ _ _ hb;obtain⟨y,D,C⟩:=s.al _ _ _ hc;have w : 2 ^ (k+1)=2 ^ k+2 ^ k:=by rw[co];omega
 have hz : 0<2 ^ k:=ap (by decide);refine⟨s.mo,s.o8,s.dv,s.nb,s.n1,s.b1,s.b2,?_,?_,?_,?_,?_,?_,s.ch,s.wl,s.bt,s.nm,fun q r h=>⟨.inl ⟨(s.vs q r h).1,fun e=>by omega,fun e=>by omega⟩,(s.vs q r h).2⟩⟩
 ·rintro a b c (⟨d,f⟩|⟨rfl,rfl,rfl⟩)
  ·exact s.tg _ _ _ d
  ·exact .inr (.inr rfl)
 ·intro q j;rw[<-s.fi q j];constructor
  ·rintro (⟨d,f⟩|⟨e,_⟩)
   ·exact d
   ·omega
  ·exact fun d=>.inl ⟨d,fun e=>by omega,fun e=>by omega⟩
 ·rintro a b c (⟨d,f⟩|⟨rfl,rfl,rfl⟩)
  ·exact s.al _ _ _ d
  ·exact⟨by omega,u,by omega⟩
 ·have l:∀ a b c,B a b c->¬(a=9/\b=p/\c=k)/\¬(a=9/\b=p+2 ^ k/\c=k)->b+2 ^ c<=p\/p+2 ^ (k+1)<=b:=fun a b c d f=>by
   have hq : 0<2 ^ c:=ap (by decide);rcases s.ds _ _ _ _ _ _ d hb with e|e
   ·exact absurd e f.1
   ·rcases s.ds _ _ _ _ _ _ d hc with g|g
    ·exact absurd g f.2
    ·omega
  rintro a b c a' F E (⟨d,f⟩|⟨rfl,rfl,rfl⟩) (⟨m,v⟩|⟨rfl,rfl,rfl⟩);·exact s.ds _ _ _ _ _ _ d m
  ·right;exact l _ _ _ d f
  ·have:=l _ _ _ m v;right;omega
  ·exact .inl ⟨rfl,rfl,rfl⟩
 ·intro i hi;obtain⟨a,b,c,d,f,m⟩:=s.cv i hi;by_cases e:a=9/\b=p/\c=k
  ·obtain⟨rfl,rfl,rfl⟩:=e;exact⟨9,b,c+1,.inr ⟨rfl,rfl,rfl⟩,f,by omega⟩
  ·by_cases g:a=9/\b=p+2 ^ k/\c=k
   ·obtain⟨rfl,rfl,rfl⟩:=g;exact⟨9,p,c+1,.inr ⟨rfl,rfl,rfl⟩,by omega,by omega⟩
   ·exact⟨a,b,c,.inl ⟨d,e,g⟩,f,m⟩
 ·rintro a b c (⟨d,f⟩|⟨rfl,rfl,rfl⟩) n
  ·exact s.pg _ _ _ d n
  ·exact absurd rfl n
theorem IC{n o a c:Nat}(hd:∃ r,n=r*2 ^ o)(ha:a<o)(hc:c<n):c/2 ^ (a+1)<n/2 ^ (a+1):=by
 obtain⟨r,f⟩:=hd;obtain⟨d,rfl⟩:∃ d,o=(a+1)+d:=⟨o-(a+1),by omega⟩;have e:n=r*2 ^ d*2 ^ (a+1):=by rw[f,Nat.pow_add,aq (2 ^ (a+1)),cy]
 have b : 0<2 ^ (a+1):=ap (by decide);rw[e,dh _ b];rw[e] at hc;exact Nat.div_lt_of_lt_mul (by rw[aq];exact hc)
theorem GZ(m:Mp)(k p:Nat)(a:¬k<m.o):fH m (k:Int) (p:Int)=m:=by
 have:dT m (k:Int) (p:Int)=false:=by unfold dT;rw[show aD m.o (k:Int)=false from ah (fun e=>by omega),eb]
 simp[fH,this]
theorem zj4(m:Mp)(k p:Nat)(c:k<m.o)(hp:p<m.n)(a:p/2 ^ (k+1)<m.n/2 ^ (k+1)):fH m (k:Int) (p:Int)={ m with wd:=fV m.wd k (kJ (m.wd k) (p/2 ^ (k+1))) }:=by
 have b:dT m (k:Int) (p:Int)=true:=by unfold dT;rw[dN c,dN hp];rfl
 have d:aD (m.n/2 ^ (k+1)) ((p/2 ^ (k+1):Nat):Int)=true:=dN a;unfold fH;rw[ae b];simp only[nY,nX,aa];unfold gG;rw[ae d,aa]
theorem EH{p k:Nat}(a:p%2 ^ k=0):p=2*(p/2 ^ (k+1))*2 ^ k\/p=(2*(p/2 ^ (k+1))+1)*2 ^ k:=by
 have hz : 0<2 ^ k:=ap (by decide);obtain⟨c,hc⟩:∃ c,p=c*2 ^ k:=⟨p/2 ^ k,by have:=dy p (2 ^ k);rw[a,Nat.add_zero,aq] at this;exact this.symm⟩;have hd:p/2 ^ (k+1)=c/2:=by rw[co,<-Nat.div_div_eq_div_mul,hc,dh _ hz]
 rw[hd];rcases Nat.mod_two_eq_zero_or_one c with h|h
 ·left;rw[show 2*(c/2)=c by omega];exact hc
 ·right;rw[show 2*(c/2)+1=c by omega];exact hc
theorem sQ(i k:Nat) : 2*i*2 ^ k/2 ^ (k+1)=i/\(2*i+1)*2 ^ k/2 ^ (k+1)=i/\2*i*2 ^ k≠(2*i+1)*2 ^ k:=by have hz : 0<2 ^ k:=ap (by decide);rw[co,<-Nat.div_div_eq_div_mul,<-Nat.div_div_eq_div_mul,dh _ hz,dh _ hz];refine⟨by omega,by omega,fun e=>?_⟩;have:=Nat.eq_of_mul_eq_mul_right hz e;omega
theorem Sd.cell{x t fr B}(s:Sd x t fr B){g p k:Nat}(hb:B g p k):M.IsCell x.bS x.n (ad x p):=by obtain⟨a,c,b⟩:=s.al _ _ _ hb;have hz : 0<2 ^ k:=ap (by decide);have:=s.nb;have:=s.b1;have:=s.b2;unfold M.IsCell ad;omega
theorem CZ{x:Bx}{p q:Nat}(h:ad x p=ad x q):p=q:=by unfold ad at h;omega
theorem pU{x:Bx}{p:Nat}{l:List Nat} : ad x p∈l.map (ad x)↔p∈l:=by
 rw[List.mem_map];constructor;·rintro ⟨q,a,b⟩;rw[<-CZ b];exact a
 ·exact fun h=>⟨p,h,rfl⟩
theorem Sd.one{x t fr B}(s:Sd x t fr B){g p k j:Nat}(hb:B g p k)(a:j<=x.o)(b:p∈fr j):g=0/\k=j:=by
 have hz : 0<2 ^ k:=ap (by decide);have d : 0<2 ^ j:=ap (by decide);rcases s.ds _ _ _ _ _ _ hb ((s.fi p j).2 ⟨a,b⟩)with ⟨c,_,f⟩|e|e
 ·exact⟨c,f⟩
 ·omega
 ·omega
def cI(fr:Nat->List Nat)(k:Nat)(l:List Nat):Nat->List Nat:=fun j=>if j=k then l else fr j
theorem CY{x t fr B}(s:Sd x t fr B){f':Nat->Nat}{l l2:List Nat}{k a:Nat}(hs:M.Same x.bS x.n t.f f' (l.map (ad x)))(hl:∀ j q,j≠k->j<=x.o->q∈fr j->q ∉ l)(hc:M.Chn x.bS x.n f' a (l2.map (ad x))):∀ j,j<=x.o->M.Chn x.bS x.n f' (lN t.hd k a j) ((cI fr k l2 j).map (ad x)):=by
 intro j b;unfold lN cI;by_cases e:j=k;·rw[ae e,ae e];exact hc
 ·rw[ac e,ac e];refine(s.ch j b).congr (fun y hy=>?_);obtain⟨q,hq,rfl⟩:=List.mem_map.1 hy;exact hs _ (s.cell ((s.fi q j).2 ⟨b,hq⟩)) (fun c=>hl j q e b hq (pU.1 c))
theorem KU{x t fr B}(s:Sd x t fr B){g p k q:Nat}(hb:B g p k)(hq:q<t.m.n)(v:q/2 ^ (k+1)=p/2 ^ (k+1))(l:List Nat)(hl:∀ r,r≠p->(r∈l↔r∈fr k))(C:p∈l↔p ∉ fr k)(b:Mp)(h:b.o=t.m.o)(u:b.n=t.m.n)(w:b.wd=t.m.wd):(fH b (k:Int) (q:Int)).o=t.m.o/\(fH b (k:Int) (q:Int)).n=t.m.n/\(fH b (k:Int) (q:Int)).pg=b.pg/\(∀ j,j<x.o->((fH b (k:Int) (q:Int)).wd j).length=(t.m.n/2 ^ (j+1)+63)/64)/\(∀ j,j<x.o->∀ i,i<t.m.n/2 ^ (j+1)->aE ((fH b (k:Int) (q:Int)).wd j) i=(decide (2*i*2 ^ j∈cI fr k l j) != decide ((2*i+1)*2 ^ j∈cI fr k l j))):=by
 obtain⟨J,E,I⟩:=s.al _ _ _ hb;by_cases A:k<x.o
 ·have z:q/2 ^ (k+1)<t.m.n/2 ^ (k+1):=IC s.dv A hq;rw[zj4 b k q (by rw[h,s.mo];exact A) (by rw[u];exact hq) (by rw[u];exact z),w];refine⟨h,u,rfl,fun j a=>?_,fun j a i hi=>?_⟩
  ·show(fV t.m.wd k _ j).length=_
   unfold fV;by_cases e:j=k;·subst e;rw[ae rfl,JY];exact s.wl j a
   ·rw[ac e];exact s.wl j a
  ·show aE (fV t.m.wd k _ j) i=_
   unfold fV cI;by_cases e:j=k
   ·subst e;rw[ae rfl,ae rfl,qU _ _ _ (by rw[s.wl j a];omega),v];obtain⟨G,F,D⟩:=sQ i j;by_cases c:i=p/2 ^ (j+1)
    ·rw[ae c];have y:=s.bt j a i hi;rw[<-c,y];have hz:=EH E;rw[<-c] at hz;rcases hz with hz|hz
     ·have d:(2*i*2 ^ j∈l↔2*i*2 ^ j ∉ fr j):=(by rw[<-hz];exact C);have f:=hl ((2*i+1)*2 ^ j) (by rw[hz];exact fun e=>D e.symm);by_cases c1 : 2*i*2 ^ j∈fr j <;> by_cases c2:(2*i+1)*2 ^ j∈fr j <;> simp[c1,c2,d,f]
     ·have d:((2*i+1)*2 ^ j∈l↔(2*i+1)*2 ^ j ∉ fr j):=(by rw[<-hz];exact C);have f:=hl (2*i*2 ^ j) (by rw[hz];exact D);by_cases c1 : 2*i*2 ^ j∈fr j <;> by_cases c2:(2*i+1)*2 ^ j∈fr j <;> simp[c1,c2,d,f]
    ·rw[ac c,s.bt j a i hi];have d:=hl (2*i*2 ^ j) (fun e=>c (by rw[<-e,G]));have f:=hl ((2*i+1)*2 ^ j) (fun e=>c (by rw[<-e,F]));simp[d,f]
   ·rw[ac e,ac e];exact s.bt j a i hi
 ·rw[GZ b k q (by rw[h,s.mo];exact A)];refine⟨h,u,rfl,fun j a=>by rw[w];exact s.wl j a,fun j a i hi=>?_⟩;rw[w];unfold cI;rw[ac (by omega)];exact s.bt j a i hi
theorem Sd.enter{x t fr B}(s:Sd x t fr B){p k:Nat}(hb:B 9 p k)(E:k<x.o->∀ i,i=p/2 ^ (k+1)->(p=2*i*2 ^ k->(2*i+1)*2 ^ k ∉ fr k)/\(p=(2*i+1)*2 ^ k->2*i*2 ^ k ∉ fr k)):iE x t p k=0/\Sd x (fB x t p k) (cI fr k (p :: fr k)) (eU B 9 p k 0):=by
 obtain⟨C,P,Q⟩:=s.al _ _ _ hb;have hz : 0<2 ^ k:=ap (by decide);have z:∀ j,j<=x.o->p ∉ fr j:=fun j d y=>by have:=(s.one hb d y).1;omega
 obtain⟨c1,c2,c3⟩:=(s.ch k C).push (ad x p) (s.cell hb) (fun e=>z k C (pU.1 e));have D:oL x t p k=0:=c1;have y:=wQ s hb 0 (.inl rfl);obtain⟨b1,b2,b3,K,F⟩:=KU s hb (q:=p) (by omega) rfl (p :: fr k) (fun r N=>by simp[N]) (by simp[z k C]) (cF t.m (p:Int) (k:Int) 0) (AX _ _ _ _) (by rw[y]) (by rw[y]);have pt:=s.km hb 0 (.inl rfl);have e:fB x t p k=⟨(M.pushR x.bS x.n t.f (t.hd k) (ad x p)).1,fH (cF t.m (p:Int) (k:Int) 0) (k:Int) (p:Int),lN t.hd k (M.pushR x.bS x.n t.f (t.hd k) (ad x p)).2.1⟩:=by unfold fB;rw[ae D];rfl
 refine⟨by unfold iE;rw[ae D],?_⟩;rw[e];refine⟨b1.trans s.mo,s.o8,by rw[b2];exact s.dv,by rw[b2];exact s.nb,by rw[b2];exact s.n1,s.b1,s.b2,?_,?_,fun a b c h=>by rw[b2];exact sC s hb a b c h,sD s hb,fun i hi=>sB s hb i (by rw[b2] at hi;exact hi),fun a b c h I i v u=>?_,CY s (l:=p :: fr k) c3 (fun j q d A hq y=>?_) c2,fun j d=>by rw[b2];exact K j d,fun j d i hi=>F j d i (by rw[b2] at hi;exact hi),?_,fun q r h=>⟨.inl ⟨(s.vs q r h).1,fun e=>by omega⟩,(s.vs q r h).2⟩⟩
 ·rintro a b c (⟨v,u⟩|⟨rfl,rfl,rfl⟩)
  ·exact s.tg _ _ _ v
  ·exact .inl rfl
 ·intro q j;unfold cI;constructor
  ·rintro (⟨v,u⟩|⟨_,rfl,rfl⟩)
   ·have:=(s.fi q j).1 v;refine⟨this.1,?_⟩;by_cases e:j=k
    ·rw[ae e];subst e;exact dq _ this.2
    ·rw[ac e];exact this.2
   ·exact⟨C,by rw[ae rfl];exact aw⟩
  ·rintro ⟨v,u⟩;by_cases e:j=k
   ·rw[ae e] at u;subst e;rcases eg.1 u with rfl|u
    ·exact .inr ⟨rfl,rfl,rfl⟩
    ·exact .inl ⟨(s.fi q j).2 ⟨v,u⟩,fun e=>by omega⟩
   ·rw[ac e] at u;exact .inl ⟨(s.fi q j).2 ⟨v,u⟩,fun e=>by omega⟩
 ·rw[b3];exact pt a b c h I i v u
 ·rcases eg.1 y with rfl|y
  ·exact z j A hq
  ·exact d ((s.one ((s.fi q j).2 ⟨A,hq⟩) C y).2)
 ·intro j d i;unfold cI;by_cases e:j=k
  ·subst e;rw[ae rfl];rintro ⟨w,g⟩;obtain⟨L,J,G⟩:=sQ i j;rcases eg.1 w with w|w
   ·have:=(E d i (by rw[<-w,L])).1 w.symm;rcases eg.1 g with g|g
    ·exact G (w.trans g.symm)
    ·exact this g
   ·rcases eg.1 g with g|g
    ·exact(E d i (by rw[<-g,J])).2 g.symm w
    ·exact s.nm j d i ⟨w,g⟩
  ·rw[ac e];exact s.nm j d i
def Kp(x:Bx)(t t':Bt)(G:Nat->Prop):Prop:=∀ c,M.IsCell x.bS x.n c->G ((c-x.bS)/4096)->M.nx x.bS t'.f c=M.nx x.bS t.f c/\M.pv x.bS t'.f c=M.pv x.bS t.f c
theorem Kp.refl(x:Bx)(t:Bt)(G:Nat->Prop):Kp x t t G:=fun _ _ _=>⟨rfl,rfl⟩
theorem Kp.mono{x t t'}{G a:Nat->Prop}(h:Kp x t t' G)(b:∀ g,a g->G g):Kp x t t' a:=fun c d e=>h c d (b _ e)
theorem Kp.trans{x t t1 t2}{G:Nat->Prop}(d:Kp x t t1 G)(e:Kp x t1 t2 G):Kp x t t2 G:=fun c a b=>⟨(e c a b).1.trans (d c a b).1,(e c a b).2.trans (d c a b).2⟩
theorem Kp.to{x t t' t''}{G:Nat->Prop}(h:Kp x t t' G)(hf:t''.f=t'.f):Kp x t t'' G:=by unfold Kp;rw[hf];exact h
theorem UD(x:Bx)(q:Nat):(ad x q-x.bS)/4096=q:=by unfold ad;omega
theorem Kp.of{x:Bx}{t a:Bt}{l:List Nat}(h:M.Same x.bS x.n t.f a.f (l.map (ad x))):Kp x t a (fun g=>g ∉ l):=fun c d b=>h c d (fun e=>by obtain⟨q,hq,rfl⟩:=List.mem_map.1 e;rw[UD] at b;exact b hq)
theorem Sd.jq{x t fr B}(s:Sd x t fr B){p k:Nat}(hb:B 9 p k):Kp x t (fB x t p k) (fun g=>g ∉ p :: fr k):=by
 obtain⟨b,h,i⟩:=s.al _ _ _ hb;have a:∀ j,j<=x.o->p ∉ fr j:=fun j c d=>by have:=(s.one hb c d).1;omega
 obtain⟨c1,c2,c3⟩:=(s.ch k b).push (ad x p) (s.cell hb) (fun e=>a k b (pU.1 e));have f:oL x t p k=0:=c1;refine Kp.of ?_;unfold fB;rw[ae f];exact c3
theorem ZP(x:Bx)(l:List Nat)(p:Nat):M.dropL (l.map (ad x)) (ad x p)=(M.dropL l p).map (ad x):=by
 unfold M.dropL;rw[List.filter_map];congr 1
 apply List.filter_congr
 intro q _;show decide (ad x q≠ad x p)=decide (q≠p)
 apply decide_eq_decide.2
 exact⟨fun h e=>h (by rw[e]),fun h e=>h (CZ e)⟩
theorem jT{l:List Nat}{p q:Nat} : q∈M.dropL l p↔q∈l/\q≠p:=by unfold M.dropL;rw[List.mem_filter];simp
theorem Sd.leave{x t fr B}(s:Sd x t fr B){p k q:Nat}(A:k<=x.o)(hp:p∈fr k)(hq:q<t.m.n)(v:q/2 ^ (k+1)=p/2 ^ (k+1)):iK x t p k=0/\Sd x (fS (cJ x t p k) (q:Int) (k:Int)) (cI fr k (M.dropL (fr k) p)) (eU B 0 p k 9):=by
 have hb:B 0 p k:=(s.fi p k).2 ⟨A,hp⟩;obtain⟨R,N,Q⟩:=s.al _ _ _ hb;obtain⟨L,w,J⟩:=M.mem_getD (pU (x:=x).2 hp);obtain⟨c1,c2,c3⟩:=(s.ch k A).remove L w;rw[J] at c1 c2 c3;rw[ZP] at c2;have G:iK x t p k=0:=c1;obtain⟨b1,b2,b3,K,D⟩:=KU s hb hq v (M.dropL (fr k) p) (fun r y=>by rw[jT];exact⟨fun h=>h.1,fun h=>⟨h,y⟩⟩) (by rw[jT];exact⟨fun h=>absurd rfl h.2,fun h=>absurd hp h⟩) t.m rfl rfl rfl;refine⟨G,?_⟩;have e:fS (cJ x t p k) (q:Int) (k:Int)=⟨(M.removeR x.bS x.n t.f (t.hd k) (ad x p)).1,fH t.m (k:Int) (q:Int),lN t.hd k (M.removeR x.bS x.n t.f (t.hd k) (ad x p)).2.1⟩:=rfl;rw[e];refine⟨b1.trans s.mo,s.o8,by rw[b2];exact s.dv,by rw[b2];exact s.nb,by rw[b2];exact s.n1,s.b1,s.b2,?_,?_,fun a b c h=>by rw[b2];exact sC s hb a b c h,sD s hb,fun i hi=>sB s hb i (by rw[b2] at hi;exact hi),fun a b c h C i g d=>?_,CY s (l:=fr k) c3 (fun j r u z y F=>u ((s.one ((s.fi r j).2 ⟨z,y⟩) A F).2)) c2,fun j u=>by rw[b2];exact K j u,fun j u i hi=>D j u i (by rw[b2] at hi;exact hi),?_,fun q r h=>⟨.inl ⟨(s.vs q r h).1,fun e=>by omega⟩,(s.vs q r h).2⟩⟩
 ·rintro a b c (⟨g,d⟩|⟨rfl,rfl,rfl⟩)
  ·exact s.tg _ _ _ g
  ·exact .inr (.inr rfl)
 ·intro r j;unfold cI;constructor
  ·rintro (⟨g,d⟩|⟨e,_⟩)
   ·have:=(s.fi r j).1 g;refine⟨this.1,?_⟩;by_cases e:j=k
    ·rw[ae e,jT];subst e;exact⟨this.2,fun e=>d ⟨rfl,e,rfl⟩⟩
    ·rw[ac e];exact this.2
   ·omega
  ·rintro ⟨g,d⟩;by_cases e:j=k
   ·rw[ae e,jT] at d;subst e;exact .inl ⟨(s.fi r j).2 ⟨g,d.1⟩,fun e=>d.2 e.2.1⟩
   ·rw[ac e] at d;exact .inl ⟨(s.fi r j).2 ⟨g,d⟩,fun E=>e E.2.2⟩
 ·rw[b3];rcases h with ⟨I,P⟩|⟨rfl,rfl,rfl⟩
  ·exact s.pg a b c I C i g d
  ·exact absurd rfl C
 ·intro j u i;unfold cI;by_cases e:j=k
  ·subst e;rw[ae rfl,jT,jT];exact fun h=>s.nm j u i ⟨h.1.1,h.2.1⟩
  ·rw[ac e];exact s.nm j u i
theorem Sd.iu{x t fr B}(s:Sd x t fr B){p k:Nat}(d:k<=x.o)(hp:p∈fr k):Kp x t (cJ x t p k) (fun g=>g ∉ fr k):=by obtain⟨c,a,b⟩:=M.mem_getD (pU (x:=x).2 hp);obtain⟨c1,c2,c3⟩:=(s.ch k d).remove c a;rw[b] at c3;exact Kp.of c3
theorem Sd.pop{x t fr B}(s:Sd x t fr B){p k:Nat}{l:List Nat}(a:k<=x.o)(hl:fr k=p :: l):t.hd k=ad x p/\kQ x t k=0/\iM x t k=cJ x t p k:=by
 have hp:p∈fr k:=by rw[hl];exact aw
 have hb:B 0 p k:=(s.fi p k).2 ⟨a,hp⟩;have b:t.hd k=ad x p:=by rw[(s.ch k a).head,hl];rfl
 obtain⟨r1,_⟩:=s.leave a hp (q:=p) (by have:=(s.al _ _ _ hb).2.2;have hz : 0<2 ^ k:=ap (by decide);omega) rfl;have r1:(M.removeR x.bS x.n t.f (t.hd k) (ad x p)).2.2=0:=r1;have h0:ad x p≠0:=(s.cell hb).ln;have e:M.popR x.bS x.n t.f (t.hd k)=((M.removeR x.bS x.n t.f (t.hd k) (ad x p)).1,(M.removeR x.bS x.n t.f (t.hd k) (ad x p)).2.1,ad x p,0):=by unfold M.popR;rw[b] at r1 ⊢;rw[ac h0,ae r1]
 refine⟨b,?_,?_⟩;·unfold kQ;rw[e]
 ·unfold iM cJ;rw[e]
theorem Sd.cut{x}(p a:Nat):∀ (d:Nat) {t fr B},Sd x t fr B->B 9 p (a+d)->∃ l b c,fE x p a d t=(l,a,0)/\Sd x l b c/\c 9 p a/\(∀ j,b j=if a<=j/\j<a+d then (p+2 ^ j) :: fr j else fr j)/\(∀ q j,c 2 q j↔B 2 q j)/\(∀ q j,c 9 q j↔(B 9 q j/\¬(q=p/\j=a+d))\/(q=p/\j=a))/\Kp x t l (fun g=>∀ j,j<=x.o->g ∉ b j)
 | 0,t,fr,B,s,hb=>⟨t,fr,B,rfl,s,hb,fun j=>by rw[ac (by omega)],fun _ _=>Iff.rfl,fun q j=>by
   constructor
   ·intro h;by_cases e:q=p/\j=a
    ·exact .inr e
    ·exact .inl ⟨h,e⟩
   ·rintro (h|⟨rfl,rfl⟩)
    ·exact h.1
    ·exact hb,Kp.refl _ _ _⟩
 | d+1,t,fr,B,s,hb=>by
  have s1:=s.split (k:=a+d) hb;obtain⟨F,I,T⟩:=s.al _ _ _ hb;have hz : 0<2 ^ (a+d):=ap (by decide);have E:oP B p (a+d) 9 (p+2 ^ (a+d)) (a+d):=.inr (.inr ⟨rfl,rfl,rfl⟩);have r:oP B p (a+d) 9 p (a+d):=.inr (.inl ⟨rfl,rfl,rfl⟩);have C:p ∉ fr (a+d):=fun e=>by have:=(s1.one r (show a+d<=x.o by have:a+d+1<=x.o:=F;omega) e).1;omega
  have z:p%2 ^ (a+d+1)=0:=I;obtain⟨K,s2⟩:=s1.enter E (fun U i hi=>by
   have hc:p=2*(p/2 ^ (a+d+1))*2 ^ (a+d):=by have:=dy p (2 ^ (a+d+1));rw[z,Nat.add_zero,co] at this;rw[aq 2,cy,aq 2,aq,co];exact this.symm
   have v:i=p/2 ^ (a+d+1):=by rw[hi];have n : 2 ^ (a+d+1)=2 ^ (a+d)+2 ^ (a+d):=(by rw[co];omega);have:=sQ (p/2 ^ (a+d+1)) (a+d);rw[<-hc] at this;have m:p+2 ^ (a+d)=(2*(p/2 ^ (a+d+1))+1)*2 ^ (a+d):=(by rw[av,aL,<-hc]);rw[m];exact this.2.1
   rw[v,av,aL,<-hc];exact⟨fun e=>by omega,fun _=>C⟩)
  have A:eU (oP B p (a+d)) 9 (p+2 ^ (a+d)) (a+d) 0 9 p (a+d):=.inl ⟨r,fun e=>by omega⟩;obtain⟨l,b,c,S,Q,J,D,G,L,N⟩:=Sd.cut p a d s2 A;refine⟨l,b,c,?_,Q,J,fun j=>?_,fun q j=>?_,fun q j=>?_,((s1.jq E).mono fun g hg=>?_).trans N⟩;·rw[fE,ae K];exact S
  ·rw[D];unfold cI;by_cases c1:a<=j/\j<a+d
   ·rw[ae c1,ac (show ¬j=a+d by omega),ae ⟨c1.1,by omega⟩]
   ·rw[ac c1];by_cases c2:j=a+d
    ·subst c2;rw[ae rfl,ae ⟨by omega,by omega⟩]
    ·rw[ac c2,ac (by omega)]
  ·rw[G];unfold eU oP;constructor
   ·rintro (⟨(h|h|h),_⟩|h)
    ·exact h.1
    ·omega
    ·omega
    ·omega
   ·exact fun h=>.inl ⟨.inl ⟨h,fun e=>by omega⟩,fun e=>by omega⟩
  ·rw[L];unfold eU oP;constructor
   ·rintro (⟨(⟨(⟨f,w⟩|⟨_,m,y⟩|⟨_,m,y⟩),P⟩|h),R⟩|h)
    ·exact .inl ⟨f,fun e=>w ⟨rfl,e.1,e.2⟩⟩
    ·exact absurd ⟨m,y⟩ R
    ·exact absurd ⟨rfl,m,y⟩ P
    ·omega
    ·exact .inr h
   ·rintro (⟨f,w⟩|h)
    ·by_cases e:q=p/\j=a+d
     ·obtain⟨rfl,rfl⟩:=e;have:=s.ds _ _ _ _ _ _ f hb;have n : 0<2 ^ (a+(d+1)):=ap (by decide);rcases this with ⟨_,_,e⟩|e|e
      ·omega
      ·omega
      ·omega
     ·refine .inl ⟨.inl ⟨.inl ⟨f,fun u=>w ⟨u.2.1,u.2.2⟩⟩,fun u=>?_⟩,e⟩;obtain⟨_,rfl,rfl⟩:=u;have:=s.ds _ _ _ _ _ _ f hb;have n : 2 ^ (a+(d+1))=2 ^ (a+d)+2 ^ (a+d):=(by rw[<-Nat.add_assoc,co];omega);rcases this with ⟨_,e,_⟩|e|e
      ·omega
      ·omega
      ·omega
    ·exact .inr h
  ·have:=hg (a+d) (by have:a+d+1<=x.o:=F;omega);rw[D,ac (by omega)] at this;unfold cI at this;rw[ae rfl] at this;exact this
theorem Sd.head{x t fr B}(s:Sd x t fr B)(k:Nat)(a:k<=x.o):t.hd k=0↔fr k=[]:=by rw[(s.ch k a).zero];exact List.map_eq_nil_iff
theorem Sd.lt{x t fr B}(s:Sd x t fr B){g p k:Nat}(hb:B g p k):p<t.m.n/\M.In x.bS x.n (ad x p) 1:=by have:=(s.al _ _ _ hb).2.2;have hz : 0<2 ^ k:=ap (by decide);have:=s.nb;refine⟨by omega,?_⟩;unfold M.In ad;omega
theorem Sd.take{x t fr B}(s:Sd x t fr B)(K:∀ q i,¬B 9 q i){k j p:Nat}{l:List Nat}(T:k<=j)(d:j<=x.o)(hl:fr j=p :: l):t.hd j=ad x p/\p<t.m.n/\M.In x.bS x.n (ad x p) 1/\p%2 ^ j=0/\kQ x t j=0/\gF x (fS (iM x t j) (p:Int) (j:Int)) p j k=0/\
  ∃ a f,Sd x (oK x t p j k) a f/\(∀ q i,¬f 9 q i)/\(∀ q i,f 2 q i↔B 2 q i\/(q=p/\i=k))/\(∀ i,a i=if k<=i/\i<j then (p+2 ^ i) :: fr i else if i=j then M.dropL (fr j) p else fr i)/\Kp x t (oK x t p j k) (fun g=>(∀ i,i<=x.o->g ∉ fr i)/\∀ i,i<=x.o->g ∉ a i):=by
 have hp:p∈fr j:=by rw[hl];exact aw
 have hb:B 0 p j:=(s.fi p j).2 ⟨d,hp⟩;obtain⟨l1,l2⟩:=s.lt hb;obtain⟨A,C,E⟩:=s.pop d hl;obtain⟨_,s1⟩:=s.leave d hp (q:=p) l1 rfl;have r:eU B 0 p j 9 9 p (k+(j-k)):=.inr ⟨rfl,rfl,by omega⟩;obtain⟨h,a,f,v,P,F,G,w,I,L⟩:=Sd.cut p k (j-k) s1 r;rw[<-E] at v;have S:gF x (fS (iM x t j) (p:Int) (j:Int)) p j k=0:=by unfold gF;rw[v]
 have y:oK x t p j k=cP h p k 2:=by unfold oK eC;rw[v]
 refine⟨A,l1,l2,(s.al _ _ _ hb).2.1,C,S,a,eU f 9 p k 2,by rw[y];exact P.live F,fun q i=>?_,fun q i=>?_,fun i=>?_,by
  rw[y];have N:Kp x t (fS (cJ x t p j) (p:Int) (j:Int)) (fun g=>(∀ i,i<=x.o->g ∉ fr i)/\∀ i,i<=x.o->g ∉ a i):=((s.iu d hp).to (t'':=fS (cJ x t p j) (p:Int) (j:Int)) rfl).mono fun g hg=>hg.1 j d
  have R:Kp x (fS (cJ x t p j) (p:Int) (j:Int)) (cP h p k 2) (fun g=>(∀ i,i<=x.o->g ∉ fr i)/\∀ i,i<=x.o->g ∉ a i):=(L.to (t'':=cP h p k 2) rfl).mono fun g hg=>hg.2
  exact N.trans R⟩
 ·rintro (⟨b,z⟩|⟨e,_⟩)
  ·rcases (I q i).1 b with ⟨c,J⟩|c
   ·rcases c with ⟨u,_⟩|⟨_,D,Q⟩
    ·exact K q i u
    ·exact J ⟨D,by omega⟩
   ·exact z ⟨rfl,c.1,c.2⟩
  ·omega
 ·constructor
  ·rintro (⟨b,z⟩|⟨_,c⟩)
   ·rcases (w q i).1 b with ⟨u,_⟩|⟨e,_⟩
    ·exact .inl u
    ·omega
   ·exact .inr c
  ·rintro (b|b)
   ·exact .inl ⟨(w q i).2 (.inl ⟨b,fun e=>by omega⟩),fun e=>by omega⟩
   ·exact .inr ⟨rfl,b⟩
 ·rw[G];unfold cI;by_cases c1:k<=i/\i<j
  ·rw[ae (show k<=i/\i<k+(j-k)by omega),ae c1,ac (show ¬i=j by omega)]
  ·rw[ac (show ¬(k<=i/\i<k+(j-k))by omega),ac c1]
def dO(o:Nat):Nat->(Nat->List Nat)->Nat->Nat->(Nat->List Nat)×Nat×Nat
 | 0,fr,p,k=>(fr,p,k)
 | d+1,fr,p,k=>if k<o/\aW p k∈fr k then dO o d (cI fr k (M.dropL (fr k) (aW p k))) (dS p k) (k+1) else (fr,p,k)
theorem Sd.alone{x t fr B}(s:Sd x t fr B){p k:Nat}(hb:B 9 p k):lI x t (p:Int) (k:Int)=decide (k<x.o/\aW p k∈fr k):=by
 obtain⟨u,l,C⟩:=s.al _ _ _ hb;obtain⟨l1,_⟩:=s.lt hb;have y:=s.n1;have g:p ∉ fr k:=fun e=>by have:=(s.one hb u e).1;omega
 unfold lI;by_cases d:k<x.o
 ·have h:=IC s.dv d l1;have q:dT t.m (k:Int) (p:Int)=true:=by unfold dT;rw[dN (show k<t.m.o by rw[s.mo];exact d),dN l1];rfl
  have r:iT t.m (k:Int) (p:Int)=aE (t.m.wd k) (p/2 ^ (k+1)):=by unfold iT;rw[q,bf];simp only[nY,nX,aa];unfold cS;rw[dN h,bf,aa]
  rw[r,s.bt k d _ h,show decide ((k:Int)<x.o)=true from af (by omega),bf];have hz : 0<2 ^ k:=ap (by decide);have a:=EH l;obtain⟨D,z,w⟩:=sQ (p/2 ^ (k+1)) k;rcases tY (by omega) (by have:=s.o8;omega) l with ⟨j,i,v⟩|⟨F,j,i,v⟩
  ·have f:p=2*(p/2 ^ (k+1))*2 ^ k:=by
    have:=dy p (2 ^ (k+1));rw[j,Nat.add_zero,co] at this;rw[aq 2,cy,aq 2,aq,co];exact this.symm
   have b:aW p k=(2*(p/2 ^ (k+1))+1)*2 ^ k:=(by rw[i,av,aL,<-f]);rw[<-b,<-f];by_cases c:aW p k∈fr k <;> simp[g,c,d]
  ·rcases a with a|a
   ·exfalso
    have:p%2 ^ (k+1)=0:=by rw[a,co,aq 2,cy,aq 2];exact Nat.mul_mod_left _ _
    have E : 2 ^ (k+1)=2 ^ k+2 ^ k:=(by rw[co];omega);have n:=Nat.dvd_sub (da this) (da j);rw[show p-(p-2 ^ k)=2 ^ k by omega] at n;have:=Nat.le_of_dvd hz n;omega
   ·have b:aW p k=2*(p/2 ^ (k+1))*2 ^ k:=by
     rw[i];have A:p=2*(p/2 ^ (k+1))*2 ^ k+2 ^ k:=(by rw[av,aL] at a;exact a);omega
    rw[<-b,<-a];by_cases c:aW p k∈fr k <;> simp[g,c,d]
 ·rw[show decide ((k:Int)<x.o)=false from ah (by omega),eb];exact(ah (fun e=>d e.1)).symm
theorem ZK{x t fr B}(s:Sd x t fr B){p k:Nat}(hb:B 9 p k)(h:k<x.o->aW p k ∉ fr k):k<x.o->∀ i,i=p/2 ^ (k+1)->(p=2*i*2 ^ k->(2*i+1)*2 ^ k ∉ fr k)/\(p=(2*i+1)*2 ^ k->2*i*2 ^ k ∉ fr k):=by
 intro n i hi;obtain⟨v,l,r⟩:=s.al _ _ _ hb;have q:=s.n1;have hz : 0<2 ^ k:=ap (by decide);have c:=h n;have d : 2 ^ (k+1)=2*2 ^ k:=by rw[co,aq]
 constructor
 ·intro e;have g:p%2 ^ (k+1)=0:=by
   rw[e,d,aq 2 i,cy];exact Nat.mul_mod_left _ _
  rcases tY (by omega) (by have:=s.o8;omega) l with ⟨b,a,j⟩|⟨m,b,a,j⟩
  ·rw[show(2*i+1)*2 ^ k=aW p k by rw[a,av,aL,<-e]];exact c
  ·exfalso
   have f:=Nat.dvd_sub (da g) (da b);rw[show p-(p-2 ^ k)=2 ^ k by omega] at f;have:=Nat.le_of_dvd hz f;omega
 ·intro e;have u:p=2*i*2 ^ k+2 ^ k:=by rw[av,aL] at e;exact e
  rcases tY (by omega) (by have:=s.o8;omega) l with ⟨b,a,j⟩|⟨m,b,a,j⟩
  ·exfalso
   have g : 2 ^ (k+1) ∣ 2*i*2 ^ k:=⟨i,by rw[d,aq 2 i,cy,aq]⟩;have f:=Nat.dvd_sub (da b) g;rw[show p-2*i*2 ^ k=2 ^ k by omega] at f;have:=Nat.le_of_dvd hz f;omega
  ·rw[show 2*i*2 ^ k=aW p k by rw[a];omega];exact c
theorem Sd.join{x} : ∀ (d:Nat) {t fr B} {p k:Nat},Sd x t fr B->B 9 p k->(∀ q i,B 9 q i->q=p/\i=k)->d+k=x.o->
  ∃ v r,gL x d t p k=(v,(dO x.o d fr p k).2.1,(dO x.o d fr p k).2.2)/\Sd x v (dO x.o d fr p k).1 r/\r 9 (dO x.o d fr p k).2.1 (dO x.o d fr p k).2.2/\(∀ q i,r 9 q i->q=(dO x.o d fr p k).2.1/\i=(dO x.o d fr p k).2.2)/\(∀ q i,r 2 q i↔B 2 q i)/\((dO x.o d fr p k).2.2<x.o->aW (dO x.o d fr p k).2.1 (dO x.o d fr p k).2.2 ∉ (dO x.o d fr p k).1 (dO x.o d fr p k).2.2)/\Kp x t v (fun g=>∀ j,j<=x.o->g ∉ fr j)
 | 0,t,fr,B,p,k,s,hb,I,hd=>⟨t,B,rfl,s,hb,I,fun _ _=>Iff.rfl,fun h=>by have h:k<x.o:=h;omega,Kp.refl _ _ _⟩
 | d+1,t,fr,B,p,k,s,hb,I,hd=>by
  obtain⟨A,R,a3⟩:=s.al _ _ _ hb;have w:=s.alone hb;by_cases hc:k<x.o/\aW p k∈fr k
  ·have hn:=s.n1;have hz : 0<2 ^ k:=ap (by decide);have a5:B 0 (aW p k) k:=(s.fi _ _).2 ⟨A,hc.2⟩;obtain⟨l1,_⟩:=s.lt hb;have a0 : 2 ^ (k+1)=2 ^ k+2 ^ k:=(by rw[co];omega);have y:=tY (p:=p) (by omega) (by have:=s.o8;omega) R;have m:p/2 ^ (k+1)=aW p k/2 ^ (k+1):=by
    have a4 : 0<2 ^ (k+1):=ap (by decide);rcases y with ⟨c,a,D⟩|⟨e0,c,a,D⟩
    ·rw[a];have b:=dy p (2 ^ (k+1));rw[c,Nat.add_zero] at b;symm;apply Nat.div_eq_of_lt_le
     ·rw[aq];omega
     ·rw[av,aL,aq];omega
    ·rw[a];have b:=dy (p-2 ^ k) (2 ^ (k+1));rw[c,Nat.add_zero] at b;apply Nat.div_eq_of_lt_le
     ·rw[aq];omega
     ·rw[av,aL,aq];omega
   obtain⟨r1,s1⟩:=s.leave A hc.2 l1 m;have X:eU B 0 (aW p k) k 9 9 p k:=.inl ⟨hb,fun e=>by omega⟩;have V:eU B 0 (aW p k) k 9 9 (aW p k) k:=.inr ⟨rfl,rfl,rfl⟩;have J:∀ q i,eU B 0 (aW p k) k 9 9 q i->(q=p/\i=k)\/(q=aW p k/\i=k):=by
    rintro q i (⟨b,n⟩|⟨_,G⟩);·exact .inl (I q i b)
    ·exact .inr G
   have F:∀ q i,eU B 0 (aW p k) k 9 2 q i↔B 2 q i:=by
    intro q i;constructor
    ·rintro (⟨b,n⟩|⟨e,_⟩)
     ·exact b
     ·omega
    ·exact fun b=>.inl ⟨b,fun e=>by omega⟩
   have hu:∃ f,Sd x (fS (cJ x t (aW p k) k) (p:Int) (k:Int)) (cI fr k (M.dropL (fr k) (aW p k))) f/\f 9 (dS p k) (k+1)/\(∀ q i,f 9 q i->q=dS p k/\i=k+1)/\(∀ q i,f 2 q i↔B 2 q i):=by
    have u:∀ lo,lo%2 ^ (k+1)=0->(lo=p/\aW p k=lo+2 ^ k\/lo=aW p k/\p=lo+2 ^ k)->dS p k=lo->∃ f,Sd x (fS (cJ x t (aW p k) k) (p:Int) (k:Int)) (cI fr k (M.dropL (fr k) (aW p k))) f/\f 9 (dS p k) (k+1)/\(∀ q i,f 9 q i->q=dS p k/\i=k+1)/\(∀ q i,f 2 q i↔B 2 q i):=by
     intro lo L l C;have Q:eU B 0 (aW p k) k 9 9 lo k:=by rcases l with ⟨c,a⟩|⟨c,a⟩ <;> rw[c] <;> assumption
     have S:eU B 0 (aW p k) k 9 9 (lo+2 ^ k) k:=by rcases l with ⟨c,a⟩|⟨c,a⟩ <;> rw[<-a] <;> assumption
     refine⟨_,s1.mf Q S L hc.1,by rw[C];exact .inr ⟨rfl,rfl,rfl⟩,?_,fun q i=>?_⟩
     ·rw[C];rintro q i (⟨b,n,G⟩|⟨_,T⟩)
      ·exfalso
       rcases J q i b with ⟨c,a⟩|⟨c,a⟩
       ·rcases l with ⟨E,z⟩|⟨E,z⟩
        ·exact n ⟨rfl,by omega,a⟩
        ·exact G ⟨rfl,by omega,a⟩
       ·rcases l with ⟨E,z⟩|⟨E,z⟩
        ·exact G ⟨rfl,by omega,a⟩
        ·exact n ⟨rfl,by omega,a⟩
      ·exact T
     ·constructor
      ·rintro (⟨b,_,_⟩|⟨e,_⟩)
       ·exact(F q i).1 b
       ·omega
      ·exact fun b=>.inl ⟨(F q i).2 b,fun e=>by omega,fun e=>by omega⟩
    rcases y with ⟨c,a,D⟩|⟨e0,c,a,D⟩
    ·exact u p c (.inl ⟨rfl,a⟩) D
    ·exact u (p-2 ^ k) c (.inr ⟨a.symm,by omega⟩) D
   obtain⟨f,u1,u2,u3,u4⟩:=hu;obtain⟨v,r,E,z,U,Y,N,Z,f7⟩:=Sd.join d u1 u2 u3 (by omega);have K:dO x.o (d+1) fr p k=dO x.o d (cI fr k (M.dropL (fr k) (aW p k))) (dS p k) (k+1):=(by rw[dO,ae hc]);rw[K];refine⟨v,r,?_,z,U,Y,fun q i=>(N q i).trans (u4 q i),Z,(((s.iu A hc.2).to (t'':=fS (cJ x t (aW p k) k) (p:Int) (k:Int)) rfl).mono fun g hg=>hg k A).trans (f7.mono fun g hg j P=>?_)⟩;rotate_left
   ·unfold cI;by_cases e:j=k
    ·rw[ae e,jT];exact fun h=>hg k A h.1
    ·rw[ac e];exact hg j P
   rw[gL,w,ae (af hc),ae r1];exact E
  ·have K:dO x.o (d+1) fr p k=(fr,p,k):=(by rw[dO,ac hc]);rw[K];refine⟨t,B,?_,s,hb,I,fun _ _=>Iff.rfl,fun b n=>hc ⟨b,n⟩,Kp.refl _ _ _⟩;rw[gL,w,ac (by rw[ah hc];decide)]
theorem Sd.kf{x t fr B}(s:Sd x t fr B)(E:∀ q i,¬B 9 q i){p k:Nat}(hb:B 2 p k)(z:x.P p=none):∃ c d b,gL x (x.o-k) t p k=(c,d,b)/\iE x c d b=0/\∃ h,Sd x (fB x c d b) (cI (dO x.o (x.o-k) fr p k).1 b (d :: (dO x.o (x.o-k) fr p k).1 b)) h/\(∀ q i,¬h 9 q i)/\(∀ q i,h 2 q i↔B 2 q i/\¬(q=p/\i=k))/\d=(dO x.o (x.o-k) fr p k).2.1/\b=(dO x.o (x.o-k) fr p k).2.2/\Kp x t (fB x c d b) (fun g=>(∀ j,j<=x.o->g ∉ fr j)/\∀ j,¬h 0 g j):=by
 have I:=(s.al _ _ _ hb).1;have s1:=s.die hb z;have r:eU B 2 p k 9 9 p k:=.inr ⟨rfl,rfl,rfl⟩;obtain⟨c,h,G,m,l,C,u,D,F⟩:=Sd.join (x.o-k) s1 r (by
  rintro q i (⟨a,f⟩|⟨_,n⟩);·exact absurd a (E q i)
  ·exact n) (by omega)
 obtain⟨y,v⟩:=m.enter l (ZK m l D);refine⟨c,_,_,G,y,_,v,fun q i=>?_,fun q i=>?_,rfl,rfl,(F.mono fun g hg=>hg.1).trans ((m.jq l).mono fun g hg w=>?_)⟩;rotate_left
 rotate_left
 ·have:=(v.fi g (dO x.o (x.o-k) fr p k).2.2).2 ⟨(m.al _ _ _ l).1,by unfold cI;rw[ae rfl];exact w⟩;exact hg.2 _ this
 ·rintro (⟨a,f⟩|⟨e,_⟩)
  ·have:=C q i a;exact f ⟨rfl,this.1,this.2⟩
  ·omega
 ·constructor
  ·rintro (⟨a,f⟩|⟨e,_⟩)
   ·rcases (u q i).1 a with ⟨n,A⟩|⟨e,_⟩
    ·exact⟨n,fun e=>A ⟨rfl,e.1,e.2⟩⟩
    ·omega
   ·omega
  ·rintro ⟨a,f⟩;exact .inl ⟨(u q i).2 (.inl ⟨a,fun e=>f ⟨e.2.1,e.2.2⟩⟩),fun e=>by omega⟩
theorem Sd.shrink{x t fr B}(s:Sd x t fr B)(D:∀ q i,¬B 9 q i){p k o:Nat}(hb:B 2 p k)(w:x.P p=none)(I:o<=k):gF x t p k o=0/\∃ a f,Sd x (eC x t p k o) a f/\(∀ q i,¬f 9 q i)/\(∀ q i,f 2 q i↔(B 2 q i/\¬(q=p/\i=k))\/(q=p/\i=o))/\(∀ i,a i=if o<=i/\i<k then (p+2 ^ i) :: fr i else fr i)/\Kp x t (eC x t p k o) (fun g=>∀ j,j<=x.o->g ∉ a j):=by
 have s1:=s.die hb w;have m:eU B 2 p k 9 9 p (o+(k-o)):=.inr ⟨rfl,rfl,by omega⟩;obtain⟨v,a,f,r,F,y,z,u,A,E⟩:=Sd.cut p o (k-o) s1 m;refine⟨by unfold gF;rw[r],a,eU f 9 p o 2,by rw[show eC x t p k o=cP v p o 2 by unfold eC;rw[r]];exact F.live y,fun q i=>?_,fun q i=>?_,fun i=>?_,E.to (by rw[show eC x t p k o=cP v p o 2 by unfold eC;rw[r]];rfl)⟩
 ·rintro (⟨b,h⟩|⟨e,_⟩)
  ·rcases (A q i).1 b with ⟨d,C⟩|d
   ·rcases d with ⟨n,_⟩|⟨_,l,G⟩
    ·exact D q i n
    ·exact C ⟨l,by omega⟩
   ·exact h ⟨rfl,d.1,d.2⟩
  ·omega
 ·constructor
  ·rintro (⟨b,h⟩|⟨_,d⟩)
   ·rcases (u q i).1 b with ⟨n,l⟩|⟨e,_⟩
    ·exact .inl ⟨n,fun e=>l ⟨rfl,e.1,e.2⟩⟩
    ·omega
   ·exact .inr d
  ·rintro (⟨b,h⟩|b)
   ·exact .inl ⟨(u q i).2 (.inl ⟨b,fun e=>h ⟨e.2.1,e.2.2⟩⟩),fun e=>by omega⟩
   ·exact .inr ⟨rfl,b⟩
 ·rw[z];by_cases c:o<=i/\i<k
  ·rw[ae (show o<=i/\i<o+(k-o)by omega),ae c]
  ·rw[ac (show ¬(o<=i/\i<o+(k-o))by omega),ac c]
namespace W
theorem kO{P:Wd->Prop}(w:Wd)(h:∀ W,W=w->P W):P w:=h w rfl
theorem uW(I:Img)(V:ImV)(g:Nat)(o:Int)(hg:g<I.np)(w:Wd)(j:ImD w I V):Calls prog 133 #[imA I V,.int .i64 g,.int .i64 o] w fun e t=>e=.returned (.bool (isF (I.pg g) o))/\Kt nO w t:=by
 obtain⟨⟨B,D,m⟩,⟨C,E,hp⟩,⟨F,x,q⟩,⟨ha,hc,r⟩,⟨G,s,n⟩,-⟩:=j.sl;obtain⟨K,vp,L,U,N⟩:=V;dsimp only at m hp q r n;subst m hp q r n;have f:=aA (show ImAt (w.alloc (imO I _)) w.heap.size I _ from⟨nH _ _,j.dk ((Kt.refl _ w).alloc _)⟩);have i:=aA (show Kt nO w (w.alloc (imO I _))from(Kt.refl _ w).alloc (imO I ⟨.slice B I.nm D,.slice C I.np E,.slice F I.no x,.slice ha I.hd.length hc,.slice G I.pt.length s⟩));obtain⟨c0,c1,c2,c3,c4,c5,R,c7,Y⟩:=f.o.cells;obtain⟨Q,oo,S,u,-,h⟩:=f.o.ew g hg
 cases u
 obtain⟨d0,J,d2,Z,P,d5,d6,X,T,d9,A⟩:=h.c;have y:(g:Int)<I.np:=by omega
 obtain⟨l,b⟩:=xe (isF (I.pg g) o);rw[<-b];have k:=aA b;generalize I.pg g=p at *;clear j h hg b;by_cases a:p.kd=0
 ·have z:(p.kd == 0)=true:=by rw[cu];exact a
  by_cases d:p.od=o;·have v:(p.od == o)=true:=(by rw[cu];exact d);have e:l=true:=(by rw[k.o];unfold isF;rw[af a,af d];rfl);subst e;clear a d;go_enter func133,ntmps133;go_wp2_with fail;go_ret;exact⟨rfl,i.o⟩
  ·have v:(p.od == o)=false:=(by rw[ag];exact d);have e:l=false:=(by rw[k.o];unfold isF;rw[ah d];simp);subst e;clear a d;go_enter func133,ntmps133;go_wp2_with fail;go_ret;exact⟨rfl,i.o⟩
 ·have z:(p.kd == 0)=false:=by rw[ag];exact a
  have e:l=false:=by rw[k.o];unfold isF;rw[ah a];rfl
  subst e;clear a;go_enter func133,ntmps133;go_wp2_with fail;go_ret;exact⟨rfl,i.o⟩
theorem ZH(I:Img)(V:ImV)(D:I.np<=1024)(w:Wd)(Z:ImD w I V):Calls prog 79 #[imA I V] w fun e w'=>e=.returned (.int .i64 (fA (fst1 I.np fun i=>rngB I.ord I.np (I.pg i))))/\Kt nO w w':=by
 obtain⟨⟨ma,mc,hm⟩,⟨pa,pc,hp⟩,⟨ra,rc,hr⟩,⟨ha,hc,hh⟩,⟨ta,tc,ht⟩,-⟩:=Z.sl;obtain⟨vm,vp,vr,vh,vt⟩:=V;dsimp only at hm hp hr hh ht;subst hm hp hr hh ht;have s:=aA (show ImAt (w.alloc (imO I _)) w.heap.size I _ from⟨nH _ _,Z.dk ((Kt.refl _ w).alloc _)⟩);have m:=aA (show Kt nO w (w.alloc (imO I _))from(Kt.refl _ w).alloc (imO I ⟨.slice ma I.nm mc,.slice pa I.np pc,.slice ra I.no rc,.slice ha I.hd.length hc,.slice ta I.pt.length tc⟩));obtain⟨c0,c1,c2,c3,c4,c5,R,c7,Q⟩:=s.o.cells;obtain⟨ok,B⟩:=xe (fun i=>rngB I.ord I.np (I.pg i));rw[<-B];have a2:=aA (show ∀ i,ok i=rngB I.ord I.np (I.pg i)from fun i=>by rw[B]);have t:=aA (fun x a b W=>NK x a b W);obtain⟨n,L⟩:=xe (I.np);have NP:=aA L;obtain⟨rr,l⟩:=xe (fA (fst1 I.np ok));rw[<-l];have a5:=aA (show ∀ a,a<n->(∀ j,j<a->ok j=true)->ok a=false->rr=(a:Int)from fun a h1 h2 h3=>by rw[l,fY (by omega) h2 h3];rfl);have K:=aA (show(∀ j,j<n->ok j=true)->rr = -1 from fun h=>by rw[l,fst1_ok (by rw[<-L];exact h)];rfl);obtain⟨z,hz⟩:∃ z:Int,z=(I.np:Int)-1:=⟨_,rfl⟩;have b0:wrap64 ((n:Int)-1)=z:=by rw[wrap64];omega
 have ZE:=aA hz;rw[<-L] at c5 D s m;rw[<-L];have a4:=aA D;clear Z B L l hz D;go_enter func79,ntmps79;go_wp2_with fail;clear c0 c1 c2 c3 c4 c5 R c7 Q;generalize w.heap.size=ib at *;generalize w.alloc (imO I ⟨.slice ma I.nm mc,.slice pa n pc,.slice ra I.no rc,.slice ha I.hd.length hc,.slice ta I.pt.length tc⟩)=W0 at *;go_loopw [4] (fun iv W=>∃ a:Nat,a<=n/\iv=.int .i64 a/\Hd (Kt nO W0 W/\∀ j,j<a->ok j=true)) (fun iv _=>n-(intOf iv).toNat)
 case atStart=>exact⟨0,az _,rfl,aA ⟨Kt.refl _ _,fun j hj=>by omega⟩⟩
 case round=>
  obtain⟨a,a1,rfl,r⟩:=hrel;have k:=aA (s.o.dk r.o.1);by_cases o:a<n
  ·have a9:(a:Int)<n:=(by omega);obtain⟨c0,c1,c2,c3,c4,c5,R,c7,Q⟩:=k.o.cells;dsimp only at c5;obtain⟨bl,oo,oc,hv,-,J⟩:=k.o.ew a (by rw[<-NP.o];exact o);injection hv with e1 e2 e3
   subst e1;clear e2 e3;obtain⟨d0,d1,d2,d3,d4,d5,d6,d7,d8,d9,a7⟩:=J.c;have T:=aA (a2.o a);have d:=aA (a5.o a o r.o.2);have E:=aA o;generalize I.pg a=p at *;clear J o a1;go_upto_region 6 with fail;refine kO (P:=fun W=>Code.wp prog _ _ _ W) _ ?_;intro W1 S;have k1:Kt nO wr W1:=(by subst S;exact(Kt.refl _ wr).alloc _);have X1:W1.heap[wr.heap.size]?=some (aV p):=(by subst S;exact nH _ _);have o1:W1.cell? ⟨ib,2,none⟩=some (.int .i64 I.ord):=(k.o.dk k1).cells.2.2.1;have q:=aA (nT r.o.1 k1);obtain⟨e0,e1,e2,e3,e4,e5,e6⟩:=IK X1;have N:=aA r.o.2;clear S k1 X1 r c0 c1 c2 c3 c4 c5 R c7 Q d0 d1 d2 d3 d4 d5 d6 d7 d8 d9 a7 k;generalize wr.heap.size=pb at *;obtain⟨b1,A⟩:∃ b,b=wiB p.kd 0 4:=⟨_,rfl⟩;obtain⟨b2,y⟩:∃ b,b=wiB p.od 0 I.ord:=⟨_,rfl⟩;obtain⟨b3,v⟩:∃ b,b=wiB p.cl 0 7:=⟨_,rfl⟩;obtain⟨b4,F⟩:∃ b,b=wiB p.lv 0 256:=⟨_,rfl⟩;obtain⟨b5,G⟩:∃ b,b=wiB p.nx (-1) z:=⟨_,rfl⟩;obtain⟨b6,u⟩:∃ b,b=wiB p.pv (-1) z:=⟨_,rfl⟩;obtain⟨b7,C⟩:∃ b,b=wiB p.fs (-1) 255:=⟨_,rfl⟩;have f:=aA (show ok a=(b1 && (b2 && (b3 && (b4 && (b5 && (b6 && b7))))))by rw[T.o,A,y,v,F,G,u,C,ZE.o];rfl);have U:=aA A;have a0:=aA y;have a6:=aA v;have a3:=aA F;have Y:=aA G;have X:=aA u;have a8:=aA C;clear A y v F G u C;go_wp2_with fail;refine(t.o _ _ _ _).mono ?_;rintro e w1 ⟨rfl,rfl⟩;rw[<-U.o]
   cases b1 with
   | false=>have g:=d.o (by rw[f.o];simp);subst g;go_wp2_with fail;go_ret;exact⟨rfl,nT m.o q.o⟩
   | true=>
    go_wp2_with fail;refine(t.o _ _ _ _).mono ?_;rintro e w2 ⟨rfl,rfl⟩;rw[<-a0.o]
    cases b2 with
    | false=>have g:=d.o (by rw[f.o];simp);subst g;go_wp2_with fail;go_ret;exact⟨rfl,nT m.o q.o⟩
    | true=>
     go_wp2_with fail;refine(t.o _ _ _ _).mono ?_;rintro e w3 ⟨rfl,rfl⟩;rw[<-a6.o]
     cases b3 with
     | false=>have g:=d.o (by rw[f.o];simp);subst g;go_wp2_with fail;go_ret;exact⟨rfl,nT m.o q.o⟩
     | true=>
      go_wp2_with fail;refine(t.o _ _ _ _).mono ?_;rintro e w4 ⟨rfl,rfl⟩;rw[<-a3.o]
      cases b4 with
      | false=>have g:=d.o (by rw[f.o];simp);subst g;go_wp2_with fail;go_ret;exact⟨rfl,nT m.o q.o⟩
      | true=>
       go_wp2_with fail;refine(t.o _ _ _ _).mono ?_;rintro e w5 ⟨rfl,rfl⟩;rw[<-Y.o]
       cases b5 with
       | false=>have g:=d.o (by rw[f.o];simp);subst g;go_wp2_with fail;go_ret;exact⟨rfl,nT m.o q.o⟩
       | true=>
        go_wp2_with fail;refine(t.o _ _ _ _).mono ?_;rintro e w6 ⟨rfl,rfl⟩;rw[<-X.o]
        cases b6 with
        | false=>have g:=d.o (by rw[f.o];simp);subst g;go_wp2_with fail;go_ret;exact⟨rfl,nT m.o q.o⟩
        | true=>
         go_wp2_with fail;refine(t.o _ _ _ _).mono ?_;rintro e w7 ⟨rfl,rfl⟩;rw[<-a8.o]
         cases b7 with
         | false=>have g:=d.o (by rw[f.o];simp);subst g;go_wp2_with fail;go_ret;exact⟨rfl,nT m.o q.o⟩
         | true=>
          have eo:ok a=true:=(by rw[f.o];rfl);go_wp2_with fail;have hw:wrap64 ((a:Int)+1)=((a+1:Nat):Int):=(by have:=a4.o;have:=E.o;rw[wrap64];omega);rw[hw];exact⟨⟨a+1,by have:=E.o;omega,rfl,aA ⟨q.o,fun j hj=>by
           by_cases e:j=a;·rw[e];exact eo
           ·exact N.o j (by omega)⟩⟩,by have:=E.o;simp only[intOf,aa];omega⟩
  ·have a9:¬(a:Int)<n:=(by omega);obtain⟨c0,c1,c2,c3,c4,c5,R,c7,Q⟩:=k.o.cells;dsimp only at c5;have g:=K.o (fun j hj=>r.o.2 j (by omega));subst g;go_wp2_with fail;go_ret;exact⟨rfl,nT m.o r.o.1⟩
end W
def gA(f:Nat->Nat)(k x:Nat):Nat->Nat:=fun j=>if j=k then x else f j
theorem MpA.ky{w w' b B m q k}{ws:List Nat}(h:MpA w b B m)(I:k<m.o)(hq:B.P=some q)(kp:Kt nO w w')(hS:SetAt w' (w.heap.size+1) w.heap.size (m.n/2 ^ (k+1)) ws):MpA (w'.setCell ⟨q,k,none⟩ (.pointer (some ⟨w.heap.size+1,0,none⟩))) b ⟨B.g,B.P,gA B.S k (w.heap.size+1),gA B.C k w.heap.size⟩ { m with wd:=fV m.wd k ws }:=by
 have t:=h.dk kp;obtain⟨A,hb,hp⟩:=t.hb;rw[hq] at hp;obtain⟨cs,a,hs,E,hc⟩:=hp;have u:Kt (fun x=>x=q) w' (w'.setCell ⟨q,k,none⟩ (.pointer (some ⟨w.heap.size+1,0,none⟩))):=(Kt.refl (fun x=>x=q) w').setCell (p:=⟨q,k,none⟩) rfl _;have l:∀ j,j<m.o->B.S j<w.heap.size:=fun j c=>lH (h.set j c).hb
 have r:∀ j,j<m.o->B.C j<w.heap.size:=fun j c=>lH (h.set j c).hc
 have F:mZ (w'.setCell ⟨q,k,none⟩ (.pointer (some ⟨w.heap.size+1,0,none⟩))) B.P m.o A (gA B.S k (w.heap.size+1)):=by
  rw[hq];refine⟨_,cD a k _,by simpa using hs,E,fun j c=>?_⟩;rw[Array.getElem?_setIfInBounds];unfold gA;by_cases e:j=k;·subst e;rw[ae rfl,ae (by omega),ae rfl]
  ·rw[ac (by omega),ac e];exact hc j c
 refine⟨h.o8,h.n1,h.dv,⟨A,(u.block b (lH hb) (bX hb a (by decide))).trans hb,F⟩,Rows.kept t.row u (fun x e=>?_),fun j c=>?_,fun i j hi c e=>?_,fun i j hi c e=>?_,h.ok⟩;·have D:=t.row;rw[e] at D;obtain⟨G,z,_⟩:=D;exact bX z a (by decide)
 ·show SetAt _ (gA B.S k (w.heap.size+1) j) (gA B.C k w.heap.size j) (m.n/2 ^ (j+1)) (fV m.wd k ws j)
  unfold gA fV;by_cases e:j=k;·subst e;rw[ae rfl,ae rfl,ae rfl];exact hS.kept u (bX hS.hb a (by decide)) (bX hS.hc a (by decide))
  ·rw[ac e,ac e,ac e];have s:=t.set j c;exact s.kept u (bX s.hb a (by decide)) (bX s.hc a (by decide))
 ·have d:i<m.o:=hi;have f:j<m.o:=c;have e:gA B.S k (w.heap.size+1) i=gA B.S k (w.heap.size+1) j:=e;unfold gA at e;by_cases y:i=k <;> by_cases v:j=k <;> simp only[y,v,if_true,if_false] at e
  ·omega
  ·have:=l j f;omega
  ·have:=l i d;omega
  ·exact h.ik i j d f e
 ·have d:i<m.o:=hi;have f:j<m.o:=c;have e:gA B.C k w.heap.size i=gA B.C k w.heap.size j:=e;unfold gA at e;by_cases y:i=k <;> by_cases v:j=k <;> simp only[y,v,if_true,if_false] at e
  ·omega
  ·have:=r j f;omega
  ·have:=r i d;omega
  ·exact h.ih i j d f e
def PgC(w:Wd)(bl o i:Nat)(p:Pg):Prop:=w.cell? ⟨bl,o+i*11,none⟩=some (.int .i64 p.kd)/\w.cell? ⟨bl,o+i*11+1,none⟩=some (.int .i64 p.od)/\w.cell? ⟨bl,o+i*11+2,none⟩=some (.int .i64 p.cl)/\w.cell? ⟨bl,o+i*11+3,none⟩=some (.int .i64 p.lv)/\w.cell? ⟨bl,o+i*11+4,none⟩=some (.int .i64 p.nx)/\w.cell? ⟨bl,o+i*11+5,none⟩=some (.int .i64 p.pv)/\w.cell? ⟨bl,o+i*11+6,none⟩=some (.int .i64 p.fs)/\w.cell? ⟨bl,o+i*11+7,none⟩=some (.int .u64 p.b0)/\w.cell? ⟨bl,o+i*11+8,none⟩=some (.int .u64 p.b1)/\w.cell? ⟨bl,o+i*11+9,none⟩=some (.int .u64 p.b2)/\w.cell? ⟨bl,o+i*11+10,none⟩=some (.int .u64 p.b3)
def N64(z:Int):Prop := -9223372036854775808<=z/\z<=9223372036854775807
structure PgIn(p:Pg):Prop where
 kd:N64 p.kd
 od:N64 p.od
 cl:N64 p.cl
 lv:N64 p.lv
 nx:N64 p.nx
 pv:N64 p.pv
 fs:N64 p.fs
 b0:p.b0<18446744073709551616
 b1:p.b1<18446744073709551616
 b2:p.b2<18446744073709551616
 b3:p.b3<18446744073709551616
def VV(w:Wd)(v:Vl)(n:Nat)(pg:Nat->Pg):Prop:=
 n<=9223372036854775807/\∃ oa oc,v=.slice oa n oc/\(n=0\/∃ bl o,oa=some ⟨bl,o,none⟩/\bl<w.heap.size/\∀ i,i<n->PgIn (pg i)/\PgC w bl o i (pg i))
def VU(w:Wd)(v:Vl)(o:Nat)(ws:Nat->Vl)(zs:Nat->List Nat):Prop:=
 o<=9223372036854775807/\∃ oa oc,v=.slice oa o oc/\(o=0\/∃ bl f,oa=some ⟨bl,f,none⟩/\bl<w.heap.size/\∀ k,k<o->w.cell? ⟨bl,f+k,none⟩=some (ws k)/\Src w (ws k) (zs k))
theorem PgC.kept{w c:Wd}{b o i:Nat}{p:Pg}(h:PgC w b o i p)(k:Kt nO w c):PgC c b o i p:=by obtain⟨r,d,l,j,e,n,q,g,f,m,a⟩:=h;exact⟨k.cell (fun x=>x) r,k.cell (fun x=>x) d,k.cell (fun x=>x) l,k.cell (fun x=>x) j,k.cell (fun x=>x) e,k.cell (fun x=>x) n,k.cell (fun x=>x) q,k.cell (fun x=>x) g,k.cell (fun x=>x) f,k.cell (fun x=>x) m,k.cell (fun x=>x) a⟩
end Go.Proofs.YtfmgnljlkdmndaaGreatDoor
