import Derived.Test.YtfmgnljlkdmndaaGreatDoorXh
import Derived.Test.YtfmgnljlkdmndaaGreatDoorXu
import Derived.Deep.Upon
set_option maxRecDepth 1000000
set_option maxHeartbeats 80000000
namespace Go.Proofs.YtfmgnljlkdmndaaGreatDoor.M
open Tryz
open Go.RowKit Go.Shelf
set_option linter.unusedVariables false
def IsCell(bS n x:Nat):Prop:=1<=bS/\bS+n<=9223372036854775808/\bS<=x/\x+16<=bS+n/\(x-bS)%16=0
theorem IsCell.inn{bS n x:Nat}(h:IsCell bS n x):In bS n x 16:=by unfold IsCell at h;unfold In;omega
theorem IsCell.lt{bS n x:Nat}(h:IsCell bS n x):x<18446744073709551616:=by unfold IsCell at h;omega
theorem IsCell.ne0{bS n x:Nat}(h:IsCell bS n x):x≠0:=by unfold IsCell at h;omega
theorem word_far(f:Nat->Nat)(o v a:Nat)(h:o+8<=a\/a+8<=o):word (upd f o 8 (byteOf v)) a=word f a:=by unfold word;exact wordTo_congr _ _ 8 (fun i hi=>upd_out _ _ _ _ _ (by omega))
theorem sF{bS n:Nat}(f:Nat->Nat)(x y v:Nat)(hx:IsCell bS n x)(hy:IsCell bS n y)(a:v<18446744073709551616):nx bS (eK bS f y v) x=if x=y then v else nx bS f x:=by
 unfold nx eK;unfold IsCell at hx hy;by_cases e:x=y
 ·rw[ae e,e];exact word_upd f _ v a
 ·rw[ac e];exact word_far f _ v _ (by omega)
theorem sE{bS n:Nat}(f:Nat->Nat)(x y v:Nat)(hx:IsCell bS n x)(hy:IsCell bS n y):pv bS (eK bS f y v) x=pv bS f x:=by unfold pv eK;unfold IsCell at hx hy;exact word_far f _ v _ (by omega)
theorem pW{bS n:Nat}(f:Nat->Nat)(x y v:Nat)(hx:IsCell bS n x)(hy:IsCell bS n y):nx bS (eK bS f (y+8) v) x=nx bS f x:=by unfold nx eK;unfold IsCell at hx hy;exact word_far f _ v _ (by omega)
theorem pV{bS n:Nat}(f:Nat->Nat)(x y v:Nat)(hx:IsCell bS n x)(hy:IsCell bS n y)(a:v<18446744073709551616):pv bS (eK bS f (y+8) v) x=if x=y then v else pv bS f x:=by
 unfold pv eK;unfold IsCell at hx hy;by_cases e:x=y
 ·rw[ae e,e];exact word_upd f _ v a
 ·rw[ac e];exact word_far f _ v _ (by omega)
structure Chn(bS n:Nat)(f:Nat->Nat)(hd:Nat)(xs:List Nat):Prop where
 cell:∀ x∈xs,IsCell bS n x
 nodup:xs.Nodup
 head:hd=xs.getD 0 0
 nxt:∀ i,i<xs.length->nx bS f (xs.getD i 0)=xs.getD (i+1) 0
 prv:∀ i,i<xs.length->pv bS f (xs.getD i 0)=if i=0 then 0 else xs.getD (i-1) 0
theorem mP{a:List Nat}{i:Nat}(h:i<a.length):a.getD i 0∈a:=by rw[ai,bo h];exact List.getElem_mem h
theorem wM{a:List Nat}{i:Nat}(h:a.length<=i):a.getD i 0=0:=by rw[ai,dh h];rfl
theorem oW{a:List Nat}(c:a.Nodup){i j:Nat}(hi:i<a.length)(b:j<a.length)(h:a.getD i 0=a.getD j 0):i=j:=by
 rw[ai,bo hi,ai,bo b] at h;have hp:=List.pairwise_iff_getElem.1 c;rcases Nat.lt_trichotomy i j with e|e|e
 ·exact absurd h (hp i j hi b e)
 ·exact e
 ·exact absurd h.symm (hp j i b hi e)
theorem mem_getD{a:List Nat}{p:Nat}(h:p∈a):∃ j,j<a.length/\a.getD j 0=p:=by obtain⟨j,b,e⟩:=List.mem_iff_getElem.1 h;exact⟨j,b,by rw[ai,bo b];exact e⟩
theorem Chn.cellD{bS n f hd xs}(h:Chn bS n f hd xs){i:Nat}(hi:i<xs.length):IsCell bS n (xs.getD i 0):=h.cell _ (mP hi)
theorem Chn.lt{bS n f hd xs}(h:Chn bS n f hd xs)(i:Nat):xs.getD i 0<18446744073709551616:=by
 rcases Nat.lt_or_ge i xs.length with hi|hi
 ·exact(h.cellD hi).lt
 ·rw[wM hi];decide
theorem Chn.zero{bS n f hd xs}(h:Chn bS n f hd xs):hd=0↔xs=[]:=by
 constructor
 ·intro e
  cases xs with
  | nil=>rfl
  | cons x r=>exact absurd (h.head.symm.trans e) (h.cell x (by simp)).ne0
 ·rintro rfl;exact h.head
theorem Chn.nil(bS n:Nat)(f:Nat->Nat):Chn bS n f 0 []:=⟨fun _ h=>(by cases h),List.nodup_nil,rfl,fun _ h=>(by cases h),fun _ h=>(by cases h)⟩
theorem Chn.congr{bS n f f' hd a}(h:Chn bS n f hd a)(hf:∀ x∈a,nx bS f' x=nx bS f x/\pv bS f' x=pv bS f x):Chn bS n f' hd a:=
 ⟨h.cell,h.nodup,h.head,fun i hi=>(hf _ (mP hi)).1.trans (h.nxt i hi),fun i hi=>(hf _ (mP hi)).2.trans (h.prv i hi)⟩
def Same(bS n:Nat)(f f':Nat->Nat)(xs:List Nat):Prop:=∀ x,IsCell bS n x->x ∉ xs->nx bS f' x=nx bS f x/\pv bS f' x=pv bS f x
theorem Chn.push{bS n f hd xs}(h:Chn bS n f hd xs)(p:Nat)(hp:IsCell bS n p)(d:p ∉ xs):
  (pushR bS n f hd p).2.2=0/\Chn bS n (pushR bS n f hd p).1 (pushR bS n f hd p).2.1 (p :: xs)/\Same bS n f (pushR bS n f hd p).1 (p :: xs):=by
 have b:gM bS n f hd 0=true:=by
  unfold gM;apply af
  cases xs with
  | nil=>exact .inl h.head
  | cons x r=>
   refine .inr ⟨?_,?_⟩
   ·rw[h.head];exact(h.cell x (by simp)).inn
   ·have:=h.prv 0 (by simp);rw[h.head];simpa using this
 have he:pushR bS n f hd p=(kF bS f hd p,p,0):=by unfold pushR;rw[ae hp.inn,ae b]
 rw[he];refine⟨rfl,?_⟩;have c:hd<18446744073709551616:=by rw[h.head];exact h.lt 0
 have N:∀ x,IsCell bS n x->nx bS (kF bS f hd p) x=if x=p then hd else nx bS f x:=by
  intro x hx;unfold kF;split
  ·rw[pW _ _ _ _ hx hp,sF _ _ _ _ hx hp c]
  ·next h0=>
   have j:IsCell bS n hd:=by
    cases xs with
    | nil=>exact absurd h.head h0
    | cons y r=>rw[h.head];exact h.cell y (by simp)
   rw[pW _ _ _ _ hx j,pW _ _ _ _ hx hp,sF _ _ _ _ hx hp c]
 have V:∀ x,IsCell bS n x->pv bS (kF bS f hd p) x=if x=hd/\hd≠0 then p else if x=p then 0 else pv bS f x:=by
  intro x hx;unfold kF;split
  ·next h0=>rw[ac (by simp[h0]),pV _ _ _ _ hx hp (by decide),sE _ _ _ _ hx hp]
  ·next h0=>
   have j:IsCell bS n hd:=by
    cases xs with
    | nil=>exact absurd h.head h0
    | cons y r=>rw[h.head];exact h.cell y (by simp)
   rw[pV _ _ _ _ hx j hp.lt,pV _ _ _ _ hx hp (by decide),sE _ _ _ _ hx hp];by_cases e:x=hd
   ·simp[e,h0]
   ·simp[e]
 have g:p≠hd:=by
  intro e
  cases xs with
  | nil=>rw[h.head] at e;exact hp.ne0 e
  | cons y r=>exact d (by rw[e,h.head];simp)
 refine⟨⟨?_,?_,rfl,?_,?_⟩,?_⟩
 ·intro x hx;rcases List.mem_cons.1 hx with rfl|hx
  ·exact hp
  ·exact h.cell x hx
 ·exact List.nodup_cons.2 ⟨d,h.nodup⟩
 ·intro i hi
  cases i with
  | zero=>
   show nx bS _ p=xs.getD 0 0
   rw[N p hp,ae rfl,h.head]
  | succ i=>
   have a:i<xs.length:=(by simpa using hi);show nx bS _ (xs.getD i 0)=xs.getD (i+1) 0
   rw[N _ (h.cellD a),ac (show ¬xs.getD i 0=p from fun e=>d (e▸mP a)),h.nxt i a]
 ·intro i hi
  cases i with
  | zero=>
   show pv bS _ p=_
   rw[V p hp,ac (by simp[g]),ae rfl];rfl
  | succ i=>
   have a:i<xs.length:=(by simpa using hi);show pv bS _ (xs.getD i 0)=_
   rw[V _ (h.cellD a)]
   cases i with
   | zero=>
    have h0:hd≠0:=(by rw[h.head];exact(h.cellD a).ne0);rw[ae ⟨h.head.symm,h0⟩];rfl
   | succ i=>
    rw[ac,ac (show ¬xs.getD (i+1) 0=p from fun e=>d (e▸mP a)),h.prv _ a]
    ·rfl
    ·rintro ⟨e,_⟩;rw[h.head] at e;have:=oW h.nodup a (by omega) e;omega
 ·intro x hx l;have k:x≠p:=fun e=>l (by simp[e])
  have m:¬(x=hd/\hd≠0):=by
   rintro ⟨e,h0⟩
   cases xs with
   | nil=>exact h0 h.head
   | cons y r=>exact l (by rw[e,h.head];simp)
  rw[N x hx,V x hx,ac k,ac m,ac k];exact⟨rfl,rfl⟩
theorem Chn.walk{bS n f hd xs}(h:Chn bS n f hd xs)(m:Nat)(d:xs.length<=m):∀ k i,i+k=m->i<=xs.length->walkR bS n f k (if i=0 then 0 else xs.getD (i-1) 0) (xs.getD i 0)=xs.drop i:=by
 intro k;induction k with
 | zero=>
  intro i a c;rw[List.drop_eq_nil_of_le (by omega)];rfl
 | succ k b=>
  intro i a c;unfold walkR;rcases Nat.lt_or_ge i xs.length with hi|hi
  ·rw[ae ⟨(h.cellD hi).ne0,(h.cellD hi).inn,h.prv i hi⟩,h.nxt i hi];have:=b (i+1) (by omega) hi;rw[ac (by omega),Nat.add_sub_cancel] at this;rw[this,List.drop_eq_getElem_cons hi,ai,bo hi];rfl
  ·rw[ac (by rw[wM hi];simp),List.drop_eq_nil_of_le hi]
theorem Chn.all{bS n f hd xs}(h:Chn bS n f hd xs)(m:Nat)(a:xs.length<=m):walkR bS n f m 0 hd=xs:=by have:=h.walk m a m 0 (by omega) (az _);rw[ae rfl,<-h.head,List.drop_zero] at this;exact this
theorem nodup_len:∀ (n:Nat) (l:List Nat),l.Nodup->(∀ x∈l,x<n)->l.length<=n:=by
 intro n;induction n with
 | zero=>
  intro l _ h
  cases l with
  | nil=>exact aj _
  | cons x r=>exact absurd (h x (by simp)) (by omega)
 | succ n f=>
  intro l d h;have c:=f (l.erase n) (d.erase n) (fun x hx=>by
   have i:=h x (List.mem_of_mem_erase hx);have g:x≠n:=fun e=>by subst e;exact(List.Nodup.not_mem_erase d) hx
   omega)
  have j:=List.length_erase_le (a:=n) (l:=l);by_cases b:n∈l
  ·rw[List.length_erase_of_mem b] at c;omega
  ·rw[List.erase_of_not_mem b] at c;omega
def dropL(xs:List Nat)(p:Nat):List Nat:=xs.filter fun x=>decide (x≠p)
theorem LF:∀ (a:List Nat) (j:Nat),a.Nodup->j<a.length->dropL a (a.getD j 0)=a.eraseIdx j:=by
 intro a;induction a with
 | nil=>intro j _ h;simp at h
 | cons y r k=>
  intro j f i;have hy:=(List.nodup_cons.1 f).1
  cases j with
  | zero=>
   have d:dropL r y=r:=List.filter_eq_self.2 (fun x hx=>by simp;intro e;exact hy (e▸hx));show dropL (y :: r) y=r
   unfold dropL at d ⊢;rw[List.filter_cons_of_neg (by simp)];exact d
  | succ j=>
   have b:j<r.length:=(by simpa using i);have g:=k j (List.nodup_cons.1 f).2 b;have c:y≠r.getD j 0:=fun e=>hy (e▸mP b)
   show dropL (y :: r) (r.getD j 0)=y :: r.eraseIdx j
   unfold dropL at g ⊢;rw[List.filter_cons_of_pos (by simpa using c),g]
theorem zhN{a:List Nat}(c:a.Nodup){j:Nat}(b:j<a.length)(i:Nat):(dropL a (a.getD j 0)).getD i 0=if i<j then a.getD i 0 else a.getD (i+1) 0:=by
 rw[LF a j c b,ai,List.getElem?_eraseIdx];split
 ·rw[ai]
 ·rw[ai]
theorem zft{a:List Nat}(c:a.Nodup){j:Nat}(b:j<a.length):(dropL a (a.getD j 0)).length+1=a.length:=by rw[LF a j c b,List.length_eraseIdx_of_lt b];omega
theorem ziy{a:List Nat}{p x:Nat}(h:x∈dropL a p):x∈a:=(List.mem_filter.1 h).1
theorem Chn.remove{bS n f hd xs}(h:Chn bS n f hd xs)(j:Nat)(B:j<xs.length):
  (removeR bS n f hd (xs.getD j 0)).2.2=0/\Chn bS n (removeR bS n f hd (xs.getD j 0)).1 (removeR bS n f hd (xs.getD j 0)).2.1 (dropL xs (xs.getD j 0))/\Same bS n f (removeR bS n f hd (xs.getD j 0)).1 xs:=by
 obtain⟨p,k⟩:=xe (xs.getD j 0);have hp:IsCell bS n p:=by rw[k];exact h.cellD B
 obtain⟨q,hq⟩:=xe (pv bS f p);obtain⟨m,J⟩:=xe (nx bS f p);have l:q=if j=0 then 0 else xs.getD (j-1) 0:=by rw[hq,k];exact h.prv j B
 have d:m=xs.getD (j+1) 0:=by rw[J,k];exact h.nxt j B
 have g:q=0↔j=0:=by
  rw[l];by_cases e:j=0
  ·simp[e]
  ·rw[ac e];exact⟨fun h0=>absurd h0 (h.cellD (by omega)).ne0,fun h0=>absurd h0 e⟩
 have u:m=0↔j+1=xs.length:=by
  rw[d];rcases Nat.lt_or_ge (j+1) xs.length with e|e
  ·exact⟨fun h0=>absurd h0 (h.cellD e).ne0,fun h0=>by omega⟩
  ·exact⟨fun _=>by omega,fun _=>wM e⟩
 have t:q≠0->IsCell bS n q:=fun h0=>by
  have:¬j=0:=fun e=>h0 (g.2 e)
  rw[l,ac this];exact h.cellD (by omega)
 have v:m≠0->IsCell bS n m:=fun h0=>by
  have:¬j+1=xs.length:=fun e=>h0 (u.2 e)
  rw[d];exact h.cellD (by omega)
 have E:q<18446744073709551616:=by
  by_cases e:q=0
  ·rw[e];decide
  ·exact(t e).lt
 have D:m<18446744073709551616:=by
  by_cases e:m=0
  ·rw[e];decide
  ·exact(v e).lt
 have C:p=hd↔j=0:=by rw[k,h.head];exact⟨fun e=>oW h.nodup B (by omega) e,fun e=>by rw[e]⟩
 have y:iJ bS n f hd q p=true:=by
  unfold iJ;by_cases e:j=0
  ·rw[ae (.inl (g.2 e))];exact af ⟨g.2 e,C.2 e⟩
  ·have h0:q≠0:=fun b=>e (g.1 b)
   rw[ac (by rintro (b|b);exact h0 b;exact e (C.1 b))];refine af ⟨(t h0).inn,?_⟩;rw[l,ac e,h.nxt (j-1) (by omega),k];congr 1
   omega
 have A:gM bS n f m p=true:=by
  unfold gM;apply af
  by_cases e:m=0
  ·exact .inl e
  ·refine .inr ⟨(v e).inn,?_⟩;have:¬j+1=xs.length:=fun b=>e (u.2 b)
   rw[d,h.prv (j+1) (by omega),ac (by omega),k];congr 1
 have he:removeR bS n f hd p=(jU bS f p,(if q=0 then m else hd),0):=by unfold removeR;rw[ae hp.inn,<-hq,<-J,y,A];rfl
 have F:jU bS f p=(let K:=if q=0 then f else eK bS f q m;if m=0 then K else eK bS K (m+8) q):=by unfold jU;rw[<-hq,<-J]
 rw[<-k,he];refine⟨rfl,?_⟩;have N:∀ x,IsCell bS n x->nx bS (jU bS f p) x=if q≠0/\x=q then m else nx bS f x:=by
  intro x hx;rw[F];by_cases s:q=0
  ·by_cases c:m=0
   ·simp[s,c]
   ·simp only[s,c,if_true,if_false];rw[pW _ _ _ _ hx (v c)];simp
  ·by_cases c:m=0
   ·simp only[s,c,if_true,if_false];rw[sF _ _ _ _ hx (t s) (by decide)];simp[s]
   ·simp only[s,c,if_false];rw[pW _ _ _ _ hx (v c),sF _ _ _ _ hx (t s) D];simp[s]
 have V:∀ x,IsCell bS n x->pv bS (jU bS f p) x=if m≠0/\x=m then q else pv bS f x:=by
  intro x hx;rw[F];by_cases s:q=0
  ·by_cases c:m=0
   ·simp[s,c]
   ·simp only[s,c,if_true,if_false];rw[pV _ _ _ _ hx (v c) (by decide)];simp[c]
  ·by_cases c:m=0
   ·simp only[s,c,if_true,if_false];rw[sE _ _ _ _ hx (t s)];simp
   ·simp only[s,c,if_false];rw[pV _ _ _ _ hx (v c) E,sE _ _ _ _ hx (t s)];simp[c]
 have G:=zft h.nodup B;have a:=zhN h.nodup B;rw[<-k] at G a;refine⟨⟨fun x hx=>h.cell x (ziy hx),h.nodup.filter _,?_,?_,?_⟩,?_⟩
 ·show(if q=0 then m else hd)=_
  rw[a 0];by_cases e:j=0
  ·rw[ae (g.2 e),ac (by omega),d,e]
  ·rw[ac (fun b=>e (g.1 b)),ae (by omega),h.head]
 ·intro i hi;show nx bS (jU bS f p) _=_
  rw[a i,a (i+1)];by_cases e:i<j
  ·rw[ae e,N _ (h.cellD (by omega))];have o:¬j=0:=(by omega);by_cases c:i+1=j
   ·rw[ae ⟨fun b=>o (g.1 b),by rw[l,ac o];congr 1;omega⟩,ac (by omega),d];congr 1
    omega
   ·rw[ac,ae (by omega),h.nxt i (by omega)];rintro ⟨_,r⟩;rw[l,ac o] at r;have:=oW h.nodup (by omega) (by omega) r;omega
  ·rw[ac e,N _ (h.cellD (by omega)),ac,ac (by omega),h.nxt (i+1) (by omega)];rintro ⟨w,r⟩;have o:¬j=0:=fun b=>w (g.2 b)
   rw[l,ac o] at r;have:=oW h.nodup (by omega) (by omega) r;omega
 ·intro i hi;show pv bS (jU bS f p) _=_
  rw[a i];by_cases e:i<j
  ·rw[ae e,V _ (h.cellD (by omega)),ac,h.prv i (by omega)]
   ·by_cases z:i=0
    ·rw[ae z,ae z]
    ·rw[ac z,ac z,a (i-1),ae (by omega)]
   ·rintro ⟨w,r⟩;rw[d] at r;have I:¬j+1=xs.length:=fun b=>w (u.2 b)
    have:=oW h.nodup (by omega) (by omega) r;omega
  ·rw[ac e,V _ (h.cellD (by omega))];by_cases c:i=j
   ·rw[ae ⟨fun b=>by have:=u.1 b;omega,by rw[d,c]⟩,l];by_cases z:j=0
    ·rw[ae z,ae (by omega)]
    ·rw[ac z,ac (by omega),a (i-1),ae (by omega),c]
   ·rw[ac,h.prv (i+1) (by omega),ac (by omega),ac (by omega),a (i-1),ac (by omega)]
    ·congr 1
     omega
    ·rintro ⟨w,r⟩;rw[d] at r;have I:¬j+1=xs.length:=fun b=>w (u.2 b)
     have:=oW h.nodup (by omega) (by omega) r;omega
 ·intro x hx L;show nx bS (jU bS f p) x=_/\pv bS (jU bS f p) x=_
  rw[N x hx,V x hx,ac,ac]
  ·exact⟨rfl,rfl⟩
  ·rintro ⟨w,r⟩;have I:¬j+1=xs.length:=fun b=>w (u.2 b)
   exact L (by rw[r,d];exact mP (by omega))
  ·rintro ⟨w,r⟩;have o:¬j=0:=fun b=>w (g.2 b)
   exact L (by rw[r,l,ac o];exact mP (by omega))
end Go.Proofs.YtfmgnljlkdmndaaGreatDoor.M
namespace Go.Proofs.YtfmgnljlkdmndaaGreatDoor
open Tryz
open Go.RowKit
set_option linter.unusedVariables false
theorem BO(a b:Nat):(a ^^^ b)%2=(a+b)%2:=by
 have h:=Nat.xor_mod_two_pow (a:=a) (b:=b) (n:=1);rw[Nat.pow_one] at h;rw[h];rcases Nat.mod_two_eq_zero_or_one a with ha|ha <;> rcases Nat.mod_two_eq_zero_or_one b with hb|hb <;> rw[ha,hb]
 ·show 0=_;omega
 ·show 1=_;omega
 ·show 1=_;omega
 ·show 0=_;omega
theorem vA:∀ (r x:Nat),x/2 ^ r%2=0->x ^^^ 2 ^ r=x+2 ^ r
 | 0,x,h=>by
  have h0:x%2=0:=by simpa using h
  have c:=Nat.xor_div_two (a:=x) (b:=1);have f:=BO x 1;rw[show 1/2=0 from rfl,Nat.xor_zero] at c;rw[Nat.pow_zero];omega
 | r+1,x,h=>by
  have hd:x/2/2 ^ r%2=0:=by rw[Nat.div_div_eq_div_mul,<-Nat.pow_succ'];exact h
  have e:=vA r (x/2) hd;have c:=Nat.xor_div_two (a:=x) (b:=2 ^ (r+1));have f:=BO x (2 ^ (r+1));have d : 2 ^ (r+1)=2*2 ^ r:=by rw[ci,aq]
  have g : 2 ^ (r+1)/2=2 ^ r:=by rw[d];omega
  rw[g,e] at c;generalize x ^^^ 2 ^ (r+1)=z at *;generalize 2 ^ r=y at *;omega
theorem zkr(r x:Nat)(h:x/2 ^ r%2=1) : 2 ^ r<=x/\x ^^^ 2 ^ r=x-2 ^ r:=by
 have hb:(x ^^^ 2 ^ r)/2 ^ r%2=0:=by
  have b:(x ^^^ 2 ^ r).testBit r=!x.testBit r:=by rw[Nat.testBit_xor,Nat.testBit_two_pow];simp
  have a:x.testBit r=true:=by rw[Nat.testBit_eq_decide_div_mod_eq,h];rfl
  rw[a,Nat.testBit_eq_decide_div_mod_eq] at b;have:¬(x ^^^ 2 ^ r)/2 ^ r%2=1:=by simpa using b
  omega
 have a:=vA r (x ^^^ 2 ^ r) hb;rw[Nat.xor_assoc,Nat.xor_self,Nat.xor_zero] at a;omega
end Go.Proofs.YtfmgnljlkdmndaaGreatDoor
namespace Go.Proofs.YtfmgnljlkdmndaaGreatDoor.W
open Tryz
open Go.RowKit
set_option linter.unusedVariables false
def mV:Obj:=.cells #[.int .i64 1,.func (.func 137) #[] #[],.int .i64 2,.func (.func 138) #[] #[],.int .i64 3,.func (.func 139) #[] #[],.int .i64 4,.func (.func 140) #[] #[],.int .i64 5,.func (.func 141) #[] #[],.int .i64 6,.func (.func 142) #[] #[],.int .i64 7,.func (.func 143) #[] #[],.int .i64 8,.func (.func 144) #[] #[],.int .i64 9,.func (.func 145) #[] #[],.int .i64 10,.func (.func 146) #[] #[],.int .i64 11,.func (.func 147) #[] #[]] 148 (0,0)
theorem zjB(w:World):Calls prog 90 #[] w fun e a=>e=.returned (.slice (some ⟨w.heap.size,0,none⟩) 11 11)/\a=w.alloc mV:=by
 go_enter func90,ntmps90;go_wp2
 go_ret;exact⟨rfl,rfl⟩
theorem zh6{w:World}{g:Nat}(h:w.heap[g]?=some mV)(a:Nat)(ha:a<11):w.cell? ⟨g,a*2,none⟩=some (.int .i64 ((a+1:Nat):Int))/\w.cell? ⟨g,a*2+1,none⟩=some (.func (.func (gO a)) #[] #[]):=by
 unfold mV at h;match a,ha with
 | 0,_=>exact⟨by simp[World.cell?,h],by simp[World.cell?,h,gO]⟩
 | 1,_=>exact⟨by simp[World.cell?,h],by simp[World.cell?,h,gO]⟩
 | 2,_=>exact⟨by simp[World.cell?,h],by simp[World.cell?,h,gO]⟩
 | 3,_=>exact⟨by simp[World.cell?,h],by simp[World.cell?,h,gO]⟩
 | 4,_=>exact⟨by simp[World.cell?,h],by simp[World.cell?,h,gO]⟩
 | 5,_=>exact⟨by simp[World.cell?,h],by simp[World.cell?,h,gO]⟩
 | 6,_=>exact⟨by simp[World.cell?,h],by simp[World.cell?,h,gO]⟩
 | 7,_=>exact⟨by simp[World.cell?,h],by simp[World.cell?,h,gO]⟩
 | 8,_=>exact⟨by simp[World.cell?,h],by simp[World.cell?,h,gO]⟩
 | 9,_=>exact⟨by simp[World.cell?,h],by simp[World.cell?,h,gO]⟩
 | 10,_=>exact⟨by simp[World.cell?,h],by simp[World.cell?,h,gO]⟩
theorem TA(p:Addr)(x pl:Int)(a:List PanicEntry)(w:World)(hc:w.cell? p=some (.int .i64 x))(hz:w.frozen? p=false):
  CallsD prog 88 #[.pointer (some p)] (.panicking ({ v:=.iface 189 (.int .i64 pl),recovered:=false } :: a)) w fun e d b=>
   e=.returned (.tuple #[])/\d=.panicking ({ v:=.iface 189 (.int .i64 pl),recovered:=true } :: a)/\b=w.setCell p (.int .i64 pl):=by
 refine callsD_of_wpS func88 rfl fun c₀ cs f=>?_
 apply wpS_region
 simp[wpOpsS,go_sem,recoverD,f,ntmps88];refine(zfw _ _).mono ?_;rintro e b ⟨rfl,rfl⟩;simp[go_sem,hc,hz,bodyPostS,results,results88]
theorem SY(p:Addr)(x:Int)(w:World)(hc:w.cell? p=some (.int .i64 x))(hz:w.frozen? p=false):
  CallsD prog 88 #[.pointer (some p)] .returning w fun e b a=>e=.returned (.tuple #[])/\b=.returning/\a=w.setCell p (.int .i64 0):=by
 refine callsD_of_wpS func88 rfl fun c₀ cs d=>?_
 apply wpS_region
 simp[wpOpsS,go_sem,recoverD,d,ntmps88];refine(zgn _).mono ?_;rintro e a ⟨rfl,rfl⟩
 cases c₀
 simp_all [go_sem,bodyPostS,results,results88]
structure CkI(w W:World)(I:Img)(V:ImV)(g:Nat):Prop where
 im:ImAt W w.heap.size I V
 pl:W.heap[w.heap.size+1]?=some (.cells #[.int .i64 0] 3 (0,0))
 tb:W.heap[g]?=some mV
 k:Kt nO w W
theorem CkI.keep{w W W':World}{I:Img}{V:ImV}{g:Nat}(h:CkI w W I V g)(a:Kt nO W W'):CkI w W' I V g:=
 ⟨h.im.keep a,(a.block _ (lH h.pl) (fun x=>x)).trans h.pl,(a.block _ (lH h.tb) (fun x=>x)).trans h.tb,nT h.k a⟩
theorem JD(I:Img)(V:ImV)(w:World)(hI:ImD w I V):
  Calls prog 41 #[.agg #[.int .u64 I.bS,.int .i64 I.lim,.int .i64 I.ord,.int .i64 I.reg,V.m,V.p,V.r,V.h,V.t]] w fun e w'=>e=.returned (.tuple #[.int .i64 ((chk I).1:Int),.int .i64 ((chk I).2:Int)])/\Kt nO w w':=by
 have a6:=M.mkf;obtain⟨EE,l⟩:=xe (Ending.returned (.tuple #[.int .i64 ((chk I).1:Int),.int .i64 ((chk I).2:Int)]));have FB:=aA (show ∀ j p,j<11->(∀ a,a<j->rl I a=none)->rl I j=some p->Ending.returned (.tuple #[.int .i64 ((j+1:Nat):Int),.int .i64 p])=EE from fun j p h1 h2 h3=>by rw[l,EC h1 h2 h3]);have FG:=aA (show(∀ a,a<11->rl I a=none)->Ending.returned (.tuple #[.int .i64 0,.int .i64 0])=EE from fun h=>by rw[l,chk_ok h];rfl);rw[<-l];have X:=aA (show Kt nO w ((w.alloc (aQ I V)).alloc (.cells #[.int .i64 0] 3 (0,0)))from((Kt.refl _ w).alloc _).alloc _);have B1:=aA (show((w.alloc (aQ I V)).alloc (.cells #[.int .i64 0] 3 (0,0))).heap[w.heap.size]?=some (aQ I V)by rw[Below.heap_alloc _ _ _ (by simp)];exact nH w _);have U:=aA (show((w.alloc (aQ I V)).alloc (.cells #[.int .i64 0] 3 (0,0))).heap[w.heap.size+1]?=some (.cells #[.int .i64 0] 3 (0,0))from mU w _ _);have SZ:=aA (show((w.alloc (aQ I V)).alloc (.cells #[.int .i64 0] 3 (0,0))).heap.size=w.heap.size+2 by simp);have HI:=aA hI;obtain⟨⟨ma,mc,hm⟩,⟨pa,pc,hp⟩,⟨ra,rc,hr⟩,⟨ha,hc,hh⟩,⟨ta,tc,R⟩,-⟩:=hI.sl;rw[hm,hp,hr,hh,R];clear l hI;go_enter_defers func41,ntmps41;go_wp2_with fail;have EW:(w.alloc (.cells #[.int .u64 I.bS,.int .i64 I.lim,.int .i64 I.ord,.int .i64 I.reg,.slice ma I.nm mc,.slice pa I.np pc,.slice ra I.no rc,.slice ha I.hd.length hc,.slice ta I.pt.length tc] 42 (0,0)))=w.alloc (aQ I V):=by rw[<-hm,<-hp,<-hr,<-hh,<-R]
 rw[EW];clear EW hm hp hr hh R;generalize (w.alloc (aQ I V)).alloc (.cells #[.int .i64 0] 3 (0,0))=q at *;refine(zjB q).mono ?_;rintro e w1 ⟨rfl,rfl⟩;have C0:=aA (show CkI w (q.alloc mV) I V q.heap.size from⟨⟨(((Kt.refl nO q).alloc mV).block _ (lH B1.o) (fun x=>x)).trans B1.o,HI.o.keep (X.o.alloc _)⟩,(((Kt.refl nO q).alloc mV).block _ (lH U.o) (fun x=>x)).trans U.o,nH _ _,X.o.alloc _⟩);have a4:=aA (show w.heap.size+1<q.heap.size by have:=SZ.o;omega);generalize q.alloc mV=W1 at *;generalize q.heap.size=g at *;clear B1 U SZ X;obtain⟨ib,s⟩:=xe (w.heap.size);obtain⟨pb,A⟩:=xe (w.heap.size+1);have a0:=aA s;have d:=aA A;simp only[<-A];simp only[<-s];clear s A;go_wp2_with fail;go_loopw [9] (fun i W=>∃ a:Nat,a<=11/\i=.int .i64 a/\Hd (CkI w W I V g/\∀ x,x<a->rl I x=none)) (fun i _=>11-(intOf i).toNat)
 case atStart=>exact⟨0,az _,rfl,aA ⟨C0.o,fun x hx=>by omega⟩⟩
 case round=>
  clear C0;obtain⟨a,a5,rfl,hR⟩:=hrel;by_cases u:a<11
  ·have S:(a:Int)<11:=(by omega);obtain⟨Z,q1⟩:=zh6 hR.o.1.tb a u;obtain⟨a1,v⟩:=xe (a+1);rw[<-v] at Z;have Y:=aA v;obtain⟨a3,D⟩:∃ ob,ob=Obj.cells #[.int .i64 a1,.func (.func (gO a)) #[] #[]] 148 (0,0):=⟨_,rfl⟩;have E:=aA (hR.o.1.keep ((Kt.refl nO wr).alloc a3));rw[D] at E;have B:=aA (XS w.heap.size I V a u hR.o.2 _ E.o.im);rw[<-a0.o] at B;have n:=B.o.1;have T:=aA (show ∀ p,rl I a=some p->Ending.returned (.tuple #[.int .i64 a1,.int .i64 p])=EE from fun p h=>by rw[Y.o];exact FB.o a p u hR.o.2 h);have GA:=aA (show rl I a=none->∀ x,x<a+1->rl I x=none from fun h x hx=>by
    by_cases e:x=a
    ·rw[e];exact h
    ·exact hR.o.2 x (by omega))
   generalize gO a=L at *;have N:∀ (a:Addr) (w:World),(store a (.func (.func L) #[] #[])).run prog w=stored prog w a (.func (.func L) #[] #[]) .plain:=fun a w=>run_store prog w a _ .plain rfl
   clear v D;go_wp2_with fail;have y:=aA E.o.pl;rw[<-d.o] at y
   cases hrl:rl I a with
   | none=>
    rw[hrl] at B;have P:=aA (GA.o hrl);clear hrl;refine B.o.2.mono ?_;rintro e F ⟨rfl,c⟩;have R3:=aA (show CkI w F I V g/\_ from⟨E.o.keep c,P.o⟩);clear c Z q1 n N;dsimp only[bG];go_wp2_with fail;go_round
    case rel=>exact⟨a+1,by omega,by go_num,R3⟩
    case measure=>simp[intOf];omega
   | some p=>
    rw[hrl] at B;have P:=aA (T.o p hrl);clear hrl;refine B.o.2.mono ?_;rintro e F ⟨rfl,c⟩;have b:=aA ((c.block _ (lH y.o) (fun x=>x)).trans y.o);have z:F.cell? ⟨pb,0,none⟩=some (.int .i64 0):=(by simp[World.cell?,b.o]);have K:F.frozen? ⟨pb,0,none⟩=false:=(by simp[World.frozen?,b.o]);have K2:=aA (nT E.o.k c);clear c Z q1 n N;refine leaves_cons (f:=88) (args:=#[.pointer (some ⟨pb,0,none⟩)]) (by simp) (by simp[go_sem]) ?_;refine(TA ⟨pb,0,none⟩ 0 (p:Int) [] F z K).mono ?_;rintro e u' Q ⟨rfl,rfl,rfl⟩;refine⟨.tuple #[.int .i64 a1,.int .i64 p],?_,P.o,K2.o.setNew (fun h=>absurd h (by have:=d.o;show ¬pb<_;omega)) _⟩;simp[results,results41,go_sem,z]
  ·have a2:a=11:=(by omega);have S:¬(a:Int)<11:=(by omega);have P:=aA (FG.o (fun x hx=>hR.o.2 x (by omega)));have b:=aA hR.o.1.pl;rw[<-d.o] at b;have z:wr.cell? ⟨pb,0,none⟩=some (.int .i64 0):=(by simp[World.cell?,b.o]);have K:wr.frozen? ⟨pb,0,none⟩=false:=(by simp[World.frozen?,b.o]);have K2:=aA hR.o.1.k;clear a2;go_wp2_with fail;refine leaves_cons (f:=88) (args:=#[.pointer (some ⟨pb,0,none⟩)]) (by simp) (by simp[go_sem]) ?_;have C:=aA (show(wr.setCell ⟨pb,0,none⟩ (.int .i64 0)).heap[pb]?=some (.cells #[.int .i64 0] 3 (0,0))from cF b.o 0 _);have o:(wr.setCell ⟨pb,0,none⟩ (.int .i64 0)).cell? ⟨pb,0,none⟩=some (.int .i64 0):=(by simp[World.cell?,C.o]);have J:(wr.setCell ⟨pb,0,none⟩ (.int .i64 0)).frozen? ⟨pb,0,none⟩=false:=(by simp[World.frozen?,C.o]);refine(SY ⟨pb,0,none⟩ 0 _ o J).mono ?_;rintro e u' Q ⟨rfl,rfl,rfl⟩;have G:∀ h:pb<w.heap.size,nO pb:=fun h=>absurd h (by have:=d.o;omega)
   refine⟨.tuple #[.int .i64 0,.int .i64 0],?_,P.o,(K2.o.setNew G _).setNew G _⟩;simp[results,results41,go_sem,o]
structure GS(w0 W:World)(e:TypeId)(size:Nat)(v:Value)(n:Nat)(xs:List Value):Prop where
 own:W.ownsRow 0 e size v n xs
 new:∀ g cap,v=.slice (some ⟨g,0,none⟩) n cap->w0.heap.size<=g
 kp:Kt nO w0 W
theorem nW{w a:World}{row:Option Nat}(h:w.grownBy a row):Kt (fun b=>row=some b) w a:=⟨h.os,h.tape,h.output,h.size,fun k c d=>h.block k c (fun e=>d e.symm)⟩
theorem GS.nil(a W:World)(e:TypeId)(size:Nat)(k:Kt nO a W):GS a W e size (.slice none 0 0) 0 []:=
 ⟨World.ownsRow_nil _ _ _ _,fun g cap h=>by simp at h,k⟩
theorem GS.keep{w0 W W' e size v n xs}(h:GS w0 W e size v n xs)(k:Kt nO W W'):GS w0 W' e size v n xs:=by
 refine⟨⟨h.own.1,?_⟩,h.new,nT h.kp k⟩;rcases h.own.2 with h0|⟨g,cap,a,rfl,hb,hg,b⟩
 ·exact .inl h0
 ·exact .inr ⟨g,cap,a,rfl,hb,(k.block g (lH hg) (fun x=>x)).trans hg,b⟩
theorem xH{w:World}{cs:Array Value}{t:TypeId}(j:Nat)(u:Value)(h:cs.toList[j]?=some u):(w.alloc (.cells cs t)).cell? (Addr.add ⟨w.heap.size,0,none⟩ j)=some u:=by rw[Addr.add_lit,Nat.zero_add];have:=nH w (.cells cs t);simp only[World.cell?,this];rw[<-Array.getElem?_toList,h];rfl
theorem mQ{W:World}{b:Nat}{e:TypeId}{size:Nat}{v:Value}{n:Nat}{d:List Value}(h:W.ownsRow b e size v n d):∃ c i,v=.slice c n i:=by
 rcases h.2 with ⟨h0,a⟩|⟨g,cap,f,h0,_⟩
 ·exact⟨none,0,by rw[h0,a]⟩
 ·exact⟨_,_,h0⟩
abbrev cA(a s:Nat):Obj:=.cells #[.int .u64 a,.int .u64 s] 73
theorem GS.pushM{T W:World}{e:TypeId}{size:Nat}{v:Value}{n:Nat}{A:List Value}(h:GS T W e size v n A)(t:TypeId)(i:TypeInfo)(z:Value)(l:Nat)
  (S:prog.underlying t=some (.slice e)) (hi:prog.info? e=some i) (hz:i.zero=some z) (hs:i.size=size) (D:i.bytes=l) (C:z.cells.size=size) (B : 0<size)
  (a:Addr) (c m:Nat) (hm : 0<m) (d:List Value) (w:d.length=m*size) (o:∀ j u,d[j]?=some u->W.cell? (a.add j)=some u) (U:∀ u∈d,u.oneCell'=true) (I:n+m<=maxLen) (F:(n+m)*l<=140737488355328):
  ∃ g cap p,(∀ N,(Builtin.append_ #[t,t] N #[v,.slice (some a) m c]).run prog W=.ok (.slice (some ⟨g,0,none⟩) (n + m) cap) p)/\GS T p e size (.slice (some ⟨g,0,none⟩) (n + m) cap) (n + m) (A ++ d)/\T.heap.size<=g/\Kt (fun b=>v.ownBlock=some b) W p/\(v.ownBlock=some g\/W.heap.size<=g):=by
 have L:=h.own;by_cases V:∃ g cap,v=.slice (some ⟨g,0,none⟩) n cap/\n+m<=cap
 ·obtain⟨g,cap,rfl,s⟩:=V;obtain⟨p,k,f,q⟩:=run_append_fits (P:=prog) W 0 t 0 e i size S hi hs g n cap A L a m c d w o U s;have hg:=h.new g cap rfl;have G:=nW q;refine⟨g,cap,p,fun N=>?_,⟨f,fun X J e=>?_,h.kp.trans G (fun _ _ x=>x) (fun x hx e=>?_)⟩,hg,G,.inl (by simp[Value.ownBlock])⟩
  ·rw[<-k];simp[Builtin.append_]
  ·simp at e;omega
  ·cases e;omega
 ·have Q:∃ r p,(Builtin.append_ #[t,t] 0 #[v,.slice (some a) m c]).run prog W=.ok r p/\p.ownsRow W.heap.size e size r (n + m) (A ++ d)/\Kt nO W p:=by
   rcases L.2 with ⟨rfl,h0⟩|⟨g,cap,E,rfl,hb,hg,Y,a1,a0,y⟩
   ·subst h0;have:A=[]:=bq (by rw[L.1,Nat.zero_mul]);subst this;obtain⟨r,p,k,f,q,_⟩:=run_append_own (P:=prog) W W.heap.size t 0 e i z size l S hi hz hs D C B (.slice none 0 0) 0 [] (World.ownsRow_nil _ _ _ _) a m c d w o U I F (aj _);exact⟨r,p,k,f,(nW q).mono (fun _ _ e=>by cases e)⟩
   ·obtain⟨r,p,k,f,q⟩:=run_append_arg_grows (P:=prog) W t 0 e i z size l S hi hz hs D C B ⟨g,0,none⟩ n cap A L.1 (fun j u K=>by
     rw[Addr.add_lit,Nat.zero_add];rw[<-y,List.getElem?_take] at K;split at K
     ·simp only[World.cell?,hg];rw[<-Array.getElem?_toList,K];rfl
     ·cases K) a m c d w o (Nat.lt_of_not_le fun R=>V ⟨g,cap,rfl,R⟩) I F
    exact⟨r,p,k,f,(nW q).mono (fun _ _ e=>by cases e)⟩
  obtain⟨r,p,k,f,G⟩:=Q;rcases f.2 with ⟨_,h0⟩|⟨g,cap,E,rfl,hb,hg,Z⟩
  ·omega
  ·refine⟨g,cap,p,fun N=>?_,⟨⟨f.1,.inr ⟨g,cap,E,rfl,az _,hg,Z⟩⟩,fun X J e=>?_,nT h.kp G⟩,an h.kp.size hb,G.mono (fun _ _ e=>e.elim),.inr hb⟩
   ·rw[<-k];simp[Builtin.append_]
   ·simp at e;have:=h.kp.size;omega
def blV:List (Nat×Nat)->List Value
 | []=>[]
 | b :: l=>.int .u64 b.1 :: .int .u64 b.2 :: blV l
theorem nN:∀ l m:List (Nat×Nat),blV (l ++ m)=blV l ++ blV m
 | [],_=>rfl
 | b :: l,m=>by
  show _ :: _ :: blV (l ++ m)=_
  rw[nN l m];rfl
theorem qB:∀ l:List (Nat×Nat),(blV l).length=l.length*2
 | []=>rfl
 | b :: l=>by
  show(blV l).length+1+1=(l.length+1)*2
  rw[qB l];omega
theorem qA:∀ (l:List (Nat×Nat)) (u:Value),u∈blV l->u.oneCell'=true
 | b :: l,u,h=>by
  rcases List.mem_cons.1 h with rfl|h
  ·rfl
  ·rcases List.mem_cons.1 h with rfl|h
   ·rfl
   ·exact qA l u h
theorem qC:(prog.info? 73).map (fun i=>(i.zero,i.size,i.bytes))=some (some (.agg #[.int .u64 0,.int .u64 0]),2,16):=by kernel_rfl
abbrev GB(w0 W:World)(v:Value)(l:List (Nat×Nat)):Prop:=GS w0 W 73 2 v l.length (blV l)
theorem GB.push{k W:World}{v:Value}{l:List (Nat×Nat)}(h:GB k W v l)(a s:Nat)(r:l.length<=4000000):
  ∃ g cap d,(∀ t,(Builtin.append_ #[48,48] t #[v,.slice (some ⟨W.heap.size,0,none⟩) 1 1]).run prog (W.alloc (cA a s))=.ok (.slice (some ⟨g,0,none⟩) (l.length + 1) cap) d)/\GB k d (.slice (some ⟨g,0,none⟩) (l.length + 1) cap) (l ++ [(a,s)])/\Kt (fun b=>v.ownBlock=some b) W d:=by
 obtain⟨i,hi,c⟩:=Option.map_eq_some_iff.1 qC;simp only[Prod.mk.injEq] at c;have f:=(Kt.refl nO W).alloc (cA a s);obtain⟨g,cap,d,m,o,q,p,w⟩:=(GS.keep h f).pushM 48 i (.agg #[.int .u64 0,.int .u64 0]) 16 Tryz.underlying48 hi c.1 c.2.1 c.2.2 rfl (by decide) ⟨W.heap.size,0,none⟩ 1 1 (by decide) [.int .u64 a,.int .u64 s] rfl (fun j u n=>xH (cs:=#[.int .u64 a,.int .u64 s]) j u n) (by simp[Value.oneCell']) (by simp only[maxLen];omega) (by omega);refine⟨g,cap,d,m,?_,f.trans p (fun _ _ e=>e.elim) (fun _ _ e=>e)⟩;show GS _ _ _ _ _ (l ++ [(a,s)]).length (blV (l ++ [(a,s)]))
 rw[nN,List.length_append];exact o
theorem GB.pushL{r W:World}{v u:Value}{l m:List (Nat×Nat)}(h:GB r W v l)(k:W.ownsRow 0 73 2 u m.length (blV m))(L:l.length<=4000000)(N:m.length<=4000000):
  ∃ p f,(∀ t,(Builtin.append_ #[48,48] t #[v,u]).run prog W=.ok p f)/\GB r f p (l ++ m)/\Kt (fun b=>v.ownBlock=some b) W f:=by
 obtain⟨i,hi,a⟩:=Option.map_eq_some_iff.1 qC;simp only[Prod.mk.injEq] at a;rcases k.2 with ⟨rfl,h0⟩|⟨g,cap,D,rfl,hb,hg,A,G,E,c⟩
 ·obtain rfl:=bq h0;refine⟨v,W,fun t=>?_,by rw[List.append_nil];exact h,Kt.refl _ _⟩;exact run_append_owned_none W 0 48 t 73 i 2 Tryz.underlying48 hi v _ _ h.own
 ·rcases Nat.eq_zero_or_pos m.length with h0|h0
  ·obtain rfl:=bq h0;refine⟨v,W,fun t=>?_,by rw[List.append_nil];exact h,Kt.refl _ _⟩;obtain⟨F,o,rfl⟩:=mQ h.own;have n:l.length<=o:=by
    rcases h.own.2 with ⟨e,_⟩|⟨I,x,s,e,_,B,q,_⟩
    ·simp at e;omega
    ·simp at e;omega
   exact run_append_nothing W 48 48 t 73 i Tryz.underlying48 hi F l.length o n _ (Src.ofSlice W Tryz.underlying48 ⟨g,0,none⟩ 0 cap [] (by simp) (fun j u d=>by simp at d) (fun u k=>by simp at k))
  ·obtain⟨K,w,f,y,z,J,C,P⟩:=GS.pushM h 48 i (.agg #[.int .u64 0,.int .u64 0]) 16 Tryz.underlying48 hi a.1 a.2.1 a.2.2 rfl (by decide) ⟨g,0,none⟩ cap m.length h0 (blV m) (qB m) (fun j u d=>by
     rw[Addr.add_lit,Nat.zero_add];rw[<-c,List.getElem?_take] at d;split at d
     ·simp only[World.cell?,hg];rw[<-Array.getElem?_toList,d];rfl
     ·cases d) (qA m) (by simp only[maxLen];omega) (by omega)
   refine⟨_,f,y,?_,C⟩;show GS _ _ _ _ _ (l ++ m).length (blV (l ++ m))
   rw[nN,List.length_append];exact z
theorem xV{c:Array Oper}{o:Oper}{a:Act}{K:Act->World->Prop}{Q:Exit->Act->World->Prop}{E:Prop}{W f:World}{v u g:Value}
  (e:o.guard=none) (s x:Operand) (d:o.op=.call { callee:=.builtin .append,args:=#[s,x],argTypes:=#[48,48] })
  (hs:a.eval s=v) (hx:a.eval x=u) (b:∀ t,(Builtin.append_ #[48,48] t #[v,u]).run prog W=.ok g f) (h:K (a.put o.dst g) f):
  if Region.wanted o (yielded c a.tmps)=true then Oper.wp prog o a W K Q else E:=by
 have hw:Region.wanted o (yielded c a.tmps)=true:=by simp[Region.wanted,e]
 rw[ae hw];exact Lib.wp_append_run W s x _ _ d _ _ hs hx _ _ (b _) h
def ceB(bS g sz:Nat)(ws:List Nat):Nat->List (Nat×Nat)
 | 0=>[]
 | j + 1=>if aE ws j=true then ceB bS g sz ws j ++ [(bS + g*4096 + j*sz,sz)] else ceB bS g sz ws j
theorem vN(bS g sz:Nat)(ws:List Nat):∀ j,(ceB bS g sz ws j).length<=j
 | 0=>aj _
 | j+1=>by
  have:=vN bS g sz ws j;unfold ceB;split
  ·rw[List.length_append];exact Nat.succ_le_succ this
  ·omega
theorem IC(bS g sz:Nat)(ws:List Nat)(k:Nat):∀ d,(∀ j,k<=j->j<k+d->aE ws j=false)->ceB bS g sz ws (k+d)=ceB bS g sz ws k
 | 0,_=>rfl
 | d+1,h=>by
  have e:=IC bS g sz ws k d (fun j a b=>h j a (by omega));show ceB bS g sz ws (k+d+1)=_
  rw[ceB,ac (by rw[h (k+d) (by omega) (by omega)];decide),e]
theorem nxtN_of{n:Nat}{ws:List Nat}{k:Nat} : (bI n ws k = -1/\∀ j,k<=j->j<n->aE ws j=false)\/∃ j:Nat,bI n ws k=(j:Int)/\k<=j/\j<n/\aE ws j=true/\∀ i,k<=i->i<j->aE ws i=false:=by
 cases h:(List.range n).find? (fun j=>decide (k<=j) && aE ws j)with
 | none=>
  refine .inl ⟨by unfold bI;rw[h],fun j c b=>?_⟩;have:=List.find?_eq_none.1 h j (List.mem_range.2 b)
  cases hb:aE ws j with
  | false=>rfl
  | true=>exact absurd (by simp[c,hb]) this
 | some j=>
  have d:=h;rw[List.find?_range_eq_some] at d;obtain⟨a,e,f⟩:=d;simp only[bu,bW] at a;refine .inr ⟨j,by unfold bI;rw[h],a.1,List.mem_range.1 e,a.2,fun i c b=>?_⟩;have:=f i b;simp only[Bool.not_eq_true',Bool.and_eq_false_iff,decide_eq_false_iff_not] at this;rcases this with h|h
  ·omega
  ·exact h
theorem zis{n:Nat}{ws:List Nat}{j:Nat} : (if bI n ws (j+1) = -1 then 0 else 4097-(bI n ws (j+1)).toNat)<4097-j\/4096<j\/4096<n:=by
 rcases nxtN_of (n:=n) (ws:=ws) (k:=j+1)with ⟨a,-⟩|⟨i,a,c,b,-⟩
 ·rw[a,ae rfl];omega
 ·rw[a,ac (by omega),aa];omega
theorem zeE(b:Nat)(I:Img)(V:ImV)(k r:Nat)(hS:Sn9 I k r)(g c:Nat)(hg:g<I.np)(hc:(I.pg g).cl=(c:Int))(h7:c<=7)(w:World)(K:ImAt w b I V):
  Calls prog 43 #[.pointer (some ⟨b,0,none⟩),.int .i64 g] w fun e w'=>∃ v,e=.returned v/\GB w w' v (ceB I.bS g (16*2 ^ c) (wsP (I.pg g)) (celN9 c)):=by
 obtain⟨-,⟨pa,pc,hp⟩,-,-,-,-,bp,-,-⟩:=K.d.sl;obtain⟨c0,c1,c2,c3,c4,c5,c6,c7,c8⟩:=K.cells;rw[hp] at c5;obtain⟨bl,o,f7,T,Q,R⟩:=K.page g hg;rw[hp] at T;injection T with e1 e2 e3
 subst e1;obtain⟨z,e7,b5⟩:=sP c h7;have b3:=nM c h7;have b4:=hS.nm;have b6:=hS.be;have f5:=hS.np1;have a1:=aA (fun W=>LJ (I.pg g) c hc h7 Q W);have a7:=aA (fun W (hW:Kt nO w W)=>lY b I V g W (K.keep hW) (by omega));have B:=aA (fun W=>LW (I.pg g) c hc h7 W);obtain⟨sz,a5⟩:=xe (16*2 ^ c);obtain⟨S,G⟩:=xe (I.bS+g*4096);rw[<-a5] at z e7 b5 B ⊢;rw[<-G] at a7;have f4:S+4096<=9223372036854775808:=by omega
 obtain⟨a,U⟩:=xe (celN9 c);rw[<-U] at z b3 a1 ⊢;have CE:=aA (show ∀ j,ceB I.bS g sz (wsP (I.pg g)) (j + 1)=if aE (wsP (I.pg g)) j=true then ceB I.bS g sz (wsP (I.pg g)) j ++ [(S + j*sz,sz)] else ceB I.bS g sz (wsP (I.pg g)) j from fun j=>by rw[G];rfl);have CL:=aA (fun j=>vN I.bS g sz (wsP (I.pg g)) j);have CN:=aA (fun k d=>IC I.bS g sz (wsP (I.pg g)) k d);have f2:ceB I.bS g sz (wsP (I.pg g)) 0=[]:=rfl;generalize e8:ceB I.bS g sz (wsP (I.pg g))=f at *;have HM:=aA (show ∀ j,j<a->j*sz+sz<=4096 from fun j hj=>by have:(j+1)*sz<=a*sz:=ak _ hj;rw[av,aL,z] at this;exact this)
 have PB:=aA (PbI.mk' (w:=w) K (Kt.refl _ w) (I.pg g));obtain⟨d0,d1,d2,d3,d4,d5,d6,d7,d8,d9,e6⟩:=R.c;obtain⟨n,hn⟩:=xe (I.np);rw[<-hn] at c5;have f6:(g:Int)<n:=by omega
 have f8:g<=1024:=by omega
 generalize f0:I.pg g=p at *;clear K hp Q R e2 e3 hn hc bp f0 e8 a5 G U hS b4 b6 z;go_enter func43,ntmps43;go_wp2_with fail;generalize w.alloc (aW p)=W1 at *;generalize w.heap.size=gb at *;clear d0 d1 d2 d3 d4 d5 d6 d7 d8 d9 e6 c0 c1 c2 c3 c4 c5 c6 c7 c8;refine(a1.o W1).mono ?_;rintro e w2 ⟨sb,sc,ws,rfl,F,b2,e9,Y,b0⟩;have C:=aA (PB.o.keep b0);have ST:=aA F;have BT:=aA Y;have X:=aA (fun (x:Nat) (hx:x<=4096) (W:World) (hW:Kt nO w2 W)=>vZ sb sc a ws (x:Int) (by omega) W (F.kept hW (fun x=>x) (fun x=>x)));have a4:=aA (show ∀ x:Nat,nxt a ws (x:Int)=bI a ws x from fun x=>by unfold nxt;rw[aa]);clear F b2 e9 Y b0;have D:=aA (X.o 0 (by decide) w2 (Kt.refl _ _));rw[a4.o 0] at D;go_wp2_with fail;refine D.o.mono ?_;rintro e w3 ⟨rfl,rfl⟩;clear D;go_wp2_with fail;go_loopw [5,8] (fun lv xv W=>∃ (x:Int) (q:Nat),xv=.int .i64 x/\Hd (q<=a/\x=bI a ws q/\GB w3 W lv (f q))) (fun _ xv _=>if (intOf xv) = -1 then 0 else 4097-(intOf xv).toNat)
 case atStart=>exact⟨_,0,rfl,aA ⟨az _,rfl,by rw[f2];exact GS.nil _ _ _ _ (Kt.refl _ _)⟩⟩
 case round=>
  obtain⟨x,q,rfl,hG⟩:=hrel;obtain⟨hq,hx,l⟩:=hG.o;obtain⟨va,vc,a9⟩:=mQ l.own;rcases nxtN_of (n:=a) (ws:=ws) (k:=q)with ⟨t,L⟩|⟨j,t,L,h3,h4,h5⟩
  ·have b8:(x != -1)=false:=(by rw[hx,t];rfl);have b7:=aA (show f a=f q by
    obtain⟨d,rfl⟩:∃ d,a=q+d:=⟨a-q,by omega⟩;exact CN.o q d (fun j s a6=>by rw[<-BT.o j a6];exact L j s a6))
   have G9:=aA l;clear hx t L l;subst a9;go_wp2_with fail;go_ret;refine⟨_,rfl,?_⟩;rw[b7.o];refine⟨G9.o.own,fun g' a3 e=>?_,nT C.o.k G9.o.kp⟩;exact an C.o.k.size (G9.o.new g' a3 e)
  ·have b9:x=(j:Int):=(by rw[hx,t]);subst b9;have b8:((j:Int) != -1)=true:=(by rw[cu];omega);have ce:f (j + 1)=f q ++ [(S + j*sz,sz)]:=by
    rw[CE.o j,ae (by rw[<-BT.o j h3];exact h4)];obtain⟨d,rfl⟩:∃ d,j=q+d:=⟨j-q,by omega⟩;rw[CN.o q d (fun i c9 e0=>by rw[<-BT.o i (by omega)];exact h5 i c9 e0)]
   have hm:=HM.o j h3;obtain⟨m,E⟩:=xe (j*sz);rw[<-E] at ce hm;have g0:(j:Int)*(sz:Int)=m:=(by rw[E];simp);have f3:j<256:=(by omega);have e4:=aA (show(f q).length<=4000000 by have:=CL.o q;omega);have N:=aA (C.o.keep l.kp);have GQ:=aA l;have f1:=aA ce;have J3:=aA h3;have a8:=aA (fun (y:KW wr)=>a7.o y.v (nT N.o.k y.k));obtain⟨p0,p1,p2,p3,p4,p5,p6,p7,p8,p9,b1⟩:=N.o.all;clear hx t L h3 h4 h5 l ce E;subst a9;go_wp2_with fail;refine cS (by kernel_rfl) (by kernel_rfl) ?_;repeat (go_big_quiet_step (first|(go_at_call 42;exact Calls.kept_of ((a8.o _).mono fun _ _ ⟨t,L⟩=>⟨t,L▸Kt.refl _ _⟩))|(go_at_call 93;exact Calls.kept_of (B.o _))))
   refine wpQuiet_nil ?_;intro y;go_wp2_with fail;refine(B.o _).mono ?_;rintro e w4 ⟨rfl,Z⟩;have K4:=aA (nT y.k Z);clear Z p0 p1 p2 p3 p4 p5 p6 p7 p8 p9 b1;obtain⟨ad,P⟩:=xe (S+m);have a2:(S:Int)+(m:Int)=ad:=(by omega);have G4:=aA (GS.keep GQ.o K4.o);obtain⟨gg,cap,w5,PU,J,-⟩:=GB.push G4.o ad sz e4.o;rw[P,<-f1.o] at J;have J:=aA J;have e5:=aA PU;obtain⟨u,s⟩:=xe (j+1);have f9:(j:Int)+1=(u:Int):=(by omega);rw[<-s] at J;have A:=aA (X.o u (by omega) w5 J.o.kp);rw[a4.o u] at A;have J1:=aA (show u=j+1/\u<=a from⟨s,by have:=J3.o;omega⟩);clear PU P s;rw[a2];go_wp2_with (at_builtin;refine Lib.wpList_append_run _ rfl _ _ _ _ rfl _ (.slice (some ⟨w4.heap.size,0,none⟩) 1 1) rfl rfl _ _ (e5.o _) ?_)
   refine A.o.mono ?_;rintro e w6 ⟨rfl,rfl⟩;have MS:=aA (show(if bI a ws u = -1 then 0 else 4097-(bI a ws u).toNat)<4097-j by
    have h:=zis (n:=a) (ws:=ws) (j:=j);rw[<-J1.o.1] at h;omega)
   clear A;go_wp2_with fail;go_round
   case rel=>exact⟨_,u,rfl,aA ⟨J1.o.2,rfl,J.o⟩⟩
   case measure=>
    have t:¬(j:Int) = -1:=(by omega);have:=MS.o;by_cases e:bI a ws u = -1
    ·simp only[e,if_true] at this;simp[intOf,t,e];omega
    ·simp only[e,if_false] at this;simp[intOf,t,e];omega
def pgB(I:Img)(g:Nat):List (Nat×Nat):=
 if (I.pg g).kd=2 then [(I.bS+g*4096,4096*2 ^ (I.pg g).od.toNat)]
 else if (I.pg g).kd=4 then ceB I.bS g (16*2 ^ (I.pg g).cl.toNat) (wsP (I.pg g)) (celN9 (I.pg g).cl.toNat) else []
def bkL(I:Img):Nat->List (Nat×Nat)
 | 0=>[]
 | j + 1=>bkL I j ++ pgB I j
def blks(I:Img):List (Nat×Nat):=if (chk I).1=0 then bkL I I.np else []
theorem chk_zero{I:Img}(h:(chk I).1=0)(a:Nat)(ha:a<11):rl I a=none:=by
 cases e:(List.range 11).findSome? (fun j=>(rl I j).map fun p=>(j+1,p))with
 | none=>
  have:=List.findSome?_eq_none_iff.1 e a (List.mem_range.2 ha);simpa using this
 | some x=>
  exfalso
  have:chk I=x:=by unfold chk;rw[e]
  rw[this] at h;obtain⟨j,-,b⟩:=List.exists_of_findSome?_eq_some e;simp only[Option.map_eq_some_iff] at b;obtain⟨p,-,hp⟩:=b;rw[<-hp] at h;simp at h
theorem sn9_chk{I:Img}(h:(chk I).1=0):∃ r,Sn9 I I.ord.toNat r:=sn9_of (chk_zero h 0 (by decide)) (chk_zero h 1 (by decide)) (chk_zero h 2 (by decide))
theorem DT{I:Img}{k r:Nat}(hS:Sn9 I k r)(g:Nat)(hg:g<I.np):(pgB I g).length<=256:=by
 obtain⟨_,_,c,_,-,-,-,-,b,a,-⟩:=hS.pg g hg;unfold pgB;split
 ·simp
 ·split
  ·rw[b,aa];exact an (vN _ _ _ _ _) (nM c a).2
  ·simp
theorem DS{I:Img}{k r:Nat}(hS:Sn9 I k r):∀ j,j<=I.np->(bkL I j).length<=256*j
 | 0,_=>aj _
 | j+1,h=>by
  have a:=DS hS j (by omega);have b:=DT hS j (by omega);show(bkL I j ++ pgB I j).length<=_
  rw[List.length_append];omega
theorem zlK{o:Nat}(h:o<=8):IntKind.u64.wrap ((4096:Int)*2 ^ o)=((4096*2 ^ o:Nat):Int):=by
 have a:=M.pow8 o h;have e:((2:Int) ^ o)=((2 ^ o:Nat):Int):=by simp
 rw[wrap_u64,e];generalize 2 ^ o=P at *;omega
theorem QO{w W:World}{v:Value}{l:List (Nat×Nat)}{x:Nat}(h:GB w W v l)(hx:v.ownBlock=some x):∃ cs,W.heap[x]?=some (.cells cs 73 (0,0)):=by
 rcases h.own.2 with ⟨rfl,_⟩|⟨g,cap,a,rfl,hb,hg,b⟩
 ·simp[Value.ownBlock] at hx
 ·simp[Value.ownBlock] at hx;rw[<-hx];exact⟨a,hg⟩
theorem Blocks_any(I:Img)(V:ImV)(w:World)(hI:ImD w I V):
  Calls prog 13 #[.agg #[.int .u64 I.bS,.int .i64 I.lim,.int .i64 I.ord,.int .i64 I.reg,V.m,V.p,V.r,V.h,V.t]] w fun e w'=>∃ v,e=.returned v/\GB w w' v (blks I):=by
 obtain⟨⟨ma,mc,G⟩,⟨pa,pc,hp⟩,⟨ra,rc,hr⟩,⟨ha,hc,hh⟩,⟨ta,tc,ht⟩,-⟩:=hI.sl;have a4:=aA (show ImAt (w.alloc (aQ I V)) w.heap.size I V from⟨nH _ _,hI.keep ((Kt.refl _ w).alloc _)⟩);have K0:=aA (show Kt nO w (w.alloc (aQ I V))from(Kt.refl _ w).alloc _);have J:=aA (JD I V (w.alloc (aQ I V)) a4.o.d);have SP:=aA hp;obtain⟨bL,x⟩:=xe (blks I);rw[<-x];have e0:=aA (show(chk I).1≠0->bL=[] from fun h=>by rw[x,blks,ac h]);have a5:=aA (show(chk I).1=0->bL=bkL I I.np from fun h=>by rw[x,blks,ae h]);obtain⟨ru,N⟩:=xe ((chk I).1);obtain⟨pl,T⟩:=xe ((chk I).2);rw[<-N,<-T] at J;rw[G,hp,hr,hh,ht] at J;rw[G,hp,hr,hh,ht];have a6:=aA N;clear x N T;have EW:=aA (show(w.alloc (.cells #[.int .u64 I.bS,.int .i64 I.lim,.int .i64 I.ord,.int .i64 I.reg,.slice ma I.nm mc,.slice pa I.np pc,.slice ra I.no rc,.slice ha I.hd.length hc,.slice ta I.pt.length tc] 42 (0,0)))=w.alloc (aQ I V)by rw[<-G,<-hp,<-hr,<-hh,<-ht]);clear G hp hr hh ht hI;go_enter func13,ntmps13;go_wp2_with fail;rw[EW.o];refine J.o.mono ?_;rintro e w1 ⟨rfl,K⟩;have a2:=aA (a4.o.keep K);have K1:=aA (nT K0.o K);clear K EW;generalize w.alloc (aQ I V)=W0 at *;generalize w.heap.size=ib at *;by_cases h0:ru=0
 case neg=>
  have f0:((ru:Int) != 0)=true:=by rw[cu];omega
  have E:=aA (e0.o (by rw[<-a6.o];exact h0));clear h0;go_wp2_with fail;go_ret;exact⟨_,rfl,by rw[E.o];exact GS.nil _ _ _ _ K1.o⟩
 have f0:((ru:Int) != 0)=false:=by rw[ay];omega
 have hz:(chk I).1=0:=by rw[<-a6.o];exact h0
 have E:=aA (a5.o hz);obtain⟨r,hS⟩:=sn9_chk hz;have P:=aA hS;have b9:=hS.np1;obtain⟨n,hn⟩:=xe (I.np);rw[<-hn] at b9;have HN:=aA hn;obtain⟨c0,c1,c2,c3,c4,c5,c6,c7,c8⟩:=a2.o.cells;rw[SP.o,<-hn] at c5;have F0:bkL I 0=[]:=rfl;have FS:=aA (show ∀ j,bkL I (j + 1)=bkL I j ++ pgB I j from fun j=>rfl);have FL:=aA (show ∀ j,j<=n->(bkL I j).length<=300000 from fun j hj=>by have:=DS hS j (by omega);omega)
 generalize bkL I=f at *;clear h0 hz hS hn;go_wp2_with fail;clear c0 c1 c2 c3 c4 c5 c6 c7 c8;go_loopw [5,18] (fun lv iv W=>∃ a:Nat,a<=n/\iv=.int .i64 a/\Hd (GB w1 W lv (f a))) (fun _ iv _=>n-(intOf iv).toNat)
 case atStart=>exact⟨0,az _,rfl,aA (by rw[F0];exact GS.nil _ _ _ _ (Kt.refl _ _))⟩
 case round=>
  obtain⟨a,f4,rfl,F⟩:=hrel;have X:=aA (a2.o.keep F.o.kp);obtain⟨va,vc,b0⟩:=mQ F.o.own;by_cases b8:a<n
  ·have b3:(a:Int)<n:=(by omega);have k:a<I.np:=(by rw[<-HN.o];exact b8);obtain⟨bl,o,g1,a1,b2,Y⟩:=X.o.page a k;rw[SP.o] at a1;injection a1 with e1 e2 e3
   subst e1;obtain⟨kd,od,cc,ll,y1,y2,y3,y4,y5,y6,-⟩:=P.o.pg a k;have f9:=P.o.k8;have a7:od<=8:=(by omega);have PB:=aA (PbI.mk' (w:=w1) X.o F.o.kp (I.pg a));have GA:=aA (GS.keep F.o (show Kt nO wr (wr.alloc (aW (I.pg a)))from(Kt.refl _ _).alloc _));have B:f (a + 1)=f a ++ pgB I a:=FS.o a;have b5:I.bS+a*4096<18446744073709551616:=(by have:=P.o.be;have:=P.o.nm;omega);have a9:=aA (fun W (Q:Kt nO (wr.alloc (aW (I.pg a))) W)=>lY ib I V a W (PB.o.im.keep Q) b5);have e8:=aA (fun W (Q:Kt nO (wr.alloc (aW (I.pg a))) W)=>zeE ib I V I.ord.toNat r P.o a cc k y5 y6 W (PB.o.im.keep Q));have C:=aA (show pgB I a=if (I.pg a).kd=2 then [(I.bS+a*4096,4096*2 ^ od)] else if (I.pg a).kd=4 then ceB I.bS a (16*2 ^ cc) (wsP (I.pg a)) (celN9 cc) else [] by unfold pgB;rw[y3,y5,aa,aa]);have Z:=aA (DT P.o a k);have a0:=aA (FL.o a f4);have SH:=aA (zlK (o:=od) (by omega));obtain⟨m,G⟩:=xe (I.bS+a*4096);rw[<-G] at a9 C;obtain⟨z,hz⟩:=xe (4096*2 ^ od);rw[<-hz] at SH C;generalize pgB I a=pB at *;obtain⟨d0,d1,d2,d3,d4,d5,d6,d7,d8,d9,L⟩:=Y.c;generalize ceB I.bS a (16*2 ^ cc) (wsP (I.pg a)) (celN9 cc)=cB at *;generalize I.pg a=p at *;clear b2 Y e2 e3 y1 y2 y4 y5 y6 G hz;subst b0;by_cases q:p.kd=2
   ·have q2:(p.kd == 2)=true:=(by rw[co];exact q);have g:pB=[(m,z)]:=(by rw[C.o,ae q]);rw[g] at B;have S:=aA B;clear q g B;obtain⟨b4,g0,e7,e4,c9,e5,f2,f3,f5,f1,e6⟩:=p;dsimp only at y3 q2 d0 d1 d2 d3 d4 d5 d6 d7 d8 d9 L;subst y3;go_wp2_with fail;generalize wr.alloc (aW ⟨b4,(od:Int),e7,e4,c9,e5,f2,f3,f5,f1,e6⟩)=s at *;generalize wr.heap.size=y at *;have KD:=aA (show Kt nO s s.drew from(Kt.refl nO s).drew);have XC:=aA (show ∀ W,Kt nO s W->W.cell? ⟨y,1,none⟩=some (.int .i64 od)from fun W Q=>(dJ (PB.o.keep Q).pb).2.1);have XE:=aA (show ∀ R W8 vv ll,Kt nO s R->GB w1 R vv ll->Kt (fun b=>vv.ownBlock=some b) R W8->W8.cell? ⟨y,1,none⟩=some (.int .i64 od)from fun R W8 vv ll k7 h7 k8=>k8.cell (fun e=>by
     obtain⟨cs,U⟩:=QO h7 e;rw[(PB.o.keep k7).pb] at U;simp at U) (XC.o R k7))
    have A6:=aA (show Calls prog 42 #[.pointer (some ⟨ib,0,none⟩),.int .i64 a] s.drew fun e w'=>e=.returned (.int .u64 m)/\Kt nO s w' from(a9.o s.drew KD.o).mono fun _ _ ⟨h1,h2⟩=>⟨h1,by rw[h2];exact KD.o⟩);have x1:=XC.o _ KD.o;have sh:=SH.o;have f6:IntKind.u64.wrap ((4096:Int)*2 ^ (min od 64))=(z:Int):=(by rw[Nat.min_eq_left (an a7 (by decide))];exact SH.o);have e9:=aA (show(f a).length<=4000000 by have:=a0.o;omega);clear d0 d1 d2 d3 d4 d5 d6 d7 d8 d9 L;go_region_held3 (fun w'=>w'.cell? ⟨y,1,none⟩=some (.int .i64 od)) (with_reducible assumption) (first
     | (go_at_call 42;(with_reducible refine A6.o.mono ?_);rintro e w7 ⟨rfl,a3⟩;have K7:=aA a3;have v1:=XC.o _ K7.o;have b1:=XC.o _ (K7.o.alloc (cA m z));obtain⟨gg,cap,w8,i,A,K8⟩:=GB.push (GS.keep GA.o K7.o) m z (e9.o);have e1:=XE.o _ _ _ _ K7.o (GS.keep GA.o K7.o) K8;clear a3 K8;have A:=aA A;replace i:=aA i)
     | (refine xV rfl (.tmp 27) (.tmp 34) rfl rfl rfl i.o ?_)
     | fail)
    all_goals
     have R3:=aA (show GB w1 w8 (.slice (some ⟨gg,0,none⟩) ((f a).length+1) cap) (f (a+1))by rw[S.o];exact A.o);go_wp2_with fail;go_round
     case rel=>exact⟨a+1,by omega,by go_num,R3⟩
     case measure=>simp[intOf];omega
   ·have q2:(p.kd == 2)=false:=(by rw[ag];exact q);have D:=aA (show pB=if p.kd=4 then cB else [] by rw[C.o,ac q]);clear q y3;by_cases l:p.kd=4
    ·have q4:(p.kd == 4)=true:=(by rw[co];exact l);have g:pB=cB:=(by rw[D.o,ae l]);rw[g] at B Z;have S:=aA B;clear l g B;go_wp2_with fail;generalize wr.alloc (aW p)=s at *;generalize wr.heap.size=y at *;refine(e8.o s (Kt.refl _ _)).mono ?_;rintro e w7 ⟨u,rfl,hu⟩;have G7:=aA (GS.keep GA.o hu.kp);obtain⟨v8,w8,i,A,-⟩:=GB.pushL G7.o hu.own (by have:=a0.o;omega) (by have:=Z.o;omega);rw[<-S.o] at A;have i:=aA i;have A:=aA A;obtain⟨ua,uc,b6⟩:=mQ hu.own;subst b6;obtain⟨f8,f7,b7⟩:=mQ A.o.own;subst b7;clear hu d0 d1 d2 d3 d4 d5 d6 d7 d8 d9 L;go_wp2_with (at_builtin;refine Lib.wpList_append_run _ rfl _ _ _ _ rfl _ _ rfl rfl _ _ (i.o _) ?_)
     go_round
     case rel=>exact⟨a+1,by omega,by go_num,A⟩
     case measure=>simp[intOf];omega
    ·have q4:(p.kd == 4)=false:=(by rw[ag];exact l);have g:pB=[]:=(by rw[D.o,ac l]);rw[g,List.append_nil] at B;have S:=aA B;have R3:=aA (show GB w1 (wr.alloc (aW p)) (.slice va (f a).length vc) (f (a+1))by rw[S.o];exact GA.o);clear l g B;go_wp2_with fail;go_round
     case rel=>exact⟨a+1,by omega,by go_num,R3⟩
     case measure=>simp[intOf];omega
  ·obtain rfl:a=n:=(by omega);have b3:¬(a:Int)<a:=(by omega);subst b0;go_wp2_with fail;go_ret;refine⟨_,rfl,?_⟩;rw[E.o,<-HN.o];refine⟨F.o.own,fun g' a8 e=>?_,nT K1.o F.o.kp⟩;exact an K1.o.size (F.o.new g' a8 e)
end Go.Proofs.YtfmgnljlkdmndaaGreatDoor.W
