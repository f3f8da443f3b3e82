import Derived.Test.YtkfmheelhinjdaaGreatDoorXg
import Derived.Test.YtkfmheelhinjdaaGreatDoorXv
set_option maxRecDepth 1000000
set_option maxHeartbeats 80000000
namespace Go.Proofs.YtkfmheelhinjdaaGreatDoor.M
open _root_.Go.Proofs.Tryz
open Go.RowKit Go.Shelf
set_option linter.unusedVariables false
def IsCell(bS n x:Nat):Prop:=1<=bS/\bS+n<=9223372036854775808/\bS<=x/\x+16<=bS+n/\(x-bS)%16=0
theorem IsCell.inn{bS n x:Nat}(h:IsCell bS n x):In bS n x 16:=by unfold IsCell at h;unfold In;omega
theorem IsCell.lt{bS n x:Nat}(h:IsCell bS n x):x<18446744073709551616:=by unfold IsCell at h;omega
theorem IsCell.ne0{bS n x:Nat}(h:IsCell bS n x):x≠0:=by unfold IsCell at h;omega
theorem word_far(f:Nat->Nat)(o v o':Nat)(h:o+8<=o'\/o'+8<=o):word (upd f o 8 (byteOf v)) o'=word f o':=by
 unfold word;exact wordTo_congr _ _ 8 (fun i hi=>LQ _ _ _ _ _ (by omega))
theorem qO{bS n:Nat}(f:Nat->Nat)(x y v:Nat)(hx:IsCell bS n x)(hy:IsCell bS n y)(hv:v<18446744073709551616):nx bS (dO bS f y v) x=if x=y then v else nx bS f x:=by
 unfold nx dO;unfold IsCell at hx hy;by_cases e:x=y
 ·rw[if_pos e,e];exact word_upd f _ v hv
 ·rw[if_neg e];exact word_far f _ v _ (by omega)
theorem qN{bS n:Nat}(f:Nat->Nat)(x y v:Nat)(hx:IsCell bS n x)(hy:IsCell bS n y):pv bS (dO bS f y v) x=pv bS f x:=by
 unfold pv dO;unfold IsCell at hx hy;exact word_far f _ v _ (by omega)
theorem oY{bS n:Nat}(f:Nat->Nat)(x y v:Nat)(hx:IsCell bS n x)(hy:IsCell bS n y):nx bS (dO bS f (y+8) v) x=nx bS f x:=by
 unfold nx dO;unfold IsCell at hx hy;exact word_far f _ v _ (by omega)
theorem oX{bS n:Nat}(f:Nat->Nat)(x y v:Nat)(hx:IsCell bS n x)(hy:IsCell bS n y)(hv:v<18446744073709551616):pv bS (dO bS f (y+8) v) x=if x=y then v else pv bS f x:=by
 unfold pv dO;unfold IsCell at hx hy;by_cases e:x=y
 ·rw[if_pos e,e];exact word_upd f _ v hv
 ·rw[if_neg e];exact word_far f _ v _ (by omega)
structure Chn(bS n:Nat)(f:Nat->Nat)(hd:Nat)(xs:List Nat):Prop where
 cell:∀ x∈xs,IsCell bS n x
 nodup:xs.Nodup
 head:hd=xs.getD 0 0
 nxt:∀ i,i<xs.length->nx bS f (xs.getD i 0)=xs.getD (i+1) 0
 prv:∀ i,i<xs.length->pv bS f (xs.getD i 0)=if i=0 then 0 else xs.getD (i-1) 0
theorem lP{xs:List Nat}{i:Nat}(h:i<xs.length):xs.getD i 0∈xs:=by
 rw[List.getD_eq_getElem?_getD,List.getElem?_eq_getElem h];exact List.getElem_mem h
theorem zV{xs:List Nat}{i:Nat}(h:xs.length<=i):xs.getD i 0=0:=by
 rw[List.getD_eq_getElem?_getD,List.getElem?_eq_none h];rfl
theorem nQ{xs:List Nat}(hn:xs.Nodup){i j:Nat}(hi:i<xs.length)(hj:j<xs.length)(h:xs.getD i 0=xs.getD j 0):i=j:=by
 rw[List.getD_eq_getElem?_getD,List.getElem?_eq_getElem hi,List.getD_eq_getElem?_getD,List.getElem?_eq_getElem hj] at h;have hp:=List.pairwise_iff_getElem.1 hn;rcases Nat.lt_trichotomy i j with e|e|e
 ·exact absurd h (hp i j hi hj e)
 ·exact e
 ·exact absurd h.symm (hp j i hj hi e)
theorem mem_getD{xs:List Nat}{p:Nat}(h:p∈xs):∃ j,j<xs.length/\xs.getD j 0=p:=by
 obtain⟨j,hj,e⟩:=List.mem_iff_getElem.1 h;exact⟨j,hj,by rw[List.getD_eq_getElem?_getD,List.getElem?_eq_getElem hj];exact e⟩
theorem Chn.cellD{bS n f hd xs}(h:Chn bS n f hd xs){i:Nat}(hi:i<xs.length):IsCell bS n (xs.getD i 0):=h.cell _ (lP hi)
theorem Chn.lt{bS n f hd xs}(h:Chn bS n f hd xs)(i:Nat):xs.getD i 0<18446744073709551616:=by
 rcases Nat.lt_or_ge i xs.length with hi|hi
 ·exact(h.cellD hi).lt
 ·rw[zV hi];decide
theorem Chn.zero{bS n f hd xs}(h:Chn bS n f hd xs):hd=0↔xs=[]:=by
 constructor
 ·intro e
  cases xs with
  | nil=>rfl
  | cons x r=>exact absurd (h.head.symm.trans e) (h.cell x (by simp)).ne0
 ·rintro rfl;exact h.head
theorem Chn.nil(bS n:Nat)(f:Nat->Nat):Chn bS n f 0 []:=⟨fun _ h=>(by cases h),List.nodup_nil,rfl,fun _ h=>(by cases h),fun _ h=>(by cases h)⟩
theorem Chn.congr{bS n f f' hd xs}(h:Chn bS n f hd xs)(hf:∀ x∈xs,nx bS f' x=nx bS f x/\pv bS f' x=pv bS f x):Chn bS n f' hd xs:=
 ⟨h.cell,h.nodup,h.head,fun i hi=>(hf _ (lP hi)).1.trans (h.nxt i hi),fun i hi=>(hf _ (lP hi)).2.trans (h.prv i hi)⟩
def Same(bS n:Nat)(f f':Nat->Nat)(xs:List Nat):Prop:=∀ x,IsCell bS n x->x ∉ xs->nx bS f' x=nx bS f x/\pv bS f' x=pv bS f x
theorem Chn.push{bS n f hd xs}(h:Chn bS n f hd xs)(p:Nat)(hp:IsCell bS n p)(hm:p ∉ xs):
  (pushR bS n f hd p).2.2=0/\Chn bS n (pushR bS n f hd p).1 (pushR bS n f hd p).2.1 (p :: xs)/\Same bS n f (pushR bS n f hd p).1 (p :: xs):=by
 have hcame:fV bS n f hd 0=true:=by
  unfold fV;apply decide_eq_true
  cases xs with
  | nil=>exact .inl h.head
  | cons x r=>
   refine .inr ⟨?_,?_⟩
   ·rw[h.head];exact(h.cell x (by simp)).inn
   ·have:=h.prv 0 (by simp);rw[h.head];simpa using this
 have he:pushR bS n f hd p=(jJ bS f hd p,p,0):=by unfold pushR;rw[if_pos hp.inn,if_pos hcame]
 rw[he];refine⟨rfl,?_⟩;have hdl:hd<18446744073709551616:=by rw[h.head];exact h.lt 0
 have N:∀ x,IsCell bS n x->nx bS (jJ bS f hd p) x=if x=p then hd else nx bS f x:=by
  intro x hx;unfold jJ;split
  ·rw[oY _ _ _ _ hx hp,qO _ _ _ _ hx hp hdl]
  ·next h0=>
   have hh:IsCell bS n hd:=by
    cases xs with
    | nil=>exact absurd h.head h0
    | cons y r=>rw[h.head];exact h.cell y (by simp)
   rw[oY _ _ _ _ hx hh,oY _ _ _ _ hx hp,qO _ _ _ _ hx hp hdl]
 have V:∀ x,IsCell bS n x->pv bS (jJ bS f hd p) x=if x=hd/\hd≠0 then p else if x=p then 0 else pv bS f x:=by
  intro x hx;unfold jJ;split
  ·next h0=>rw[if_neg (by simp[h0]),oX _ _ _ _ hx hp (by decide),qN _ _ _ _ hx hp]
  ·next h0=>
   have hh:IsCell bS n hd:=by
    cases xs with
    | nil=>exact absurd h.head h0
    | cons y r=>rw[h.head];exact h.cell y (by simp)
   rw[oX _ _ _ _ hx hh hp.lt,oX _ _ _ _ hx hp (by decide),qN _ _ _ _ hx hp];by_cases e:x=hd
   ·simp[e,h0]
   ·simp[e]
 have hph:p≠hd:=by
  intro e
  cases xs with
  | nil=>rw[h.head] at e;exact hp.ne0 e
  | cons y r=>exact hm (by rw[e,h.head];simp)
 refine⟨⟨?_,?_,rfl,?_,?_⟩,?_⟩
 ·intro x hx;rcases List.mem_cons.1 hx with rfl|hx
  ·exact hp
  ·exact h.cell x hx
 ·exact List.nodup_cons.2 ⟨hm,h.nodup⟩
 ·intro i hi
  cases i with
  | zero=>
   show nx bS _ p=xs.getD 0 0
   rw[N p hp,if_pos rfl,h.head]
  | succ i=>
   have hi':i<xs.length:=(by simpa using hi);show nx bS _ (xs.getD i 0)=xs.getD (i+1) 0
   rw[N _ (h.cellD hi'),if_neg (show ¬xs.getD i 0=p from fun e=>hm (e▸lP hi')),h.nxt i hi']
 ·intro i hi
  cases i with
  | zero=>
   show pv bS _ p=_
   rw[V p hp,if_neg (by simp[hph]),if_pos rfl];rfl
  | succ i=>
   have hi':i<xs.length:=(by simpa using hi);show pv bS _ (xs.getD i 0)=_
   rw[V _ (h.cellD hi')]
   cases i with
   | zero=>
    have h0:hd≠0:=(by rw[h.head];exact(h.cellD hi').ne0);rw[if_pos ⟨h.head.symm,h0⟩];rfl
   | succ i=>
    rw[if_neg,if_neg (show ¬xs.getD (i+1) 0=p from fun e=>hm (e▸lP hi')),h.prv _ hi']
    ·rfl
    ·rintro ⟨e,_⟩;rw[h.head] at e;have:=nQ h.nodup hi' (by omega) e;omega
 ·intro x hx hn;have h1:x≠p:=fun e=>hn (by simp[e])
  have h2:¬(x=hd/\hd≠0):=by
   rintro ⟨e,h0⟩
   cases xs with
   | nil=>exact h0 h.head
   | cons y r=>exact hn (by rw[e,h.head];simp)
  rw[N x hx,V x hx,if_neg h1,if_neg h2,if_neg h1];exact⟨rfl,rfl⟩
def dropL(xs:List Nat)(p:Nat):List Nat:=xs.filter fun x=>decide (x≠p)
theorem CG:∀ (xs:List Nat) (j:Nat),xs.Nodup->j<xs.length->dropL xs (xs.getD j 0)=xs.eraseIdx j:=by
 intro xs;induction xs with
 | nil=>intro j _ h;simp at h
 | cons y r ih=>
  intro j hn hj;have hy:=(List.nodup_cons.1 hn).1
  cases j with
  | zero=>
   have h1:dropL r y=r:=List.filter_eq_self.2 (fun x hx=>by simp;intro e;exact hy (e▸hx));show dropL (y :: r) y=r
   unfold dropL at h1 ⊢;rw[List.filter_cons_of_neg (by simp)];exact h1
  | succ j=>
   have hj':j<r.length:=(by simpa using hj);have h2:=ih j (List.nodup_cons.1 hn).2 hj';have hne:y≠r.getD j 0:=fun e=>hy (e▸lP hj')
   show dropL (y :: r) (r.getD j 0)=y :: r.eraseIdx j
   unfold dropL at h2 ⊢;rw[List.filter_cons_of_pos (by simpa using hne),h2]
theorem YU{xs:List Nat}(hn:xs.Nodup){j:Nat}(hj:j<xs.length)(i:Nat):(dropL xs (xs.getD j 0)).getD i 0=if i<j then xs.getD i 0 else xs.getD (i+1) 0:=by
 rw[CG xs j hn hj,List.getD_eq_getElem?_getD,List.getElem?_eraseIdx];split
 ·rw[List.getD_eq_getElem?_getD]
 ·rw[List.getD_eq_getElem?_getD]
theorem zeR{xs:List Nat}(hn:xs.Nodup){j:Nat}(hj:j<xs.length):(dropL xs (xs.getD j 0)).length+1=xs.length:=by
 rw[CG xs j hn hj,List.length_eraseIdx_of_lt hj];omega
theorem XX{xs:List Nat}{p x:Nat}(h:x∈dropL xs p):x∈xs:=(List.mem_filter.1 h).1
theorem Chn.remove{bS n f hd xs}(h:Chn bS n f hd xs)(j:Nat)(hj:j<xs.length):
  (removeR bS n f hd (xs.getD j 0)).2.2=0/\Chn bS n (removeR bS n f hd (xs.getD j 0)).1 (removeR bS n f hd (xs.getD j 0)).2.1 (dropL xs (xs.getD j 0))/\Same bS n f (removeR bS n f hd (xs.getD j 0)).1 xs:=by
 obtain⟨p,hpe⟩:=xe (xs.getD j 0);have hp:IsCell bS n p:=by rw[hpe];exact h.cellD hj
 obtain⟨q,hq⟩:=xe (pv bS f p);obtain⟨m,hm⟩:=xe (nx bS f p);have hq1:q=if j=0 then 0 else xs.getD (j-1) 0:=by rw[hq,hpe];exact h.prv j hj
 have hm1:m=xs.getD (j+1) 0:=by rw[hm,hpe];exact h.nxt j hj
 have hq0:q=0↔j=0:=by
  rw[hq1];by_cases e:j=0
  ·simp[e]
  ·rw[if_neg e];exact⟨fun h0=>absurd h0 (h.cellD (by omega)).ne0,fun h0=>absurd h0 e⟩
 have hm0:m=0↔j+1=xs.length:=by
  rw[hm1];rcases Nat.lt_or_ge (j+1) xs.length with e|e
  ·exact⟨fun h0=>absurd h0 (h.cellD e).ne0,fun h0=>by omega⟩
  ·exact⟨fun _=>by omega,fun _=>zV e⟩
 have hqc:q≠0->IsCell bS n q:=fun h0=>by
  have:¬j=0:=fun e=>h0 (hq0.2 e)
  rw[hq1,if_neg this];exact h.cellD (by omega)
 have hmc:m≠0->IsCell bS n m:=fun h0=>by
  have:¬j+1=xs.length:=fun e=>h0 (hm0.2 e)
  rw[hm1];exact h.cellD (by omega)
 have hqlt:q<18446744073709551616:=by
  by_cases e:q=0
  ·rw[e];decide
  ·exact(hqc e).lt
 have hmlt:m<18446744073709551616:=by
  by_cases e:m=0
  ·rw[e];decide
  ·exact(hmc e).lt
 have hph:p=hd↔j=0:=by
  rw[hpe,h.head];exact⟨fun e=>nQ h.nodup hj (by omega) e,fun e=>by rw[e]⟩
 have hlead:gQ bS n f hd q p=true:=by
  unfold gQ;by_cases e:j=0
  ·rw[if_pos (.inl (hq0.2 e))];exact decide_eq_true ⟨hq0.2 e,hph.2 e⟩
  ·have h0:q≠0:=fun e'=>e (hq0.1 e')
   rw[if_neg (by rintro (e'|e');exact h0 e';exact e (hph.1 e'))];refine decide_eq_true ⟨(hqc h0).inn,?_⟩;rw[hq1,if_neg e,h.nxt (j-1) (by omega),hpe];congr 1
   omega
 have hcame:fV bS n f m p=true:=by
  unfold fV;apply decide_eq_true
  by_cases e:m=0
  ·exact .inl e
  ·refine .inr ⟨(hmc e).inn,?_⟩;have:¬j+1=xs.length:=fun e'=>e (hm0.2 e')
   rw[hm1,h.prv (j+1) (by omega),if_neg (by omega),hpe];congr 1
 have he:removeR bS n f hd p=(jB bS f p,(if q=0 then m else hd),0):=by
  unfold removeR;rw[if_pos hp.inn,<-hq,<-hm,hlead,hcame];rfl
 have hFe:jB bS f p=(let f1:=if q=0 then f else dO bS f q m;if m=0 then f1 else dO bS f1 (m+8) q):=by
  unfold jB;rw[<-hq,<-hm]
 rw[<-hpe,he];refine⟨rfl,?_⟩;have N:∀ x,IsCell bS n x->nx bS (jB bS f p) x=if q≠0/\x=q then m else nx bS f x:=by
  intro x hx;rw[hFe];by_cases e1:q=0
  ·by_cases e2:m=0
   ·simp[e1,e2]
   ·simp only[e1,e2,if_true,if_false];rw[oY _ _ _ _ hx (hmc e2)];simp
  ·by_cases e2:m=0
   ·simp only[e1,e2,if_true,if_false];rw[qO _ _ _ _ hx (hqc e1) (by decide)];simp[e1]
   ·simp only[e1,e2,if_false];rw[oY _ _ _ _ hx (hmc e2),qO _ _ _ _ hx (hqc e1) hmlt];simp[e1]
 have V:∀ x,IsCell bS n x->pv bS (jB bS f p) x=if m≠0/\x=m then q else pv bS f x:=by
  intro x hx;rw[hFe];by_cases e1:q=0
  ·by_cases e2:m=0
   ·simp[e1,e2]
   ·simp only[e1,e2,if_true,if_false];rw[oX _ _ _ _ hx (hmc e2) (by decide)];simp[e2]
  ·by_cases e2:m=0
   ·simp only[e1,e2,if_true,if_false];rw[qN _ _ _ _ hx (hqc e1)];simp
   ·simp only[e1,e2,if_false];rw[oX _ _ _ _ hx (hmc e2) hqlt,qN _ _ _ _ hx (hqc e1)];simp[e2]
 have hlen:=zeR h.nodup hj;have hget:=YU h.nodup hj;rw[<-hpe] at hlen hget;refine⟨⟨fun x hx=>h.cell x (XX hx),h.nodup.filter _,?_,?_,?_⟩,?_⟩
 ·show(if q=0 then m else hd)=_
  rw[hget 0];by_cases e:j=0
  ·rw[if_pos (hq0.2 e),if_neg (by omega),hm1,e]
  ·rw[if_neg (fun e'=>e (hq0.1 e')),if_pos (by omega),h.head]
 ·intro i hi;show nx bS (jB bS f p) _=_
  rw[hget i,hget (i+1)];by_cases e:i<j
  ·rw[if_pos e,N _ (h.cellD (by omega))];have hj0:¬j=0:=(by omega);by_cases e2:i+1=j
   ·rw[if_pos ⟨fun e'=>hj0 (hq0.1 e'),by rw[hq1,if_neg hj0];congr 1;omega⟩,if_neg (by omega),hm1];congr 1
    omega
   ·rw[if_neg,if_pos (by omega),h.nxt i (by omega)];rintro ⟨_,e3⟩;rw[hq1,if_neg hj0] at e3;have:=nQ h.nodup (by omega) (by omega) e3;omega
  ·rw[if_neg e,N _ (h.cellD (by omega)),if_neg,if_neg (by omega),h.nxt (i+1) (by omega)];rintro ⟨e4,e3⟩;have hj0:¬j=0:=fun e'=>e4 (hq0.2 e')
   rw[hq1,if_neg hj0] at e3;have:=nQ h.nodup (by omega) (by omega) e3;omega
 ·intro i hi;show pv bS (jB bS f p) _=_
  rw[hget i];by_cases e:i<j
  ·rw[if_pos e,V _ (h.cellD (by omega)),if_neg,h.prv i (by omega)]
   ·by_cases e0:i=0
    ·rw[if_pos e0,if_pos e0]
    ·rw[if_neg e0,if_neg e0,hget (i-1),if_pos (by omega)]
   ·rintro ⟨e4,e3⟩;rw[hm1] at e3;have hj1:¬j+1=xs.length:=fun e'=>e4 (hm0.2 e')
    have:=nQ h.nodup (by omega) (by omega) e3;omega
  ·rw[if_neg e,V _ (h.cellD (by omega))];by_cases e2:i=j
   ·rw[if_pos ⟨fun e'=>by have:=hm0.1 e';omega,by rw[hm1,e2]⟩,hq1];by_cases e0:j=0
    ·rw[if_pos e0,if_pos (by omega)]
    ·rw[if_neg e0,if_neg (by omega),hget (i-1),if_pos (by omega),e2]
   ·rw[if_neg,h.prv (i+1) (by omega),if_neg (by omega),if_neg (by omega),hget (i-1),if_neg (by omega)]
    ·congr 1
     omega
    ·rintro ⟨e4,e3⟩;rw[hm1] at e3;have hj1:¬j+1=xs.length:=fun e'=>e4 (hm0.2 e')
     have:=nQ h.nodup (by omega) (by omega) e3;omega
 ·intro x hx hn;show nx bS (jB bS f p) x=_/\pv bS (jB bS f p) x=_
  rw[N x hx,V x hx,if_neg,if_neg]
  ·exact⟨rfl,rfl⟩
  ·rintro ⟨e4,e3⟩;have hj1:¬j+1=xs.length:=fun e'=>e4 (hm0.2 e')
   exact hn (by rw[e3,hm1];exact lP (by omega))
  ·rintro ⟨e4,e3⟩;have hj0:¬j=0:=fun e'=>e4 (hq0.2 e')
   exact hn (by rw[e3,hq1,if_neg hj0];exact lP (by omega))
end Go.Proofs.YtkfmheelhinjdaaGreatDoor.M
namespace Go.Proofs.YtkfmheelhinjdaaGreatDoor
open _root_.Go.Proofs.Tryz
open Go.RowKit
set_option linter.unusedVariables false
theorem wB(a b:Nat):(a ^^^ b)%2=(a+b)%2:=by
 have h:=Nat.xor_mod_two_pow (a:=a) (b:=b) (n:=1);rw[Nat.pow_one] at h;rw[h];rcases Nat.mod_two_eq_zero_or_one a with ha|ha <;> rcases Nat.mod_two_eq_zero_or_one b with hb|hb <;> rw[ha,hb]
 ·show 0=_;omega
 ·show 1=_;omega
 ·show 1=_;omega
 ·show 0=_;omega
theorem sH:∀ (r x:Nat),x/2 ^ r%2=0->x ^^^ 2 ^ r=x+2 ^ r
 | 0,x,h=>by
  have h0:x%2=0:=by simpa using h
  have h1:=Nat.xor_div_two (a:=x) (b:=1);have h2:=wB x 1;rw[show 1/2=0 from rfl,Nat.xor_zero] at h1;rw[Nat.pow_zero];omega
 | r+1,x,h=>by
  have hd:x/2/2 ^ r%2=0:=by rw[Nat.div_div_eq_div_mul,<-Nat.pow_succ'];exact h
  have ih:=sH r (x/2) hd;have h1:=Nat.xor_div_two (a:=x) (b:=2 ^ (r+1));have h2:=wB x (2 ^ (r+1));have h3 : 2 ^ (r+1)=2*2 ^ r:=by rw[Nat.pow_succ,Nat.mul_comm]
  have h4 : 2 ^ (r+1)/2=2 ^ r:=by rw[h3];omega
  rw[h4,ih] at h1;generalize x ^^^ 2 ^ (r+1)=z at *;generalize 2 ^ r=y at *;omega
theorem PY(r x:Nat)(h:x/2 ^ r%2=1) : 2 ^ r<=x/\x ^^^ 2 ^ r=x-2 ^ r:=by
 have hb:(x ^^^ 2 ^ r)/2 ^ r%2=0:=by
  have h1:(x ^^^ 2 ^ r).testBit r=!x.testBit r:=by
   rw[Nat.testBit_xor,Nat.testBit_two_pow];simp
  have h2:x.testBit r=true:=by rw[Nat.testBit_eq_decide_div_mod_eq,h];rfl
  rw[h2,Nat.testBit_eq_decide_div_mod_eq] at h1;have:¬(x ^^^ 2 ^ r)/2 ^ r%2=1:=by simpa using h1
  omega
 have h2:=sH r (x ^^^ 2 ^ r) hb;rw[Nat.xor_assoc,Nat.xor_self,Nat.xor_zero] at h2;omega
end Go.Proofs.YtkfmheelhinjdaaGreatDoor
namespace Go.Proofs.YtkfmheelhinjdaaGreatDoor.W
open _root_.Go.Proofs.Tryz
open Go.RowKit
set_option linter.unusedVariables false
theorem ZK(p:Pg)(c:Nat)(hc:p.cl=(c:Int))(h7:c<=7)(hp:PgIn p)(w:World):
  Calls prog 292 #[fH p] w (lY w (celN9 c) fun i=>aF (wsP p) i):=by
 have hcb:=mK c h7;have HC:=aA (fun W=>tV p c hc h7 W);have B0:=aA (show(w.alloc (aV p)).heap[w.heap.size]?=some (aV p)from nH _ _);have K0:=aA (show Kt nO w (w.alloc (aV p))from(Kt.refl _ _).alloc _);have HPI:=aA hp;have HOF:=aA (fun (W:World) (h:W.heap[w.heap.size]?=some (aV p))=>qJ (.slice (some ⟨w.heap.size,7,none⟩) 4 4) (wsP p) ((celN9 c:Nat):Int) (by omega) (by omega) W (uF h hp));have hfit:dF ((celN9 c:Nat):Int)=celN9 c:=by unfold dF;split <;> (try split) <;> omega
 rw[hfit] at HOF;have HBT:=aA (show ∀ i,i<celN9 c->aF (eY (wsP p) (celN9 c)) i=aF (wsP p) i from fun i hi=>zO _ _ _ (uF B0.out hp).1 hi);have GOAL:=aA (show ∀ W sb sc,Kt nO w W->SetAt W sb sc (celN9 c) (eY (wsP p) (celN9 c))->w.heap.size<=sb->w.heap.size<=sc->lY w (celN9 c) (fun i=>aF (wsP p) i) (.returned (.pointer (some ⟨sb,0,none⟩))) W from fun W sb sc h1 h2 h3 h4=>⟨sb,sc,_,rfl,h2,h3,h4,HBT.out,h1⟩);generalize celN9 c=n at *;clear hc hp hfit;go_enter func292,ntmps292;go_wp2_with fail;have SZ:=aA (show w.heap.size<(w.alloc (aV p)).heap.size by simp);generalize w.alloc (aV p)=W1 at *;have GEQ:=aA (Nat.le_refl w.heap.size);obtain⟨g,hg⟩:=xe (w.heap.size);rw[<-hg] at B0 HOF SZ;have HG:=aA hg;simp only[<-hg];clear hg;obtain⟨y0,y1,y2,y3,y4,y5,y6,y7,y8,y9,y10⟩:=eL (show W1.drew.heap[g]?=some (aV p)from B0.out);have HC1:=aA (HC.out W1.drew);have BD:=aA (show W1.drew.heap[g]?=some (aV p)from B0.out);have SZD:=aA (show g<W1.drew.heap.size from SZ.out);go_cut [2] (fun v W=>∃ sb sc:Nat,v=.pointer (some ⟨sb,0,none⟩)/\Hid (SetAt W sb sc n (eY (wsP p) n)/\g<=sb/\g<=sc/\Kt nO W1 W))
 case first=>
  go_region_held3 (fun w'=>w'.cell? ⟨g,0,none⟩=some (.int .i64 p.kd)/\w'.cell? ⟨g,1,none⟩=some (.int .i64 p.od)/\w'.cell? ⟨g,2,none⟩=some (.int .i64 p.cl)/\w'.cell? ⟨g,3,none⟩=some (.int .i64 p.lv)/\w'.cell? ⟨g,4,none⟩=some (.int .i64 p.nx)/\w'.cell? ⟨g,5,none⟩=some (.int .i64 p.pv)/\w'.cell? ⟨g,6,none⟩=some (.int .i64 p.fs)/\w'.cell? ⟨g,7,none⟩=some (.int .u64 p.b0)/\w'.cell? ⟨g,8,none⟩=some (.int .u64 p.b1)/\w'.cell? ⟨g,9,none⟩=some (.int .u64 p.b2)/\w'.cell? ⟨g,10,none⟩=some (.int .u64 p.b3)) (first|with_reducible exact⟨y0,y1,y2,y3,y4,y5,y6,y7,y8,y9,y10⟩|with_reducible exact Z2|with_reducible exact Z3) (first|(go_at_call 220;with_reducible refine HC1.out.mono ?_;rintro e w2 ⟨rfl,hk2⟩;have B2:=aA ((hk2.block _ (lH BD.out) (fun x=>x)).trans BD.out);have Z2:=eL B2.out;have K2:=aA hk2;have HO2:=aA (HOF.out w2 B2.out);clear hk2)|(go_at_call 217;with_reducible refine HO2.out.mono ?_;rintro e w3 ⟨rfl,h3⟩;have H3:=aA h3;have Z3:=eL ((h3.2.1.block _ (lH B2.out) (fun x=>x)).trans B2.out);clear h3)|fail)
  all_goals
   have S3:=aA (show SetAt w3 (w2.heap.size+1) w2.heap.size n (eY (wsP p) n)/\g<=w2.heap.size+1/\g<=w2.heap.size/\Kt nO W1 w3 from⟨H3.out.1,by have h1:=K2.out.size;have h2:=SZD.out;omega,by have h1:=K2.out.size;have h2:=SZD.out;omega,nT ((Kt.refl nO W1).drew) (nT K2.out H3.out.2.1)⟩);go_wp2_with fail;go_meet
   exact⟨_,_,rfl,S3⟩
 case rest=>
 obtain⟨sb,sc,rfl,hH⟩:=hcut;go_wp2_with fail;go_ret;exact GOAL.out _ sb sc (nT K0.out hH.out.2.2.2) hH.out.1 (by have:=HG.out;have:=hH.out.2.1;omega) (by have:=HG.out;have:=hH.out.2.2.1;omega)
theorem AF{n:Nat}{ws:List Nat}(hl:ws.length=(n+63)/64)(i:Nat)(hi:i<n)(j:Nat):aF (fO n ws (i:Int)) j=if j=i then !aF ws i else aF ws j:=by
 have hr:aC n (i:Int)=true:=by unfold aC;exact decide_eq_true (by omega)
 unfold fO;rw[if_pos hr,Int.toNat_natCast,pJ ws i j (by omega)]
theorem ZN(p:Pg)(c:Nat)(hc:p.cl=(c:Int))(h7:c<=7)(hp:PgIn p)(w:World):
  Calls prog 270 #[fH p] w (lY w (celN9 c) fun i=>!aF (wsP p) i):=by
 have hcb:=mK c h7;have HL:=aA (fun W=>ZK p c hc h7 hp W);have K0:=aA (show Kt nO w (w.alloc (aV p))from(Kt.refl _ _).alloc _);have GOAL:=aA (show ∀ W sb sc ws,Kt nO w W->SetAt W sb sc (celN9 c) ws->w.heap.size<=sb->w.heap.size<=sc->(∀ i,i<celN9 c->aF ws i=!aF (wsP p) i)->lY w (celN9 c) (fun i=>!aF (wsP p) i) (.returned (.pointer (some ⟨sb,0,none⟩))) W from fun W sb sc ws h1 h2 h3 h4 h5=>⟨sb,sc,_,rfl,h2,h3,h4,h5,h1⟩);generalize celN9 c=n at *;clear hc hp;go_enter func270,ntmps270;go_wp2_with fail;generalize w.alloc (aV p)=W1 at *;refine(HL.out W1).mono ?_;rintro e w2 ⟨sb,sc,ws,rfl,hst,hg1,hg2,hbt,hk2⟩;have K2:=aA (nT K0.out hk2);have G:=aA (show w.heap.size<=sb/\w.heap.size<=sc from⟨Nat.le_trans K0.out.size hg1,Nat.le_trans K0.out.size hg2⟩);have ST:=aA hst;have BT:=aA hbt;have HLN:=aA (GQ sb sc n ws w2 hst);clear hst hg1 hg2 hbt hk2;go_wp2_with fail;refine HLN.out.mono ?_;rintro e w3 ⟨rfl,rfl⟩;go_wp2_with fail;go_loopw [9] (fun i W=>∃ a:Nat,a<=n/\i=.int .i64 a/\Hid (Kt nO w W/\∃ ws,SetAt W sb sc n ws/\(∀ j,j<a->aF ws j=!aF (wsP p) j)/\∀ j,a<=j->j<n->aF ws j=aF (wsP p) j)) (fun i _=>n-(intOf i).toNat)
 case atStart=>exact⟨0,Nat.zero_le _,rfl,aA ⟨K2.out,ws,ST.out,fun j hj=>by omega,fun j _ hj=>BT.out j hj⟩⟩
 case round=>
  clear K2 ST BT HLN;obtain⟨a,ha,rfl,hR⟩:=hrel;obtain⟨hk,ws,hst,hb1,hb2⟩:=hR.out;by_cases hlt:a<n
  ·have hai:(a:Int)<n:=(by omega);have HF:=aA (uC sb sc n ws (a:Int) wr hst);have HK:=aA hk;have BB:=aA (show(∀ j,j<a->aF ws j=!aF (wsP p) j)/\∀ j,a<=j->j<n->aF ws j=aF (wsP p) j from⟨hb1,hb2⟩);have LN:=aA hst.len;clear hk hst hb1 hb2;go_wp2_with fail;refine HF.out.mono ?_;rintro e w4 ⟨rfl,h1,h2,h3⟩;have R2:=aA (show Kt nO w w4/\∃ ws,SetAt w4 sb sc n ws/\(∀ j,j<a+1->aF ws j=!aF (wsP p) j)/\∀ j,a+1<=j->j<n->aF ws j=aF (wsP p) j from⟨HK.out.trans h2 (fun _ _ x=>x) (fun x hx e=>by have:=G.out.2;omega),_,h1,fun j hj=>by
    rw[AF LN.out a hlt j];by_cases e:j=a
    ·rw[if_pos e,e,BB.out.2 a (Nat.le_refl _) hlt]
    ·rw[if_neg e];exact BB.out.1 j (by omega),fun j hj hj2=>by
    rw[AF LN.out a hlt j,if_neg (by omega)];exact BB.out.2 j (by omega) hj2⟩)
   clear h1 h2 h3;go_wp2_with fail;go_round
   case rel=>exact⟨a+1,by omega,by go_num,R2⟩
   case measure=>simp[intOf];omega
  ·obtain rfl:a=n:=(by omega);have hai:¬(a:Int)<a:=(by omega);go_wp2_with fail;go_ret;exact GOAL.out wr sb sc ws hk hst G.out.1 G.out.2 hb1
def nx9(I:Img)(g c i:Nat):Option Int:=
 if M.word I.mem (4096*g+i*(16*2 ^ c))=0 then some (-1)
 else if I.bS+g*4096<=M.word I.mem (4096*g+i*(16*2 ^ c))/\M.word I.mem (4096*g+i*(16*2 ^ c))-(I.bS+g*4096)<4096/\(M.word I.mem (4096*g+i*(16*2 ^ c))-(I.bS+g*4096))%(16*2 ^ c)=0
  then some (((M.word I.mem (4096*g+i*(16*2 ^ c))-(I.bS+g*4096))/(16*2 ^ c):Nat):Int) else none
def vG(g:Nat):Option Int->Ending
 | none=>bM (g:Int)
 | some q=>.returned (.int .i64 q)
theorem xO(c:Nat)(h:c<=7):celN9 c*(16*2 ^ c)=4096/\16<=16*2 ^ c/\16*2 ^ c<=2048:=by
 match c,h with
 | 0,_=>decide
 | 1,_=>decide
 | 2,_=>decide
 | 3,_=>decide
 | 4,_=>decide
 | 5,_=>decide
 | 6,_=>decide
 | 7,_=>decide
theorem zeM(b:Nat)(I:Img)(V:ImV)(k r:Nat)(hS:Sn9 I k r)(g c i:Nat)(hg:g<I.np)(hc:(I.pg g).cl=(c:Int))(h7:c<=7)(hi:i<celN9 c)(w:World)(hI:ImAt w b I V):
  Calls prog 271 #[.pointer (some ⟨b,0,none⟩),.int .i64 g,.int .i64 i] w fun e w'=>e=vG g (nx9 I g c i)/\Kt nO w w':=by
 obtain⟨hca,hs1,hs2⟩:=xO c h7;obtain⟨sz,hsz⟩:=xe (16*2 ^ c);have hnm:=hS.nm;have hbe:=hS.be;have hnp:=hS.np1;have him:i*sz+sz<=4096:=by
  rw[<-hca,<-hsz];have:(i+1)*sz<=celN9 c*sz:=Nat.mul_le_mul_right _ hi;rwa [Nat.add_mul,Nat.one_mul] at this
 rw[<-hsz] at hs1 hs2;obtain⟨fi,hfi⟩:=xe (I.bS+g*4096);have hfb:fi+4096<=9223372036854775808:=by omega
 obtain⟨m,hm⟩:=xe (i*sz);have HAD:=aA (fun (x:KW w)=>pO b I V g x.v (hI.keep x.k) (by omega));rw[<-hfi] at HAD;have HSZ:=aA (fun W=>ZQ (I.pg g) c hc h7 W);rw[<-hsz] at HSZ;have hq : 4096*g+m+8<=I.nm:=by rw[hm];omega
 have HW:=aA (fun (W:World) (hW:Kt nO w W)=>tO b I V (4096*g+m) W (hI.keep hW) hq hbe);have e1:((I.bS+(4096*g+m):Nat):Int)=(fi:Int)+(m:Int):=by rw[hfi];omega
 rw[e1] at HW;have hxl:=word_lt hI.d (4096*g+m) hq;have NX:nx9 I g c i=if M.word I.mem (4096*g+m)=0 then some (-1) else if fi<=M.word I.mem (4096*g+m)/\M.word I.mem (4096*g+m)-fi<4096/\(M.word I.mem (4096*g+m)-fi)%sz=0 then some (((M.word I.mem (4096*g+m)-fi)/sz:Nat):Int) else none:=by
  unfold nx9;rw[<-hsz,<-hm,<-hfi]
 obtain⟨EE,hEE⟩:=xe (vG g (nx9 I g c i));rw[<-hEE];rw[NX] at hEE;generalize M.word I.mem (4096*g+m)=x at *;have E0:=aA (show x=0->Ending.returned (.int .i64 (-1))=EE from fun h=>by rw[hEE,if_pos h];rfl);have E1:=aA (show ∀ q,x≠0->fi<=x->x-fi<4096->(x-fi)%sz=0->q=(x-fi)/sz->Ending.returned (.int .i64 q)=EE from fun q h0 h1 h2 h3 h4=>by rw[hEE,if_neg h0,if_pos ⟨h1,h2,h3⟩,h4];rfl);have E2:=aA (show x≠0->¬(fi<=x/\x-fi<4096/\(x-fi)%sz=0)->bM (g:Int)=EE from fun h0 h1=>by rw[hEE,if_neg h0,if_neg h1];rfl);have hmi:(i:Int)*(sz:Int)=m:=by rw[hm];simp
 have hml:m<=4096:=by omega
 have hsz0:¬(sz:Int)=0:=by omega
 have hi256:i<256:=Nat.lt_of_lt_of_le hi (mK c h7).2;obtain⟨-,⟨pa,pc,hp⟩,-,-,-,-,bp,-,-⟩:=hI.d.sl;obtain⟨c0,c1,c2,c3,c4,c5,c6,c7,c8⟩:=hI.all;rw[hp] at c5;obtain⟨bl,o,oc',hv',-,-⟩:=hI.page g hg;rw[hp] at hv';injection hv' with e3 e4 e5
 subst e3;obtain⟨d0,d1,d2,d3,d4,d5,d6,d7,d8,d9,d10⟩:=gV (hI.pageK hp g hg);obtain⟨n,hn⟩:=xe (I.np);rw[<-hn] at c5;have hgn:(g:Int)<n:=by omega
 have hgl:g<=1024:=by omega
 clear NX hEE hsz hm hfi e1 hq hca hc hI hp hn e4 e5 him hS hi hnm hbe;go_enter func271,ntmps271;go_wp2_with fail;refine cI (by kernel_rfl) (by kernel_rfl) ?_;repeat (go_big_quiet_step (first|(go_at_call 294;exact Calls.kept_of ((HAD.out _).mono fun _ _ ⟨h1,h2⟩=>⟨h1,h2▸Kt.refl _ _⟩))|(go_at_call 295;exact Calls.kept_of (HSZ.out _))))
 refine wpQuiet_nil ?_;intro y;clear c0 c1 c2 c3 c4 c5 c6 c7 c8 d0 d1 d2 d3 d4 d5 d6 d7 d8 d9 d10;go_wp2_with fail;refine(HW.out y.v y.k).mono ?_;rintro e w2 ⟨rfl,m2,rfl⟩;have KF:=aA (nT y.k ((Kt.refl nO y.v).drewN m2));generalize y.v.drewN m2=w2 at *;by_cases hx0:x=0
 ·have f0:((x:Int) == 0)=true:=by rw[beq_iff_eq];omega
  have E:=aA (E0.out hx0);clear hx0;go_wp2_with fail;go_ret;exact⟨E.out,KF.out⟩
 ·have f0:((x:Int) == 0)=false:=by rw[beq_eq_false_iff_ne];omega
  by_cases hlo:fi<=x
  ·obtain⟨d,hd⟩:=xe (x-fi);have hw:(x:Int)-(fi:Int)=d:=(by omega);have hdl:d<18446744073709551616:=(by omega);rw[<-hd] at E1 E2;by_cases h1:d<4096
   ·have f1:(d:Int)<4096:=(by omega);by_cases h2:d%sz=0
    ·have f2:((d:Int)%(sz:Int) == 0)=true:=(by rw[beq_iff_eq];omega);obtain⟨q,hq⟩:=xe (d/sz);have f3:(d:Int)/(sz:Int)=q:=(by rw[hq];simp);have hql:q<=4096:=(by rw[hq];exact Nat.le_trans (Nat.div_le_self _ _) (by omega));have E:=aA (E1.out q hx0 hlo h1 h2 hq);clear hx0 h2 hq hd;go_wp2_with fail;refine(cH _ _).mono ?_;rintro e w3 ⟨rfl,rfl⟩;go_wp2_with fail;go_ret;exact⟨E.out,KF.out⟩
    ·have f2:((d:Int)%(sz:Int) == 0)=false:=(by rw[beq_eq_false_iff_ne];omega);have E:=aA (E2.out hx0 (fun h=>h2 h.2.2));clear hx0 h2 hd;go_wp2_with fail;refine(dD _ _).mono ?_;rintro e w3 ⟨rfl,rfl⟩;exact⟨rfl,E.out,KF.out⟩
   ·have f1:¬(d:Int)<4096:=(by omega);have f1d:decide ((d:Int)<4096)=false:=decide_eq_false f1;have E:=aA (E2.out hx0 (fun h=>h1 h.2.1));clear hx0 hd;go_wp2_with fail;refine(dD _ _).mono ?_;rintro e w3 ⟨rfl,rfl⟩;exact⟨rfl,E.out,KF.out⟩
  ·obtain⟨d,hd⟩:=xe (18446744073709551616-(fi-x));have hw:IntKind.u64.wrap ((x:Int)-(fi:Int))=(d:Int):=(by rw[wrap_u64];omega);have f1:¬(d:Int)<4096:=(by omega);have f1':¬d<4096:=(by omega);have f1d:decide ((d:Int)<4096)=false:=decide_eq_false f1;have E:=aA (E2.out hx0 (fun h=>hlo h.1));have hxf:(x:Int)<fi:=(by omega);clear hd hx0;go_wp2_with fail;refine(dD _ _).mono ?_;rintro e w3 ⟨rfl,rfl⟩;exact⟨rfl,E.out,KF.out⟩
def prg9(nx:Nat->Option Int):Nat->List Nat->Int->Bool
 | 0,_,_=>false
 | n+1,l,p=>if p = -1 then l.isEmpty else if 0<=p/\p.toNat∈l then (match nx p.toNat with | none=>false | some q=>prg9 nx n (l.erase p.toNat) q) else false
theorem prg9_end{nx:Nat->Option Int}{l:List Nat} : prg9 nx (l.length+1) l (-1)=l.isEmpty:=by rw[prg9,if_pos rfl]
theorem JO{nx:Nat->Option Int}{l:List Nat}{p:Int}(hp:p ≠ -1)(h:¬(0<=p/\p.toNat∈l)):prg9 nx (l.length+1) l p=false:=by rw[prg9,if_neg hp,if_neg h]
theorem PH{nx:Nat->Option Int}{l:List Nat}{i:Nat}(h:i∈l)(hn:nx i=none):prg9 nx (l.length+1) l (i:Int)=false:=by
 rw[prg9,if_neg (by omega),if_pos ⟨by omega,by rw[Int.toNat_natCast];exact h⟩,Int.toNat_natCast,hn]
theorem prg9_yes{nx:Nat->Option Int}{l:List Nat}{i:Nat}{q:Int}(h:i∈l)(hn:nx i=some q):prg9 nx (l.length+1) l (i:Int)=prg9 nx ((l.erase i).length+1) (l.erase i) q:=by
 rw[prg9,if_neg (by omega),if_pos ⟨by omega,by rw[Int.toNat_natCast];exact h⟩,Int.toNat_natCast,hn,List.length_erase_of_mem h];have:l.length-1+1=l.length:=by
  have:=List.length_pos_of_mem h;omega
 rw[this]
def frL(p:Pg)(n:Nat):List Nat:=(List.range n).filter fun i=>!aF (wsP p) i
def ok9c(I:Img)(g c:Nat):Bool:=prg9 (nx9 I g c) ((frL (I.pg g) (celN9 c)).length+1) (frL (I.pg g) (celN9 c)) (I.pg g).fs
def ok9(I:Img)(g:Nat):Bool:=!decide ((I.pg g).kd=4) || ok9c I g (I.pg g).cl.toNat
structure L9(w W:World)(sb sc n:Nat)(ws:List Nat)(l:List Nat):Prop where
 st:SetAt W sb sc n ws
 ge:w.heap.size<=sc
 k:Kt nO w W
 nd:l.Nodup
 mem:∀ i,i<n->aF ws i=decide (i∈l)
 lt:∀ i,i∈l->i<n
theorem L9.keep{w W W':World}{sb sc n:Nat}{ws l:List Nat}(h:L9 w W sb sc n ws l)(hk:Kt nO W W'):L9 w W' sb sc n ws l:=
 ⟨h.st.kept hk (fun x=>x) (fun x=>x),h.ge,nT h.k hk,h.nd,h.mem,h.lt⟩
theorem L9.met{w W W':World}{sb sc n i:Nat}{ws l:List Nat}(h:L9 w W sb sc n ws l)(hk:Kt (fun x=>x=sc) W W')(hi:i∈l)(hs:SetAt W' sb sc n (bN n ws (i:Int) false)):L9 w W' sb sc n (bN n ws (i:Int) false) (l.erase i):=by
 refine⟨hs,h.ge,h.k.trans hk (fun _ _ x=>x) (fun x hx e=>by have:=h.ge;omega),h.nd.erase i,fun j hj=>?_,fun j hj=>h.lt j (List.mem_of_mem_erase hj)⟩;rw[rG h.st.len i (h.lt i hi) false j];by_cases e:j=i
 ·rw[if_pos e,e];exact(decide_eq_false (fun hm=>((h.nd.mem_erase_iff).1 hm).1 rfl)).symm
 ·rw[if_neg e,h.mem j hj,decide_eq_decide,h.nd.mem_erase_iff];exact⟨fun hm=>⟨e,hm⟩,fun hm=>hm.2⟩
theorem L9.ins{w W:World}{sb sc n:Nat}{ws l:List Nat}(h:L9 w W sb sc n ws l)(p:Int):cA n ws p=decide (0<=p/\p.toNat∈l):=by
 unfold cA aC;by_cases hp : 0<=p/\p<(n:Int)
 ·rw[decide_eq_true hp,Bool.true_and,h.mem p.toNat (by omega),decide_eq_decide];exact⟨fun hm=>⟨hp.1,hm⟩,fun hm=>hm.2⟩
 ·rw[decide_eq_false hp,Bool.false_and];refine(decide_eq_false fun hm=>hp ⟨hm.1,?_⟩).symm;have:=h.lt _ hm.2;omega
theorem L9.empty{w W:World}{sb sc n:Nat}{ws l:List Nat}(h:L9 w W sb sc n ws l):l.isEmpty=decide (aT ws=0):=by
 rw[Bool.eq_iff_iff,List.isEmpty_iff,decide_eq_true_eq,AN h.st];constructor
 ·intro e j hj;rw[h.mem j hj,e];rfl
 ·intro hz
  cases l with
  | nil=>rfl
  | cons x t=>
   exfalso
   have hx:=h.lt x List.mem_cons_self;have:=hz x hx;rw[h.mem x hx,decide_eq_true List.mem_cons_self] at this
   cases this
theorem zdp(b:Nat)(I:Img)(V:ImV)(k r:Nat)(hS:Sn9 I k r)(g c:Nat)(hg:g<I.np)(hc:(I.pg g).cl=(c:Int))(h7:c<=7)(w:World)(hI:ImAt w b I V):
  Calls prog 228 #[.pointer (some ⟨b,0,none⟩),.int .i64 g] w fun e w'=>e=bB (if ok9c I g c=true then none else some g)/\Kt nO w w':=by
 obtain⟨-,⟨pa,pc,hp⟩,-,-,-,-,bp,-,-⟩:=hI.d.sl;obtain⟨c0,c1,c2,c3,c4,c5,c6,c7,c8⟩:=hI.cells;rw[hp] at c5;obtain⟨bl,o,oc',hv',hpi,hpc⟩:=hI.page g hg;rw[hp] at hv';injection hv' with e1 e2 e3
 subst e1;obtain⟨EE,hEE⟩:=xe (bB (if ok9c I g c=true then none else some g));rw[<-hEE];have FB:=aA (show ok9c I g c=false->bM (g:Int)=EE from fun h=>by rw[hEE,if_neg (by rw[h];decide)];rfl);have FG:=aA (show ok9c I g c=true->Ending.returned (.tuple #[])=EE from fun h=>by rw[hEE,if_pos h];rfl);have OK:=aA (show prg9 (nx9 I g c) ((frL (I.pg g) (celN9 c)).length+1) (frL (I.pg g) (celN9 c)) (I.pg g).fs=ok9c I g c from rfl);generalize ok9c I g c=okv at *;have HI:=aA hI;have HFR:=aA (fun W=>ZN (I.pg g) c hc h7 hpi W);have HNX:=aA (fun (i:Nat) (hi:i<celN9 c) (W:World) (hW:ImAt W b I V)=>zeM b I V k r hS g c i hg hc h7 hi W hW);have PB:=aA (PbI.mk' (w:=w) hI (Kt.refl _ w) (I.pg g));obtain⟨d0,d1,d2,d3,d4,d5,d6,d7,d8,d9,d10⟩:=hpc.c;obtain⟨n,hn⟩:=xe (I.np);rw[<-hn] at c5;have hgn:(g:Int)<n:=by omega
 have hnp:=hS.np1;rw[<-hn] at hnp;obtain⟨nf,hnf⟩:=xe (nx9 I g c);rw[<-hnf] at OK;have HNF:=aA (show ∀ i,nx9 I g c i=nf i from fun i=>by rw[hnf]);generalize celN9 c=cn at *;generalize hpp:I.pg g=p at *;clear hEE hI hp hpi hpc e2 e3 hn hc bp hpp hnf;go_enter func228,ntmps228;go_wp2_with fail;have SZ:=aA (show w.heap.size<(w.alloc (aV p)).heap.size by simp);generalize w.alloc (aV p)=W1 at *;generalize hgg:w.heap.size=gb at *;have HGB:=aA hgg;clear hgg d0 d1 d2 d3 d4 d5 d6 d7 d8 d9 d10 c0 c1 c2 c3 c4 c5 c6 c7 c8;refine(HFR.out W1).mono ?_;rintro e w2 ⟨sb,sc,ws,rfl,hst,hg1,hg2,hbt,hk2⟩;have PB2:=aA (PB.out.keep hk2);have LL:=aA (show L9 w w2 sb sc cn ws (frL p cn)from⟨hst,by have:=SZ.out;have:=HGB.out;omega,nT PB.out.k hk2,List.nodup_range.filter _,fun i hi=>by
  rw[hbt i hi,Bool.eq_iff_iff,decide_eq_true_eq];simp[frL,hi],fun i hi=>by simp[frL] at hi;exact hi.1⟩)
 obtain⟨q0,q1,q2,q3,q4,q5,q6,-⟩:=eL PB2.out.pb;clear hst hg1 hg2 hbt hk2;go_wp2_with fail;clear q0 q1 q2 q3 q4 q5 q6;go_loopw [6] (fun pv W=>∃ x:Int,pv=.int .i64 x/\Hid (∃ ws l,L9 w W sb sc cn ws l/\prg9 nf (l.length+1) l x=okv)) (fun _ W=>aT (cB W sc))
 case atStart=>exact⟨p.fs,rfl,aA ⟨_,_,LL.out,OK.out⟩⟩
 case round=>
  clear LL OK PB2 PB SZ;obtain⟨x,rfl,hL⟩:=hrel;obtain⟨ws,l,hl,hok⟩:=hL.out;have LL:=aA hl;have OK:=aA hok;clear hL hl hok;by_cases hx:x = -1
  ·have f0:(x != -1)=false:=(by rw[hx];rfl);have OK2:=aA (show okv=decide (aT ws=0)by rw[<-OK.out,hx,prg9_end,LL.out.empty]);obtain⟨cw,hcw⟩:=xe (aT ws);have HCT:=aA (rO sb sc cn ws wr LL.out.st);rw[<-hcw] at HCT OK2;clear hx hcw;by_cases g0:cw=0
   case neg=>
    have R2:=aA (FB.out (by rw[OK2.out,decide_eq_false g0]));have f4:((cw:Int) == 0)=false:=(by rw[beq_eq_false_iff_ne];omega);clear g0;go_wp2_with fail;refine HCT.out.mono ?_;rintro e w3 ⟨rfl,rfl⟩;go_wp2_with fail;refine(dD _ _).mono ?_;rintro e w4 ⟨rfl,rfl⟩;exact⟨rfl,R2.out,LL.out.k⟩
   have R2:=aA (FG.out (by rw[OK2.out,decide_eq_true g0]));have f4:((cw:Int) == 0)=true:=(by rw[beq_iff_eq];omega);clear g0;go_wp2_with fail;refine HCT.out.mono ?_;rintro e w3 ⟨rfl,rfl⟩;go_wp2_with fail;refine(cH _ _).mono ?_;rintro e w4 ⟨rfl,rfl⟩;go_wp2_with fail;first|go_end0|go_ret
   exact⟨R2.out,LL.out.k⟩
  ·have f0:(x != -1)=true:=(by rw[bne_iff_ne];exact hx);have INS:=aA (LL.out.ins x)
   cases hin:cA cn ws x with
   | false=>
    have R2:=aA (FB.out (by
     rw[<-OK.out];refine JO hx ?_;have:=INS.out;rw[hin] at this;exact of_decide_eq_false this.symm))
    have HME:=aA (sQ sb sc cn ws x (g:Int) wr LL.out.st hin);clear hin hx;go_wp2_with fail;refine HME.out.mono ?_;rintro e w3 ⟨rfl,rfl⟩;exact⟨rfl,R2.out,LL.out.k⟩
   | true=>
    have hm : 0<=x/\x.toNat∈l:=by
     have:=INS.out;rw[hin] at this;exact of_decide_eq_true this.symm
    obtain⟨i,rfl⟩:=Int.eq_ofNat_of_zero_le hm.1;have hil:i∈l:=(by have:=hm.2;rwa [Int.toNat_natCast] at this);have HIL:=aA hil;have HI1:=aA (LL.out.lt i hil);have HME:=aA (tN sb sc cn ws (i:Int) (g:Int) wr LL.out.st hin);clear hin hm hil hx;go_wp2_with fail;refine HME.out.mono ?_;rintro e wc ⟨rfl,h1,h2,h3⟩;have LM:=aA (show L9 w wc sb sc cn (bN cn ws (i:Int) false) (l.erase i)from LL.out.met h2 HIL.out h1);have MSR:=aA (show aT (cB wc sc)<aT (cB wr sc)by
     rw[iE LM.out.st,iE LL.out.st];have hb:aF ws i=true:=(by rw[LL.out.mem i HI1.out];exact decide_eq_true HIL.out);have:=uB LL.out.st LM.out.st HI1.out hb;omega)
    have IM2:=aA (HI.out.keep LM.out.k);have NC:=aA (HNX.out i HI1.out wc IM2.out);rw[HNF.out i] at NC;clear h1 h2 h3 HME
    cases hq:nf i with
    | none=>
     have R2:=aA (FB.out (by rw[<-OK.out];exact PH HIL.out hq));rw[hq] at NC;clear hq;go_wp2_with fail;refine NC.out.mono ?_;rintro e w4 ⟨rfl,hk4⟩;exact⟨rfl,R2.out,nT LM.out.k hk4⟩
    | some q=>
     have R2:=aA (show prg9 nf ((l.erase i).length+1) (l.erase i) q=okv by rw[<-OK.out];exact(prg9_yes HIL.out hq).symm);rw[hq] at NC;clear hq;go_wp2_with fail;refine NC.out.mono ?_;rintro e w4 ⟨rfl,hk4⟩;have R3:=aA (show ∃ ws l,L9 w w4 sb sc cn ws l/\prg9 nf (l.length+1) l q=okv from⟨_,_,LM.out.keep hk4,R2.out⟩);have MS2:=aA (show aT (cB w4 sc)<aT (cB wr sc)by
      rw[iE (LM.out.keep hk4).st,<-iE LM.out.st];exact MSR.out)
     clear hk4;dsimp only[vG];go_wp2_with fail;go_round
     case rel=>exact⟨q,rfl,R3⟩
     case measure=>exact MS2.out
theorem zcK(b:Nat)(I:Img)(V:ImV)(k r:Nat)(hS:Sn9 I k r)(w:World)(hI:ImAt w b I V):
  Calls prog 173 #[.pointer (some ⟨b,0,none⟩)] w fun e w'=>e=bB (fst1 I.np (ok9 I))/\Kt nO w w':=by
 obtain⟨-,⟨pa,pc,hp⟩,-,-,-,-,bp,-,-⟩:=hI.d.sl;obtain⟨c0,c1,c2,c3,c4,c5,c6,c7,c8⟩:=hI.cells;rw[hp] at c5;obtain⟨EE,hEE⟩:=xe (bB (fst1 I.np (ok9 I)));rw[<-hEE];have HE:=aA hEE;have HI:=aA hI;have HS:=aA hS;have SP:=aA hp;have hnp:=hS.np1;obtain⟨n,hn⟩:=xe (I.np);rw[<-hn] at hnp c5;have HN:=aA hn;clear hEE hI hp hS hn bp;go_enter func173,ntmps173;go_wp2_with fail;go_loopw [9] (fun i W=>∃ a:Nat,a<=n/\i=.int .i64 a/\Hid (Kt nO w W/\∀ x,x<a->ok9 I x=true)) (fun i _=>n-(intOf i).toNat)
 case atStart=>exact⟨0,Nat.zero_le _,rfl,aA ⟨Kt.refl _ _,fun x hx=>by omega⟩⟩
 case round=>
  clear c0 c1 c2 c3 c4 c5 c6 c7 c8;obtain⟨a,ha,rfl,hR⟩:=hrel;have A0:=aA (HI.out.keep hR.out.1);by_cases hlt:a<n
  ·have hai:(a:Int)<n:=(by omega);have hlt':a<I.np:=(by rw[<-HN.out];exact hlt);obtain⟨bl,o,oc',hv',hpi,hpc⟩:=A0.out.page a hlt';rw[SP.out] at hv';injection hv' with e1 e2 e3
   subst e1;obtain⟨kd,od,cc,ll,y1,y2,y3,y4,y5,y6,y7,y8,-⟩:=HS.out.pg a hlt';have FB:=aA (show ok9 I a=false->bM (a:Int)=EE from fun h=>by rw[HE.out,kF hlt' hR.out.2 h];rfl);have GA:=aA (show ok9 I a=true->∀ x,x<a+1->ok9 I x=true from fun h x hx=>by
    by_cases e:x=a
    ·rw[e];exact h
    ·exact hR.out.2 x (by omega))
   have OK:=aA (show ok9 I a=(!decide ((I.pg a).kd=4) || ok9c I a cc)by unfold ok9;rw[y5,Int.toNat_natCast]);have PB:=aA (PbI.mk' (w:=w) A0.out hR.out.1 (I.pg a));have HCL:=aA (zdp b I V k r HS.out a cc hlt' y5 y6 (wr.alloc (aV (I.pg a))) PB.out.im);generalize ok9c I a cc=o9 at *;generalize ok9 I a=okv at *;obtain⟨d0,d1,d2,d3,d4,d5,d6,d7,d8,d9,d10⟩:=hpc.c;generalize I.pg a=p at *;clear hpi hpc e2 e3 y1 y2 y3 y4 y5 y6 y7 y8;by_cases hk4:p.kd=4
   case neg=>
    have R2:=aA (show Kt nO w (wr.alloc (aV p))/\_ from⟨hR.out.1.alloc _,GA.out (by rw[OK.out];simp[hk4])⟩);have f2:(p.kd == 4)=false:=(by rw[beq_eq_false_iff_ne];exact hk4);clear hk4;go_wp2_with fail;go_round
    case rel=>exact⟨a+1,by omega,by go_num,R2⟩
    case measure=>simp[intOf];omega
   have f2:(p.kd == 4)=true:=(by rw[beq_iff_eq];exact hk4);have OK2:=aA (show okv=o9 by rw[OK.out,decide_eq_true hk4];rfl);clear hk4
   cases o9 with
   | false=>
    have R2:=aA (FB.out OK2.out);rw[if_neg (by decide)] at HCL;go_wp2_with fail;refine HCL.out.mono ?_;rintro e w3 ⟨rfl,hk3⟩;exact⟨rfl,R2.out,nT PB.out.k hk3⟩
   | true=>
    have R2:=aA (GA.out OK2.out);rw[if_pos rfl] at HCL;go_wp2_with fail;refine HCL.out.mono ?_;rintro e w3 ⟨rfl,hk3⟩;have R3:=aA (show Kt nO w w3/\_ from⟨nT PB.out.k hk3,R2.out⟩);clear hk3;dsimp only[bB];go_wp2_with fail;go_round
    case rel=>exact⟨a+1,by omega,by go_num,R3⟩
    case measure=>simp[intOf];omega
  ·obtain rfl:a=n:=(by omega);have hai:¬(a:Int)<a:=(by omega);have E:=aA (show Ending.returned (.tuple #[])=EE by rw[HE.out,fst1_ok (fun x hx=>hR.out.2 x (by rw[HN.out];exact hx))];rfl);go_wp2_with fail;first|go_end0|go_ret
   exact⟨E.out,hR.out.1⟩
end Go.Proofs.YtkfmheelhinjdaaGreatDoor.W
