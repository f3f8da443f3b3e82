import Derived.Test.YtkfmheelhinjdaaGreatDoorXk
import Derived.Test.YtkfmheelhinjdaaGreatDoorWb
import Derived.Deep.DeepCutAuto
set_option maxRecDepth 1000000
set_option maxHeartbeats 80000000
namespace Go.Proofs.YtkfmheelhinjdaaGreatDoor.M
open Tryz
open Go.RowKit Go.Shelf
set_option linter.unusedVariables false
def IsCell(bS n x:Nat):Prop:=1<=bS/\bS+n<=9223372036854775808/\bS<=x/\x+16<=bS+n/\(x-bS)%16=0
theorem IsCell.inn{bS n x:Nat}(h:IsCell bS n x):In bS n x 16:=by unfold IsCell at h;unfold In;omega
theorem IsCell.lt{bS n x:Nat}(h:IsCell bS n x):x<18446744073709551616:=by unfold IsCell at h;omega
theorem IsCell.ne0{bS n x:Nat}(h:IsCell bS n x):x≠0:=by unfold IsCell at h;omega
theorem word_far(f:Nat->Nat)(o v o':Nat)(h:o+8<=o'\/o'+8<=o):word (upd f o 8 (byteOf v)) o'=word f o':=by
 unfold word;exact wordTo_congr _ _ 8 (fun i hi=>SJ _ _ _ _ _ (by omega))
theorem qU{bS n:Nat}(f:Nat->Nat)(x y v:Nat)(hx:IsCell bS n x)(hy:IsCell bS n y)(hv:v<18446744073709551616):nx bS (dS bS f y v) x=if x=y then v else nx bS f x:=by
 unfold nx dS;unfold IsCell at hx hy;by_cases e:x=y
 ·rw[if_pos e,e];exact word_upd f _ v hv
 ·rw[if_neg e];exact word_far f _ v _ (by omega)
theorem qT{bS n:Nat}(f:Nat->Nat)(x y v:Nat)(hx:IsCell bS n x)(hy:IsCell bS n y):pv bS (dS bS f y v) x=pv bS f x:=by
 unfold pv dS;unfold IsCell at hx hy;exact word_far f _ v _ (by omega)
theorem pJ{bS n:Nat}(f:Nat->Nat)(x y v:Nat)(hx:IsCell bS n x)(hy:IsCell bS n y):nx bS (dS bS f (y+8) v) x=nx bS f x:=by
 unfold nx dS;unfold IsCell at hx hy;exact word_far f _ v _ (by omega)
theorem pI{bS n:Nat}(f:Nat->Nat)(x y v:Nat)(hx:IsCell bS n x)(hy:IsCell bS n y)(hv:v<18446744073709551616):pv bS (dS bS f (y+8) v) x=if x=y then v else pv bS f x:=by
 unfold pv dS;unfold IsCell at hx hy;by_cases e:x=y
 ·rw[if_pos e,e];exact word_upd f _ v hv
 ·rw[if_neg e];exact word_far f _ v _ (by omega)
structure Chn(bS n:Nat)(f:Nat->Nat)(hd:Nat)(xs:List Nat):Prop where
 cell:∀ x∈xs,IsCell bS n x
 nodup:xs.Nodup
 head:hd=xs.getD 0 0
 nxt:∀ i,i<xs.length->nx bS f (xs.getD i 0)=xs.getD (i+1) 0
 prv:∀ i,i<xs.length->pv bS f (xs.getD i 0)=if i=0 then 0 else xs.getD (i-1) 0
theorem lS{xs:List Nat}{i:Nat}(h:i<xs.length):xs.getD i 0∈xs:=by
 rw[List.getD_eq_getElem?_getD,List.getElem?_eq_getElem h];exact List.getElem_mem h
theorem zE{xs:List Nat}{i:Nat}(h:xs.length<=i):xs.getD i 0=0:=by
 rw[List.getD_eq_getElem?_getD,List.getElem?_eq_none h];rfl
theorem nW{xs:List Nat}(hn:xs.Nodup){i j:Nat}(hi:i<xs.length)(hj:j<xs.length)(h:xs.getD i 0=xs.getD j 0):i=j:=by
 rw[List.getD_eq_getElem?_getD,List.getElem?_eq_getElem hi,List.getD_eq_getElem?_getD,List.getElem?_eq_getElem hj] at h;have hp:=List.pairwise_iff_getElem.1 hn;rcases Nat.lt_trichotomy i j with e|e|e
 ·exact absurd h (hp i j hi hj e)
 ·exact e
 ·exact absurd h.symm (hp j i hj hi e)
theorem mem_getD{xs:List Nat}{p:Nat}(h:p∈xs):∃ j,j<xs.length/\xs.getD j 0=p:=by
 obtain⟨j,hj,e⟩:=List.mem_iff_getElem.1 h;exact⟨j,hj,by rw[List.getD_eq_getElem?_getD,List.getElem?_eq_getElem hj];exact e⟩
theorem Chn.cellD{bS n f hd xs}(h:Chn bS n f hd xs){i:Nat}(hi:i<xs.length):IsCell bS n (xs.getD i 0):=h.cell _ (lS hi)
theorem Chn.lt{bS n f hd xs}(h:Chn bS n f hd xs)(i:Nat):xs.getD i 0<18446744073709551616:=by
 rcases Nat.lt_or_ge i xs.length with hi|hi
 ·exact(h.cellD hi).lt
 ·rw[zE hi];decide
theorem Chn.zero{bS n f hd xs}(h:Chn bS n f hd xs):hd=0↔xs=[]:=by
 constructor
 ·intro e
  cases xs with
  | nil=>rfl
  | cons x r=>exact absurd (h.head.symm.trans e) (h.cell x (by simp)).ne0
 ·rintro rfl;exact h.head
theorem Chn.nil(bS n:Nat)(f:Nat->Nat):Chn bS n f 0 []:=⟨fun _ h=>(by cases h),List.nodup_nil,rfl,fun _ h=>(by cases h),fun _ h=>(by cases h)⟩
theorem Chn.congr{bS n f f' hd xs}(h:Chn bS n f hd xs)(hf:∀ x∈xs,nx bS f' x=nx bS f x/\pv bS f' x=pv bS f x):Chn bS n f' hd xs:=
 ⟨h.cell,h.nodup,h.head,fun i hi=>(hf _ (lS hi)).1.trans (h.nxt i hi),fun i hi=>(hf _ (lS hi)).2.trans (h.prv i hi)⟩
def Same(bS n:Nat)(f f':Nat->Nat)(xs:List Nat):Prop:=∀ x,IsCell bS n x->x ∉ xs->nx bS f' x=nx bS f x/\pv bS f' x=pv bS f x
theorem Chn.push{bS n f hd xs}(h:Chn bS n f hd xs)(p:Nat)(hp:IsCell bS n p)(hm:p ∉ xs):
  (pushR bS n f hd p).2.2=0/\Chn bS n (pushR bS n f hd p).1 (pushR bS n f hd p).2.1 (p :: xs)/\Same bS n f (pushR bS n f hd p).1 (p :: xs):=by
 have hcame:fT bS n f hd 0=true:=by
  unfold fT;apply decide_eq_true
  cases xs with
  | nil=>exact .inl h.head
  | cons x r=>
   refine .inr ⟨?_,?_⟩
   ·rw[h.head];exact(h.cell x (by simp)).inn
   ·have:=h.prv 0 (by simp);rw[h.head];simpa using this
 have he:pushR bS n f hd p=(jM bS f hd p,p,0):=by unfold pushR;rw[if_pos hp.inn,if_pos hcame]
 rw[he];refine⟨rfl,?_⟩;have hdl:hd<18446744073709551616:=by rw[h.head];exact h.lt 0
 have N:∀ x,IsCell bS n x->nx bS (jM bS f hd p) x=if x=p then hd else nx bS f x:=by
  intro x hx;unfold jM;split
  ·rw[pJ _ _ _ _ hx hp,qU _ _ _ _ hx hp hdl]
  ·next h0=>
   have hh:IsCell bS n hd:=by
    cases xs with
    | nil=>exact absurd h.head h0
    | cons y r=>rw[h.head];exact h.cell y (by simp)
   rw[pJ _ _ _ _ hx hh,pJ _ _ _ _ hx hp,qU _ _ _ _ hx hp hdl]
 have V:∀ x,IsCell bS n x->pv bS (jM bS f hd p) x=if x=hd/\hd≠0 then p else if x=p then 0 else pv bS f x:=by
  intro x hx;unfold jM;split
  ·next h0=>rw[if_neg (by simp[h0]),pI _ _ _ _ hx hp (by decide),qT _ _ _ _ hx hp]
  ·next h0=>
   have hh:IsCell bS n hd:=by
    cases xs with
    | nil=>exact absurd h.head h0
    | cons y r=>rw[h.head];exact h.cell y (by simp)
   rw[pI _ _ _ _ hx hh hp.lt,pI _ _ _ _ hx hp (by decide),qT _ _ _ _ hx hp];by_cases e:x=hd
   ·simp[e,h0]
   ·simp[e]
 have hph:p≠hd:=by
  intro e
  cases xs with
  | nil=>rw[h.head] at e;exact hp.ne0 e
  | cons y r=>exact hm (by rw[e,h.head];simp)
 refine⟨⟨?_,?_,rfl,?_,?_⟩,?_⟩
 ·intro x hx;rcases List.mem_cons.1 hx with rfl|hx
  ·exact hp
  ·exact h.cell x hx
 ·exact List.nodup_cons.2 ⟨hm,h.nodup⟩
 ·intro i hi
  cases i with
  | zero=>
   show nx bS _ p=xs.getD 0 0
   rw[N p hp,if_pos rfl,h.head]
  | succ i=>
   have hi':i<xs.length:=(by simpa using hi);show nx bS _ (xs.getD i 0)=xs.getD (i+1) 0
   rw[N _ (h.cellD hi'),if_neg (show ¬xs.getD i 0=p from fun e=>hm (e▸lS hi')),h.nxt i hi']
 ·intro i hi
  cases i with
  | zero=>
   show pv bS _ p=_
   rw[V p hp,if_neg (by simp[hph]),if_pos rfl];rfl
  | succ i=>
   have hi':i<xs.length:=(by simpa using hi);show pv bS _ (xs.getD i 0)=_
   rw[V _ (h.cellD hi')]
   cases i with
   | zero=>
    have h0:hd≠0:=(by rw[h.head];exact(h.cellD hi').ne0);rw[if_pos ⟨h.head.symm,h0⟩];rfl
   | succ i=>
    rw[if_neg,if_neg (show ¬xs.getD (i+1) 0=p from fun e=>hm (e▸lS hi')),h.prv _ hi']
    ·rfl
    ·rintro ⟨e,_⟩;rw[h.head] at e;have:=nW h.nodup hi' (by omega) e;omega
 ·intro x hx hn;have h1:x≠p:=fun e=>hn (by simp[e])
  have h2:¬(x=hd/\hd≠0):=by
   rintro ⟨e,h0⟩
   cases xs with
   | nil=>exact h0 h.head
   | cons y r=>exact hn (by rw[e,h.head];simp)
  rw[N x hx,V x hx,if_neg h1,if_neg h2,if_neg h1];exact⟨rfl,rfl⟩
def dropL(xs:List Nat)(p:Nat):List Nat:=xs.filter fun x=>decide (x≠p)
theorem DR:∀ (xs:List Nat) (j:Nat),xs.Nodup->j<xs.length->dropL xs (xs.getD j 0)=xs.eraseIdx j:=by
 intro xs;induction xs with
 | nil=>intro j _ h;simp at h
 | cons y r ih=>
  intro j hn hj;have hy:=(List.nodup_cons.1 hn).1
  cases j with
  | zero=>
   have h1:dropL r y=r:=List.filter_eq_self.2 (fun x hx=>by simp;intro e;exact hy (e▸hx));show dropL (y :: r) y=r
   unfold dropL at h1 ⊢;rw[List.filter_cons_of_neg (by simp)];exact h1
  | succ j=>
   have hj':j<r.length:=(by simpa using hj);have h2:=ih j (List.nodup_cons.1 hn).2 hj';have hne:y≠r.getD j 0:=fun e=>hy (e▸lS hj')
   show dropL (y :: r) (r.getD j 0)=y :: r.eraseIdx j
   unfold dropL at h2 ⊢;rw[List.filter_cons_of_pos (by simpa using hne),h2]
theorem zgY{xs:List Nat}(hn:xs.Nodup){j:Nat}(hj:j<xs.length)(i:Nat):(dropL xs (xs.getD j 0)).getD i 0=if i<j then xs.getD i 0 else xs.getD (i+1) 0:=by
 rw[DR xs j hn hj,List.getD_eq_getElem?_getD,List.getElem?_eraseIdx];split
 ·rw[List.getD_eq_getElem?_getD]
 ·rw[List.getD_eq_getElem?_getD]
theorem zeW{xs:List Nat}(hn:xs.Nodup){j:Nat}(hj:j<xs.length):(dropL xs (xs.getD j 0)).length+1=xs.length:=by
 rw[DR xs j hn hj,List.length_eraseIdx_of_lt hj];omega
theorem zhT{xs:List Nat}{p x:Nat}(h:x∈dropL xs p):x∈xs:=(List.mem_filter.1 h).1
theorem Chn.remove{bS n f hd xs}(h:Chn bS n f hd xs)(j:Nat)(hj:j<xs.length):
  (removeR bS n f hd (xs.getD j 0)).2.2=0/\Chn bS n (removeR bS n f hd (xs.getD j 0)).1 (removeR bS n f hd (xs.getD j 0)).2.1 (dropL xs (xs.getD j 0))/\Same bS n f (removeR bS n f hd (xs.getD j 0)).1 xs:=by
 obtain⟨p,hpe⟩:=xe (xs.getD j 0);have hp:IsCell bS n p:=by rw[hpe];exact h.cellD hj
 obtain⟨q,hq⟩:=xe (pv bS f p);obtain⟨m,hm⟩:=xe (nx bS f p);have hq1:q=if j=0 then 0 else xs.getD (j-1) 0:=by rw[hq,hpe];exact h.prv j hj
 have hm1:m=xs.getD (j+1) 0:=by rw[hm,hpe];exact h.nxt j hj
 have hq0:q=0↔j=0:=by
  rw[hq1];by_cases e:j=0
  ·simp[e]
  ·rw[if_neg e];exact⟨fun h0=>absurd h0 (h.cellD (by omega)).ne0,fun h0=>absurd h0 e⟩
 have hm0:m=0↔j+1=xs.length:=by
  rw[hm1];rcases Nat.lt_or_ge (j+1) xs.length with e|e
  ·exact⟨fun h0=>absurd h0 (h.cellD e).ne0,fun h0=>by omega⟩
  ·exact⟨fun _=>by omega,fun _=>zE e⟩
 have hqc:q≠0->IsCell bS n q:=fun h0=>by
  have:¬j=0:=fun e=>h0 (hq0.2 e)
  rw[hq1,if_neg this];exact h.cellD (by omega)
 have hmc:m≠0->IsCell bS n m:=fun h0=>by
  have:¬j+1=xs.length:=fun e=>h0 (hm0.2 e)
  rw[hm1];exact h.cellD (by omega)
 have hqlt:q<18446744073709551616:=by
  by_cases e:q=0
  ·rw[e];decide
  ·exact(hqc e).lt
 have hmlt:m<18446744073709551616:=by
  by_cases e:m=0
  ·rw[e];decide
  ·exact(hmc e).lt
 have hph:p=hd↔j=0:=by
  rw[hpe,h.head];exact⟨fun e=>nW h.nodup hj (by omega) e,fun e=>by rw[e]⟩
 have hlead:gP bS n f hd q p=true:=by
  unfold gP;by_cases e:j=0
  ·rw[if_pos (.inl (hq0.2 e))];exact decide_eq_true ⟨hq0.2 e,hph.2 e⟩
  ·have h0:q≠0:=fun e'=>e (hq0.1 e')
   rw[if_neg (by rintro (e'|e');exact h0 e';exact e (hph.1 e'))];refine decide_eq_true ⟨(hqc h0).inn,?_⟩;rw[hq1,if_neg e,h.nxt (j-1) (by omega),hpe];congr 1
   omega
 have hcame:fT bS n f m p=true:=by
  unfold fT;apply decide_eq_true
  by_cases e:m=0
  ·exact .inl e
  ·refine .inr ⟨(hmc e).inn,?_⟩;have:¬j+1=xs.length:=fun e'=>e (hm0.2 e')
   rw[hm1,h.prv (j+1) (by omega),if_neg (by omega),hpe];congr 1
 have he:removeR bS n f hd p=(jC bS f p,(if q=0 then m else hd),0):=by
  unfold removeR;rw[if_pos hp.inn,<-hq,<-hm,hlead,hcame];rfl
 have hFe:jC bS f p=(let f1:=if q=0 then f else dS bS f q m;if m=0 then f1 else dS bS f1 (m+8) q):=by
  unfold jC;rw[<-hq,<-hm]
 rw[<-hpe,he];refine⟨rfl,?_⟩;have N:∀ x,IsCell bS n x->nx bS (jC bS f p) x=if q≠0/\x=q then m else nx bS f x:=by
  intro x hx;rw[hFe];by_cases e1:q=0
  ·by_cases e2:m=0
   ·simp[e1,e2]
   ·simp only[e1,e2,if_true,if_false];rw[pJ _ _ _ _ hx (hmc e2)];simp
  ·by_cases e2:m=0
   ·simp only[e1,e2,if_true,if_false];rw[qU _ _ _ _ hx (hqc e1) (by decide)];simp[e1]
   ·simp only[e1,e2,if_false];rw[pJ _ _ _ _ hx (hmc e2),qU _ _ _ _ hx (hqc e1) hmlt];simp[e1]
 have V:∀ x,IsCell bS n x->pv bS (jC bS f p) x=if m≠0/\x=m then q else pv bS f x:=by
  intro x hx;rw[hFe];by_cases e1:q=0
  ·by_cases e2:m=0
   ·simp[e1,e2]
   ·simp only[e1,e2,if_true,if_false];rw[pI _ _ _ _ hx (hmc e2) (by decide)];simp[e2]
  ·by_cases e2:m=0
   ·simp only[e1,e2,if_true,if_false];rw[qT _ _ _ _ hx (hqc e1)];simp
   ·simp only[e1,e2,if_false];rw[pI _ _ _ _ hx (hmc e2) hqlt,qT _ _ _ _ hx (hqc e1)];simp[e2]
 have hlen:=zeW h.nodup hj;have hget:=zgY h.nodup hj;rw[<-hpe] at hlen hget;refine⟨⟨fun x hx=>h.cell x (zhT hx),h.nodup.filter _,?_,?_,?_⟩,?_⟩
 ·show(if q=0 then m else hd)=_
  rw[hget 0];by_cases e:j=0
  ·rw[if_pos (hq0.2 e),if_neg (by omega),hm1,e]
  ·rw[if_neg (fun e'=>e (hq0.1 e')),if_pos (by omega),h.head]
 ·intro i hi;show nx bS (jC bS f p) _=_
  rw[hget i,hget (i+1)];by_cases e:i<j
  ·rw[if_pos e,N _ (h.cellD (by omega))];have hj0:¬j=0:=(by omega);by_cases e2:i+1=j
   ·rw[if_pos ⟨fun e'=>hj0 (hq0.1 e'),by rw[hq1,if_neg hj0];congr 1;omega⟩,if_neg (by omega),hm1];congr 1
    omega
   ·rw[if_neg,if_pos (by omega),h.nxt i (by omega)];rintro ⟨_,e3⟩;rw[hq1,if_neg hj0] at e3;have:=nW h.nodup (by omega) (by omega) e3;omega
  ·rw[if_neg e,N _ (h.cellD (by omega)),if_neg,if_neg (by omega),h.nxt (i+1) (by omega)];rintro ⟨e4,e3⟩;have hj0:¬j=0:=fun e'=>e4 (hq0.2 e')
   rw[hq1,if_neg hj0] at e3;have:=nW h.nodup (by omega) (by omega) e3;omega
 ·intro i hi;show pv bS (jC bS f p) _=_
  rw[hget i];by_cases e:i<j
  ·rw[if_pos e,V _ (h.cellD (by omega)),if_neg,h.prv i (by omega)]
   ·by_cases e0:i=0
    ·rw[if_pos e0,if_pos e0]
    ·rw[if_neg e0,if_neg e0,hget (i-1),if_pos (by omega)]
   ·rintro ⟨e4,e3⟩;rw[hm1] at e3;have hj1:¬j+1=xs.length:=fun e'=>e4 (hm0.2 e')
    have:=nW h.nodup (by omega) (by omega) e3;omega
  ·rw[if_neg e,V _ (h.cellD (by omega))];by_cases e2:i=j
   ·rw[if_pos ⟨fun e'=>by have:=hm0.1 e';omega,by rw[hm1,e2]⟩,hq1];by_cases e0:j=0
    ·rw[if_pos e0,if_pos (by omega)]
    ·rw[if_neg e0,if_neg (by omega),hget (i-1),if_pos (by omega),e2]
   ·rw[if_neg,h.prv (i+1) (by omega),if_neg (by omega),if_neg (by omega),hget (i-1),if_neg (by omega)]
    ·congr 1
     omega
    ·rintro ⟨e4,e3⟩;rw[hm1] at e3;have hj1:¬j+1=xs.length:=fun e'=>e4 (hm0.2 e')
     have:=nW h.nodup (by omega) (by omega) e3;omega
 ·intro x hx hn;show nx bS (jC bS f p) x=_/\pv bS (jC bS f p) x=_
  rw[N x hx,V x hx,if_neg,if_neg]
  ·exact⟨rfl,rfl⟩
  ·rintro ⟨e4,e3⟩;have hj1:¬j+1=xs.length:=fun e'=>e4 (hm0.2 e')
   exact hn (by rw[e3,hm1];exact lS (by omega))
  ·rintro ⟨e4,e3⟩;have hj0:¬j=0:=fun e'=>e4 (hq0.2 e')
   exact hn (by rw[e3,hq1,if_neg hj0];exact lS (by omega))
end Go.Proofs.YtkfmheelhinjdaaGreatDoor.M
namespace Go.Proofs.YtkfmheelhinjdaaGreatDoor
open Tryz
open Go.RowKit
set_option linter.unusedVariables false
theorem wO(a b:Nat):(a ^^^ b)%2=(a+b)%2:=by
 have h:=Nat.xor_mod_two_pow (a:=a) (b:=b) (n:=1);rw[Nat.pow_one] at h;rw[h];rcases Nat.mod_two_eq_zero_or_one a with ha|ha <;> rcases Nat.mod_two_eq_zero_or_one b with hb|hb <;> rw[ha,hb]
 ·show 0=_;omega
 ·show 1=_;omega
 ·show 1=_;omega
 ·show 0=_;omega
theorem sW:∀ (r x:Nat),x/2 ^ r%2=0->x ^^^ 2 ^ r=x+2 ^ r
 | 0,x,h=>by
  have h0:x%2=0:=by simpa using h
  have h1:=Nat.xor_div_two (a:=x) (b:=1);have h2:=wO x 1;rw[show 1/2=0 from rfl,Nat.xor_zero] at h1;rw[Nat.pow_zero];omega
 | r+1,x,h=>by
  have hd:x/2/2 ^ r%2=0:=by rw[Nat.div_div_eq_div_mul,<-Nat.pow_succ'];exact h
  have ih:=sW r (x/2) hd;have h1:=Nat.xor_div_two (a:=x) (b:=2 ^ (r+1));have h2:=wO x (2 ^ (r+1));have h3 : 2 ^ (r+1)=2*2 ^ r:=by rw[Nat.pow_succ,Nat.mul_comm]
  have h4 : 2 ^ (r+1)/2=2 ^ r:=by rw[h3];omega
  rw[h4,ih] at h1;generalize x ^^^ 2 ^ (r+1)=z at *;generalize 2 ^ r=y at *;omega
theorem UR(r x:Nat)(h:x/2 ^ r%2=1) : 2 ^ r<=x/\x ^^^ 2 ^ r=x-2 ^ r:=by
 have hb:(x ^^^ 2 ^ r)/2 ^ r%2=0:=by
  have h1:(x ^^^ 2 ^ r).testBit r=!x.testBit r:=by
   rw[Nat.testBit_xor,Nat.testBit_two_pow];simp
  have h2:x.testBit r=true:=by rw[Nat.testBit_eq_decide_div_mod_eq,h];rfl
  rw[h2,Nat.testBit_eq_decide_div_mod_eq] at h1;have:¬(x ^^^ 2 ^ r)/2 ^ r%2=1:=by simpa using h1
  omega
 have h2:=sW r (x ^^^ 2 ^ r) hb;rw[Nat.xor_assoc,Nat.xor_self,Nat.xor_zero] at h2;omega
structure Sd(x:Bx)(t:Bt)(fr:Nat->List Nat)(B:Nat->Nat->Nat->Prop):Prop where
 mo:t.m.o=x.o
 o8:x.o<=8
 dv:∃ r,t.m.n=r*2 ^ x.o
 nb:t.m.n*4096<=x.n
 n1:t.m.n<=1024
 b1 : 1<=x.bS
 b2:x.bS+x.n<=9223372036854775808
 tg:∀ g p k,B g p k->g=0\/g=2\/g=9
 fi:∀ p k,B 0 p k↔(k<=x.o/\p∈fr k)
 al:∀ g p k,B g p k->k<=x.o/\p%2 ^ k=0/\p+2 ^ k<=t.m.n
 ds:∀ g p k h q j,B g p k->B h q j->(g=h/\p=q/\k=j)\/p+2 ^ k<=q\/q+2 ^ j<=p
 cv:∀ i,i<t.m.n->∃ g p k,B g p k/\p<=i/\i<p+2 ^ k
 pg:∀ g p k,B g p k->g≠9->∀ i,p<=i->i<p+2 ^ k->t.m.pg i=(x.P i).getD (aN (if i=p then (g:Int) else (g:Int)+1) (k:Int))
 ch:∀ k,k<=x.o->M.Chn x.bS x.n t.f (t.hd k) ((fr k).map (ad x))
 wl:∀ k,k<x.o->(t.m.wd k).length=(t.m.n/2 ^ (k+1)+63)/64
 bt:∀ k,k<x.o->∀ i,i<t.m.n/2 ^ (k+1)->aE (t.m.wd k) i=(decide (2*i*2 ^ k∈fr k) != decide ((2*i+1)*2 ^ k∈fr k))
 nm:∀ k,k<x.o->∀ i,¬(2*i*2 ^ k∈fr k/\(2*i+1)*2 ^ k∈fr k)
 vs:∀ p q,x.P p=some q->B 2 p 0/\q.kd=4
theorem Sd.pn{x t fr B}(s:Sd x t fr B){g p k:Nat}(hb:B g p k)(h:g=2->k=0->x.P p=none):∀ i,p<=i->i<p+2 ^ k->x.P i=none:=by
 intro i h1 h2
 cases hP:x.P i with
 | none=>rfl
 | some q=>
  exfalso
  have hv:=(s.vs i q hP).1;rcases s.ds _ _ _ _ _ _ hv hb with ⟨e1,e2,e3⟩|e|e
  ·have:=h e1.symm e3.symm;rw[<-e2,hP] at this
   cases this
  ·omega
  ·omega
theorem Sd.pn9{x t fr B}(s:Sd x t fr B){g p k:Nat}(hb:B g p k)(h:g≠2):∀ i,p<=i->i<p+2 ^ k->x.P i=none:=s.pn hb (fun e=>absurd e h)
def fA(B:Nat->Nat->Nat->Prop)(g p k h:Nat):Nat->Nat->Nat->Prop:=fun a b c=>(B a b c/\¬(a=g/\b=p/\c=k))\/(a=h/\b=p/\c=k)
theorem qP{x t fr B}(s:Sd x t fr B){g p k h:Nat}(hb:B g p k):∀ a b c a' b' c',fA B g p k h a b c->fA B g p k h a' b' c'->(a=a'/\b=b'/\c=c')\/b+2 ^ c<=b'\/b'+2 ^ c'<=b:=by
 rintro a b c a' b' c' (⟨h1,h2⟩|⟨rfl,rfl,rfl⟩) (⟨h3,h4⟩|⟨rfl,rfl,rfl⟩)
 ·exact s.ds _ _ _ _ _ _ h1 h3
 ·rcases s.ds _ _ _ _ _ _ h1 hb with ⟨rfl,rfl,rfl⟩|e
  ·exact absurd ⟨rfl,rfl,rfl⟩ h2
  ·exact .inr e
 ·rcases s.ds _ _ _ _ _ _ hb h3 with ⟨rfl,rfl,rfl⟩|e
  ·exact absurd ⟨rfl,rfl,rfl⟩ h4
  ·exact .inr e
 ·exact .inl ⟨rfl,rfl,rfl⟩
theorem qO{x t fr B}(s:Sd x t fr B){g p k h:Nat}(hb:B g p k):∀ a b c,fA B g p k h a b c->c<=x.o/\b%2 ^ c=0/\b+2 ^ c<=t.m.n:=by
 rintro a b c (⟨h1,h2⟩|⟨rfl,rfl,rfl⟩)
 ·exact s.al _ _ _ h1
 ·exact s.al _ _ _ hb
theorem qN{x t fr B}(s:Sd x t fr B){g p k h:Nat}(hb:B g p k):∀ i,i<t.m.n->∃ a b c,fA B g p k h a b c/\b<=i/\i<b+2 ^ c:=by
 intro i hi;obtain⟨a,b,c,h1,h2,h3⟩:=s.cv i hi;by_cases e:a=g/\b=p/\c=k
 ·obtain⟨rfl,rfl,rfl⟩:=e;exact⟨h,b,c,.inr ⟨rfl,rfl,rfl⟩,h2,h3⟩
 ·exact⟨a,b,c,.inl ⟨h1,e⟩,h2,h3⟩
theorem Sd.die{x t fr B}(s:Sd x t fr B){p k:Nat}(hb:B 2 p k)(hv:x.P p=none):Sd x t fr (fA B 2 p k 9):=by
 refine⟨s.mo,s.o8,s.dv,s.nb,s.n1,s.b1,s.b2,?_,?_,qO s hb,qP s hb,qN s hb,?_,s.ch,s.wl,s.bt,s.nm,fun q r h=>⟨.inl ⟨(s.vs q r h).1,fun e=>by
   rw[e.2.1,hv] at h
   cases h⟩,(s.vs q r h).2⟩⟩
 ·rintro a b c (⟨h1,h2⟩|⟨rfl,rfl,rfl⟩)
  ·exact s.tg _ _ _ h1
  ·exact .inr (.inr rfl)
 ·intro q j;rw[<-s.fi q j];constructor
  ·rintro (⟨h1,h2⟩|⟨e,_⟩)
   ·exact h1
   ·omega
  ·exact fun h1=>.inl ⟨h1,fun e=>by omega⟩
 ·rintro a b c (⟨h1,h2⟩|⟨rfl,rfl,rfl⟩) h9
  ·exact s.pg _ _ _ h1 h9
  ·exact absurd rfl h9
theorem tX{x t fr B}(s:Sd x t fr B){g p k:Nat}(hb:B g p k)(kd:Int)(hk:kd=0\/kd=2):cQ t.m (p:Int) (k:Int) kd={ t.m with pg:=eZ t.m.pg p k kd }:=by
 obtain⟨h1,h2,h3⟩:=s.al _ _ _ hb;have hp : 0<2 ^ k:=Nat.pow_pos (by decide);have c1:decide ((kd=0\/kd=2)/\0<=(k:Int)/\(k:Int)<=t.m.o)=true:=decide_eq_true ⟨hk,by omega,by rw[s.mo];omega⟩;have c2:aB t.m.n (p:Int)=true:=decide_eq_true ⟨by omega,by omega⟩;have c3:decide ((p:Int)%2 ^ (k:Int).toNat=0)=true:=decide_eq_true (by
  rw[Int.toNat_natCast,show(2:Int) ^ k=((2 ^ k:Nat):Int)by simp,<-Int.natCast_emod,h2];rfl)
 unfold cQ;rw[show kB t.m (p:Int) (k:Int) kd=true by unfold kB;rw[c1,c2,c3];rfl,if_pos rfl];simp
theorem Sd.paint{x t fr B}(s:Sd x t fr B){p k:Nat}(hb:B 9 p k)(g:Nat)(hg:g=0\/g=2):
  ∀ a b c,fA B 9 p k g a b c->a≠9->∀ i,b<=i->i<b+2 ^ c->(cV t p k (g:Int)).m.pg i=(x.P i).getD (aN (if i=b then (a:Int) else (a:Int)+1) (c:Int)):=by
 intro a b c hr h9 i h1 h2;show(cQ t.m (p:Int) (k:Int) (g:Int)).pg i=_
 rw[tX s hb (g:Int) (by omega)];show eZ t.m.pg p k (g:Int) i=_
 unfold eZ;rcases hr with ⟨h3,h4⟩|⟨rfl,rfl,rfl⟩
 ·have hd:=s.ds _ _ _ _ _ _ hb h3;have hp : 0<2 ^ k:=Nat.pow_pos (by decide);rw[if_neg (by omega),if_neg (by omega)];exact s.pg _ _ _ h3 h9 i h1 h2
 ·rw[s.pn9 hb (by decide) i h1 h2,Option.getD_none];by_cases e:i=b
  ·rw[if_pos e,if_pos e]
  ·rw[if_neg e,if_neg e,if_pos ⟨by omega,h2⟩]
theorem Sd.live{x t fr B}(s:Sd x t fr B){p k:Nat}(hb:B 9 p k):Sd x (cV t p k 2) fr (fA B 9 p k 2):=by
 have hm:=tX s hb 2 (.inr rfl);have e:cV t p k 2={ t with m:={ t.m with pg:=eZ t.m.pg p k 2 } }:=by unfold cV;rw[hm]
 have pt:=s.paint hb 2 (.inr rfl);rw[show((2:Nat):Int)=2 from rfl,e] at pt;rw[e];refine⟨s.mo,s.o8,s.dv,s.nb,s.n1,s.b1,s.b2,?_,?_,qO s hb,qP s hb,qN s hb,pt,s.ch,s.wl,s.bt,s.nm,fun q r h=>⟨.inl ⟨(s.vs q r h).1,fun e=>by omega⟩,(s.vs q r h).2⟩⟩
 ·rintro a b c (⟨h1,h2⟩|⟨rfl,rfl,rfl⟩)
  ·exact s.tg _ _ _ h1
  ·exact .inr (.inl rfl)
 ·intro q j;rw[<-s.fi q j];constructor
  ·rintro (⟨h1,h2⟩|⟨e,_⟩)
   ·exact h1
   ·omega
  ·exact fun h1=>.inl ⟨h1,fun e=>by omega⟩
theorem rX{p k:Nat}(hp:p<2 ^ 62)(hk:k<=8)(hm:p%2 ^ k=0):
  (p%2 ^ (k+1)=0/\aT p k=p+2 ^ k/\dE p k=p)\/(2 ^ k<=p/\(p-2 ^ k)%2 ^ (k+1)=0/\aT p k=p-2 ^ k/\dE p k=p-2 ^ k):=by
 have hz : 0<2 ^ k:=Nat.pow_pos (by decide);have hz2 : 2 ^ (k+1)=2*2 ^ k:=by rw[Nat.pow_succ,Nat.mul_comm]
 obtain⟨c,hc⟩:∃ c,p=c*2 ^ k:=⟨p/2 ^ k,by have:=Nat.div_add_mod p (2 ^ k);rw[hm,Nat.add_zero,Nat.mul_comm] at this;exact this.symm⟩;have hdiv:p/2 ^ k=c:=by rw[hc,Nat.mul_div_cancel _ hz]
 have hlow:∀ i,(dE p k).testBit i=(p.testBit i && decide (i≠k)):=fun i=>by
  have h2k : 2 ^ k<2 ^ 64:=Nat.pow_lt_pow_right (by decide) (by omega);unfold dE;rw[show 18446744073709551615-2 ^ k=2 ^ 64-(2 ^ k+1)by omega,Nat.testBit_and,Nat.testBit_two_pow_sub_succ h2k,Nat.testBit_two_pow];by_cases e:i<64
  ·by_cases e2:k=i
   ·simp[e,e2]
   ·have e3:i≠k:=fun h=>e2 h.symm
    simp[e,e2,e3]
  ·have:p.testBit i=false:=Nat.testBit_lt_two_pow (Nat.lt_of_lt_of_le hp (Nat.pow_le_pow_right (by decide) (by omega)));rw[this];simp
 have hbk:p.testBit k=decide (c%2=1):=by rw[Nat.testBit_eq_decide_div_mod_eq,hdiv]
 rcases Nat.mod_two_eq_zero_or_one c with h0|h0
 ·left
  refine⟨?_,sW k p (by rw[hdiv];exact h0),?_⟩
  ·rw[hz2,hc,Nat.mul_comm 2,Nat.mul_comm c,Nat.mul_mod_mul_left,h0,Nat.mul_zero]
  ·apply Nat.eq_of_testBit_eq
   intro i;rw[hlow];by_cases e:i=k
   ·subst e;rw[hbk,h0];rfl
   ·simp[e]
 ·right
  obtain⟨h1,h2⟩:=UR k p (by rw[hdiv];exact h0);refine⟨h1,?_,h2,?_⟩
  ·rw[hc,show c*2 ^ k-2 ^ k=(c-1)*2 ^ k by rw[Nat.sub_mul,Nat.one_mul],hz2,Nat.mul_comm 2,Nat.mul_comm (c-1),Nat.mul_mod_mul_left,show(c-1)%2=0 by omega,Nat.mul_zero]
  ·rw[<-h2];apply Nat.eq_of_testBit_eq
   intro i;rw[hlow,Nat.testBit_xor,Nat.testBit_two_pow];by_cases e:i=k
   ·subst e;rw[hbk,h0];simp
   ·have e2:¬k=i:=fun h=>e h.symm
    simp[e,e2]
def nN(B:Nat->Nat->Nat->Prop)(p k:Nat):Nat->Nat->Nat->Prop:=fun a b c=>(B a b c/\¬(a=9/\b=p/\c=k+1))\/(a=9/\b=p/\c=k)\/(a=9/\b=p+2 ^ k/\c=k)
theorem VO{p k:Nat}(h:p%2 ^ (k+1)=0):p%2 ^ k=0/\(p+2 ^ k)%2 ^ k=0:=by
 have h1:p%2 ^ k=0:=by
  have : 2 ^ k ∣ p:=Nat.dvd_trans ⟨2,by rw[Nat.pow_succ]⟩ (Nat.dvd_of_mod_eq_zero h);exact Nat.mod_eq_zero_of_dvd this
 exact⟨h1,by rw[Nat.add_mod_right];exact h1⟩
theorem Sd.split{x t fr B}(s:Sd x t fr B){p k:Nat}(hb:B 9 p (k+1)):Sd x t fr (nN B p k):=by
 obtain⟨a1,a2,a3⟩:=s.al _ _ _ hb;have hz2 : 2 ^ (k+1)=2 ^ k+2 ^ k:=by rw[Nat.pow_succ];omega
 have hz : 0<2 ^ k:=Nat.pow_pos (by decide);obtain⟨m1,m2⟩:=VO a2;refine⟨s.mo,s.o8,s.dv,s.nb,s.n1,s.b1,s.b2,?_,?_,?_,?_,?_,?_,s.ch,s.wl,s.bt,s.nm,fun q r h=>⟨.inl ⟨(s.vs q r h).1,fun e=>by omega⟩,(s.vs q r h).2⟩⟩
 ·rintro a b c (⟨h1,h2⟩|⟨rfl,rfl,rfl⟩|⟨rfl,rfl,rfl⟩)
  ·exact s.tg _ _ _ h1
  ·exact .inr (.inr rfl)
  ·exact .inr (.inr rfl)
 ·intro q j;rw[<-s.fi q j];constructor
  ·rintro (⟨h1,h2⟩|⟨e,_⟩|⟨e,_⟩)
   ·exact h1
   ·omega
   ·omega
  ·exact fun h1=>.inl ⟨h1,fun e=>by omega⟩
 ·rintro a b c (⟨h1,h2⟩|⟨rfl,rfl,rfl⟩|⟨rfl,rfl,rfl⟩)
  ·exact s.al _ _ _ h1
  ·exact⟨by omega,m1,by omega⟩
  ·exact⟨by omega,m2,by omega⟩
 ·have key:∀ a b c,B a b c->¬(a=9/\b=p/\c=k+1)->b+2 ^ c<=p\/p+2 ^ (k+1)<=b:=fun a b c h1 h2=>by
   rcases s.ds _ _ _ _ _ _ h1 hb with e|e
   ·exact absurd e h2
   ·exact e
  rintro a b c a' b' c' (⟨h1,h2⟩|⟨rfl,rfl,rfl⟩|⟨rfl,rfl,rfl⟩) (⟨h3,h4⟩|⟨rfl,rfl,rfl⟩|⟨rfl,rfl,rfl⟩)
  ·exact s.ds _ _ _ _ _ _ h1 h3
  ·have:=key _ _ _ h1 h2;right;omega
  ·have:=key _ _ _ h1 h2;right;omega
  ·have:=key _ _ _ h3 h4;right;omega
  ·exact .inl ⟨rfl,rfl,rfl⟩
  ·right;omega
  ·have:=key _ _ _ h3 h4;right;omega
  ·right;omega
  ·exact .inl ⟨rfl,rfl,rfl⟩
 ·intro i hi;obtain⟨a,b,c,h1,h2,h3⟩:=s.cv i hi;by_cases e:a=9/\b=p/\c=k+1
  ·obtain⟨rfl,rfl,rfl⟩:=e;by_cases e2:i<b+2 ^ k
   ·exact⟨9,b,k,.inr (.inl ⟨rfl,rfl,rfl⟩),h2,e2⟩
   ·exact⟨9,b+2 ^ k,k,.inr (.inr ⟨rfl,rfl,rfl⟩),by omega,by omega⟩
  ·exact⟨a,b,c,.inl ⟨h1,e⟩,h2,h3⟩
 ·rintro a b c (⟨h1,h2⟩|⟨rfl,rfl,rfl⟩|⟨rfl,rfl,rfl⟩) h9
  ·exact s.pg _ _ _ h1 h9
  ·exact absurd rfl h9
  ·exact absurd rfl h9
def IW(B:Nat->Nat->Nat->Prop)(p k:Nat):Nat->Nat->Nat->Prop:=fun a b c=>(B a b c/\¬(a=9/\b=p/\c=k)/\¬(a=9/\b=p+2 ^ k/\c=k))\/(a=9/\b=p/\c=k+1)
theorem Sd.unite{x t fr B}(s:Sd x t fr B){p k:Nat}(hb:B 9 p k)(hc:B 9 (p+2 ^ k) k)(hm:p%2 ^ (k+1)=0)(hk:k<x.o):Sd x t fr (IW B p k):=by
 obtain⟨a1,a2,a3⟩:=s.al _ _ _ hb;obtain⟨d1,d2,d3⟩:=s.al _ _ _ hc;have hz2 : 2 ^ (k+1)=2 ^ k+2 ^ k:=by rw[Nat.pow_succ];omega
 have hz : 0<2 ^ k:=Nat.pow_pos (by decide);refine⟨s.mo,s.o8,s.dv,s.nb,s.n1,s.b1,s.b2,?_,?_,?_,?_,?_,?_,s.ch,s.wl,s.bt,s.nm,fun q r h=>⟨.inl ⟨(s.vs q r h).1,fun e=>by omega,fun e=>by omega⟩,(s.vs q r h).2⟩⟩
 ·rintro a b c (⟨h1,h2⟩|⟨rfl,rfl,rfl⟩)
  ·exact s.tg _ _ _ h1
  ·exact .inr (.inr rfl)
 ·intro q j;rw[<-s.fi q j];constructor
  ·rintro (⟨h1,h2⟩|⟨e,_⟩)
   ·exact h1
   ·omega
  ·exact fun h1=>.inl ⟨h1,fun e=>by omega,fun e=>by omega⟩
 ·rintro a b c (⟨h1,h2⟩|⟨rfl,rfl,rfl⟩)
  ·exact s.al _ _ _ h1
  ·exact⟨by omega,hm,by omega⟩
 ·have key:∀ a b c,B a b c->¬(a=9/\b=p/\c=k)/\¬(a=9/\b=p+2 ^ k/\c=k)->b+2 ^ c<=p\/p+2 ^ (k+1)<=b:=fun a b c h1 h2=>by
   have hq : 0<2 ^ c:=Nat.pow_pos (by decide);rcases s.ds _ _ _ _ _ _ h1 hb with e|e
   ·exact absurd e h2.1
   ·rcases s.ds _ _ _ _ _ _ h1 hc with e2|e2
    ·exact absurd e2 h2.2
    ·omega
  rintro a b c a' b' c' (⟨h1,h2⟩|⟨rfl,rfl,rfl⟩) (⟨h3,h4⟩|⟨rfl,rfl,rfl⟩)
  ·exact s.ds _ _ _ _ _ _ h1 h3
  ·right;exact key _ _ _ h1 h2
  ·have:=key _ _ _ h3 h4;right;omega
  ·exact .inl ⟨rfl,rfl,rfl⟩
 ·intro i hi;obtain⟨a,b,c,h1,h2,h3⟩:=s.cv i hi;by_cases e:a=9/\b=p/\c=k
  ·obtain⟨rfl,rfl,rfl⟩:=e;exact⟨9,b,c+1,.inr ⟨rfl,rfl,rfl⟩,h2,by omega⟩
  ·by_cases e2:a=9/\b=p+2 ^ k/\c=k
   ·obtain⟨rfl,rfl,rfl⟩:=e2;exact⟨9,p,c+1,.inr ⟨rfl,rfl,rfl⟩,by omega,by omega⟩
   ·exact⟨a,b,c,.inl ⟨h1,e,e2⟩,h2,h3⟩
 ·rintro a b c (⟨h1,h2⟩|⟨rfl,rfl,rfl⟩) h9
  ·exact s.pg _ _ _ h1 h9
  ·exact absurd rfl h9
end Go.Proofs.YtkfmheelhinjdaaGreatDoor
namespace Go.Proofs.YtkfmheelhinjdaaGreatDoor.W
open Tryz
open Go.RowKit
set_option linter.unusedVariables false
theorem yW(f:Nat->Bool):∀ (M j:Nat),j<M->f j=true->0<aF f M
 | 0,j,h,_=>by omega
 | M+1,j,h,hf=>by
  by_cases e:j=M
  ·rw[e] at hf;rw[lB f M hf];omega
  ·have:=yW f M j (by omega) hf
   cases h2:f M with
   | true=>rw[lB f M h2];omega
   | false=>rw[kJ f M h2];exact this
theorem BU{w:World}{b c n:Nat}{ws:List Nat}(h:SetAt w b c n ws):aU ws=0↔∀ j,j<n->aE ws j=false:=by
 have e:aU ws=aF (aE ws) (64*ws.length):=sB ws h.lt64 ws.length;rw[e];have hl:=h.len;constructor
 ·intro h0 j hj
  cases hb:aE ws j with
  | false=>rfl
  | true=>
   have:=yW (aE ws) (64*ws.length) j (by omega) hb;omega
 ·intro h0;exact ZB _ _ fun j _=>by
   by_cases hj:j<n
   ·exact h0 j hj
   ·exact h.bit_past j (by omega)
def cD(W:World)(sc:Nat):List Nat:=match W.heap[sc]? with
 | some (.cells cs _ _)=>cs.toList.map fun v=>(intOf v).toNat
 | _=>[]
theorem hY{W:World}{b c n:Nat}{ws:List Nat}(h:SetAt W b c n ws):cD W c=ws:=by
 unfold cD;rw[h.hc];simp[bJ,intOf];conv=>rhs;rw[<-List.map_id ws]
 rfl
theorem uB{w w':World}{b c n:Nat}{ws:List Nat}{i:Nat}(h:SetAt w b c n ws)(h':SetAt w' b c n (bO n ws (i:Int) false))(hi:i<n)(hb:aE ws i=true):aU (bO n ws (i:Int) false)+1=aU ws:=by
 have hr:aB n (i:Int)=true:=by unfold aB;exact decide_eq_true (by omega)
 have hs:cC n ws (i:Int)=true:=by unfold cC;rw[hr,Int.toNat_natCast,Bool.true_and,hb]
 have e:bO n ws (i:Int) false=jO ws i:=by
  unfold bO fN;rw[hs,if_neg (by decide),if_pos hr,Int.toNat_natCast]
 rw[e] at h' ⊢;have hl:=h.len;exact ZA ws i h.lt64 h'.lt64 (by omega) hb
def pgL(I:Img)(S:Pg->Bool):List Nat:=(List.range I.np).filter fun i=>S (I.pg i)
theorem pgL_nodup(I:Img)(S:Pg->Bool):(pgL I S).Nodup:=List.nodup_range.filter _
theorem pgL_mem{I:Img}{S:Pg->Bool}{i:Nat} : i∈pgL I S↔i<I.np/\S (I.pg i)=true:=by simp[pgL]
def ok8(I:Img)(j:Nat):Bool:=bP (decP I) 0 (fun i=>M.word I.mem (4096*i)) (fun i=>M.word I.mem (4096*i+8)) ((pgL I fun p=>isF p (j:Int)).length+1) (pgL I fun p=>isF p (j:Int)) (I.hd.getD j 0) 0
section
variable {α : Type} [DecidableEq α] {dec : α->Option Nat} {nil : α} {nxt bk:Nat->α}
theorem yV{l:List Nat}{b : α} : bP dec nil nxt bk (l.length+1) l nil b=l.isEmpty:=by rw[bP,if_pos rfl]
theorem rC{l:List Nat}{p b : α}(hp:p≠nil)(h:∀ i,dec p=some i->i ∉ l\/bk i≠b):bP dec nil nxt bk (l.length+1) l p b=false:=by
 rw[bP,if_neg hp]
 cases hd:dec p with
 | none=>rfl
 | some i=>
  show(decide (i∈l) && _)=false
  rcases h i hd with h1|h1
  ·rw[decide_eq_false h1];rfl
  ·rw[decide_eq_false h1];simp
theorem yU{l:List Nat}{p b : α}{i:Nat}(hp:p≠nil)(hd:dec p=some i)(hi:i∈l)(hb:bk i=b):bP dec nil nxt bk (l.length+1) l p b=bP dec nil nxt bk ((l.erase i).length+1) (l.erase i) (nxt i) p:=by
 rw[bP,if_neg hp,hd];show(decide (i∈l) && (decide (bk i=b) && _))=_
 rw[decide_eq_true hi,decide_eq_true hb,List.length_erase_of_mem hi];have:l.length-1+1=l.length:=by
  have:=List.length_pos_of_mem hi;omega
 rw[this];rfl
end
structure L8(w W:World)(cb sb sc n a:Nat)(ws:List Nat)(l:List Nat):Prop where
 bx:W.heap[cb]?=some (.cells #[.int .i64 a] 3 (0,0))
 st:SetAt W sb sc n ws
 ge:w.heap.size<=sc
 ne:cb≠sc
 k:Kt nO w W
 nd:l.Nodup
 mem:∀ i,i<n->aE ws i=decide (i∈l)
 lt:∀ i,i∈l->i<n
theorem L8.keep{w W W':World}{cb sb sc n a:Nat}{ws l:List Nat}(h:L8 w W cb sb sc n a ws l)(hk:Kt nO W W'):L8 w W' cb sb sc n a ws l:=
 ⟨(hk.block _ (lH h.bx) (fun x=>x)).trans h.bx,h.st.kept hk (fun x=>x) (fun x=>x),h.ge,h.ne,nT h.k hk,h.nd,h.mem,h.lt⟩
theorem L8.met{w W W':World}{cb sb sc n a i:Nat}{ws l:List Nat}(h:L8 w W cb sb sc n a ws l)(hk:Kt (fun x=>x=sc) W W')(hi:i∈l)(hs:SetAt W' sb sc n (bO n ws (i:Int) false)):L8 w W' cb sb sc n a (bO n ws (i:Int) false) (l.erase i):=by
 refine⟨(hk.block _ (lH h.bx) h.ne).trans h.bx,hs,h.ge,h.ne,h.k.trans hk (fun _ _ x=>x) (fun x hx e=>by have:=h.ge;omega),h.nd.erase i,fun j hj=>?_,fun j hj=>h.lt j (List.mem_of_mem_erase hj)⟩;rw[rS h.st.len i (h.lt i hi) false j];by_cases e:j=i
 ·rw[if_pos e,e];exact(decide_eq_false (fun hm=>((h.nd.mem_erase_iff).1 hm).1 rfl)).symm
 ·rw[if_neg e,h.mem j hj,decide_eq_decide,h.nd.mem_erase_iff];exact⟨fun hm=>⟨e,hm⟩,fun hm=>hm.2⟩
def mT(l:List Nat)(x:Option Nat):Bool:=match x with|some i=>decide (i∈l)|none=>false
theorem L8.ins{w W:World}{cb sb sc n a:Nat}{ws l:List Nat}(h:L8 w W cb sb sc n a ws l)(x:Option Nat)(hx:∀ i,x=some i->i<n):cC n ws (gD x)=mT l x:=by
 cases x with
 | none=>simp[gD,cC,aB,mT]
 | some i=>
  have:=hx i rfl;show cC n ws (i:Int)=decide (i∈l)
  unfold cC aB;rw[decide_eq_true (by omega),Int.toNat_natCast,Bool.true_and,h.mem i this]
theorem L8.empty{w W:World}{cb sb sc n a:Nat}{ws l:List Nat}(h:L8 w W cb sb sc n a ws l):l.isEmpty=decide (aU ws=0):=by
 rw[Bool.eq_iff_iff,List.isEmpty_iff,decide_eq_true_eq,BU h.st];constructor
 ·intro e j hj;rw[h.mem j hj,e];rfl
 ·intro hz
  cases l with
  | nil=>rfl
  | cons x t=>
   exfalso
   have hx:=h.lt x List.mem_cons_self;have:=hz x hx;rw[h.mem x hx,decide_eq_true List.mem_cons_self] at this
   cases this
theorem oW{I:Img}{k r p i:Nat}(hS:Sn9 I k r)(h:decP I p=some i):i<I.np/\p=I.bS+4096*i/\p≠0:=by
 unfold decP at h;split at h
 ·rename_i hc;injection h with h
  have:=hS.nm;have hb:=hS.b0;omega
 ·cases h
theorem word_lt{w:World}{I:Img}{V:ImV}(h:ImD w I V)(q:Nat)(hq:q+8<=I.nm):M.word I.mem q<18446744073709551616:=by
 obtain⟨⟨ma,mc,hm⟩,-⟩:=h.sl;have hM:=h.mem;rw[hm] at hM;obtain⟨bl,o,-,-,hc⟩:=hM.at q (by omega);exact M.wordTo_lt (fun i=>I.mem (q+i)) 8 fun i hi=>(hc (q+i) (by omega)).1
theorem IC(cb a:Nat)(p:Pg)(w:World)(h:w.heap[cb]?=some (.cells #[.int .i64 a] 3 (0,0))):
  Calls prog 224 #[dU p,.pointer (some ⟨cb,0,none⟩)] w fun e w'=>e=.returned (.bool (isF p (a:Int)))/\Kt nO w w':=by
 have c0:w.cell? ⟨cb,0,none⟩=some (.int .i64 a):=by simp[World.cell?,h]
 have HF:=aA (fun W=>pL p (a:Int) W);have HB:=aA h;have c1:(w.alloc (aQ p)).cell? ⟨cb,0,none⟩=some (.int .i64 a):=(show Kt nO w (w.alloc (aQ p))from(Kt.refl _ _).alloc _).cell (fun x=>x) c0;have HN:=aA (nH w (aQ p));have HK:=aA (show Kt nO w (w.alloc (aQ p))from(Kt.refl _ _).alloc _);generalize isF p (a:Int)=fv at *;clear h;go_enter func224,ntmps224;go_wp2_with fail;refine(HF.out _).mono ?_;rintro e w1 ⟨rfl,hk⟩;have K1:=aA (nT HK.out hk);clear hk c0 c1;go_wp2_with fail;go_ret;exact⟨rfl,K1.out⟩
theorem zg8(xs:Array Value)(w:World):Sem.run prog (callFunc 225 xs) w=.ok (.enter 225 xs) w:=by
 simp[callFunc,go_sem,func225];rfl
theorem ZF{Q:Exit->Act->World->Prop}{o:Oper}{a:Act}{w:World}{x y z:Operand}{ts:Array TypeId}{sb sc n:Nat}{ws:List Nat}{i p:Int}(ho:o.op=.call { callee:=.value (.func 225),args:=#[x,y,z],argTypes:=ts })
  (hx:a.eval x=.pointer (some ⟨sb,0,none⟩)) (hy:a.eval y=.int .i64 i) (hz:a.eval z=.int .i64 p) (hs:SetAt w sb sc n ws) (hb:cC n ws i=false) (h:∀ a',a'.defers=a.defers->Q (.panic [{ v:=.iface 218 (.int .i64 p),recovered:=false }]) a' w):fX prog Q o a w:=by
 refine BZ zg8 ho ?_;have e:(#[x,y,z] : Array Operand).map a.eval=#[.pointer (some ⟨sb,0,none⟩),.int .i64 i,.int .i64 p]:=by simp[hx,hy,hz]
 rw[e];refine(tO sb sc n ws i p w hs hb).mono ?_;rintro e w1 ⟨rfl,rfl⟩;exact⟨_,rfl,h⟩
theorem zcP(b:Nat)(I:Img)(V:ImV)(k r:Nat)(hS:Sn9 I k r)(w:World)(hI:ImAt w b I V):
  Calls prog 172 #[.pointer (some ⟨b,0,none⟩)] w fun e w'=>e=aZ (fst1 (k+1) (ok8 I))/\Kt nO w w':=by
 obtain⟨-,-,-,⟨ha,hc,hh⟩,-,-,-,-,-⟩:=hI.d.sl;obtain⟨c0,c1,c2,c3,c4,c5,c6,c7,c8⟩:=hI.cells;rw[hh] at c7;have hhs:=hI.d.hds;rw[hh] at hhs;obtain⟨bl,o,rfl,hbl,hhc⟩:=hhs.at 0 (by rw[hS.hl];omega);obtain⟨EE,hEE⟩:=xe (aZ (fst1 (k+1) (ok8 I)));rw[<-hEE];have HE:=aA hEE;have HI:=aA hI;have HS:=aA hS;rw[hS.hl] at c7 hhc;have HHC:=aA hhc;have hk8:=hS.k8;have hnp:=hS.np1;have hmf:∀ (fn:Fn) (first cap:Array Value) (w:World),(Instr.makeFunc fn first cap).run prog w=.ok (.func fn first cap) w:=fun _ _ _ _=>rfl
 obtain⟨K,hK⟩:=xe (k+1);rw[<-hK] at c7;have HKK:=aA hK;have hK9:K<=9:=by omega
 clear hEE hI hS hh hhs hhc hK hbl;go_enter func172,ntmps172;go_wp2_with fail;go_loopw [11] (fun i W=>∃ a:Nat,a<=K/\i=.int .i64 a/\Hid (Kt nO w W/\∀ x,x<a->ok8 I x=true)) (fun i _=>K-(intOf i).toNat)
 case atStart=>exact⟨0,Nat.zero_le _,rfl,aA ⟨Kt.refl _ _,fun x hx=>by omega⟩⟩
 case round=>
  clear c0 c1 c2 c3 c4 c5 c6 c7 c8;obtain⟨a,ha',rfl,hR⟩:=hrel;by_cases hlt:a<K
  ·have hai:(a:Int)<K:=(by omega);obtain⟨hp64,hpc⟩:=HHC.out a (by rw[<-HKK.out];exact hlt);have d0:=hR.out.1.cell (fun x=>x) hpc;obtain⟨p,hp⟩:=xe (I.hd.getD a 0);rw[<-hp] at d0 hp64;have FB:=aA (show ok8 I a=false->bN (a:Int)=EE from fun h=>by rw[HE.out,fF (by rw[<-HKK.out];exact hlt) hR.out.2 h];rfl);have GA:=aA (show ok8 I a=true->∀ x,x<a+1->ok8 I x=true from fun h x hx=>by
    by_cases e:x=a
    ·rw[e];exact h
    ·exact hR.out.2 x (by omega))
   have OK:=aA (show bP (decP I) 0 (fun i=>M.word I.mem (4096*i)) (fun i=>M.word I.mem (4096*i+8)) ((pgL I fun p=>isF p (a:Int)).length+1) (pgL I fun p=>isF p (a:Int)) p 0=ok8 I a by rw[hp];rfl);generalize ok8 I a=okv at *;have B1:=aA (show(wr.alloc (.cells #[.int .i64 a] 3 (0,0))).heap[wr.heap.size]?=some (.cells #[.int .i64 a] 3 (0,0))from nH _ _);have K1:=aA (show Kt nO w (wr.alloc (.cells #[.int .i64 a] 3 (0,0)))from hR.out.1.alloc _);have SZ:=aA (show wr.heap.size<(wr.alloc (.cells #[.int .i64 a] 3 (0,0))).heap.size by simp);clear hp hpc;go_wp2_with fail;generalize wr.alloc (.cells #[.int .i64 a] 3 (0,0))=W1 at *;generalize wr.heap.size=cb at *;refine(JP b cb I V (fun p=>isF p (a:Int)) W1 (HI.out.keep K1.out) hnp (fun i W hi hk=>IC cb a (I.pg i) W ((hk.block _ (lH B1.out) (fun x=>x)).trans B1.out))).mono ?_;rintro e w2 ⟨sb,sc,ws,rfl,hst,hge1,hge2,hbt,hk2⟩;have LL:=aA (show L8 w w2 cb sb sc I.np a ws (pgL I fun p=>isF p (a:Int))from⟨(hk2.block _ (lH B1.out) (fun x=>x)).trans B1.out,hst,Nat.le_trans K1.out.size hge2,by have:=SZ.out;omega,nT K1.out hk2,pgL_nodup _ _,fun i hi=>by
    rw[hbt i hi,Bool.eq_iff_iff,decide_eq_true_eq,pgL_mem];exact⟨fun h=>⟨hi,h⟩,fun h=>h.2⟩,fun i hi=>(pgL_mem.1 hi).1⟩)
   clear hst hge1 hge2 hbt hk2 d0 B1 K1 SZ;go_wp2_with fail;go_loopw [3,5] (fun pv bv W=>∃ p q:Nat,pv=.int .u64 p/\bv=.int .u64 q/\p<18446744073709551616/\q<18446744073709551616/\Hid (∃ ws l,L8 w W cb sb sc I.np a ws l/\bP (decP I) 0 (fun i=>M.word I.mem (4096*i)) (fun i=>M.word I.mem (4096*i+8)) (l.length+1) l p q=okv)) (fun _ _ W=>aU (cD W sc))
   case atStart=>exact⟨p,0,rfl,rfl,hp64,by decide,aA ⟨_,_,LL.out,OK.out⟩⟩
   case round=>
    clear LL OK hp64;obtain⟨p,q,rfl,rfl,hp64,hq64,hL⟩:=hrel;obtain⟨ws,l,hl,hok⟩:=hL.out;have LL:=aA hl;have OK:=aA hok;clear hL hl hok;by_cases hp0:p=0
    ·have hp0':((p:Int) != 0)=false:=(by rw[hp0];rfl);have OK2:=aA (show okv=decide (aU ws=0)by rw[<-OK.out,hp0,yV,LL.out.empty]);obtain⟨cw,hcw⟩:=xe (aU ws);have HCT:=aA (fun (x:KW wr)=>sA sb sc I.np ws x.v (LL.out.keep x.k).st);rw[<-hcw] at HCT OK2;have c0:∀ x:KW wr,x.v.cell? ⟨cb,0,none⟩=some (.int .i64 a):=fun x=>by simp[World.cell?,(LL.out.keep x.k).bx]
     clear hp0 hcw;by_cases g:cw=0
     case neg=>
      have R2:=aA (FB.out (by rw[OK2.out,decide_eq_false g]));have f4:((cw:Int) == 0)=false:=(by rw[beq_eq_false_iff_ne];omega);clear g;go_wp2_with fail;refine fW (by kernel_rfl) (by kernel_rfl) (by exact List.cons_ne_nil _ _) ?_;dsimp only[List.dropLast,List.getLast];repeat (go_big_quiet_step (first|(go_at_call 218;exact Calls.kept_of ((HCT.out _).mono fun _ _ ⟨h1,h2⟩=>⟨h1,h2▸Kt.refl _ _⟩))))
      refine wpQuiet_nil ?_;refine⟨rfl,?_⟩;rintro _ ⟨x,rfl⟩;exact fV (p:=(a:Int)) rfl rfl rfl fun _ hd=>⟨hd,R2.out,nT LL.out.k x.k⟩
     have R2:=aA (GA.out (by rw[OK2.out,decide_eq_true g]));have f4:((cw:Int) == 0)=true:=(by rw[beq_iff_eq];omega);have HMY:=aA (fun W=>cL (a:Int) W);clear g;go_wp2_with fail;refine bR (by kernel_rfl) (by kernel_rfl) ?_;repeat (go_big_quiet_step (first|(go_at_call 218;exact Calls.kept_of ((HCT.out _).mono fun _ _ ⟨h1,h2⟩=>⟨h1,h2▸Kt.refl _ _⟩))|(go_at_call 212;exact Calls.kept_of ((HMY.out _).mono fun _ _ ⟨h1,h2⟩=>⟨h1,h2▸Kt.refl _ _⟩))))
     refine wpQuiet_nil ?_;intro x;have R3:=aA (show Kt nO w x.v/\_ from⟨nT LL.out.k x.k,R2.out⟩);clear c0;go_wp2_with fail;go_round
     case rel=>exact⟨a+1,by omega,by go_num,R3⟩
     case measure=>simp[intOf];omega
    ·have hp0':((p:Int) != 0)=true:=(by rw[bne_iff_ne];omega);have IM:=aA (HI.out.keep LL.out.k);have HPA:=aA (fun (x:KW wr)=>zhA b I V p hp64 x.v (IM.out.keep x.k) HS.out.be);have INS:=aA (LL.out.ins (decP I p) (fun i h=>(oW HS.out h).1));obtain⟨di,hdi⟩:=xe (gD (decP I p));rw[<-hdi] at HPA INS;have HDI:=aA hdi;have c0:∀ x:KW wr,x.v.cell? ⟨cb,0,none⟩=some (.int .i64 a):=fun x=>by simp[World.cell?,(LL.out.keep x.k).bx]
     clear hdi
     cases hin:cC I.np ws di with
     | false=>
      have R2:=aA (FB.out (by
       rw[<-OK.out];refine rC hp0 fun i hi=>.inl fun hm=>?_
       have:=INS.out;rw[hi,hin] at this;exact absurd hm (of_decide_eq_false this.symm)))
      have HIN:=aA hin;clear hin hp0;go_wp2_with fail;refine fW (by kernel_rfl) (by kernel_rfl) (by exact List.cons_ne_nil _ _) ?_;dsimp only[List.dropLast,List.getLast];repeat (go_big_quiet_step (first|(go_at_call 226;exact Calls.kept_of ((HPA.out _).mono fun _ _ ⟨h1,h2⟩=>⟨h1,h2▸Kt.refl _ _⟩))))
      refine wpQuiet_nil ?_;refine⟨rfl,?_⟩;rintro _ ⟨x,rfl⟩;exact ZF (p:=(a:Int)) rfl rfl rfl rfl (LL.out.keep x.k).st HIN.out fun _ hd=>⟨hd,R2.out,nT LL.out.k x.k⟩
     | true=>
      have hex:∃ i,decP I p=some i/\i∈l:=by
       have:=INS.out;rw[hin] at this
       cases hd:decP I p with
       | none=>rw[hd] at this;cases this
       | some i=>rw[hd] at this;exact⟨i,rfl,of_decide_eq_true this.symm⟩
      obtain⟨i,hi,hil⟩:=hex;obtain⟨hin1,hpi,-⟩:=oW HS.out hi;have hdi:di=(i:Int):=(by rw[HDI.out,hi];rfl);subst hdi;have HIN:=aA hin;have HIL:=aA hil;have HD:=aA (show decP I p=some i/\p≠0 from⟨hi,hp0⟩);have HPI:=aA hpi;have HI1:=aA hin1;clear hin hil hi hpi hin1 hp0;go_wp2_with fail;have HPA2:=aA (show Calls prog 226 #[.pointer (some ⟨b,0,none⟩),.int .u64 p] wr.drew fun e w'=>e=.returned (.int .i64 i)/\w'=wr.drew from(HPA.out ⟨wr.drew,(Kt.refl nO wr).drew⟩));have HME:=aA (uG sb sc I.np ws (i:Int) (a:Int) wr.drew (LL.out.keep (Kt.refl nO wr).drew).st HIN.out);have y0:wr.drew.cell? ⟨cb,0,none⟩=some (.int .i64 a):=c0 ⟨wr.drew,(Kt.refl nO wr).drew⟩;clear c0;go_cut [26] (fun v W=>Hid (SetAt W sb sc I.np (bO I.np ws (i:Int) false)/\Kt (fun x=>x=sc) wr.drew W/\W.heap.size=wr.drew.heap.size))
      case first=>
       go_region_held3 (fun w'=>w'.cell? ⟨cb,0,none⟩=some (.int .i64 a)) (first|with_reducible exact y0|with_reducible exact y1) (first|(go_at_call 226;with_reducible refine HPA2.out.mono ?_;rintro e w1 ⟨rfl,rfl⟩)|(go_at_call 225;with_reducible refine HME.out.mono ?_;rintro e w1 ⟨rfl,h1,h2,h3⟩;have M1:=aA (show SetAt w1 sb sc I.np (bO I.np ws (i:Int) false)/\Kt (fun x=>x=sc) wr.drew w1/\w1.heap.size=wr.drew.heap.size from⟨h1,h2,h3⟩);have y1:w1.cell? ⟨cb,0,none⟩=some (.int .i64 a):=h2.cell LL.out.ne y0;clear h1 h2 h3)|fail)
       all_goals (go_wp2_with fail;go_meet;exact M1)
      case rest=>
      rename_i wc _;have MC:=aA hcut.out;clear hcut;have LM:=aA (show L8 w wc cb sb sc I.np a (bO I.np ws (i:Int) false) (l.erase i)from(LL.out.keep (Kt.refl nO wr).drew).met MC.out.2.1 HIL.out MC.out.1);have MSR:=aA (show aU (cD wc sc)<aU (cD wr sc)by
       rw[hY LM.out.st,hY LL.out.st];have hb:aE ws i=true:=(by rw[LL.out.mem i HI1.out];exact decide_eq_true HIL.out);have:=uB LL.out.st LM.out.st HI1.out hb;omega)
      have IM2:=aA (HI.out.keep LM.out.k);have hqn : 4096*i+8+8<=I.nm:=(by have:=HS.out.nm;have:=HI1.out;omega);have HW8:=aA (fun (x:KW wc)=>uH b I V (4096*i+8) x.v (IM2.out.keep x.k) hqn HS.out.be);have HW0:=aA (fun (W:World) (hW:Kt nO wc W)=>uH b I V (4096*i) W (IM2.out.keep hW) (by omega) HS.out.be);have hpb:p<9223372036854775808:=(by have:=HPI.out;have:=HS.out.be;omega);have e8:((I.bS+(4096*i+8):Nat):Int)=(p:Int)+8:=(by have:=HPI.out;omega);have e0:((I.bS+4096*i:Nat):Int)=(p:Int):=(by have:=HPI.out;omega);rw[e8] at HW8;rw[e0] at HW0;have NXT:=aA (show M.word I.mem (4096*i+8)=q->bP (decP I) 0 (fun i=>M.word I.mem (4096*i)) (fun i=>M.word I.mem (4096*i+8)) ((l.erase i).length+1) (l.erase i) (M.word I.mem (4096*i)) p=okv from fun h=>by
       rw[<-OK.out];exact(yU (nxt:=fun i=>M.word I.mem (4096*i)) (bk:=fun i=>M.word I.mem (4096*i+8)) HD.out.2 HD.out.1 HIL.out h).symm)
      have NOT:=aA (show ¬M.word I.mem (4096*i+8)=q->bN (a:Int)=EE from fun h=>FB.out (by
       rw[<-OK.out];refine rC HD.out.2 fun j hj=>.inr ?_
       rw[HD.out.1] at hj;injection hj with hj
       rw[<-hj];exact h))
      have WLT:=aA (word_lt IM2.out.d (4096*i) (by omega));generalize M.word I.mem (4096*i+8)=wb at *;generalize M.word I.mem (4096*i)=wn at *;have c0:∀ x:KW wc,x.v.cell? ⟨cb,0,none⟩=some (.int .i64 a):=fun x=>by simp[World.cell?,(LM.out.keep x.k).bx]
      clear e8 e0 y0 HPA2 HME hqn;by_cases g:wb=q
      case neg=>
       have R2:=aA (NOT.out g);have f4:((wb:Int) == (q:Int))=false:=(by rw[beq_eq_false_iff_ne];omega);clear g;go_wp2_with fail;refine fW (by kernel_rfl) (by kernel_rfl) (by exact List.cons_ne_nil _ _) ?_;dsimp only[List.dropLast,List.getLast];repeat (go_big_quiet_step (first|(go_at_call 227;exact Calls.kept_of ((HW8.out _).mono fun _ _ ⟨h1,m,h2⟩=>⟨h1,h2▸(Kt.refl _ _).drewN m⟩))))
       refine wpQuiet_nil ?_;refine⟨rfl,?_⟩;rintro _ ⟨x,rfl⟩;exact fV (p:=(a:Int)) rfl rfl rfl fun _ hd=>⟨hd,R2.out,nT LM.out.k x.k⟩
      have R2:=aA (NXT.out g);have f4:((wb:Int) == (q:Int))=true:=(by rw[beq_iff_eq];omega);have HMY:=aA (fun W=>cL (a:Int) W);clear g;go_wp2_with fail;refine bR (by kernel_rfl) (by kernel_rfl) ?_;repeat (go_big_quiet_step (first|(go_at_call 227;exact Calls.kept_of ((HW8.out _).mono fun _ _ ⟨h1,m,h2⟩=>⟨h1,h2▸(Kt.refl _ _).drewN m⟩))|(go_at_call 212;exact Calls.kept_of ((HMY.out _).mono fun _ _ ⟨h1,h2⟩=>⟨h1,h2▸Kt.refl _ _⟩))))
      refine wpQuiet_nil ?_;intro x;clear c0;go_wp2_with fail;refine(HW0.out x.v x.k).mono ?_;rintro e w5 ⟨rfl,m5,rfl⟩;have KF:=aA (nT x.k ((Kt.refl nO x.v).drewN m5));have R3:=aA (show ∃ ws l,L8 w (x.v.drewN m5) cb sb sc I.np a ws l/\bP (decP I) 0 (fun i=>M.word I.mem (4096*i)) (fun i=>M.word I.mem (4096*i+8)) (l.length+1) l wn p=okv from⟨_,_,LM.out.keep KF.out,R2.out⟩);have MS2:=aA (show aU (cD (x.v.drewN m5) sc)<aU (cD wr sc)by
       rw[hY (LM.out.keep KF.out).st,<-hY LM.out.st];exact MSR.out)
      go_wp2_with fail;go_round
      case rel=>exact⟨wn,p,rfl,rfl,WLT.out,hp64,R3⟩
      case measure=>exact MS2.out
  ·obtain rfl:a=K:=(by omega);have hai:¬(a:Int)<a:=(by omega);have E:=aA (show Ending.returned (.tuple #[])=EE by rw[HE.out,fst1_ok (fun x hx=>hR.out.2 x (by rw[HKK.out];exact hx))];rfl);go_wp2_with fail;first|go_end0|go_ret
   exact⟨E.out,hR.out.1⟩
def prS(c:Int)(p:Pg):Bool:=decide (p.kd=4) && (decide (p.cl=c) && !decide (p.lv=(celN9 p.cl.toNat:Int)))
def dec10(I:Img)(x:Int):Option Nat:=if 0<=x/\x<(I.np:Int) then some x.toNat else none
def bT(I:Img)(j:Nat):Bool:=bP (dec10 I) (-1) (fun i=>(I.pg i).nx) (fun i=>(I.pg i).pv) ((pgL I (prS (j:Int))).length+1) (pgL I (prS (j:Int))) (I.pt.getD j 0) (-1)
theorem GN(cb a:Nat)(p:Pg)(c:Nat)(hc:p.cl=(c:Int))(h7:c<=7)(w:World)(h:w.heap[cb]?=some (.cells #[.int .i64 a] 3 (0,0))):
  Calls prog 229 #[dU p,.pointer (some ⟨cb,0,none⟩)] w fun e w'=>e=.returned (.bool (prS (a:Int) p))/\Kt nO w w':=by
 have c0:w.cell? ⟨cb,0,none⟩=some (.int .i64 a):=by simp[World.cell?,h]
 have HF:=aA (fun W=>zM p c hc h7 W);have c1:(w.alloc (aQ p)).cell? ⟨cb,0,none⟩=some (.int .i64 a):=(show Kt nO w (w.alloc (aQ p))from(Kt.refl _ _).alloc _).cell (fun x=>x) c0;have HK:=aA (show Kt nO w (w.alloc (aQ p))from(Kt.refl _ _).alloc _);have E:=aA (show prS (a:Int) p=(decide (p.kd=4) && (decide (p.cl=(a:Int)) && !decide (p.lv=(celN9 c:Int))))by unfold prS;rw[hc,Int.toNat_natCast]);generalize decide (p.lv=(celN9 c:Int))=fv at *;generalize prS (a:Int) p=rv at *;clear h hc;obtain⟨kd,od,cl,lv,nx,pv,fs,b0,b1,b2,b3⟩:=p;dsimp only at E;by_cases h4:kd=4
 ·subst h4;by_cases hca:cl=(a:Int)
  ·subst hca;have E2:=aA (show(!fv)=rv by rw[E.out];simp)
   cases fv with
   | false=>
    go_enter func229,ntmps229;go_wp2_with fail;refine(HF.out _).mono ?_;rintro e w1 ⟨rfl,hk⟩;have K1:=aA (nT HK.out hk);clear hk c0 c1;go_wp2_with fail;go_ret;exact⟨cG E2.out,K1.out⟩
   | true=>
    go_enter func229,ntmps229;go_wp2_with fail;refine(HF.out _).mono ?_;rintro e w1 ⟨rfl,hk⟩;have K1:=aA (nT HK.out hk);clear hk c0 c1;go_wp2_with fail;go_ret;exact⟨cG E2.out,K1.out⟩
  ·have E2:=aA (show false=rv by rw[E.out];simp[hca]);have f1:(cl == (a:Int))=false:=(by rw[beq_eq_false_iff_ne];exact hca);clear hca;go_enter func229,ntmps229;go_wp2_with fail;go_ret;exact⟨cG E2.out,HK.out⟩
 ·have E2:=aA (show false=rv by rw[E.out];simp[h4]);have f1:(kd == 4)=false:=by rw[beq_eq_false_iff_ne];exact h4
  clear h4;go_enter func229,ntmps229;go_wp2_with fail;go_ret;exact⟨cG E2.out,HK.out⟩
theorem tD{I:Img}{x:Int}{i:Nat}(h:dec10 I x=some i):i<I.np/\x=(i:Int)/\x ≠ -1:=by
 unfold dec10 at h;split at h
 ·injection h with h
  omega
 ·cases h
theorem YV{w W:World}{cb sb sc a:Nat}{I:Img}{ws l:List Nat}(h:L8 w W cb sb sc I.np a ws l)(x:Int):cC I.np ws x=mT l (dec10 I x):=by
 unfold dec10;by_cases hx : 0<=x/\x<(I.np:Int)
 ·rw[if_pos hx];obtain⟨i,rfl⟩:=Int.eq_ofNat_of_zero_le hx.1;rw[Int.toNat_natCast];show cC I.np ws (i:Int)=decide (i∈l)
  unfold cC aB;rw[decide_eq_true (by omega),Int.toNat_natCast,Bool.true_and,h.mem i (by omega)]
 ·rw[if_neg hx];show cC I.np ws x=false
  unfold cC aB;rw[decide_eq_false hx];rfl
theorem zb9(b:Nat)(I:Img)(V:ImV)(k r:Nat)(hS:Sn9 I k r)(w:World)(hI:ImAt w b I V):
  Calls prog 174 #[.pointer (some ⟨b,0,none⟩)] w fun e w'=>e=aZ (fst1 8 (bT I))/\Kt nO w w':=by
 obtain⟨-,⟨pa,pc,hp⟩,-,-,⟨ta,tc,ht⟩,-,-,-,-⟩:=hI.d.sl;obtain⟨c0,c1,c2,c3,c4,c5,c6,c7,c8⟩:=hI.cells;rw[ht] at c8;have hts:=hI.d.pts;rw[ht] at hts;obtain⟨bl,o,rfl,hbl,htc⟩:=hts.at 0 (by rw[hS.tl];omega);obtain⟨EE,hEE⟩:=xe (aZ (fst1 8 (bT I)));rw[<-hEE];have HE:=aA hEE;have HI:=aA hI;have HS:=aA hS;have SP:=aA hp;rw[hS.tl] at c8 htc;have HHC:=aA htc;have hnp:=hS.np1;have hmf:∀ (fn:Fn) (first cap:Array Value) (w:World),(Instr.makeFunc fn first cap).run prog w=.ok (.func fn first cap) w:=fun _ _ _ _=>rfl
 obtain⟨n,hn⟩:=xe (I.np);have HN:=aA hn;clear hEE hI hS ht hts htc hbl hp hn;go_enter func174,ntmps174;go_wp2_with fail;go_loopw [11] (fun i W=>∃ a:Nat,a<=8/\i=.int .i64 a/\Hid (Kt nO w W/\∀ x,x<a->bT I x=true)) (fun i _=>8-(intOf i).toNat)
 case atStart=>exact⟨0,Nat.zero_le _,rfl,aA ⟨Kt.refl _ _,fun x hx=>by omega⟩⟩
 case round=>
  clear c0 c1 c2 c3 c4 c5 c6 c7 c8;obtain⟨a,ha',rfl,hR⟩:=hrel;by_cases hlt:a<8
  ·have hai:(a:Int)<8:=(by omega);obtain⟨hp64,hpc⟩:=HHC.out a hlt;have d0:=hR.out.1.cell (fun x=>x) hpc;obtain⟨p,hp⟩:=xe (I.pt.getD a 0);rw[<-hp] at d0 hp64;have FB:=aA (show bT I a=false->bN (a:Int)=EE from fun h=>by rw[HE.out,fF hlt hR.out.2 h];rfl);have GA:=aA (show bT I a=true->∀ x,x<a+1->bT I x=true from fun h x hx=>by
    by_cases e:x=a
    ·rw[e];exact h
    ·exact hR.out.2 x (by omega))
   have OK:=aA (show bP (dec10 I) (-1) (fun i=>(I.pg i).nx) (fun i=>(I.pg i).pv) ((pgL I (prS (a:Int))).length+1) (pgL I (prS (a:Int))) p (-1)=bT I a by rw[hp];rfl);generalize bT I a=okv at *;have B1:=aA (show(wr.alloc (.cells #[.int .i64 a] 3 (0,0))).heap[wr.heap.size]?=some (.cells #[.int .i64 a] 3 (0,0))from nH _ _);have K1:=aA (show Kt nO w (wr.alloc (.cells #[.int .i64 a] 3 (0,0)))from hR.out.1.alloc _);have SZ:=aA (show wr.heap.size<(wr.alloc (.cells #[.int .i64 a] 3 (0,0))).heap.size by simp);clear hp hpc;go_wp2_with fail;generalize wr.alloc (.cells #[.int .i64 a] 3 (0,0))=W1 at *;generalize wr.heap.size=cb at *;refine(JO b cb I V (prS (a:Int)) W1 (HI.out.keep K1.out) hnp (fun i W hi hk=>by
    obtain⟨_,_,c,_,-,-,-,-,y5,y6,-⟩:=HS.out.pg i hi;exact GN cb a (I.pg i) c y5 y6 W ((hk.block _ (lH B1.out) (fun x=>x)).trans B1.out))).mono ?_
   rintro e w2 ⟨sb,sc,ws,rfl,hst,hge1,hge2,hbt,hk2⟩;have LL:=aA (show L8 w w2 cb sb sc I.np a ws (pgL I (prS (a:Int)))from⟨(hk2.block _ (lH B1.out) (fun x=>x)).trans B1.out,hst,Nat.le_trans K1.out.size hge2,by have:=SZ.out;omega,nT K1.out hk2,pgL_nodup _ _,fun i hi=>by
    rw[hbt i hi,Bool.eq_iff_iff,decide_eq_true_eq,pgL_mem];exact⟨fun h=>⟨hi,h⟩,fun h=>h.2⟩,fun i hi=>(pgL_mem.1 hi).1⟩)
   clear hst hge1 hge2 hbt hk2 d0 B1 K1 SZ;go_wp2_with fail;go_loopw [3,5] (fun pv bv W=>∃ p q:Int,pv=.int .i64 p/\bv=.int .i64 q/\Hid (∃ ws l,L8 w W cb sb sc I.np a ws l/\bP (dec10 I) (-1) (fun i=>(I.pg i).nx) (fun i=>(I.pg i).pv) (l.length+1) l p q=okv)) (fun _ _ W=>aU (cD W sc))
   case atStart=>exact⟨p,-1,rfl,rfl,aA ⟨_,_,LL.out,OK.out⟩⟩
   case round=>
    clear LL OK hp64;obtain⟨p,q,rfl,rfl,hL⟩:=hrel;obtain⟨ws,l,hl,hok⟩:=hL.out;have LL:=aA hl;have OK:=aA hok;clear hL hl hok;by_cases hp0:p = -1
    ·have hp0':(p != -1)=false:=(by rw[hp0];rfl);have OK2:=aA (show okv=decide (aU ws=0)by rw[<-OK.out,hp0,yV,LL.out.empty]);obtain⟨cw,hcw⟩:=xe (aU ws);have HCT:=aA (fun (x:KW wr)=>sA sb sc I.np ws x.v (LL.out.keep x.k).st);rw[<-hcw] at HCT OK2;have c0:∀ x:KW wr,x.v.cell? ⟨cb,0,none⟩=some (.int .i64 a):=fun x=>by simp[World.cell?,(LL.out.keep x.k).bx]
     clear hp0 hcw;by_cases g:cw=0
     case neg=>
      have R2:=aA (FB.out (by rw[OK2.out,decide_eq_false g]));have f4:((cw:Int) == 0)=false:=(by rw[beq_eq_false_iff_ne];omega);clear g;go_wp2_with fail;refine fW (by kernel_rfl) (by kernel_rfl) (by exact List.cons_ne_nil _ _) ?_;dsimp only[List.dropLast,List.getLast];repeat (go_big_quiet_step (first|(go_at_call 218;exact Calls.kept_of ((HCT.out _).mono fun _ _ ⟨h1,h2⟩=>⟨h1,h2▸Kt.refl _ _⟩))))
      refine wpQuiet_nil ?_;refine⟨rfl,?_⟩;rintro _ ⟨x,rfl⟩;exact fV (p:=(a:Int)) rfl rfl rfl fun _ hd=>⟨hd,R2.out,nT LL.out.k x.k⟩
     have R2:=aA (GA.out (by rw[OK2.out,decide_eq_true g]));have f4:((cw:Int) == 0)=true:=(by rw[beq_iff_eq];omega);have HMY:=aA (fun W=>cL (a:Int) W);clear g;go_wp2_with fail;refine bR (by kernel_rfl) (by kernel_rfl) ?_;repeat (go_big_quiet_step (first|(go_at_call 218;exact Calls.kept_of ((HCT.out _).mono fun _ _ ⟨h1,h2⟩=>⟨h1,h2▸Kt.refl _ _⟩))|(go_at_call 212;exact Calls.kept_of ((HMY.out _).mono fun _ _ ⟨h1,h2⟩=>⟨h1,h2▸Kt.refl _ _⟩))))
     refine wpQuiet_nil ?_;intro x;have R3:=aA (show Kt nO w x.v/\_ from⟨nT LL.out.k x.k,R2.out⟩);clear c0;go_wp2_with fail;go_round
     case rel=>exact⟨a+1,by omega,by go_num,R3⟩
     case measure=>simp[intOf];omega
    ·have hp0':(p != -1)=true:=(by rw[bne_iff_ne];exact hp0);have IM:=aA (HI.out.keep LL.out.k);have INS:=aA (YV LL.out p);have c0:wr.cell? ⟨cb,0,none⟩=some (.int .i64 a):=by simp[World.cell?,LL.out.bx]
     cases hin:cC I.np ws p with
     | false=>
      have R2:=aA (FB.out (by
       rw[<-OK.out];refine rC hp0 fun i hi=>.inl fun hm=>?_
       have:=INS.out;rw[hi,hin] at this;exact absurd hm (of_decide_eq_false this.symm)))
      have HME:=aA (tO sb sc I.np ws p (a:Int) wr LL.out.st hin);clear hin hp0;go_wp2_with fail;refine HME.out.mono ?_;rintro e w3 ⟨rfl,rfl⟩;exact⟨rfl,R2.out,LL.out.k⟩
     | true=>
      have hex:∃ i,dec10 I p=some i/\i∈l:=by
       have:=INS.out;rw[hin] at this
       cases hd:dec10 I p with
       | none=>rw[hd] at this;cases this
       | some i=>rw[hd] at this;exact⟨i,rfl,of_decide_eq_true this.symm⟩
      obtain⟨i,hi,hil⟩:=hex;obtain⟨hin1,hpi,hp1⟩:=tD hi;subst hpi;have HD:=aA (show dec10 I (i:Int)=some i/\(i:Int) ≠ -1 from⟨hi,hp1⟩);have HIL:=aA hil;have HI1:=aA hin1;have HME:=aA (uG sb sc I.np ws (i:Int) (a:Int) wr LL.out.st hin);clear hin hil hi hin1 hp1 hp0;go_wp2_with fail;refine HME.out.mono ?_;rintro e wc ⟨rfl,h1,h2,h3⟩;have LM:=aA (show L8 w wc cb sb sc I.np a (bO I.np ws (i:Int) false) (l.erase i)from LL.out.met h2 HIL.out h1);have MSR:=aA (show aU (cD wc sc)<aU (cD wr sc)by
       rw[hY LM.out.st,hY LL.out.st];have hb:aE ws i=true:=(by rw[LL.out.mem i HI1.out];exact decide_eq_true HIL.out);have:=uB LL.out.st LM.out.st HI1.out hb;omega)
      clear h1 h2 h3 HME c0;have IM2:=aA (HI.out.keep LM.out.k);have NXT:=aA (show(I.pg i).pv=q->bP (dec10 I) (-1) (fun i=>(I.pg i).nx) (fun i=>(I.pg i).pv) ((l.erase i).length+1) (l.erase i) (I.pg i).nx (i:Int)=okv from fun h=>by
       rw[<-OK.out];exact(yU (nxt:=fun i=>(I.pg i).nx) (bk:=fun i=>(I.pg i).pv) HD.out.2 HD.out.1 HIL.out h).symm)
      have NOT:=aA (show ¬(I.pg i).pv=q->bN (a:Int)=EE from fun h=>FB.out (by
       rw[<-OK.out];refine rC HD.out.2 fun j hj=>.inr ?_
       rw[HD.out.1] at hj;injection hj with hj
       rw[<-hj];exact h))
      have hpa:∃ bl' o',pa=some ⟨bl',o',none⟩:=by
       obtain⟨bl',o',oc',hv',_⟩:=IM2.out.page i HI1.out;rw[SP.out] at hv';injection hv' with e1
       exact⟨bl',o',e1⟩
      obtain⟨pb,po,rfl⟩:=hpa;obtain⟨d0,d1,d2,d3,d4,d5,d6,d7,d8,d9,d10⟩:=gT (IM2.out.pageK SP.out i HI1.out);obtain⟨c0,c1,c2,c3,c4,c5,c6,c7,c8⟩:=IM2.out.all;rw[SP.out,<-HN.out] at c5;have b0:∀ x:KW wc,x.v.cell? ⟨cb,0,none⟩=some (.int .i64 a):=fun x=>by simp[World.cell?,(LM.out.keep x.k).bx]
      have hin2:(i:Int)<n:=(by have:=HI1.out;rw[HN.out];omega);by_cases g:(I.pg i).pv=q
      case neg=>
       have R2:=aA (NOT.out g);have f4:((I.pg i).pv == q)=false:=(by rw[beq_eq_false_iff_ne];exact g);clear g;go_wp2_with fail;refine fW (by kernel_rfl) (by kernel_rfl) (by exact List.cons_ne_nil _ _) ?_;dsimp only[List.dropLast,List.getLast];repeat (go_big_quiet_step (fail))
       refine wpQuiet_nil ?_;refine⟨rfl,?_⟩;rintro _ ⟨x,rfl⟩;exact fV (p:=(a:Int)) rfl rfl rfl fun _ hd=>⟨hd,R2.out,nT LM.out.k x.k⟩
      have R2:=aA (NXT.out g);have f4:((I.pg i).pv == q)=true:=(by rw[beq_iff_eq];exact g);have HMY:=aA (fun W=>cL (a:Int) W);clear g;go_wp2_with fail;refine bR (by kernel_rfl) (by kernel_rfl) ?_;repeat (go_big_quiet_step (first|(go_at_call 212;exact Calls.kept_of ((HMY.out _).mono fun _ _ ⟨h1,h2⟩=>⟨h1,h2▸Kt.refl _ _⟩))))
      refine wpQuiet_nil ?_;intro x;have LX:=aA (LM.out.keep x.k);clear d0 d1 d2 d3 d4 d5 d6 d7 d8 d9 d10 c0 c1 c2 c3 c4 c5 c6 c7 c8 b0 f4;go_wp2_with fail;have WSX:=aA (show cD x.v sc=cD wc sc by rw[hY LX.out.st,hY LM.out.st]);generalize x.v=W3 at *;have IM3:=aA (HI.out.keep LX.out.k);obtain⟨d0,d1,d2,d3,d4,d5,d6,d7,d8,d9,d10⟩:=gT (IM3.out.pageK SP.out i HI1.out);obtain⟨c0,c1,c2,c3,c4,c5,c6,c7,c8⟩:=IM3.out.all;rw[SP.out,<-HN.out] at c5;refine bR (by kernel_rfl) (by kernel_rfl) ?_;repeat (go_big_quiet_step (fail))
      refine wpQuiet_nil ?_;intro y;have R3:=aA (show ∃ ws l,L8 w y.v cb sb sc I.np a ws l/\bP (dec10 I) (-1) (fun i=>(I.pg i).nx) (fun i=>(I.pg i).pv) (l.length+1) l (I.pg i).nx (i:Int)=okv from⟨_,_,LX.out.keep y.k,R2.out⟩);have MS2:=aA (show aU (cD y.v sc)<aU (cD wr sc)by
       rw[hY (LX.out.keep y.k).st,<-hY LM.out.st];exact MSR.out)
      clear d0 d1 d2 d3 d4 d5 d6 d7 d8 d9 d10 c0 c1 c2 c3 c4 c5 c6 c7 c8;go_wp2_with fail;go_round
      case rel=>exact⟨(I.pg i).nx,(i:Int),rfl,rfl,R3⟩
      case measure=>exact MS2.out
  ·have hae:a=8:=(by omega);have hai:¬(a:Int)<8:=(by omega);have E:=aA (show Ending.returned (.tuple #[])=EE by rw[HE.out,fst1_ok (fun x hx=>hR.out.2 x (by omega))];rfl);clear hae;go_wp2_with fail;first|go_end0|go_ret
   exact⟨E.out,hR.out.1⟩
end Go.Proofs.YtkfmheelhinjdaaGreatDoor.W
