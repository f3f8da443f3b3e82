import Derived.Test.YtbgbfpklgfpepaaGreatDoorXe
set_option maxRecDepth 1000000
set_option maxHeartbeats 80000000
namespace Go.Proofs.YtbgbfpklgfpepaaGreatDoor
open Go.RowKit
set_option linter.unusedVariables false
def jV(ls:List (Nat×Nat))(q j:Nat):Bool:=ls.any fun r=>decide (q<r.1+2 ^ r.2) && decide (r.1<q+2 ^ j)
theorem pU{ls:List (Nat×Nat)}{q j:Nat} : jV ls q j=true↔∃ p k,(p,k)∈ls/\q<p+2 ^ k/\p<q+2 ^ j:=by
 unfold jV;rw[List.any_eq_true];constructor
 ·rintro ⟨⟨p,k⟩,h1,h2⟩;rw[Bool.and_eq_true,decide_eq_true_iff,decide_eq_true_iff] at h2;exact⟨p,k,h1,h2⟩
 ·rintro ⟨p,k,h1,h2⟩;exact⟨(p,k),h1,by rw[Bool.and_eq_true,decide_eq_true_iff,decide_eq_true_iff];exact h2⟩
def sV(ls:List (Nat×Nat))(j:Nat):Nat->Bool
 | 0=>true
 | i+1=>sV ls j i && jV ls (i*2 ^ j) j
theorem yI(ls:List (Nat×Nat))(j:Nat):∀ m,sV ls j m=true↔∀ i,i<m->jV ls (i*2 ^ j) j=true
 | 0=>⟨fun _ i hi=>by omega,fun _=>rfl⟩
 | m+1=>by
  rw[sV,Bool.and_eq_true,yI ls j m];constructor
  ·rintro ⟨h1,h2⟩ i hi;by_cases e:i=m
   ·rw[e];exact h2
   ·exact h1 i (by omega)
  ·intro h;exact⟨fun i hi=>h i (by omega),h m (by omega)⟩
theorem Sf.free_iff{x t fr ls}(s0:Sf x t fr ls){a j:Nat}(hj:j<=x.o)(ha:a%2 ^ j=0)(han:a+2 ^ j<=t.m.n):jV ls a j=false↔∃ q k,k<=x.o/\q∈fr k/\q<=a/\a+2 ^ j<=q+2 ^ k:=by
 obtain⟨B,s,hN,hL⟩:=s0;constructor
 ·intro h;have h':¬ ∃ p k,(p,k)∈ls/\a<p+2 ^ k/\p<a+2 ^ j:=by
   rw[<-pU,h];decide
  obtain⟨q,k,_,h1,h2,h3⟩:=s.stretch hN hj ha han (fun p k hb=>by
   rcases Nat.lt_or_ge a (p+2 ^ k)with e1|e1
   ·rcases Nat.lt_or_ge p (a+2 ^ j)with e2|e2
    ·exact absurd ⟨p,k,(hL p k).1 hb,e1,e2⟩ h'
    ·exact .inr e2
   ·exact .inl e1)
  obtain⟨h4,h5⟩:=(s.fi q k).1 h1;exact⟨q,k,h4,h5,h2,h3⟩
 ·rintro ⟨q,k,h1,h2,h3,h4⟩
  cases h:jV ls a j with
  | false=>rfl
  | true=>
   exfalso
   obtain⟨p,i,h5,h6,h7⟩:=pU.1 h;rcases s.ds _ _ _ _ _ _ ((s.fi q k).2 ⟨h1,h2⟩) ((hL p i).2 h5)with ⟨e,_⟩|e|e
   ·exact absurd e (by decide)
   ·omega
   ·omega
theorem Sf.full_iff{x t fr ls}(s0:Sf x t fr ls){j m:Nat}(hj:j<=x.o)(hm:t.m.n=m*2 ^ j):sV ls j m=true↔∀ a,j<=a->a<=x.o->fr a=[]:=by
 have hz : 0<2 ^ j:=Nat.pow_pos (by decide);rw[yI];constructor
 ·intro h a h1 h2
  cases hf:fr a with
  | nil=>rfl
  | cons p l=>
   exfalso
   have hp:p∈fr a:=(by rw[hf];exact List.mem_cons_self ..);have hal:p%2 ^ a=0/\p+2 ^ a<=t.m.n:=by
    obtain⟨B,s,hN,hL⟩:=s0;obtain⟨_,h3,h4⟩:=s.al _ _ _ ((s.fi p a).2 ⟨h2,hp⟩);exact⟨h3,h4⟩
   have hpow : 2 ^ j<=2 ^ a:=Nat.pow_le_pow_right (by decide) h1;have hdv : 2 ^ j ∣ p:=Nat.dvd_trans (Nat.pow_dvd_pow 2 h1) (Nat.dvd_of_mod_eq_zero hal.1);obtain⟨i,hi⟩:=hdv;rw[Nat.mul_comm] at hi;have him:i<m:=by
    have h5:i*2 ^ j<m*2 ^ j:=(by rw[<-hi,<-hm];omega);exact Nat.lt_of_mul_lt_mul_right h5
   have h6:=h i him;rw[<-hi] at h6;have h7:=(s0.free_iff hj (a:=p) (by rw[hi];exact Nat.mul_mod_left _ _) (by omega)).2 ⟨p,a,h2,hp,Nat.le_refl _,by omega⟩;rw[h7] at h6
   cases h6
 ·intro h i hi
  cases hmt:jV ls (i*2 ^ j) j with
  | true=>rfl
  | false=>
   exfalso
   have h1:(i+1)*2 ^ j<=m*2 ^ j:=Nat.mul_le_mul_right _ hi;rw[Nat.add_mul,Nat.one_mul] at h1;obtain⟨q,k,h2,h3,h4,h5⟩:=(s0.free_iff hj (a:=i*2 ^ j) (Nat.mul_mod_left _ _) (by rw[hm];exact h1)).1 hmt;have hjk:j<=k:=by
    rcases Nat.lt_or_ge k j with e|e
    ·have : 2 ^ k<2 ^ j:=Nat.pow_lt_pow_right (by decide) e;omega
    ·exact e
   rw[h k hjk h2] at h3
   cases h3
def oF(ls:List (Nat×Nat))(o:Nat):Nat->Nat
 | 0=>0
 | r+1=>if jV ls (r*2 ^ o) o=true then r+1 else oF ls o r
theorem xA(ls:List (Nat×Nat))(o:Nat):∀ (r:Nat) (fr:Nat->List Nat),(∀ i,i<r->(i*2 ^ o∈fr o↔jV ls (i*2 ^ o) o=false))->(eS o r fr).1+oF ls o r=r
 | 0,fr,h=>rfl
 | r+1,fr,h=>by
  have hz : 0<2 ^ o:=Nat.pow_pos (by decide);have hr:=h r (by omega)
  cases hm:jV ls (r*2 ^ o) o with
  | true=>
   rw[AM (fun e=>by rw[hr.1 e] at hm;cases hm),oF,if_pos hm,Nat.zero_add]
  | false=>
   rw[DT (hr.2 hm),oF,if_neg (by rw[hm];decide)];have:=xA ls o r (cI fr o (M.dropL (fr o) (r*2 ^ o))) (fun i hi=>by
    rw[<-h i (by omega)];have hne:i*2 ^ o≠r*2 ^ o:=fun e=>by
     have:=Nat.eq_of_mul_eq_mul_right hz e;omega
    unfold cI;rw[if_pos rfl];unfold M.dropL;simp[hne])
   show(eS o r _).1+1+oF ls o r=r+1
   omega
theorem Sf.tops{x t fr ls}(s0:Sf x t fr ls){r:Nat}(hr:t.m.n=r*2 ^ x.o):∀ i,i<r->(i*2 ^ x.o∈fr x.o↔jV ls (i*2 ^ x.o) x.o=false):=fun i hi=>by
 have hz : 0<2 ^ x.o:=Nat.pow_pos (by decide);have h1:(i+1)*2 ^ x.o<=r*2 ^ x.o:=Nat.mul_le_mul_right _ hi;rw[Nat.add_mul,Nat.one_mul] at h1;rw[s0.free_iff (Nat.le_refl _) (Nat.mul_mod_left _ _) (by rw[hr];exact h1)];constructor
 ·intro h;exact⟨_,x.o,Nat.le_refl _,h,Nat.le_refl _,Nat.le_refl _⟩
 ·rintro ⟨q,k,h2,h3,h4,h5⟩;have hk:k=x.o:=by
   rcases Nat.lt_or_ge k x.o with e|e
   ·have : 2 ^ k<2 ^ x.o:=Nat.pow_lt_pow_right (by decide) e;omega
   ·omega
  subst hk;have:q=i*2 ^ x.o:=by omega
  rw[<-this];exact h3
theorem zF(g j:Nat):(⟨g,0,none⟩:Addr).add j=⟨g,j,none⟩:=by
 cases j <;> simp[Addr.add]
theorem eR{W:World}{b:Nat}{e:TypeId}{size:Nat}{v:Value}{n:Nat}{xs:List Value}(h:W.ownsRow b e size v n xs):∃ va vc,v=.slice va n vc:=by
 rcases h.2 with ⟨h0,h1⟩|⟨g,cap,cur,h0,_⟩
 ·exact⟨none,0,by rw[h0,h1]⟩
 ·exact⟨_,_,h0⟩
theorem gW{W:World}{b:Nat}{e:TypeId}{size:Nat}{va:Option Addr}{n vc:Nat}{xs:List Value}(h:W.ownsRow b e size (.slice va n vc) n xs){i:Nat}{u:Value}(hi:xs[i]?=some u):∃ g,va=some ⟨g,0,none⟩/\W.cell? ⟨g,i,none⟩=some u:=by
 rcases h.2 with ⟨_,h1⟩|⟨g,cap,cur,h0,_⟩
 ·have:=h.1;rw[h1,Nat.zero_mul] at this;rw[List.eq_nil_of_length_eq_zero this] at hi;simp at hi
 ·injection h0 with h0
  refine⟨g,h0,?_⟩;have:=World.ownsRow.cells h (g:=g) (by rw[h0];rfl) _ _ hi;rw[zF] at this;exact this
theorem qC{W W':World}{b:Nat}{e:TypeId}{size:Nat}{v:Value}{n:Nat}{xs:List Value}{S:Nat->Prop}(h:W.ownsRow b e size v n xs)(k:Kt S W W')(hS:∀ x,v.ownBlock=some x->¬S x):W'.ownsRow b e size v n xs:=by
 refine⟨h.1,?_⟩;rcases h.2 with h0|⟨g,cap,cur,h0,hb,hg,h3⟩
 ·exact .inl h0
 ·refine .inr ⟨g,cap,cur,h0,hb,(k.block _ (lH hg) (hS g (by rw[h0];rfl))).trans hg,h3⟩
theorem cB{W:World}{b:Nat}{e:TypeId}{size:Nat}{v:Value}{n:Nat}{xs:List Value}(h:W.ownsRow b e size v n xs){y:Nat}(hy:v.ownBlock=some y):∃ cs,W.heap[y]?=some (.cells cs e (0,0)):=by
 rcases h.2 with ⟨h0,_⟩|⟨g,cap,cur,h0,hb,hg,h3⟩
 ·rw[h0] at hy;simp[Value.ownBlock] at hy
 ·rw[h0] at hy;simp[Value.ownBlock] at hy;subst hy;exact⟨_,hg⟩
structure Bk where
 p:Nat
 s:Nat
 mark:Nat
def kJ(R:Nat->Bk)(g z:Nat):Nat->Nat
 | 0=>0
 | n+1=>kJ R g z n+(if (R n).s=z/\g<=(R n).p/\(R n).p<g+4096 then 1 else 0)
theorem wK(R:Nat->Bk)(g z:Nat):∀ n,kJ R g z n=((List.range n).filter fun i=>decide ((R i).s=z/\g<=(R i).p/\(R i).p<g+4096)).length
 | 0=>rfl
 | n+1=>by
  rw[List.range_succ,List.filter_append,List.length_append,kJ,wK R g z n];congr 1
  by_cases e:(R n).s=z/\g<=(R n).p/\(R n).p<g+4096
  ·rw[if_pos e];simp[e]
  ·rw[if_neg e];simp[e]
end Go.Proofs.YtbgbfpklgfpepaaGreatDoor
