import Derived.Test.YtbgbfpklgfpepaaGreatDoorXj
set_option maxRecDepth 1000000
set_option maxHeartbeats 80000000
namespace Go.Proofs.YtbgbfpklgfpepaaGreatDoor
open Go.RowKit
set_option linter.unusedVariables false
inductive Pk(x:Bx)(t:Bt)(fr:Nat->List Nat)(ls:List (Nat×Nat))(S:Sb)(g:Nat):Prop where
 | slab (k:Nat) (hc:S.c g=some k)
 | big (q k:Nat) (hm:(q,k)∈ls) (hc:S.c q=none) (hg:S.c g=none) (h1:q<=g) (h2:g<q+2 ^ k) (hp:t.m.pg g=bR (if g=q then 2 else 3) (k:Int))
 | free (q j:Nat) (hm:q∈fr j) (hj:j<=x.o) (hg:S.c g=none) (h1:q<=g) (h2:g<q+2 ^ j) (hp:t.m.pg g=bR (if g=q then 0 else 1) (j:Int))
section
variable {w W:World} {sb lw:Nat} {x:Bx} {t:Bt} {fr:Nat->List Nat} {ls:List (Nat×Nat)} {S:Sb} {h:Nat->Int}
theorem SO.kind(o:SO w W sb lw x t fr ls S h){g:Nat}(hg:g<t.m.n):Pk x t fr ls S g:=by
 cases e:S.c g with
 | some k=>exact .slab k e
 | none=>
  have hap:=fun {p k q j:Nat}=>o.apart (p:=p) (k:=k) (q:=q) (j:=j)
  have hme:=fun {p k:Nat}=>o.mem (p:=p) (k:=k)
  have heP:=o.si.eP;obtain⟨B,s,hN,hL⟩:=o.sf;obtain⟨a,p,k,hb,h1,h2⟩:=s.cv g hg;have h9:a≠9:=fun e=>hN p k (e▸hb)
  have hp:=s.pg a p k hb h9 g h1 h2;rw[heP,lZ e,Option.getD_none] at hp;rcases s.tg a p k hb with rfl|rfl|rfl
  ·obtain⟨f1,f2⟩:=(s.fi p k).1 hb;exact .free p k f2 f1 e h1 h2 hp
  ·have hm:=(hL p k).1 hb;refine .big p k hm ?_ e h1 h2 hp
   cases e2:S.c p with
   | none=>rfl
   | some c=>
    exfalso
    have hz : 0<2 ^ k:=Nat.pow_pos (by decide);rcases hap (hme e2).1 hm with ⟨_,e3⟩|e3|e3
    ·subst e3;rw[Nat.pow_zero] at h2;obtain rfl:p=g:=(by omega);rw[e] at e2
     cases e2
    ·rw[Nat.pow_zero] at e3;omega
    ·omega
  ·exact absurd rfl h9
inductive Pa(x:Bx)(t:Bt)(ls:List (Nat×Nat))(S:Sb)(a s g:Nat):Prop where
 | cell (k i:Nat) (hc:S.c g=some k) (hl:jB x S a g k i) (hs:s=aC k)
 | big (q k:Nat) (hm:(q,k)∈ls) (hc:S.c q=none) (hg:S.c g=none) (h1:q<=g) (h2:g<q+2 ^ k) (ha:a=ad x q) (hs:s=4096*2 ^ k)
theorem SO.big_none(o:SO w W sb lw x t fr ls S h){q k g:Nat}(hm:(q,k)∈ls)(hc:S.c q=none)(h1:q<=g)(h2:g<q+2 ^ k):S.c g=none:=by
 cases e:S.c g with
 | none=>rfl
 | some c=>
  exfalso
  rcases o.apart (o.mem e).1 hm with ⟨e3,_⟩|e3|e3
  ·subst e3;rw[hc] at e
   cases e
  ·rw[Nat.pow_zero] at e3;omega
  ·omega
theorem SO.lth_at(o:SO w W sb lw x t fr ls S h){a s p:Nat}(hl:aG x ls S a s)(h1:a<=p)(h2:p<a+s):aP x p/4096<t.m.n/\Pa x t ls S a s (aP x p/4096):=by
 have hin:=o.inside hl;have n4:=o.po.nums.2.2.2.1;have hof:aP x p=p-x.bS:=by
  unfold aP;omega
 have hst:=o.st;rw[hof];refine⟨by omega,?_⟩;rcases hl with ⟨g,k,i,hv,rfl⟩|⟨q,k,hm,hc,rfl,rfl⟩
 ·have hv2:=hv;obtain⟨c1,c2,c3,rfl⟩:=hv2;have hk:=(o.si.pg g k c1).1;have hme:=o.mem c1;have hoc:=fQ (x:=x) (p:=g) hk c2 (by omega);have e:aO x g k i=x.bS+4096*g+i*aC k:=rfl;have hg:(p-x.bS)/4096=g:=by omega
  rw[hg];exact .cell k i c1 hv rfl
 ·unfold ad at h1 h2;have g1:q<=(p-x.bS)/4096:=by omega
  have g2:(p-x.bS)/4096<q+2 ^ k:=by omega
  exact .big q k hm hc (o.big_none hm hc g1 g2) g1 g2 rfl rfl
def jW(x:Bx)(ls:List (Nat×Nat))(S:Sb)(p a s:Nat)(l:Bool):Prop:=(l=true/\aG x ls S a s/\a<=p/\p<a+s)\/(l=false/\∀ b z,aG x ls S b z->¬(b<=p/\p<b+z))
theorem SO.ar_far(o:SO w W sb lw x t fr ls S h){p:Nat}(hg:¬aP x p/4096<t.m.n)(a s:Nat):jW x ls S p a s false:=.inr ⟨rfl,fun b z hl ⟨h1,h2⟩=>hg (o.lth_at hl h1 h2).1⟩
theorem SO.ar_free(o:SO w W sb lw x t fr ls S h){p q j:Nat}(hm:q∈fr j)(hj:j<=x.o)(h1:q<=aP x p/4096)(h2:aP x p/4096<q+2 ^ j)(hc:S.c (aP x p/4096)=none)(a s:Nat):jW x ls S p a s false:=.inr ⟨rfl,fun b z hl ⟨l1,l2⟩=>by
 have hL:=(o.lth_at hl l1 l2).2;obtain⟨B,sd,hN,hB⟩:=o.sf
 cases hL with
 | cell k i c1=>rw[hc] at c1;cases c1
 | big q2 k hm2 _ _ g1 g2=>
  rcases sd.ds _ _ _ _ _ _ ((sd.fi q j).2 ⟨hj,hm⟩) ((hB q2 k).2 hm2)with ⟨e,_⟩|e|e
  ·exact absurd e (by decide)
  ·omega
  ·omega⟩
theorem SO.off_eq(o:SO w W sb lw x t fr ls S h){p:Nat}(hp:p<18446744073709551616)(hg:aP x p/4096<t.m.n):x.bS<=p/\aP x p=p-x.bS:=by
 have n4:=o.po.nums.2.2.2.1;have hst:=o.st;unfold aP at hg ⊢;omega
theorem SO.ar_big(o:SO w W sb lw x t fr ls S h){p q k:Nat}(hp:p<18446744073709551616)(hg:aP x p/4096<t.m.n)(hm:(q,k)∈ls)(hc:S.c q=none)(h1:q<=aP x p/4096)(h2:aP x p/4096<q+2 ^ k):jW x ls S p (ad x q) (4096*2 ^ k) true:=by
 obtain⟨b1,b2⟩:=o.off_eq hp hg;rw[b2] at h1 h2;refine .inl ⟨rfl,.inr ⟨q,k,hm,hc,rfl,rfl⟩,?_,?_⟩
 ·unfold ad;omega
 ·unfold ad;omega
theorem SO.down_at(o:SO w W sb lw x t fr ls S h){p g k:Nat}(hp:p<18446744073709551616)(hg:aP x p/4096=g)(hc:S.c g=some k):∃ i,i<aH k/\p/aC k*aC k=aO x g k i/\aO x g k i<=p/\p<aO x g k i+aC k:=by
 obtain⟨hk,_⟩:=o.si.pg g k hc;have hme:=o.mem hc;have hz:=bU hk;have hnb:=dV hk;obtain⟨b1,b2⟩:=o.off_eq hp (by rw[hg];exact hme.2.1);have hbm:=o.bm;rw[b2] at hg;obtain⟨d,hd⟩:=xe ((p-x.bS)%4096);have hp2:p=x.bS+4096*g+d:=by omega
 have hd2:d<4096:=by omega
 obtain⟨b,hb⟩:∃ b,x.bS=4096*b:=⟨x.bS/4096,by omega⟩;have e1:x.bS+4096*g=aH k*(b+g)*aC k:=by
  rw[hb,<-Nat.mul_add,Nat.mul_right_comm,hnb.1]
 have e2:p/aC k=aH k*(b+g)+d/aC k:=by
  rw[hp2,e1,Nat.add_comm,Nat.add_mul_div_right _ _ (by omega),Nat.add_comm]
 have e3:=Nat.div_add_mod d (aC k);have e4:=Nat.mod_lt d (show 0<aC k by omega);refine⟨d/aC k,?_,?_,?_,?_⟩
 ·refine Nat.lt_of_not_le fun hle=>?_
  have:=Nat.mul_le_mul_right (aC k) hle;rw[hnb.1,Nat.mul_comm] at this;omega
 ·rw[e2,Nat.add_mul,<-e1];rfl
 ·show x.bS+4096*g+d/aC k*aC k<=p
  rw[Nat.mul_comm] at e3;omega
 ·show p<x.bS+4096*g+d/aC k*aC k+aC k
  rw[Nat.mul_comm] at e3;omega
theorem SO.ar_cell(o:SO w W sb lw x t fr ls S h){p g k i:Nat}(hg:aP x p/4096=g)(hc:S.c g=some k)(hi:i<aH k)(h1:aO x g k i<=p)(h2:p<aO x g k i+aC k):jW x ls S p (aO x g k i) (aC k) (decide (i ∉ S.fl g)):=by
 by_cases hf:i∈S.fl g
 ·rw[decide_eq_false (fun e=>e hf)];refine .inr ⟨rfl,fun b z hl ⟨l1,l2⟩=>?_⟩;have hL:=(o.lth_at hl l1 l2).2;rw[hg] at hL
  cases hL with
  | big q2 k2 _ _ e=>rw[hc] at e;cases e
  | cell k2 i2 c1 hv hs=>
   rw[hc] at c1;injection c1 with c1
   subst c1 hs;obtain⟨v1,v2,v3,rfl⟩:=hv;have hz:=bU (o.si.pg g k hc).1;have e1:aO x g k i=x.bS+4096*g+i*aC k:=rfl;have e2:aO x g k i2=x.bS+4096*g+i2*aC k:=rfl;have:i=i2:=by
    rcases Nat.lt_trichotomy i i2 with e|e|e
    ·have:=Nat.mul_le_mul_right (aC k) (show i+1<=i2 from e);rw[Nat.add_mul,Nat.one_mul] at this;omega
    ·exact e
    ·have:=Nat.mul_le_mul_right (aC k) (show i2+1<=i from e);rw[Nat.add_mul,Nat.one_mul] at this;omega
   subst this;exact v3 hf
 ·rw[decide_eq_true hf];exact .inl ⟨rfl,.inl ⟨g,k,i,⟨hc,hi,hf,rfl⟩,rfl⟩,h1,h2⟩
theorem SO.cell_liv(o:SO w W sb lw x t fr ls S h){g k i:Nat}(hc:S.c g=some k)(hi:i<aH k):fX x t (aO x g k i)=decide (i ∉ S.fl g):=by
 by_cases hf:i∈S.fl g
 ·rw[decide_eq_false (fun e=>e hf)]
  cases e:fX x t (aO x g k i)with
  | false=>rfl
  | true=>
   exfalso
   have hk:=(o.si.pg g k hc).1;have hme:=o.mem hc;have n4:=o.po.nums.2.2.2.1;obtain⟨g2,k2,i2,v1,v2,v3,v4⟩:=o.liv_of (fQ (x:=x) (p:=g) hk hi (by omega)).2.2 e;obtain⟨e1,e2,e3⟩:=o.cell_ne hc hi v1 v2 v4;subst e1 e2 e3;exact v3 hf
 ·rw[decide_eq_true hf];exact(o.of_liv ⟨hc,hi,hf,rfl⟩).1
end
end Go.Proofs.YtbgbfpklgfpepaaGreatDoor
