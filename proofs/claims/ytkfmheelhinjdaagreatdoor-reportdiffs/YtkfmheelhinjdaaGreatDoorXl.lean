import Derived.Test.YtkfmheelhinjdaaGreatDoorXn
import Derived.Test.YtkfmheelhinjdaaGreatDoorWb
set_option maxRecDepth 1000000
set_option maxHeartbeats 80000000
namespace Go.Proofs.YtkfmheelhinjdaaGreatDoor
open Go.RowKit
set_option linter.unusedVariables false
theorem qX{W:World}{b:Nat}{e:TypeId}{size:Nat}{v:Value}{n:Nat}{xs:List Value}(h:W.ownsRow b e size v n xs):∃ va vc,v=.slice va n vc:=by
 rcases h.2 with ⟨h0,h1⟩|⟨g,cap,cur,h0,_⟩
 ·exact⟨none,0,by rw[h0,h1]⟩
 ·exact⟨_,_,h0⟩
theorem sI{W:World}{b:Nat}{e:TypeId}{size:Nat}{v:Value}{n:Nat}{xs:List Value}(h:W.ownsRow b e size v n xs){y:Nat}(hy:v.ownBlock=some y):∃ cs,W.heap[y]?=some (.cells cs e (0,0)):=by
 rcases h.2 with ⟨h0,_⟩|⟨g,cap,cur,h0,hb,hg,h3⟩
 ·rw[h0] at hy;simp[Value.ownBlock] at hy
 ·rw[h0] at hy;simp[Value.ownBlock] at hy;subst hy;exact⟨_,hg⟩
def bJ(x:Bx)(t:Bt)(S:Sb)(L:Nat):W.Img:=⟨x.bS,(L:Int),(x.o:Int),((t.m.n/2 ^ x.o:Nat):Int),x.n,t.f,t.m.n,t.m.pg,x.o,t.m.wd,(List.range (x.o+1)).map t.hd,(List.range 8).map fun k=>bE (S.pl k)⟩
structure St0(x:Bx)(t:Bt)(fr:Nat->List Nat)(B:Nat->Nat->Nat->Prop)(S:Sb)(L:Nat):Prop where
 sd:Sd x t fr B
 n9:∀ q i,¬B 9 q i
 st:t.m.n*4096=x.n
 si:SI x t S
 lv:gK S
 may:M.mayB x.bS (L:Int) (x.o:Int)=true
 le:t.m.n/2 ^ x.o<=L
 hz:∀ k,k<x.o->∀ j,t.m.n/2 ^ (k+1)<=j->aF (t.m.wd k) j=false
 pin:∀ i,i<t.m.n->W.PgIn (t.m.pg i)
section
variable {x:Bx} {t:Bt} {fr:Nat->List Nat} {B:Nat->Nat->Nat->Prop} {S:Sb} {L:Nat}
theorem St0.tag(h:St0 x t fr B S L){g p k:Nat}(hb:B g p k):(g=0\/g=2)/\g≠9:=by
 rcases h.sd.tg g p k hb with e|e|e
 ·exact⟨.inl e,by omega⟩
 ·exact⟨.inr e,by omega⟩
 ·subst e;exact absurd hb (h.n9 p k)
theorem St0.page(h:St0 x t fr B S L){i:Nat}(hi:i<t.m.n):(∃ k,S.c i=some k/\k<8/\SlP S i k (t.m.pg i)/\B 2 i 0)\/(S.c i=none/\∃ g p k,B g p k/\p<=i/\i<p+2 ^ k/\(g=0\/g=2)/\t.m.pg i=aN (if i=p then (g:Int) else (g:Int)+1) (k:Int)):=by
 cases e:S.c i with
 | some k=>
  obtain⟨h1,h2⟩:=h.si.pg i k e;exact .inl ⟨k,rfl,h1,h2,(h.sd.vs i (t.m.pg i) (by rw[h.si.eP];exact jC e)).1⟩
 | none=>
  obtain⟨g,p,k,hb,h1,h2⟩:=h.sd.cv i hi;have hp:=h.sd.pg g p k hb (h.tag hb).2 i h1 h2;rw[h.si.eP,iI e,Option.getD_none] at hp;exact .inr ⟨rfl,g,p,k,hb,h1,h2,(h.tag hb).1,hp⟩
theorem St0.first(h:St0 x t fr B S L){g i k:Nat}(hb:B g i k)(hc:S.c i=none):t.m.pg i=aN (g:Int) (k:Int):=by
 have hp:=h.sd.pg g i k hb (h.tag hb).2 i (Nat.le_refl _) (by have:=Nat.two_pow_pos k;omega);rwa [h.si.eP,iI hc,Option.getD_none,if_pos rfl] at hp
theorem St0.slabB(h:St0 x t fr B S L){i k:Nat}(hc:S.c i=some k):B 2 i 0:=(h.sd.vs i (t.m.pg i) (by rw[h.si.eP];exact jC hc)).1
theorem St0.one(h:St0 x t fr B S L){g i k g' k':Nat}(h1:B g i k)(h2:B g' i k'):g=g'/\k=k':=by
 rcases h.sd.ds _ _ _ _ _ _ h1 h2 with ⟨e1,-,e2⟩|e|e
 ·exact⟨e1,e2⟩
 ·have:=Nat.two_pow_pos k;omega
 ·have:=Nat.two_pow_pos k';omega
theorem St0.isF_iff(h:St0 x t fr B S L){i j:Nat}(hi:i<t.m.n):W.isF (t.m.pg i) (j:Int)=true↔B 0 i j:=by
 constructor
 ·intro hf;unfold W.isF at hf;rw[Bool.and_eq_true,decide_eq_true_eq,decide_eq_true_eq] at hf;rcases h.page hi with ⟨k,h1,h2,h3,h4⟩|⟨h1,g,p,k,hb,h2,h3,h4,h5⟩
  ·rw[h3.kd] at hf;omega
  ·rw[h5] at hf;obtain⟨f1,f2⟩:=hf;have f1:(if i=p then (g:Int) else (g:Int)+1)=0:=f1;have f2:(k:Int)=j:=f2;by_cases e:i=p
   ·rw[if_pos e] at f1;have e1:g=0:=(by omega);have e2:k=j:=(by omega);rw[e,<-e2,<-e1];exact hb
   ·rw[if_neg e] at f1;omega
 ·intro hb;have hc:S.c i=none:=by
   cases e:S.c i with
   | none=>rfl
   | some k=>have:=(h.one hb (h.slabB e)).1;omega
  rw[h.first hb hc];simp[W.isF,aN]
theorem St0.isF_mem(h:St0 x t fr B S L){i j:Nat}(hi:i<t.m.n)(hj:j<=x.o):W.isF (t.m.pg i) (j:Int)=decide (i∈fr j):=by
 rw[Bool.eq_iff_iff,h.isF_iff hi,h.sd.fi,decide_eq_true_eq];exact⟨fun e=>e.2,fun e=>⟨hj,e⟩⟩
theorem St0.np(h:St0 x t fr B S L):t.m.n/2 ^ x.o*2 ^ x.o=t.m.n:=by
 obtain⟨r,hr⟩:=h.sd.dv;rw[hr,Nat.mul_div_cancel _ (Nat.two_pow_pos _)]
theorem St0.rl0(h:St0 x t fr B S L):W.rl (bJ x t S L) 0=none:=by
 show(if _ then _ else _)=_
 exact if_pos h.may
theorem St0.rl1(h:St0 x t fr B S L):W.rl (bJ x t S L) 1=none:=by
 show W.r2 (bJ x t S L) (x.o:Int).toNat=none
 rw[Int.toNat_natCast];unfold W.r2;have e1:(bJ x t S L).reg.toNat*2 ^ x.o=t.m.n:=by
  show((t.m.n/2 ^ x.o:Nat):Int).toNat*2 ^ x.o=_
  rw[Int.toNat_natCast];exact h.np
 have e2:W.wiB (bJ x t S L).reg 0 (bJ x t S L).lim=true:=by
  unfold W.wiB;have hq:=h.le;show decide ((0:Int)<=((t.m.n/2 ^ x.o:Nat):Int)/\((t.m.n/2 ^ x.o:Nat):Int)<=(L:Int))=true
  generalize t.m.n/2 ^ x.o=q at hq;exact decide_eq_true ⟨by omega,by omega⟩
 rw[e1,if_neg (by rw[e2];simp),if_neg (not_not_intro (show(bJ x t S L).nm=t.m.n*4096 from h.st.symm)),if_neg (not_not_intro (show(bJ x t S L).np=t.m.n from rfl)),if_neg (not_not_intro (show(bJ x t S L).no=x.o from rfl)),if_neg,if_neg (not_not_intro (show(bJ x t S L).hd.length=x.o+1 by simp[bJ])),if_neg (not_not_intro (show(bJ x t S L).pt.length=8 by simp[bJ]))];exact not_not_intro (W.fst1_ok fun j hj=>decide_eq_true (h.sd.wl j hj))
theorem St0.rl2(h:St0 x t fr B S L):W.rl (bJ x t S L) 2=none:=by
 refine W.fst1_ok fun i hi=>?_
 have hi:i<t.m.n:=hi;show W.rngB (x.o:Int) (t.m.n:Int) (t.m.pg i)=true
 have n1:=h.sd.n1;simp only[W.rngB,W.wiB,Bool.and_eq_true,decide_eq_true_eq];rcases h.page hi with ⟨k,h1,h2,h3,h4⟩|⟨h1,g,p,k,hb,h2,h3,h4,h5⟩
 ·have hn:=dM h2;have hm:∀ r,r∈S.pl k->r<t.m.n:=fun r hr=>by
   have:=h.sd.al _ _ _ (h.slabB ((h.si.pm k h2 r).1 hr).1);simp at this;omega
  have hf:(-1:Int)<=bE (S.fl i)/\bE (S.fl i)<=255:=by
   rcases pC (S.fl i)with e|⟨r,e,hr⟩
   ·omega
   ·have:=(h.si.fl i k h1).2.1 r hr;omega
  have hx:(-1:Int)<=bD (S.pl k) i/\bD (S.pl k) i<=(t.m.n:Int)-1:=by
   rcases lR (S.pl k) i (h.si.pn k h2)with e|⟨r,e,hr,-⟩
   ·omega
   ·have:=hm r hr;omega
  have hy:(-1:Int)<=bG (S.pl k) i/\bG (S.pl k) i<=(t.m.n:Int)-1:=by
   rcases mM (S.pl k) i (h.si.pn k h2)with e|⟨r,e,hr,-⟩
   ·omega
   ·have:=hm r hr;omega
  rw[h3.kd,h3.od,h3.cl,h3.lv,h3.nx,h3.pv,h3.fs];refine⟨?_,?_,?_,?_,hx,hy,hf⟩ <;> omega
 ·have hk:=(h.sd.al _ _ _ hb).1;rw[h5];simp only[aN];refine⟨?_,?_,?_,?_,?_,?_,?_⟩ <;> (try split) <;> omega
theorem St0.starts(h:St0 x t fr B S L){a:Nat}(ha:a<t.m.n)(hs:a=0\/∃ g p k,B g p k/\p+2 ^ k=a):∃ g k,B g a k:=by
 obtain⟨g,p,k,hb,h1,h2⟩:=h.sd.cv a ha;by_cases e:p=a
 ·exact⟨g,k,by rw[<-e];exact hb⟩
 rcases hs with e0|⟨g',p',k',hb',e'⟩
 ·omega
 ·exfalso
  rcases h.sd.ds _ _ _ _ _ _ hb hb' with ⟨-,e1,e2⟩|e1|e1
  ·rw[e1,e2] at h2;omega
  ·have:=Nat.two_pow_pos k';omega
  ·omega
theorem St0.r4(h:St0 x t fr B S L):∀ m a,t.m.n-a<m->(a=t.m.n\/∃ g k,B g a k)->W.r4F (bJ x t S L) m a=none
 | 0,a,hm,_=>by omega
 | m+1,a,hm,hs=>by
  by_cases e:a=t.m.n
  ·subst e;exact W.r4F_end
  rcases hs with e'|⟨g,k,hb⟩
  ·exact absurd e' e
  have hal:=h.sd.al _ _ _ hb;have hp:=Nat.two_pow_pos k;have ha:a<t.m.n:=by omega
  have next:a+2 ^ k=t.m.n\/∃ g' k',B g' (a+2 ^ k) k':=by
   by_cases e2:a+2 ^ k=t.m.n
   ·exact .inl e2
   ·exact .inr (h.starts (by omega) (.inr ⟨g,a,k,hb,rfl⟩))
  cases hc:S.c a with
  | some c=>
   obtain⟨-,h3⟩:=h.si.pg a c hc;obtain⟨-,e0⟩:=h.one hb (h.slabB hc);subst e0;have hd:W.hdOk ((bJ x t S L).pg a) a=true:=by
    show W.hdOk (t.m.pg a) a=true
    unfold W.hdOk;rw[if_pos h3.kd,h3.od];rfl
   rw[W.r4F_ok (o:=0) ha (by show(t.m.pg a).od=_;rw[h3.od];rfl) hd (fun x hx=>by simp at hx)];exact h.r4 m (a+2 ^ 0) (by omega) next
  | none=>
   have hf:=h.first hb hc
   have hd:W.hdOk ((bJ x t S L).pg a) a=true:=by
    show W.hdOk (t.m.pg a) a=true
    rw[hf];unfold W.hdOk;have hg:=(h.tag hb).1;rw[if_neg (by show ¬(g:Int)=4;omega),if_pos (by show(g:Int)=0\/(g:Int)=2;omega)];show(decide (a%2 ^ (k:Int).toNat=0) && W.pgE (aN (g:Int) (k:Int)) (aN (g:Int) (k:Int)))=true
    rw[Int.toNat_natCast,decide_eq_true hal.2.1,Bool.true_and];exact decide_eq_true rfl
   rw[W.r4F_ok (o:=k) ha (by show(t.m.pg a).od=_;rw[hf];rfl) hd]
   ·exact h.r4 m (a+2 ^ k) (by omega) next
   ·intro y hy;show W.rsOk (t.m.pg a) (t.m.pg (a+1+y))=true
    have hn:S.c (a+1+y)=none:=by
     cases e3:S.c (a+1+y)with
     | none=>rfl
     | some c=>
      rcases h.sd.ds _ _ _ _ _ _ hb (h.slabB e3)with ⟨-,e1,-⟩|e1|e1
      ·omega
      ·omega
      ·simp at e1;omega
    have hq:=h.sd.pg g a k hb (h.tag hb).2 (a+1+y) (by omega) (by omega);rw[h.si.eP,iI hn,Option.getD_none,if_neg (by omega)] at hq;rw[hq,hf];show W.pgE (aN ((g:Int)+1) (k:Int)) (aN ((g:Int)+1) (k:Int))=true
    simp[W.pgE]
theorem St0.rl3(h:St0 x t fr B S L):W.rl (bJ x t S L) 3=none:=by
 show W.r4F (bJ x t S L) (t.m.n+1) 0=none
 refine h.r4 _ 0 (by omega) ?_;by_cases e:t.m.n=0
 ·exact .inl e.symm
 ·exact .inr (h.starts (by omega) (.inl rfl))
theorem St0.rl5(h:St0 x t fr B S L):W.rl (bJ x t S L) 5=none:=by
 show W.fst1 t.m.n (W.ok6 (bJ x t S L) (x.o:Int).toNat)=none
 rw[Int.toNat_natCast];refine W.fst1_ok fun a ha=>?_
 unfold W.ok6;show(!(W.isF (t.m.pg a) (t.m.pg a).od && decide ((t.m.pg a).od<(x.o:Int)) && decide (a%(2*2 ^ (t.m.pg a).od.toNat)=0)) || !W.isF (t.m.pg (a+2 ^ (t.m.pg a).od.toNat)) (t.m.pg a).od)=true
 cases hf:W.isF (t.m.pg a) (t.m.pg a).od with
 | false=>rfl
 | true=>
  have:∃ j:Nat,(t.m.pg a).od=(j:Int):=by
   rcases h.page ha with ⟨k,h1,h2,h3,h4⟩|⟨h1,g,p,k,hb,h2,h3,h4,h5⟩
   ·exact⟨0,h3.od⟩
   ·exact⟨k,by rw[h5];rfl⟩
  obtain⟨j,hj⟩:=this;rw[hj] at hf ⊢;rw[Int.toNat_natCast];have hb:=(h.isF_iff ha).1 hf;obtain⟨hjo,hfr⟩:=(h.sd.fi _ _).1 hb;by_cases hjk:j<x.o
  ·by_cases hal:a%(2*2 ^ j)=0
   ·rw[decide_eq_true (show(j:Int)<x.o by omega),decide_eq_true hal];obtain⟨i,hi⟩:=Nat.dvd_of_mod_eq_zero hal;have hfit:a+2 ^ j<t.m.n:=by
     have hd : 2*2 ^ j ∣ t.m.n:=by
      rw[<-h.np,show 2*2 ^ j=2 ^ (j+1)by rw[Nat.pow_succ,Nat.mul_comm]];exact Nat.dvd_trans (Nat.pow_dvd_pow 2 hjk) (Nat.dvd_mul_left _ _)
     have:=W.mul_fits hd hal ha;have:=Nat.two_pow_pos j;omega
    rw[h.isF_mem hfit hjo,decide_eq_false]
    ·rfl
    ·intro hm;refine h.sd.nm j hjk i ⟨?_,?_⟩
     ·rw[show 2*i*2 ^ j=a by rw[hi,Nat.mul_right_comm]];exact hfr
     ·rw[show(2*i+1)*2 ^ j=a+2 ^ j by rw[Nat.add_mul,Nat.one_mul,hi,Nat.mul_right_comm]];exact hm
   ·rw[decide_eq_false hal];simp
  ·rw[decide_eq_false (show ¬(j:Int)<x.o by omega)];simp
theorem St0.rl6(h:St0 x t fr B S L):W.rl (bJ x t S L) 6=none:=by
 show W.fstO x.o (W.r7k (bJ x t S L))=none
 refine W.fstO_ok fun a ha=>W.r7k_good (fun i hi=>?_) (fun i hi _=>h.hz a ha i hi)
 have hi:i<t.m.n/2 ^ (a+1):=hi;show aF (t.m.wd a) i=(W.isF (t.m.pg (i*2 ^ (a+1))) (a:Int) != W.isF (t.m.pg (i*2 ^ (a+1)+2 ^ a)) (a:Int))
 have hl:=W.half_lt hi;have hp:=Nat.two_pow_pos a;rw[h.sd.bt a ha i hi,h.isF_mem (by omega) (by omega),h.isF_mem hl (by omega)];rw[show i*2 ^ (a+1)=2*i*2 ^ a by rw[Nat.pow_succ,Nat.mul_comm 2 i,Nat.mul_assoc,Nat.mul_comm 2],show(2*i+1)*2 ^ a=2*i*2 ^ a+2 ^ a by rw[Nat.add_mul,Nat.one_mul]]
end
theorem KO(p:Pg){i:Nat}(hi:i<256):aF (W.wsP p) i=aH p i:=by
 unfold aF aH;have:(W.wsP p).getD (i/64) 0=wP p (i/64):=by
  obtain⟨q,hq⟩:=xe (i/64);rw[<-hq];match q,(show q<4 by omega)with
  | 0,_=>rfl
  | 1,_=>rfl
  | 2,_=>rfl
  | 3,_=>rfl
  | _+4,h=>omega
 rw[this]
theorem KM(l:List Nat):∀ n,l.Nodup->(∀ i∈l,i<n)->aK (fun i=>decide (i ∉ l)) n+l.length=n:=by
 intro n hd hl;have key:∀ n,aK (fun i=>decide (i ∉ l)) n+((List.range n).filter fun i=>decide (i∈l)).length=n:=by
  intro n;induction n with
  | zero=>rfl
  | succ n ih=>
   rw[List.range_succ,List.filter_append,List.length_append];by_cases h:n∈l
   ·have e1 : [n].filter (fun i=>decide (i∈l))=[n]:=(by simp[h]);rw[pG _ _ (decide_eq_false (not_not_intro h)),e1,<-Nat.add_assoc,ih];rfl
   ·have e1 : [n].filter (fun i=>decide (i∈l))=[]:=(by simp[h]);rw[rE _ _ (decide_eq_true h),e1,List.length_nil];omega
 have hp:((List.range n).filter fun i=>decide (i∈l)).length=l.length:=by
  refine List.Perm.length_eq ((List.perm_ext_iff_of_nodup (List.nodup_range.filter _) hd).2 fun i=>?_);simp only[List.mem_filter,List.mem_range,decide_eq_true_eq];exact⟨fun h=>h.2,fun h=>⟨hl i h,h⟩⟩
 have:=key n;omega
section
variable {x:Bx} {t:Bt} {fr:Nat->List Nat} {B:Nat->Nat->Nat->Prop} {S:Sb} {L:Nat}
theorem St0.bits(h:St0 x t fr B S L){i k:Nat}(hc:S.c i=some k)(j:Nat)(hj:j<256):aF (W.wsP (t.m.pg i)) j=decide (j<aG k/\j ∉ S.fl i):=by
 rw[KO _ hj];exact(h.si.pg i k hc).2.bt j hj
theorem St0.cnt(h:St0 x t fr B S L){i k:Nat}(hc:S.c i=some k):aK (aF (W.wsP (t.m.pg i))) 256=aG k-(S.fl i).length:=by
 obtain⟨hk,-⟩:=h.si.pg i k hc;have hn:=dM hk;have e:=KM (S.fl i) (aG k) (h.si.fl i k hc).1 (h.si.fl i k hc).2.1;have e2:aK (aF (W.wsP (t.m.pg i))) (aG k+(256-aG k))=aK (aF (W.wsP (t.m.pg i))) (aG k):=W.cntB_cut _ _ _ fun j h1 h2=>by
  rw[h.bits hc j (by omega),decide_eq_false];omega
 rw[show aG k+(256-aG k)=256 by omega] at e2;rw[e2,rQ _ (fun i'=>decide (i' ∉ S.fl i)) (aG k) fun j hj=>by rw[h.bits hc j (by omega)];simp[hj]];omega
theorem St0.rule5(h:St0 x t fr B S L){i:Nat}(hi:i<t.m.n):W.ok5 (t.m.pg i)=true:=by
 rcases h.page hi with ⟨k,h1,h2,h3,h4⟩|⟨h1,g,p,k,hb,h2,h3,h4,h5⟩
 ·rw[W.ok5_iff (t.m.pg i) (h.pin i hi) k h3.cl h3.kd,h3.lv,h.cnt h1];have:=h.lv i k h1;refine⟨⟨by omega,rfl⟩,fun j h6 h7=>?_⟩;rw[h.bits h1 j h7,decide_eq_false];have:aG k<=j:=h6;omega
 ·unfold W.ok5;rw[h5,decide_eq_false]
  ·rfl
  ·show ¬(if i=p then (g:Int) else (g:Int)+1)=4
   split <;> omega
theorem St0.rl4(h:St0 x t fr B S L):W.rl (bJ x t S L) 4=none:=W.fst1_ok fun i hi=>h.rule5 hi
theorem St0.sn9(h:St0 x t fr B S L):∃ r,W.Sn9 (bJ x t S L) x.o r:=by
 have:=W.sn9_of h.rl0 h.rl1 h.rl2;rwa [show(bJ x t S L).ord.toNat=x.o from Int.toNat_natCast _] at this
theorem St0.rl10(h:St0 x t fr B S L):W.rl (bJ x t S L) 10=none:=by
 refine W.fst1_ok fun i hi=>?_
 have hi:i<t.m.n:=hi;unfold W.ok11;show(!(decide ((t.m.pg i).kd=4) && decide ((t.m.pg i).lv=(W.celN9 (t.m.pg i).cl.toNat:Int))) || (decide ((t.m.pg i).nx = -1) && decide ((t.m.pg i).pv = -1)))=true
 rcases h.page hi with ⟨k,h1,h2,h3,h4⟩|⟨h1,g,p,k,hb,h2,h3,h4,h5⟩
 ·by_cases e:S.fl i=[]
  ·have hn:i ∉ S.pl k:=fun hm=>((h.si.pm k h2 i).1 hm).2 e
   rw[h3.nx,h3.pv,sZ hn,oR hn];simp
  ·have hl : 0<(S.fl i).length:=List.length_pos_iff.2 e;have hle:=h.si.lv i k h1;have hn:=dM h2;rw[h3.lv,h3.cl,Int.toNat_natCast,decide_eq_false (show ¬((aG k-(S.fl i).length:Nat):Int)=((W.celN9 k:Nat):Int)from fun e=>by
    have e:aG k-(S.fl i).length=aG k:=Int.ofNat.inj e;omega)]
   simp
 ·rw[h5,decide_eq_false]
  ·rfl
  ·show ¬(if i=p then (g:Int) else (g:Int)+1)=4
   split <;> omega
theorem XU{α : Type}[DecidableEq α]{dec : α->Option Nat}{nil : α}{nxt bk:Nat->α}{S:Nat->Bool}{n i:Nat}{p b : α}(h:dec p=some i):W.refL dec nil nxt bk S (n+1) p b=(S i && (decide (bk i=b) && W.refL dec nil nxt bk S n (nxt i) p)):=by rw[W.refL,h]
theorem uQ{α : Type}[DecidableEq α]{dec : α->Option Nat}{nil : α}{nxt bk:Nat->α}{P:Nat->Bool}(cod:Nat->α)(xs:List Nat)(hdec:∀ i∈xs,dec (cod i)=some i)(hP:∀ i∈xs,P i=true)
  (hn:∀ j,j<xs.length->nxt (xs.getD j 0)=if j+1<xs.length then cod (xs.getD (j+1) 0) else nil) (hb:∀ j,j<xs.length->bk (xs.getD j 0)=if j=0 then nil else cod (xs.getD (j-1) 0)):
  ∀ d j,j+d=xs.length->W.refL dec nil nxt bk P d (if j<xs.length then cod (xs.getD j 0) else nil) (if j=0 then nil else cod (xs.getD (j-1) 0))=true
 | 0,j,hj=>by
  rw[if_neg (by omega)];exact decide_eq_true rfl
 | d+1,j,hj=>by
  have hm:xs.getD j 0∈xs:=by
   rw[List.getD_eq_getElem?_getD,List.getElem?_eq_getElem (by omega)];exact List.getElem_mem _
  rw[if_pos (by omega),XU (hdec _ hm),hP _ hm,hb j (by omega),decide_eq_true rfl,hn j (by omega),Bool.true_and,Bool.true_and];have:=uQ cod xs hdec hP hn hb d (j+1) (by omega);rwa [if_neg (by omega:¬j+1=0),Nat.add_sub_cancel] at this
theorem xV{I:W.Img}{P:Pg->Bool}{xs:List Nat}(hd:xs.Nodup)(h:∀ i,i∈xs↔i<I.np/\P (I.pg i)=true):(W.pgL I P).length=xs.length:=
 List.Perm.length_eq ((List.perm_ext_iff_of_nodup (W.pgL_nodup I P) hd).2 fun i=>by rw[W.pgL_mem];exact(h i).symm)
theorem pD(f:Nat->Nat)(l:List Nat)(j:Nat)(hj:j<l.length):(l.map f).getD j 0=f (l.getD j 0):=by
 simp[List.getElem?_eq_getElem hj]
theorem St0.rl7(h:St0 x t fr B S L):W.rl (bJ x t S L) 7=none:=by
 show W.fst1 ((x.o:Int).toNat+1) (W.ok8 (bJ x t S L))=none
 rw[Int.toNat_natCast];refine W.fst1_ok fun k hk=>?_
 obtain⟨r,hS⟩:=h.sn9;have hk:k<=x.o:=by omega
 have hc:=h.sd.ch k hk;have hlt:∀ i∈fr k,i<t.m.n:=fun i hi=>by
  have:=h.sd.al _ _ _ ((h.sd.fi i k).2 ⟨hk,hi⟩);have:=Nat.two_pow_pos k;omega
 have hmem:∀ i,i∈fr k↔i<t.m.n/\W.isF (t.m.pg i) (k:Int)=true:=fun i=>by
  constructor
  ·intro hi;exact⟨hlt i hi,by rw[h.isF_mem (hlt i hi) hk];exact decide_eq_true hi⟩
  ·rintro ⟨h1,h2⟩;rw[h.isF_mem h1 hk] at h2;exact of_decide_eq_true h2
 have hnd:(fr k).Nodup:=(List.pairwise_map.1 hc.nodup).imp fun hne e=>hne (by rw[e])
 rw[W.ok8_eq hS,xV (I:=bJ x t S L) (P:=fun p=>W.isF p (k:Int)) hnd hmem];have hln:((fr k).map (ad x)).length=(fr k).length:=List.length_map _;have key:=uQ (dec:=W.decP (bJ x t S L)) (nil:=0) (nxt:=fun i=>M.word t.f (4096*i)) (bk:=fun i=>M.word t.f (4096*i+8)) (P:=fun i=>W.isF (t.m.pg i) (k:Int)) (ad x) (fr k) ?_ ?_ ?_ ?_ (fr k).length 0 (by omega)
 ·rw[if_pos rfl] at key;show W.refL _ 0 _ _ _ _ (((List.range (x.o+1)).map t.hd).getD k 0) 0=true
  have hh:((List.range (x.o+1)).map t.hd).getD k 0=t.hd k:=by
   simp[show k<x.o+1 by omega]
  rw[hh,hc.head];by_cases e : 0<(fr k).length
  ·rw[if_pos e] at key;rw[pD _ _ 0 e];exact key
  ·rw[if_neg e] at key;have:fr k=[]:=List.eq_nil_of_length_eq_zero (by omega);rw[this] at key ⊢;exact key
 ·intro i hi;have hl:=hlt i hi;have hst:=h.st;unfold W.decP;show(if x.bS<=ad x i/\ad x i-x.bS<x.n/\(ad x i-x.bS)%4096=0 then some ((ad x i-x.bS)/4096) else none)=some i
  unfold ad;rw[if_pos ⟨by omega,by omega,by omega⟩];congr 1
  omega
 ·intro i hi;exact((hmem i).1 hi).2
 ·intro j hj;have:=hc.nxt j (by rw[hln];exact hj);rw[pD _ _ j hj] at this;unfold M.nx ad at this;rw[Nat.add_sub_cancel_left] at this;rw[this];by_cases e:j+1<(fr k).length
  ·rw[if_pos e];exact pD _ _ _ e
  ·rw[if_neg e,List.getD_eq_getElem?_getD,List.getElem?_eq_none (by rw[List.length_map];omega)];rfl
 ·intro j hj;have:=hc.prv j (by rw[hln];exact hj);rw[pD _ _ j hj] at this;unfold M.pv ad at this;rw[show x.bS+4096*(fr k).getD j 0+8-x.bS=4096*(fr k).getD j 0+8 by omega] at this;rw[this];by_cases e:j=0
  ·rw[if_pos e,if_pos e]
  ·rw[if_neg e,if_neg e];exact pD _ _ _ (by omega)
end
theorem wY:∀ (l:List Nat),l.Nodup->∀ j,j<l.length->bD l (l.getD j 0)=if j+1<l.length then ((l.getD (j+1) 0:Nat):Int) else -1
 | [],_,j,hj=>by simp at hj
 | a :: l,hd,0,_=>by
  show(if a=a then bE l else _)=_
  rw[if_pos rfl]
  cases l with
  | nil=>rfl
  | cons b l=>rw[if_pos (by simp)];rfl
 | a :: l,hd,j+1,hj=>by
  rw[List.nodup_cons] at hd;have hj:j<l.length:=by simpa using hj
  have hm:l.getD j 0∈l:=by rw[List.getD_eq_getElem?_getD,List.getElem?_eq_getElem hj];exact List.getElem_mem _
  show(if a=l.getD j 0 then bE l else bD l (l.getD j 0))=if j+1+1<l.length+1 then ((l.getD (j+1) 0:Nat):Int) else -1
  rw[if_neg (fun e=>hd.1 (by rw[e];exact hm)),wY l hd.2 j hj];by_cases e:j+1<l.length
  ·rw[if_pos e,if_pos (by omega)]
  ·rw[if_neg e,if_neg (by omega)]
theorem wW:∀ (l:List Nat),l.Nodup->∀ j,j<l.length->bG l (l.getD j 0)=if j=0 then -1 else ((l.getD (j-1) 0:Nat):Int)
 | [],_,j,hj=>by simp at hj
 | a :: l,hd,0,_=>by
  rw[List.nodup_cons] at hd;show(if bE l=(a:Int) then (a:Int) else bG l a)=_
  rw[if_neg (fun e=>hd.1 (nK e)),if_pos rfl];exact oR hd.1
 | a :: l,hd,j+1,hj=>by
  rw[List.nodup_cons] at hd;have hj:j<l.length:=by simpa using hj
  show(if bE l=((l.getD j 0:Nat):Int) then (a:Int) else bG l (l.getD j 0))=_
  rw[if_neg (by omega:¬j+1=0),Nat.add_sub_cancel]
  cases j with
  | zero=>
   cases l with
   | nil=>simp at hj
   | cons b l=>exact if_pos rfl
  | succ j=>
   rw[if_neg,wW l hd.2 (j+1) hj,if_neg (by omega),Nat.add_sub_cancel]
   ·rfl
   ·intro e
    cases l with
    | nil=>simp at hj
    | cons b l=>
     have e:(b:Int)=((l.getD j 0:Nat):Int):=e;have hd2:=(List.nodup_cons.1 hd.2).1;have hj:j<l.length:=(by simpa using hj);apply hd2
     rw[show b=l.getD j 0 by omega,List.getD_eq_getElem?_getD,List.getElem?_eq_getElem hj];exact List.getElem_mem _
def vP(nx:Nat->Option Int):List Nat->Prop
 | []=>True
 | i :: r=>nx i=some (bE r)/\vP nx r
theorem AG{nx:Nat->Option Int} : ∀ (fl l:List Nat),l.Nodup->fl.Nodup->(∀ i,i∈l↔i∈fl)->vP nx fl->W.prg9 nx (l.length+1) l (bE fl)=true
 | [],l,_,_,hm,_=>by
  have:l=[]:=List.eq_nil_iff_forall_not_mem.2 fun i hi=>by simpa using (hm i).1 hi
  subst this;exact W.prg9_end
 | i :: r,l,hd,hf,hm,hl=>by
  rw[List.nodup_cons] at hf;have hi:i∈l:=(hm i).2 List.mem_cons_self;show W.prg9 nx (l.length+1) l (i:Int)=true
  rw[W.prg9_yes hi hl.1];refine AG r (l.erase i) (hd.erase i) hf.2 (fun j=>?_) hl.2;rw[hd.mem_erase_iff,hm j,List.mem_cons];constructor
  ·rintro ⟨h1,h2|h2⟩
   ·exact absurd h2 h1
   ·exact h2
  ·intro h2;exact⟨fun e=>hf.1 (by rw[<-e];exact h2),.inr h2⟩
section
variable {x:Bx} {t:Bt} {fr:Nat->List Nat} {B:Nat->Nat->Nat->Prop} {S:Sb} {L:Nat}
theorem St0.rl9(h:St0 x t fr B S L):W.rl (bJ x t S L) 9=none:=by
 refine W.fst1_ok fun k hk=>?_
 have hnd:=h.si.pn k hk;have hmem:∀ i,i∈S.pl k↔i<t.m.n/\W.prS (k:Int) (t.m.pg i)=true:=fun i=>by
  rw[h.si.pm k hk i];unfold W.prS;constructor
  ·rintro ⟨h1,h2⟩;obtain⟨-,h3⟩:=h.si.pg i k h1;have:=h.sd.al _ _ _ (h.slabB h1);have hl : 0<(S.fl i).length:=List.length_pos_iff.2 h2;have hle:=h.si.lv i k h1;refine⟨by simp at this;omega,?_⟩;rw[h3.kd,h3.cl,h3.lv,Int.toNat_natCast,decide_eq_false (show ¬((aG k-(S.fl i).length:Nat):Int)=((W.celN9 k:Nat):Int)from fun e=>by
    have e:aG k-(S.fl i).length=aG k:=Int.ofNat.inj e;have hn:=dM hk;omega)]
   simp
  ·rintro ⟨hi,hp⟩;simp only[Bool.and_eq_true,decide_eq_true_eq,Bool.not_eq_true'] at hp;obtain⟨p1,p2,p3⟩:=hp;rcases h.page hi with ⟨c,h1,h2,h3,h4⟩|⟨h1,g,p,k',hb,h2,h3,h4,h5⟩
   ·rw[h3.cl] at p2;have:c=k:=by omega
    subst this;refine⟨h1,fun e=>?_⟩;rw[h3.lv,h3.cl,e,Int.toNat_natCast] at p3;exact of_decide_eq_false p3 rfl
   ·rw[h5] at p1;have p1:(if i=p then (g:Int) else (g:Int)+1)=4:=p1;split at p1 <;> omega
 rw[W.ok10_eq,xV (I:=bJ x t S L) (P:=W.prS (k:Int)) hnd hmem];have hpg:∀ j,j<(S.pl k).length->SlP S ((S.pl k).getD j 0) k (t.m.pg ((S.pl k).getD j 0)):=fun j hj=>by
  have hm:(S.pl k).getD j 0∈S.pl k:=by rw[List.getD_eq_getElem?_getD,List.getElem?_eq_getElem hj];exact List.getElem_mem _
  exact(h.si.pg _ k ((h.si.pm k hk _).1 hm).1).2
 have key:=uQ (dec:=W.dec10 (bJ x t S L)) (nil:=(-1:Int)) (nxt:=fun i=>(t.m.pg i).nx) (bk:=fun i=>(t.m.pg i).pv) (P:=fun i=>W.prS (k:Int) (t.m.pg i)) (fun i=>(i:Int)) (S.pl k) ?_ ?_ ?_ ?_ (S.pl k).length 0 (by omega)
 ·rw[if_pos rfl] at key;show W.refL _ (-1) _ _ _ _ (((List.range 8).map fun k=>bE (S.pl k)).getD k 0) (-1)=true
  have hh:((List.range 8).map fun k=>bE (S.pl k)).getD k 0=bE (S.pl k):=by
   simp[hk]
  rw[hh];have e3:bE (S.pl k)=if 0<(S.pl k).length then (((S.pl k).getD 0 0:Nat):Int) else -1:=by
   cases S.pl k with
   | nil=>rfl
   | cons a l=>rw[if_pos (by simp)];rfl
  rw[e3];exact key
 ·intro i hi;unfold W.dec10;have hl:=((hmem i).1 hi).1;show(if 0<=(i:Int)/\(i:Int)<t.m.n then some (i:Int).toNat else none)=some i
  rw[if_pos ⟨by omega,by omega⟩,Int.toNat_natCast]
 ·intro i hi;exact((hmem i).1 hi).2
 ·intro j hj;show(t.m.pg ((S.pl k).getD j 0)).nx=_
  rw[(hpg j hj).nx];exact wY _ hnd j hj
 ·intro j hj;show(t.m.pg ((S.pl k).getD j 0)).pv=_
  rw[(hpg j hj).pv];exact wW _ hnd j hj
theorem St0.lp9(h:St0 x t fr B S L){g k:Nat}(hk:k<8):∀ l:List Nat,(∀ i∈l,i<aG k)->mA x t.f g k l->vP (W.nx9 (bJ x t S L) g k) l
 | [],_,_=>trivial
 | i :: r,hl,hn=>by
  refine⟨?_,h.lp9 hk r (fun j hj=>hl j (List.mem_cons_of_mem _ hj)) hn.2⟩;have e:=hn.1;have hb:=h.sd.b1;have hc:=dM hk;unfold W.nx9;show(if M.word t.f (4096*g+i*aE k)=0 then some (-1) else if x.bS+g*4096<=M.word t.f (4096*g+i*aE k)/\M.word t.f (4096*g+i*aE k)-(x.bS+g*4096)<4096/\(M.word t.f (4096*g+i*aE k)-(x.bS+g*4096))%aE k=0 then some (((M.word t.f (4096*g+i*aE k)-(x.bS+g*4096))/aE k:Nat):Int) else none)=some (bE r)
  rw[e]
  cases r with
  | nil=>exact if_pos rfl
  | cons j r'=>
   have hj:=hl j (by simp);have hm:(j+1)*aE k<=aG k*aE k:=Nat.mul_le_mul_right _ hj;rw[hc.1,Nat.add_mul,Nat.one_mul] at hm;have hs : 0<aE k:=Nat.mul_pos (by decide) (Nat.two_pow_pos k);show(if aQ x g k j=0 then _ else if x.bS+g*4096<=aQ x g k j/\aQ x g k j-(x.bS+g*4096)<4096/\(aQ x g k j-(x.bS+g*4096))%aE k=0 then some (((aQ x g k j-(x.bS+g*4096))/aE k:Nat):Int) else none)=some (j:Int)
   have e2:aQ x g k j-(x.bS+g*4096)=j*aE k:=(by unfold aQ;omega);have e3:x.bS+g*4096<=aQ x g k j:=(by unfold aQ;omega);rw[e2,if_neg (by omega),if_pos ⟨e3,by omega,Nat.mul_mod_left _ _⟩,Nat.mul_div_cancel _ hs]
theorem St0.rl8(h:St0 x t fr B S L):W.rl (bJ x t S L) 8=none:=by
 refine W.fst1_ok fun i hi=>?_
 have hi:i<t.m.n:=hi;unfold W.ok9;rcases h.page hi with ⟨k,h1,h2,h3,h4⟩|⟨h1,g,p,k,hb,h2,h3,h4,h5⟩
 ·show(!decide ((t.m.pg i).kd=4) || W.ok9c (bJ x t S L) i (t.m.pg i).cl.toNat)=true
  rw[h3.cl,Int.toNat_natCast];have:W.ok9c (bJ x t S L) i k=true:=by
   unfold W.ok9c;show W.prg9 (W.nx9 (bJ x t S L) i k) ((W.frL (t.m.pg i) (aG k)).length+1) (W.frL (t.m.pg i) (aG k)) (t.m.pg i).fs=true
   rw[h3.fs];obtain⟨f1,f2,f3⟩:=h.si.fl i k h1;have hn:=dM h2;refine AG (S.fl i) _ (List.nodup_range.filter _) f1 (fun j=>?_) (h.lp9 h2 _ f2 f3);simp only[W.frL,List.mem_filter,List.mem_range,Bool.not_eq_true'];constructor
   ·rintro ⟨g1,g2⟩;rw[h.bits h1 j (by omega)] at g2;exact Decidable.not_not.1 fun hne=>of_decide_eq_false g2 ⟨g1,hne⟩
   ·intro hj;refine⟨f2 j hj,?_⟩;rw[h.bits h1 j (by have:=f2 j hj;omega)];exact decide_eq_false fun e=>e.2 hj
  rw[this];simp
 ·show(!decide ((t.m.pg i).kd=4) || _)=true
  rw[h5,decide_eq_false]
  ·rfl
  ·show ¬(if i=p then (g:Int) else (g:Int)+1)=4
   split <;> omega
theorem St0.sound(h:St0 x t fr B S L):W.chk (bJ x t S L)=(0,0):=by
 refine W.chk_ok fun a ha=>?_
 match a,ha with
 | 0,_=>exact h.rl0
 | 1,_=>exact h.rl1
 | 2,_=>exact h.rl2
 | 3,_=>exact h.rl3
 | 4,_=>exact h.rl4
 | 5,_=>exact h.rl5
 | 6,_=>exact h.rl6
 | 7,_=>exact h.rl7
 | 8,_=>exact h.rl8
 | 9,_=>exact h.rl9
 | 10,_=>exact h.rl10
end
section
variable {α : Type} [DecidableEq α] {dec : α->Option Nat} {nil : α} {nxt bk:Nat->α}
end
section
variable {I:W.Img} {k r:Nat} (hS:W.Sn9 I k r) (h4:W.rl I 3=none)
include hS h4
omit hS in
end
section
variable {I:W.Img} {fr:Nat->List Nat} {S:Sb} {x:Bx} {t:Bt}
end
section
variable {I:W.Img} {fr:Nat->List Nat} {S:Sb} {x:Bx} {t:Bt}
end
end Go.Proofs.YtkfmheelhinjdaaGreatDoor
