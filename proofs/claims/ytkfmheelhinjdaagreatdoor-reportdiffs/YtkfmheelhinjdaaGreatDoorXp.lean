import Derived.Test.YtkfmheelhinjdaaGreatDoorXo
import Derived.Test.YtkfmheelhinjdaaGreatDoorXl
import Derived.Conc.MuLone
import Derived.Shelf.SlSortCmp.NoneTotal
import Derived.Shelf.Strconv.AppendInt10
set_option maxRecDepth 1000000
set_option maxHeartbeats 80000000
namespace Go.Proofs.YtkfmheelhinjdaaGreatDoor
open _root_.Go.Proofs.Tryz
open Go.RowKit
set_option linter.unusedVariables false
theorem SO.four{w W sb lw x t fr ls S h}(o:SO w W sb lw x t fr ls S h){g:Nat}(hg:g<t.m.n)(hk:(t.m.pg g).kd=4):∃ k,S.c g=some k:=by
 cases e:S.c g with
 | some k=>exact⟨k,rfl⟩
 | none=>
  exfalso
  obtain⟨B,s,hN,hL⟩:=o.sf;obtain⟨a,p,k,hb,h1,h2⟩:=s.cv g hg;have h9:a≠9:=fun e=>hN p k (e▸hb)
  have hp:=s.pg a p k hb h9 g h1 h2;rw[o.si.eP,iI e,Option.getD_none] at hp;rw[hp] at hk;have hk:(if g=p then (a:Int) else (a:Int)+1)=4:=hk;rcases s.tg a p k hb with rfl|rfl|rfl
  ·split at hk <;> omega
  ·split at hk <;> omega
  ·exact h9 rfl
def sB(x:Bx)(S:Sb)(p g k i:Nat):Prop:=S.c g=some k/\i<aG k/\i ∉ S.fl g/\p=aQ x g k i
theorem SO.liv_of{w W sb lw x t fr ls S h}(o:SO w W sb lw x t fr ls S h){p:Nat}(hp:p<18446744073709551616)(hl:eZ x t p=true):∃ g k i,sB x S p g k i:=by
 unfold eZ iV at hl;rw[Bool.and_eq_true,Bool.and_eq_true] at hl;obtain⟨⟨h1,h2⟩,h3⟩:=hl;have h1:=of_decide_eq_true h1;have h2:=of_decide_eq_true h2;obtain⟨g,hg⟩:=xe (bF x p/4096);have hgn:g<t.m.n:=by
  refine Nat.lt_of_not_le fun hle=>?_
  unfold dB cF at h1;rw[<-hg,if_neg] at h1
  ·exact absurd h1 (by decide)
  ·intro e;obtain⟨k,e1,e2⟩:=gM e;omega
 have hQ:dB x t p=t.m.pg g:=by
  unfold dB;rw[<-hg];exact oH hgn
 rw[hQ] at h1;obtain⟨k,hc⟩:=o.four hgn h1;obtain⟨hk,sp⟩:=o.si.pg g k hc;have hnb:=dM hk;have hz:=dV hk;have ek:(dB x t p).cl.toNat=k:=by rw[hQ,sp.cl];rfl
 rw[ek] at h2;obtain⟨i,hi⟩:=xe (bF x p%4096/aE k);have hN:fR x t p=i:=by unfold fR;rw[ek,hi]
 have him:i*aE k=bF x p%4096:=by
  have:=Nat.div_add_mod (bF x p%4096) (aE k);rw[h2,Nat.add_zero,Nat.mul_comm,<-hi] at this;exact this
 have hib:i<aG k:=by
  refine Nat.lt_of_not_le fun hle=>?_
  have:=Nat.mul_le_mul_right (aE k) hle;rw[hnb.1,him] at this;have:=Nat.mod_lt (bF x p) (show 0<4096 by decide);omega
 rw[hQ,hN,sp.bt i (by omega)] at h3;have h3:=of_decide_eq_true h3;refine⟨g,k,i,hc,hib,h3.2,?_⟩;obtain⟨_,hpn,hp1,hpb⟩:=o.mem hc;have n4:=o.po.nums.2.2.2.1;have e:aQ x g k i=x.bS+4096*g+i*aE k:=rfl;rw[e,him,hg];have hd:=Nat.div_add_mod (bF x p) 4096;have ho:bF x p=(p+18446744073709551616-x.bS)%18446744073709551616:=rfl;omega
theorem SO.of_liv{w W sb lw x t fr ls S h}(o:SO w W sb lw x t fr ls S h){p g k i:Nat}(hl:sB x S p g k i):eZ x t p=true/\iV x t p=true/\bF x p/4096=g/\dB x t p=t.m.pg g/\fR x t p=i/\p<18446744073709551616:=by
 obtain⟨hc,hi,hn,rfl⟩:=hl;obtain⟨hk,sp⟩:=o.si.pg g k hc;have hnb:=dM hk;obtain⟨_,hpn,hp1,hpb⟩:=o.mem hc;have n4:=o.po.nums.2.2.2.1;obtain⟨h1,h2,h3,h4⟩:=sP (x:=x) (t:=t) hk hi (by omega) hpn sp.kd sp.cl;refine⟨?_,h1,h2,h3,h4,(kI (x:=x) (p:=g) hk hi (by omega)).2.2⟩;unfold eZ;rw[h1,h3,h4,sp.bt i (by omega),decide_eq_true ⟨hi,hn⟩];rfl
theorem gK.tak{S:Sb}{p k i:Nat}{r:List Nat}(h:∀ a c,a≠p->S.c a=some c->(S.fl a).length<aG c)(hc:S.c p=some k)(hf:S.fl p=i :: r)(hl:(S.fl p).length<=aG k):gK (aP S p k r):=by
 intro a c ha;replace ha:S.c a=some c:=ha;show(aZ S.fl p r a).length<aG c
 by_cases e:a=p
 ·subst e;rw[hc] at ha
  cases ha
  rw[cV];rw[hf,List.length_cons] at hl;omega
 ·rw[cT _ _ e];exact h a c e ha
theorem gK.old{w W sb lw x t fr ls S h}(o:SO w W sb lw x t fr ls S h)(v:gK S){p k i:Nat}{l r:List Nat}(hk:k<8)(hl:S.pl k=p :: l)(hf:S.fl p=i :: r):gK (aP S p k r):=by
 have hc:=((o.si.pm k hk p).1 (by rw[hl];exact List.mem_cons_self)).1;exact gK.tak (fun a c _ ha=>v a c ha) hc hf (o.si.lv p k hc)
theorem gK.new{S:Sb}(v:gK S){p k:Nat}(hk:k<8):gK (aP (aW S p k) p k (List.range' 1 (aG k-1))):=by
 have hnl:=dM hk;have e:(aW S p k).fl p=List.range' 0 (aG k):=cV _ _ _;refine gK.tak (i:=0) (fun a c ha hc=>?_) (cV _ _ _) ?_ ?_
 ·rw[show(aW S p k).c a=S.c a from cT _ _ ha] at hc;rw[show(aW S p k).fl a=S.fl a from cT _ _ ha];exact v a c hc
 ·rw[e];obtain⟨m,hm⟩:∃ m,aG k=m+1:=⟨aG k-1,by omega⟩;rw[hm];rfl
 ·rw[e,List.length_range'];exact Nat.le_refl _
theorem SO.new{w W sb lw x t}(po:PO w W lw x t (fun _=>[]) [])(sw:SW w W sb lw x t (fun _ => -1))(hP:x.P=fun _=>none):SO w W sb lw x t (fun _=>[]) [] ⟨fun _=>none,fun _=>[],fun _=>[]⟩ (fun _ => -1):=by
 refine⟨sw,po.sf,po.st,po.bm,⟨?_,fun p k h=>?_,fun p k h=>?_,fun p k h=>?_,fun k hk=>List.nodup_nil,fun k hk p=>?_⟩,fun k hk=>rfl⟩
 ·rw[hP];funext p
  exact(iI rfl).symm
 ·cases h
 ·cases h
 ·cases h
 ·constructor
  ·intro h;cases h
  ·rintro ⟨h,_⟩;cases h
theorem gK.none:gK ⟨fun _=>Option.none,fun _=>[],fun _=>[]⟩:=fun p k h=>by cases h
def eG(x:Bx)(ls:List (Nat×Nat))(S:Sb)(p s:Nat):Prop:=(∃ g k i,sB x S p g k i/\s=aE k)\/(∃ q k,(q,k)∈ls/\S.c q=none/\p=ad x q/\s=4096*2 ^ k)
section
variable {w W:World} {sb lw:Nat} {x:Bx} {t:Bt} {fr:Nat->List Nat} {ls:List (Nat×Nat)} {S:Sb} {h:Nat->Int}
theorem SO.apart(o:SO w W sb lw x t fr ls S h){p k q j:Nat}(hp:(p,k)∈ls)(hq:(q,j)∈ls):(p=q/\k=j)\/p+2 ^ k<=q\/q+2 ^ j<=p:=by
 obtain⟨B,s,hN,hL⟩:=o.sf;rcases s.ds _ _ _ _ _ _ ((hL p k).2 hp) ((hL q j).2 hq)with ⟨_,e1,e2⟩|e|e
 ·exact .inl ⟨e1,e2⟩
 ·exact .inr (.inl e)
 ·exact .inr (.inr e)
theorem SO.al(o:SO w W sb lw x t fr ls S h){p k:Nat}(hp:(p,k)∈ls):k<=x.o/\p%2 ^ k=0/\p+2 ^ k<=t.m.n:=o.sf.sn.al hp
theorem SO.span(o:SO w W sb lw x t fr ls S h){p s:Nat}(hl:eG x ls S p s) : 0<s/\∃ q k,(q,k)∈ls/\ad x q<=p/\p+s<=ad x q+4096*2 ^ k:=by
 rcases hl with ⟨g,k,i,⟨h1,h2,h3,rfl⟩,rfl⟩|⟨q,k,h1,h2,rfl,rfl⟩
 ·have hk:=(o.si.pg g k h1).1;have hz:=dV hk;have hm:=o.mem h1;have n4:=o.po.nums.2.2.2.1;have hc:=kI (x:=x) (p:=g) hk h2 (by omega);refine⟨by omega,g,0,hm.1,?_,?_⟩
  ·unfold aQ ad;omega
  ·unfold aQ ad;rw[Nat.pow_zero];omega
 ·have : 0<2 ^ k:=Nat.pow_pos (by decide);exact⟨by omega,q,k,h1,Nat.le_refl _,Nat.le_refl _⟩
end
section
variable {w W:World} {sb lw:Nat} {x:Bx} {t:Bt} {fr:Nat->List Nat} {ls:List (Nat×Nat)} {S:Sb} {h:Nat->Int} {n:Nat}
end
theorem tI{x x':Bx}(hb:x'.bS=x.bS){ls:List (Nat×Nat)}{S:Sb}{p s:Nat} : eG x' ls S p s↔eG x ls S p s:=by
 unfold eG sB aQ ad;rw[hb]
section
variable {w W:World} {sb lw:Nat} {x:Bx} {t:Bt} {fr:Nat->List Nat} {ls:List (Nat×Nat)} {S:Sb} {h:Nat->Int} {n:Nat}
variable {w2 W2:World} {sb2 lw2:Nat} {x':Bx} {t':Bt} {fr':Nat->List Nat} {ls':List (Nat×Nat)} {S':Sb} {h':Nat->Int}
theorem SO.cell_ne(o:SO w W sb lw x t fr ls S h){g k i g' k' i':Nat}(h1:S.c g=some k)(h2:i<aG k)(h3:S.c g'=some k')(h4:i'<aG k')(e:aQ x g k i=aQ x g' k' i'):g=g'/\k=k'/\i=i':=by
 have hk:=(o.si.pg g k h1).1;have hk':=(o.si.pg g' k' h3).1;have hm:=o.mem h1;have hm':=o.mem h3;have n4:=o.po.nums.2.2.2.1;have hc:=kI (x:=x) (p:=g) hk h2 (by omega);have hc':=kI (x:=x) (p:=g') hk' h4 (by omega);have hz:=dV hk;have hz':=dV hk';unfold aQ at e;have e1:g=g':=by omega
 subst e1;rw[h1] at h3;injection h3 with h3
 subst h3;refine⟨rfl,rfl,?_⟩;have:i*aE k=i'*aE k:=by omega
 exact Nat.eq_of_mul_eq_mul_right (by omega) this
theorem SO.free_no(o:SO w W sb lw x t fr ls S h){p k i:Nat}(hc:S.c p=some k)(hi:i∈S.fl p)(s:Nat):¬eG x ls S (aQ x p k i) s:=by
 have hib:=(o.si.fl p k hc).2.1 i hi;rintro (⟨g,k',i',⟨h1,h2,h3,h4⟩,_⟩|⟨q,j,h1,h2,h3,_⟩)
 ·obtain⟨rfl,rfl,rfl⟩:=o.cell_ne hc hib h1 h2 h4;exact h3 hi
 ·have hk:=(o.si.pg p k hc).1;have hm:=o.mem hc;have n4:=o.po.nums.2.2.2.1;have hcc:=kI (x:=x) (p:=p) hk hib (by omega);have hz:=dV hk;have hzz : 0<2 ^ j:=Nat.pow_pos (by decide);unfold aQ ad at h3;rcases o.apart hm.1 h1 with ⟨e,_⟩|e|e
  ·rw[<-e,hc] at h2;cases h2
  ·omega
  ·omega
theorem IL(o:SO w W sb lw x t fr ls S h){p k i:Nat}{r:List Nat}(hc:S.c p=some k)(hf:S.fl p=i :: r)(a s:Nat):eG x ls (aP S p k r) a s↔eG x ls S a s\/(a=aQ x p k i/\s=aE k):=by
 obtain⟨n1,n2,_⟩:=o.si.fl p k hc;rw[hf,List.nodup_cons] at n1;have hib:=n2 i (by rw[hf];exact List.mem_cons_self);constructor
 ·rintro (⟨g,k',i',⟨h1,h2,h3,h4⟩,h5⟩|⟨q,j,h1,h2,h3,h4⟩)
  ·replace h1:S.c g=some k':=h1;replace h3:i' ∉ aZ S.fl p r g:=h3;by_cases e:g=p
   ·subst e;rw[hc] at h1;injection h1 with h1
    subst h1;rw[cV] at h3;by_cases e2:i'=i
    ·subst e2;exact .inr ⟨h4,h5⟩
    ·refine .inl (.inl ⟨g,k,i',⟨hc,h2,?_,h4⟩,h5⟩);rw[hf,List.mem_cons,not_or];exact⟨e2,h3⟩
   ·rw[cT _ _ e] at h3;exact .inl (.inl ⟨g,k',i',⟨h1,h2,h3,h4⟩,h5⟩)
  ·exact .inl (.inr ⟨q,j,h1,h2,h3,h4⟩)
 ·rintro ((⟨g,k',i',⟨h1,h2,h3,h4⟩,h5⟩|⟨q,j,h1,h2,h3,h4⟩)|⟨rfl,rfl⟩)
  ·refine .inl ⟨g,k',i',⟨h1,h2,?_,h4⟩,h5⟩;show i' ∉ aZ S.fl p r g
   by_cases e:g=p
   ·subst e;rw[cV];rw[hf,List.mem_cons,not_or] at h3;exact h3.2
   ·rw[cT _ _ e];exact h3
  ·exact .inr ⟨q,j,h1,h2,h3,h4⟩
  ·refine .inl ⟨p,k,i,⟨hc,hib,?_,rfl⟩,rfl⟩;show i ∉ aZ S.fl p r p
   rw[cV];exact n1.1
theorem IK{p k:Nat}(hk:k<8)(hc:S.c p=none)(hn:∀ i,(p,i) ∉ ls)(a s:Nat):eG x (ls ++ [(p,0)]) (aP (aW S p k) p k (List.range' 1 (aG k-1))) a s↔eG x ls S a s\/(a=aQ x p k 0/\s=aE k):=by
 have hnb:=dM hk;constructor
 ·rintro (⟨g,k',i',⟨h1,h2,h3,h4⟩,h5⟩|⟨q,j,h1,h2,h3,h4⟩)
  ·replace h1:aZ S.c p (some k) g=some k':=h1;replace h3:i' ∉ aZ (aZ S.fl p (List.range' 0 (aG k))) p (List.range' 1 (aG k-1)) g:=h3;by_cases e:g=p
   ·subst e;rw[cV] at h1 h3;injection h1 with h1
    subst h1;have e2:i'=0:=by
     rcases Nat.eq_zero_or_pos i' with e2|e2
     ·exact e2
     ·exact absurd (List.mem_range'_1.2 ⟨e2,by omega⟩) h3
    subst e2;exact .inr ⟨h4,h5⟩
   ·rw[cT _ _ e] at h1;rw[cT _ _ e,cT _ _ e] at h3;exact .inl (.inl ⟨g,k',i',⟨h1,h2,h3,h4⟩,h5⟩)
  ·replace h2:aZ S.c p (some k) q=none:=h2;have e:q≠p:=fun e=>by rw[e,cV] at h2;cases h2
   rw[cT _ _ e] at h2;refine .inl (.inr ⟨q,j,?_,h2,h3,h4⟩);rcases List.mem_append.1 h1 with h1|h1
   ·exact h1
   ·rw[List.mem_singleton] at h1;injection h1 with h1
    exact absurd h1 e
 ·rintro ((⟨g,k',i',⟨h1,h2,h3,h4⟩,h5⟩|⟨q,j,h1,h2,h3,h4⟩)|⟨rfl,rfl⟩)
  ·have e:g≠p:=fun e=>by rw[e,hc] at h1;cases h1
   refine .inl ⟨g,k',i',⟨?_,h2,?_,h4⟩,h5⟩
   ·show aZ S.c p (some k) g=some k'
    rw[cT _ _ e];exact h1
   ·show i' ∉ aZ (aZ S.fl p (List.range' 0 (aG k))) p (List.range' 1 (aG k-1)) g
    rw[cT _ _ e,cT _ _ e];exact h3
  ·have e:q≠p:=fun e=>hn j (e▸h1)
   refine .inr ⟨q,j,List.mem_append_left _ h1,?_,h3,h4⟩;show aZ S.c p (some k) q=none
   rw[cT _ _ e];exact h2
  ·refine .inl ⟨p,k,0,⟨cV _ _ _,by omega,?_,rfl⟩,rfl⟩;show 0 ∉ aZ (aZ S.fl p (List.range' 0 (aG k))) p (List.range' 1 (aG k-1)) p
   rw[cV,List.mem_range'_1];omega
theorem SS{p k:Nat}(hc:S.c p=none)(a s:Nat):eG x (ls ++ [(p,k)]) S a s↔eG x ls S a s\/(a=ad x p/\s=4096*2 ^ k):=by
 constructor
 ·rintro (h1|⟨q,j,h1,h2,h3,h4⟩)
  ·exact .inl (.inl h1)
  ·rcases List.mem_append.1 h1 with h1|h1
   ·exact .inl (.inr ⟨q,j,h1,h2,h3,h4⟩)
   ·rw[List.mem_singleton] at h1;injection h1 with e1 e2
    subst e1 e2;exact .inr ⟨h3,h4⟩
 ·rintro ((h1|⟨q,j,h1,h2,h3,h4⟩)|⟨h3,h4⟩)
  ·exact .inl h1
  ·exact .inr ⟨q,j,List.mem_append_left _ h1,h2,h3,h4⟩
  ·exact .inr ⟨p,k,List.mem_append_right _ (List.mem_singleton.2 rfl),hc,h3,h4⟩
def vO(x:Bx)(ls:List (Nat×Nat))(S:Sb)(j:Nat):Prop:=∃ p s,eG x ls S p s/\p<=x.bS+j/\x.bS+j<p+s
theorem SO.byte(o:SO w W sb lw x t fr ls S h){j:Nat}(hj:vO x ls S j):Lv ls (j/4096):=by
 obtain⟨p,s,h1,h2,h3⟩:=hj;obtain⟨_,q,k,h4,h5,h6⟩:=o.span h1;unfold ad at h5 h6;refine⟨q,k,h4,?_,?_⟩
 ·exact(Nat.le_div_iff_mul_le (by decide)).2 (by omega)
 ·exact(Nat.div_lt_iff_lt_mul (by decide)).2 (by omega)
structure Ch(x:Bx)(t:Bt)(ls:List (Nat×Nat))(S:Sb)(x':Bx)(t':Bt)(ls':List (Nat×Nat))(S':Sb):Prop where
 bS:x'.bS=x.bS
 R:x'.R=x.R
 lim:x'.lim=x.lim
 o:x'.o=x.o
 kb:∀ j,vO x ls S j->vO x' ls' S' j->t'.f j=t.f j
end
open Go.MuLone
def KW(w:World):Type:={ W:World // Kt nO w W }
def KW.v{w:World}(x:KW w):World:=x.1
theorem KW.k{w:World}(x:KW w):Kt nO w x.v:=x.2
instance (w:World):Nonempty (KW w):=⟨⟨w,Kt.refl _ _⟩⟩
theorem cI{P:Program}{id:Nat}{Q:Exit->Act->World->Prop}{a:Act}{w:World}{l:List Oper}(hm:P.follows .mixedOrders=true)(hB:Region.lexB .any l.toArray=true)
  (h:wpQuiet P l.toArray (fun w'=>∃ x:KW w,w'=x.v) (fun a'=>∀ x:KW w,Q .normal a' x.v) l a):(Code.region id l.toArray true).wp P Q a w:=by
 refine wp_region_quiet (C:=fun w'=>∃ x:KW w,w'=x.v) hm hB ⟨⟨w.drew,(Kt.refl _ w).drew⟩,rfl⟩ ?_;have e:(fun a'=>∀ w',(∃ x:KW w,w'=x.v)->Q .normal a' w')=(fun a'=>∀ x:KW w,Q .normal a' x.v):=by
  funext a'
  exact propext ⟨fun h x=>h _ ⟨x,rfl⟩,fun h w' ⟨x,hx⟩=>hx▸h x⟩
 rw[e];simpa using h
theorem Calls.kept_of{P:Program}{f:FuncId}{args:Array Value}{w:World}{x:KW w}{v:Value}
  (h:Calls P f args x.v fun e w'=>e=.returned v/\Kt nO x.v w'):Calls P f args x.v fun e w''=>e=.returned v/\∃ y:KW w,w''=y.v:=
 h.mono fun _ w1 ⟨he,hk⟩=>⟨he,⟨w1,nT x.k hk⟩,rfl⟩
abbrev muK:Go.Conc.Locks.MuLink:={ lock:=35,unlock:=36,ilock:=80,iunlock:=81,lockSlow:=123,unlockSlow:=126,disable:=119,enable:=121,acquire:=122,relMerge:=124,cas32:=120,add32:=125,tMutex:=73,tIMutex:=71,tPMutex:=136,tPIMutex:=166,tPI32:=168,tUP:=170,tNoCopy:=68,tU32:=69 }
theorem CR:Go.Conc.Locks.MuLib prog muK:=
 ⟨func35,func36,func80,func81,func119,func121,func122,func124,func120,func125,
 Tryz.underlying71,Tryz.runUnderlying71,Tryz.sizeOf71,Tryz.isAgg71,Tryz.zeroValue71,
 Tryz.underlying73,Tryz.runUnderlying73,Tryz.sizeOf73,Tryz.isAgg73,Tryz.zeroValue73,
 Tryz.underlying136,Tryz.runUnderlying136,Tryz.sizeOf136,Tryz.isAgg136,Tryz.zeroValue136,
 Tryz.underlying166,Tryz.runUnderlying166,Tryz.sizeOf166,Tryz.isAgg166,Tryz.zeroValue166,
 Tryz.underlying168,Tryz.runUnderlying168,Tryz.sizeOf168,Tryz.isAgg168,Tryz.zeroValue168,
 Tryz.underlying170,Tryz.runUnderlying170,Tryz.sizeOf170,Tryz.isAgg170,Tryz.zeroValue170,
 Tryz.underlying68,Tryz.runUnderlying68,Tryz.sizeOf68,Tryz.isAgg68,Tryz.zeroValue68,
 Tryz.underlying21,Tryz.runUnderlying21,Tryz.sizeOf21,Tryz.isAgg21,Tryz.zeroValue21,
 (by kernel_rfl)⟩
abbrev vI(s:Int)(lw sb bS lim o:Nat):Obj:=.cells #[.int .i32 s,.int .u32 0,.int .u64 bS,.int .i64 lim,.int .i64 o,.pointer (some ⟨lw,0,none⟩),.pointer (some ⟨sb,0,none⟩)] 75
structure HW(w W:World)(hb sb lw:Nat)(x:Bx)(t:Bt)(fr:Nat->List Nat)(ls:List (Nat×Nat))(S:Sb)(s:Int):Prop where
 so:∃ h,SO w W sb lw x t fr ls S h
 lv:gK S
 bx:W.heap[hb]?=some (vI s lw sb x.bS x.lim x.o)
 nw:w.heap.size<=hb
 br:x.bS%x.R=0
theorem SO.hty{w W sb lw x t fr ls S h}(s:SO w W sb lw x t fr ls S h){y:Nat}{cs:Array Value}{z:Nat×Nat}(hy:W.heap[y]?=some (.cells cs 75 z)):¬cW x sb y:=by
 rintro (e|e)
 ·exact absurd (s.sw.pl.pty hy (.inl e)) (by unfold Go.Proofs.YtkfmheelhinjdaaGreatDoor.pty;decide)
 ·subst e;exact absurd (kD hy s.sw.bx) (by decide)
section
variable {w W W':World} {hb sb lw:Nat} {x:Bx} {t:Bt} {fr:Nat->List Nat} {ls:List (Nat×Nat)} {S:Sb} {s:Int}
theorem HW.nhb(H:HW w W hb sb lw x t fr ls S s):¬cW x sb hb:=by
 obtain⟨h,o⟩:=H.so;exact o.hty H.bx
theorem HW.po(H:HW w W hb sb lw x t fr ls S s):PO w W lw x t fr ls:=by
 obtain⟨h,o⟩:=H.so;exact o.po
theorem HW.keep(H:HW w W hb sb lw x t fr ls S s)(k:Kt nO W W'):HW w W' hb sb lw x t fr ls S s:=by
 obtain⟨h,o⟩:=H.so;exact⟨⟨h,o.keep k⟩,H.lv,(k.block _ (lH H.bx) id).trans H.bx,H.nw,H.br⟩
theorem HW.c(H:HW w W hb sb lw x t fr ls S s):W.cell? ⟨hb,0,none⟩=some (.int .i32 s)/\W.cell? ⟨hb,2,none⟩=some (.int .u64 x.bS)/\W.cell? ⟨hb,3,none⟩=some (.int .i64 x.lim)/\W.cell? ⟨hb,4,none⟩=some (.int .i64 x.o)/\W.cell? ⟨hb,5,none⟩=some (.pointer (some ⟨lw,0,none⟩))/\W.cell? ⟨hb,6,none⟩=some (.pointer (some ⟨sb,0,none⟩)):=by
 refine⟨?_,?_,?_,?_,?_,?_⟩ <;> simp[World.cell?,H.bx]
theorem HW.fz(H:HW w W hb sb lw x t fr ls S s)(j:Nat):W.frozen? ⟨hb,j,none⟩=false:=by simp[World.frozen?,H.bx]
theorem HW.call{x':Bx}{t':Bt}{fr':Nat->List Nat}{ls':List (Nat×Nat)}{S':Sb}{h':Nat->Int}(H:HW w W hb sb lw x t fr ls S s)(o:SO w W' sb lw x' t' fr' ls' S' h')(v:gK S')(c:Ch x t ls S x' t' ls' S')(k:Kt (cW x sb) W W'):HW w W' hb sb lw x' t' fr' ls' S' s:=
 ⟨⟨h',o⟩,v,by rw[c.bS,c.lim,c.o];exact(k.block _ (lH H.bx) H.nhb).trans H.bx,H.nw,by rw[c.bS,c.R];exact H.br⟩
theorem HW.set(H:HW w W hb sb lw x t fr ls S s)(v:Int):HW w (W.setCell ⟨hb,0,none⟩ (.int .i32 v)) hb sb lw x t fr ls S v/\Kt (fun y=>y=hb) W (W.setCell ⟨hb,0,none⟩ (.int .i32 v)):=by
 have kp:Kt (fun y=>y=hb) W (W.setCell ⟨hb,0,none⟩ (.int .i32 v)):=(Kt.refl (fun y=>y=hb) W).setCell (p:=⟨hb,0,none⟩) rfl _;refine⟨⟨?_,H.lv,?_,H.nw,H.br⟩,kp⟩
 ·obtain⟨h,o⟩:=H.so;have nl:∀ {y cs e z},W.heap[y]?=some (.cells cs e z)->e≠75->y≠hb:=fun hy he e=>he (kD (e▸hy) H.bx)
  have hpty:∀ y,(aD x y\/y=x.b\/y=x.l\/y=lw)->y≠hb:=fun y hy e=>by
   subst e;exact absurd (o.sw.pl.pty H.bx hy) (by unfold Go.Proofs.YtkfmheelhinjdaaGreatDoor.pty;decide)
  refine⟨h,⟨⟨⟨(kp.block _ (lH o.sw.pl.box) (hpty _ (.inr (.inr (.inr rfl))))).trans o.sw.pl.box,o.sw.pl.bd.kept kp (fun y hy=>hpty y ?_),o.sw.pl.nw,o.sw.pl.kp.setNew (p:=⟨hb,0,none⟩) (fun e=>absurd H.nw (Nat.not_le.2 e)) _⟩,(kp.block _ (lH o.sw.bx) (nl o.sw.bx (by decide))).trans o.sw.bx,o.sw.nw,o.sw.tb⟩,o.sf,o.st,o.bm,o.si,o.hd⟩⟩;rcases hy with hy|hy|hy
  ·exact .inl hy
  ·exact .inr (.inl hy)
  ·exact .inr (.inr (.inl hy))
 ·rw[heap_set H.bx];simp
theorem HW.lock(H:HW w W hb sb lw x t fr ls S 0):
  Calls prog 35 #[.pointer (some ⟨hb,0,none⟩)] W fun e w'=>e=.returned (.tuple #[])/\w'=W.setCell ⟨hb,0,none⟩ (.int .i32 1):=lock_free CR ⟨hb,0,none⟩ W H.c.1 (H.fz 0)
theorem HW.unlock(H:HW w W hb sb lw x t fr ls S 1)(u:FrameMode):
  CallsD prog 36 #[.pointer (some ⟨hb,0,none⟩)] u W fun e u' w'=>u'=u/\(e=.returned (.tuple #[])/\w'=W.setCell ⟨hb,0,none⟩ (.int .i32 0)):=unlock_deferred CR ⟨hb,0,none⟩ u W H.c.1 (H.fz 0)
theorem HW.round{K:Nat->Prop}{w2:World}{x2:Bx}{t2:Bt}{fr2:Nat->List Nat}{ls2:List (Nat×Nat)}{S2:Sb}(H:HW w W hb sb lw x t fr ls S 0)(hK:¬K hb)(k:Kt K (W.setCell ⟨hb,0,none⟩ (.int .i32 1)) w2)(H2:HW w w2 hb sb lw x2 t2 fr2 ls2 S2 1)(e1:x2.bS=x.bS)(e2:x2.lim=x.lim)(e3:x2.o=x.o):Kt K W (w2.setCell ⟨hb,0,none⟩ (.int .i32 0)):=by
 have k1:=(H.set 1).2;refine⟨k.os.trans k1.os,k.tape.trans k1.tape,k.output.trans k1.output,?_,fun i hi hU=>?_⟩
 ·have h1:=k1.size;have h2:=k.size;simp
  omega
 ·by_cases e:i=hb
  ·subst e;rw[heap_set H2.bx,H.bx,e1,e2,e3];simp
  ·rw[Below.heap_setCell w2 ⟨hb,0,none⟩ _ i (fun e2=>e e2),k.block i (Nat.lt_of_lt_of_le hi k1.size) hU];exact k1.block i hi e
end
inductive Pk(x:Bx)(t:Bt)(fr:Nat->List Nat)(ls:List (Nat×Nat))(S:Sb)(g:Nat):Prop where
 | slab (k:Nat) (hc:S.c g=some k)
 | big (q k:Nat) (hm:(q,k)∈ls) (hc:S.c q=none) (hg:S.c g=none) (h1:q<=g) (h2:g<q+2 ^ k) (hp:t.m.pg g=aN (if g=q then 2 else 3) (k:Int))
 | free (q j:Nat) (hm:q∈fr j) (hj:j<=x.o) (hg:S.c g=none) (h1:q<=g) (h2:g<q+2 ^ j) (hp:t.m.pg g=aN (if g=q then 0 else 1) (j:Int))
section
variable {w W:World} {sb lw:Nat} {x:Bx} {t:Bt} {fr:Nat->List Nat} {ls:List (Nat×Nat)} {S:Sb} {h:Nat->Int}
theorem SO.kind(o:SO w W sb lw x t fr ls S h){g:Nat}(hg:g<t.m.n):Pk x t fr ls S g:=by
 cases e:S.c g with
 | some k=>exact .slab k e
 | none=>
  have hap:=fun {p k q j:Nat}=>o.apart (p:=p) (k:=k) (q:=q) (j:=j)
  have hme:=fun {p k:Nat}=>o.mem (p:=p) (k:=k)
  have heP:=o.si.eP;obtain⟨B,s,hN,hL⟩:=o.sf;obtain⟨a,p,k,hb,h1,h2⟩:=s.cv g hg;have h9:a≠9:=fun e=>hN p k (e▸hb)
  have hp:=s.pg a p k hb h9 g h1 h2;rw[heP,iI e,Option.getD_none] at hp;rcases s.tg a p k hb with rfl|rfl|rfl
  ·obtain⟨f1,f2⟩:=(s.fi p k).1 hb;exact .free p k f2 f1 e h1 h2 hp
  ·have hm:=(hL p k).1 hb;refine .big p k hm ?_ e h1 h2 hp
   cases e2:S.c p with
   | none=>rfl
   | some c=>
    exfalso
    have hz : 0<2 ^ k:=Nat.pow_pos (by decide);rcases hap (hme e2).1 hm with ⟨_,e3⟩|e3|e3
    ·subst e3;rw[Nat.pow_zero] at h2;obtain rfl:p=g:=(by omega);rw[e] at e2
     cases e2
    ·rw[Nat.pow_zero] at e3;omega
    ·omega
  ·exact absurd rfl h9
theorem SO.cell_liv(o:SO w W sb lw x t fr ls S h){g k i:Nat}(hc:S.c g=some k)(hi:i<aG k):eZ x t (aQ x g k i)=decide (i ∉ S.fl g):=by
 by_cases hf:i∈S.fl g
 ·rw[decide_eq_false (fun e=>e hf)]
  cases e:eZ x t (aQ x g k i)with
  | false=>rfl
  | true=>
   exfalso
   have hk:=(o.si.pg g k hc).1;have hme:=o.mem hc;have n4:=o.po.nums.2.2.2.1;obtain⟨g2,k2,i2,v1,v2,v3,v4⟩:=o.liv_of (kI (x:=x) (p:=g) hk hi (by omega)).2.2 e;obtain⟨e1,e2,e3⟩:=o.cell_ne hc hi v1 v2 v4;subst e1 e2 e3;exact v3 hf
 ·rw[decide_eq_true hf];exact(o.of_liv ⟨hc,hi,hf,rfl⟩).1
end
abbrev bP(a s:Nat):Obj:=.cells #[.int .u64 a,.int .u64 s] 45
theorem le8{P:Nat->Prop}(h0:P 0)(h1:P 1)(h2:P 2)(h3:P 3)(h4:P 4)(h5:P 5)(h6:P 6)(h7:P 7)(h8:P 8):∀ k,k<=8->P k:=fun k hk=>by
 rcases Nat.lt_or_ge k 8 with h|h
 ·exact rZ h0 h1 h2 h3 h4 h5 h6 h7 k h
 ·obtain rfl:k=8:=by omega
  exact h8
theorem EO:∀ k:Nat,k<=8->∀ (q:Pg) (hq:q.od=(k:Int)) (W:World),
  Calls prog 74 #[cC q] W fun e w'=>e=.returned (.int .u64 ((4096*2 ^ k:Nat):Int))/\Kt nO W w':=by
 apply le8 <;>
 ·intro q hq W;have K0:=aA ((Kt.refl nO W).alloc (aI q));have X0:=aA (nH W (aI q));obtain⟨_,x1,_⟩:=kS X0.out;rw[hq] at x1;clear hq X0;go_enter func74,ntmps74;go_wp2_with fail;go_ret;exact⟨rfl,K0.out⟩
theorem EI:∀ k:Nat,k<8->∀ (q:Pg) (hq:q.cl=(k:Int)) (W:World),
  Calls prog 112 #[cC q] W fun e w'=>e=.returned (.int .u64 ((aE k:Nat):Int))/\Kt nO W w':=by
 apply rZ <;>
 ·intro q hq W;have K0:=aA ((Kt.refl nO W).alloc (aI q));have X0:=aA (nH W (aI q));obtain⟨_,_,x2,_⟩:=kS X0.out;rw[hq] at x2;clear hq X0;go_enter func112,ntmps112;go_wp2_with fail;go_ret;exact⟨rfl,K0.out⟩
section
variable {w W W':World} {hb sb lw:Nat} {x:Bx} {t:Bt} {fr:Nat->List Nat} {ls:List (Nat×Nat)} {S:Sb} {s:Int}
theorem uA(H:HW w W hb sb lw x t fr ls S s)(n:Nat)(hn:n<=1024):
  Calls prog 73 #[.pointer (some ⟨hb,0,none⟩),.int .i64 n] W fun e w'=>e=.returned (.int .u64 ((x.bS+4096*n:Nat):Int))/\w'=W:=by
 obtain⟨c0,c2,c3,c4,c5,c6⟩:=H.c;have n4:=H.po.nums.2.2.2.1;have hbb:x.bS<=9223372036854775808:=by omega
 clear H;generalize x.bS=b at c2 n4 hbb ⊢;obtain⟨a,ha⟩:=xe (b+4096*n);rw[<-ha];have e1:IntKind.u64.wrap (n:Int)=n:=by rw[wrap_u64];omega
 have e2:IntKind.u64.wrap ((n:Int)*4096)=(n:Int)*4096:=by rw[wrap_u64];omega
 have e3:IntKind.u64.wrap ((b:Int)+(n:Int)*4096)=(a:Int):=by rw[wrap_u64];omega
 have e4:(b:Int)+(n:Int)*4096=(a:Int):=by omega
 clear n4;go_enter func73,ntmps73;go_wp2_with fail;go_ret;exact⟨eJ (by omega),rfl⟩
theorem ZW(H:HW w W hb sb lw x t fr ls S s):
  Calls prog 44 #[.pointer (some ⟨hb,0,none⟩)] W fun e w'=>e=.returned (.int .u64 x.n)/\Kt nO W w':=by
 obtain⟨c0,c2,c3,c4,c5,c6⟩:=H.c;have n4:=H.po.nums.2.2.2.1;obtain⟨l0,l1,l2⟩:=H.po.pl.c;have SP:=aA (fun W' (k:Kt nO W W')=>lO (H.keep k).po.pl);have EN:=aA (fun W' (k:Kt nO W W')=>pY (H.keep k).po);obtain⟨b,hb2⟩:=xe (x.bS);obtain⟨en,hen⟩:=xe (x.bS+x.n);rw[<-hen] at EN;obtain⟨n,hn⟩:=xe (x.n);have hbb:b<=9223372036854775808:=by omega
 have e3:(en:Int)-(b:Int)=n:=by omega
 have hnb:n<=9223372036854775808:=by omega
 have heb:en<=9223372036854775808:=by omega
 rw[<-hb2] at c2;rw[<-hn];clear H n4 hb2 hen hn;have C5:=aA (fun W' (k:Kt nO W W')=>(k.cell id c5));have C2:=aA (fun W' (k:Kt nO W W')=>(k.cell id c2));go_enter func44,ntmps44;go_wp2_with fail;have c5':=fun y:KW W=>C5.out y.v y.k
 have c2':=fun y:KW W=>C2.out y.v y.k
 refine cI (by kernel_rfl) (by kernel_rfl) ?_;repeat (go_big_quiet_step (first|(go_at_call 38;exact Calls.kept_of ((SP.out _ (KW.k _)).mono fun e w' h=>⟨h.1,by rw[h.2];exact Kt.refl _ _⟩))|(go_at_call 88;exact Calls.kept_of (EN.out _ (KW.k _)))))
 refine wpQuiet_nil ?_;intro y;have D:=aA y.k;go_wp2_with fail;go_ret;exact⟨by simp,D.out⟩
end
section
variable {w W W':World} {hb sb lw:Nat} {x:Bx} {t:Bt} {fr:Nat->List Nat} {ls:List (Nat×Nat)} {S:Sb} {s:Int}
end
def NF(x:Bx)(fr:Nat->List Nat)(S:Sb)(r:Nat):Prop:=(∃ k,k<8/\r=aE k/\S.pl k=[]/\∀ a,a<=x.o->fr a=[])\/(∃ k,k<=x.o/\r=4096*2 ^ k/\∀ a,k<=a->a<=x.o->fr a=[])
inductive Td(x:Bx)(t:Bt)(fr:Nat->List Nat)(ls:List (Nat×Nat))(S:Sb)(r:Nat)(d:Bool)(p:Nat)(b:Bool)(fr':Nat->List Nat)(ls':List (Nat×Nat))(S':Sb):Prop where
 | old (k g i:Nat) (l rr:List Nat) (hk:k<8) (hr:r=aE k) (hl:S.pl k=g :: l) (hf:S.fl g=i :: rr) (hp:p=aQ x g k i) (hb:b=false) (e1:fr'=fr) (e2:ls'=ls) (e3:S'=aP S g k rr)
 | new (k g:Nat) (hk:k<8) (hr:r=aE k) (hl:S.pl k=[]) (hp:p=aQ x g k 0) (nd:Ned x t fr d g b fr') (e2:ls'=ls ++ [(g,0)]) (e3:S'=aP (aW S g k) g k (List.range' 1 (aG k-1)))
 | here (k g j:Nat) (l:List Nat) (hk:k<=x.o) (hr:r=4096*2 ^ k) (hkj:k<=j) (hj:j<=x.o) (hz:∀ a,k<=a->a<j->fr a=[]) (hl:fr j=g :: l) (hp:p=ad x g) (hb:b=false) (e1:fr'=cK (cD fr j (M.dropL (fr j) g)) g j k) (e2:ls'=ls ++ [(g,k)]) (e3:S'=S)
 | grew (k:Nat) (hk:k<=x.o) (hr:r=4096*2 ^ k) (hz:∀ a,k<=a->a<=x.o->fr a=[]) (hp:p=ad x t.m.n) (hb:b=true) (e1:fr'=cK fr t.m.n x.o k) (e2:ls'=ls ++ [(t.m.n,k)]) (e3:S'=S)
structure Nx(w W W':World)(hb sb lw:Nat)(x:Bx)(t:Bt)(ls:List (Nat×Nat))(S:Sb)(s:Int)(x':Bx)(t':Bt)(fr':Nat->List Nat)(ls':List (Nat×Nat))(S':Sb):Prop where
 H:HW w W' hb sb lw x' t' fr' ls' S' s
 ch:Ch x t ls S x' t' ls' S'
 kp:Kt (cW x sb) W W'
 ns:∀ y,cW x' sb y->cW x sb y\/W.heap.size<=y
inductive Tq(w W:World)(hb sb lw:Nat)(x:Bx)(t:Bt)(fr:Nat->List Nat)(ls:List (Nat×Nat))(S:Sb)(s:Int)(r:Nat)(d:Bool)(p:Nat)(er:Int)(w':World):Prop where
 | no (hp:p=0) (he:er=2) (nf:NF x fr S r) (hd:d=true\/x.n=x.lim*x.R) (kp:Kt nO W w')
 | yes (x':Bx) (t':Bt) (fr':Nat->List Nat) (ls':List (Nat×Nat)) (S':Sb) (b:Bool) (he:er=0) (td:Td x t fr ls S r d p b fr' ls' S') (nx:Nx w W w' hb sb lw x t ls S s x' t' fr' ls' S') (hL:∀ a z,eG x' ls' S' a z↔eG x ls S a z\/(a=p/\z=r)) (hN:∀ z,¬eG x ls S p z) (hn:x'.n=(if b=true then x.n+x.R else x.n)) (hm:p%r=0) (hb1:b=true->NF x fr S r/\d=false/\x.n+x.R<=x.lim*x.R) (hb2:b=false->¬NF x fr S r)
abbrev pS(p:Nat)(g:Bool)(er:Int):Ending:=.returned (.tuple #[.int .u64 p,.bool g,.int .i64 er])
theorem oT{k j:Nat}(h:aE k=aE j):k=j:=by
 unfold aE at h;exact xA _ _ (Nat.eq_of_mul_eq_mul_left (show 0<16 by decide) h)
theorem sT{k j:Nat}(h : 4096*2 ^ k=4096*2 ^ j):k=j:=xA _ _ (Nat.eq_of_mul_eq_mul_left (show 0<4096 by decide) h)
theorem lM{k j:Nat}(hk:k<8):aE k≠4096*2 ^ j:=fun e=>by
 have:=(dV hk).2;have : 0<2 ^ j:=Nat.pow_pos (by decide);omega
theorem NF.cell{x fr S k}(hk:k<8):NF x fr S (aE k)↔S.pl k=[]/\∀ a,a<=x.o->fr a=[]:=by
 constructor
 ·rintro (⟨j,h1,h2,h3⟩|⟨j,h1,h2,h3⟩)
  ·obtain rfl:=oT h2;exact h3
  ·exact absurd h2 (lM hk)
 ·exact fun h=>.inl ⟨k,hk,rfl,h⟩
theorem NF.page{x:Bx}{fr S k}(hk:k<=x.o):NF x fr S (4096*2 ^ k)↔∀ a,k<=a->a<=x.o->fr a=[]:=by
 constructor
 ·rintro (⟨j,h1,h2,h3⟩|⟨j,h1,h2,h3⟩)
  ·exact absurd h2.symm (lM h1)
  ·obtain rfl:=sT h2;exact h3
 ·exact fun h=>.inr ⟨k,hk,rfl,h⟩
theorem zB{b k i p:Nat}(hk:k<8)(hb:b%4096=0):(b+4096*p+i*aE k)%aE k=0:=by
 have hc:=(dM hk).1;have h1:b=b/4096*(aG k*aE k):=by rw[hc];omega
 rw[h1,show 4096*p=p*(aG k*aE k)by rw[hc];omega,<-Nat.mul_assoc,<-Nat.mul_assoc,<-Nat.add_mul,<-Nat.add_mul];exact Nat.mul_mod_left _ _
section
variable {w W W':World} {hb sb lw:Nat} {x:Bx} {t:Bt} {fr:Nat->List Nat} {ls:List (Nat×Nat)} {S:Sb} {s:Int}
theorem HW.take_small(H:HW w W hb sb lw x t fr ls S s){k:Nat}(hk:k<8)(d:Bool):
  Calls prog 128 #[.pointer (some ⟨sb,0,none⟩),.int .i64 k,.bool d] W fun e w'=>∃ p g er,e=pS p g er/\Tq w W hb sb lw x t fr ls S s (aE k) d p er w':=by
 obtain⟨h,o⟩:=H.so;have hz:=dV hk;refine(UI o (k:Int) d).mono fun e w' hT=>?_
 cases hT with
 | bad hc=>exact absurd ⟨by omega,by omega⟩ hc
 | stuck k2 hk2 hc hl hz2 hd he kp=>
  obtain rfl:k=k2:=by omega
  exact⟨0,false,2,he,.no rfl rfl ((NF.cell hk).2 ⟨hl,hz2⟩) hd kp⟩
 | old k2 p i l r hk2 hc hl hf he so kp=>
  obtain rfl:k=k2:=by omega
  obtain⟨P,m',h',so',hn⟩:=so;have hcp:=((o.si.pm k hk p).1 (by rw[hl];exact List.mem_cons_self)).1;have hL:∀ a z,eG { x with P:=P } ls (aP S p k r) a z↔eG x ls S a z\/(a=aQ x p k i/\z=aE k):=fun a z=>by
   rw[tI (x:=x) (x':={ x with P:=P }) rfl];exact IL o hcp hf a z
  have ch:Ch x t ls S { x with P:=P } { t with m:=m' } ls (aP S p k r):=⟨rfl,rfl,rfl,rfl,fun j _ _=>rfl⟩;refine⟨aQ x p k i,false,0,he,.yes _ _ _ _ _ false rfl (.old k p i l r hk rfl hl hf rfl rfl rfl rfl rfl) ⟨H.call so' (gK.old o H.lv hk hl hf) ch kp,ch,kp,fun y e=>.inl e⟩ hL (o.free_no hcp (by rw[hf];exact List.mem_cons_self)) rfl (zB hk o.bm) (fun e=>by cases e) (fun _ e=>?_)⟩;have:=((NF.cell hk).1 e).1;rw[hl] at this
  cases this
 | new k2 p b hk2 hc hl he so hcp nl kp=>
  obtain rfl:k=k2:=by omega
  obtain⟨x',t',fr',h',hN,so',sm,hfb,nb,htn,hxn'⟩:=so;have hL:∀ a z,eG x' (ls ++ [(p,0)]) (aP (aW S p k) p k (List.range' 1 (aG k-1))) a z↔eG x ls S a z\/(a=aQ x p k 0/\z=aE k):=fun a z=>by
   rw[tI (x:=x) (x':=x') sm.bS];exact IK hk hcp nl a z
  have hno:∀ z,¬eG x ls S (aQ x p k 0) z:=fun z e=>by
   have h0 : 0<z:=(o.span e).1;obtain⟨_,q,j,q1,q2,q3⟩:=o.span e;have hz2 : 0<2 ^ j:=Nat.pow_pos (by decide);unfold aQ at q2 q3;unfold ad at q2 q3;rcases so'.apart (List.mem_append_left _ q1) (List.mem_append_right ls (List.mem_singleton.2 rfl))with ⟨e3,e4⟩|e3|e3
   ·subst e3;exact nl _ q1
   ·omega
   ·rw[Nat.pow_zero] at e3;omega
  have ch:Ch x t ls S x' t' (ls ++ [(p,0)]) (aP (aW S p k) p k (List.range' 1 (aG k-1))):=⟨sm.bS,sm.R,sm.lim,sm.o,fun j h1 _=>hfb j (o.byte h1)⟩;refine⟨aQ x p k 0,b,0,he,.yes _ _ _ _ _ b rfl (.new k p hk rfl hl rfl hN rfl rfl) ⟨H.call so' (H.lv.new hk) ch kp,ch,kp,fun y e=>e.elim (fun e=>(nb y e).imp (fun e=>.inl e) id) (fun e=>.inl (.inr e))⟩ hL hno hxn' (zB hk o.bm) (fun e=>?_) (fun e hf=>?_)⟩
  ·cases hN with
   | here j l2 hj hz2 hp hb=>rw[hb] at e;cases e
   | grew hz2 hd hle hb hp=>exact⟨(NF.cell hk).2 ⟨hl,hz2⟩,hd,hle⟩
  ·cases hN with
   | here j l2 hj hz2 hp hb=>
    have:=((NF.cell hk).1 hf).2 j hj;rw[hp] at this
    cases this
   | grew hz2 hd hle hb hp=>rw[hb] at e;cases e
theorem HW.need_big(H:HW w W hb sb lw x t fr ls S s){k:Nat}(hk:k<=x.o)(d:Bool):
  Calls prog 130 #[.pointer (some ⟨lw,0,none⟩),.int .i64 k,.bool d] W fun e w'=>∃ p g er,e=pS p g er/\Tq w W hb sb lw x t fr ls S s (4096*2 ^ k) d p er w':=by
 obtain⟨h,o⟩:=H.so;have hz : 0<2 ^ k:=Nat.pow_pos (by decide);have key:∀ (p:Nat) (b:Bool) (x':Bx) (t':Bt) (fr':Nat->List Nat) (e:Ending) (w':World),e=.returned (.tuple #[.int .u64 ((ad x p:Nat):Int),.bool b,.int .i64 0])->PO w w' lw x' t' fr' (ls ++ [(p,k)])->Sm x x'->BK t t' ls (ls ++ [(p,k)])->Nb W x x'->Kt (aD x) W w'->S.c p=none->(∀ i,(p,i) ∉ ls)->x'.n=(if b=true then x.n + x.R else x.n)->Td x t fr ls S (4096*2 ^ k) d (ad x p) b fr' (ls ++ [(p,k)]) S->(b=true->NF x fr S (4096*2 ^ k)/\d=false/\x.n + x.R<=x.lim*x.R)->(b=false->¬NF x fr S (4096*2 ^ k))->∃ p g er,e=pS p g er/\Tq w W hb sb lw x t fr ls S s (4096*2 ^ k) d p er w':=by
  rintro p b x' t' fr' e w' he po' sm bk nb kp hcp nl hxn td h1 h2;have o':=o.pool po' sm bk (fun a c ha=>List.mem_append_left _ (o.mem ha).1) kp;have hL:∀ a z,eG x' (ls ++ [(p,k)]) S a z↔eG x ls S a z\/(a=ad x p/\z=4096*2 ^ k):=fun a z=>by
   rw[tI (x:=x) (x':=x') sm.bS];exact SS hcp a z
  have hal:p%2 ^ k=0:=(o'.al (List.mem_append_right ls (List.mem_singleton.2 rfl))).2.1;have hno:∀ z,¬eG x ls S (ad x p) z:=fun z e=>by
   have h0 : 0<z:=(o.span e).1;obtain⟨_,q,j,q1,q2,q3⟩:=o.span e;have hz2 : 0<2 ^ j:=Nat.pow_pos (by decide);unfold ad at q2 q3;rcases o'.apart (List.mem_append_left _ q1) (List.mem_append_right ls (List.mem_singleton.2 rfl))with ⟨e3,e4⟩|e3|e3
   ·subst e3;exact nl _ q1
   ·omega
   ·omega
  have ch:Ch x t ls S x' t' (ls ++ [(p,k)]) S:=⟨sm.bS,sm.R,sm.lim,sm.o,fun j h1 h2=>bk j (o.byte h1) (o'.byte h2)⟩;have kp2:Kt (cW x sb) W w':=kp.mono (fun _ _ e=>.inl e);refine⟨ad x p,b,0,he,.yes x' t' fr' _ S b rfl td ⟨H.call o' H.lv ch kp2,ch,kp2,fun y e=>e.elim (fun e=>(nb y e).imp (fun e=>.inl e) id) (fun e=>.inl (.inr e))⟩ hL hno hxn ?_ h1 h2⟩;have hR:=o.sw.pl.bd.hR;have h1 : 4096*2 ^ k ∣ x.bS:=Nat.dvd_trans (by rw[hR];exact Nat.mul_dvd_mul_left _ (Nat.pow_dvd_pow 2 hk)) (Nat.dvd_of_mod_eq_zero H.br);have h2 : 4096*2 ^ k ∣ 4096*p:=Nat.mul_dvd_mul_left _ (Nat.dvd_of_mod_eq_zero hal);exact Nat.mod_eq_zero_of_dvd (Nat.dvd_add h1 h2)
 refine(K.Need_any o.po (k:Int) d).mono fun e w' hN=>?_
 cases hN with
 | bad hb he kp=>
  exfalso
  rw[FW hk] at hb
  cases hb
 | stuck i hi hi2 hz2 hd he kp=>
  obtain rfl:k=i:=by omega
  exact⟨0,false,2,he,.no rfl rfl ((NF.page hk).2 hz2) hd kp⟩
 | here i j p l hi hi2 hij hj hz2 hp he hs kp=>
  obtain rfl:k=i:=by omega
  obtain⟨t',po',hn,bk⟩:=hs;have hcp:S.c p=none:=by
   have h1:=o.sf.pfree hj (show p∈fr j by rw[hp];exact List.mem_cons_self)
   cases e:S.c p with
   | none=>rfl
   | some c=>
    rw[o.si.eP,jC e] at h1
    cases h1
  refine key p false x t' _ e w' he po' (Sm.refl x) bk (fun y e=>.inl e) kp hcp (fun i hm2=>?_) rfl (.here k p j l hk rfl hij hj hz2 hp rfl rfl rfl rfl rfl) (fun e=>by cases e) (fun _ e=>?_)
  ·have h0:=o.sf.apart0 hj (show p∈fr j by rw[hp];exact List.mem_cons_self) hm2;have hz1 : 0<2 ^ i:=Nat.pow_pos (by decide);have hz2 : 0<2 ^ j:=Nat.pow_pos (by decide);omega
  ·have:=(NF.page hk).1 e j hij hj;rw[hp] at this
   cases this
 | grew i hi hi2 hz2 hd hle he hs kp=>
  obtain rfl:k=i:=by omega
  obtain⟨x',t',po',sm,hn,htn,nb,bk⟩:=hs;have hcp:S.c t.m.n=none:=by
   have h1:=o.sf.pout (Nat.le_refl t.m.n)
   cases e:S.c t.m.n with
   | none=>rfl
   | some c=>
    rw[o.si.eP,jC e] at h1
    cases h1
  refine key t.m.n true x' t' _ e w' he po' sm bk nb kp hcp (fun i hm2=>?_) (by rw[if_pos rfl];exact hn) (.grew k hk rfl hz2 rfl rfl rfl rfl rfl) (fun _=>⟨(NF.page hk).2 hz2,hd,hle⟩) (fun e=>by cases e);have:=(o.al hm2).2.2;have hz1 : 0<2 ^ i:=Nat.pow_pos (by decide);omega
end
theorem LH(n m k:Nat)(W:World)(e1:(n:Int)/16=(m:Int))(hn:n<=1048576)(LG:Calls prog 160 #[.int .u64 m] W fun e w'=>e=.returned (.int .i64 k)/\w'=W):Calls prog 129 #[.int .u64 n] W fun e w'=>e=.returned (.int .i64 k)/\w'=W:=by
 have L:=aA LG;clear LG;go_enter func129,ntmps129;go_wp2_with fail;refine L.out.mono ?_;rintro e w1 ⟨rfl,rfl⟩;go_wp2_with fail;go_ret;exact⟨rfl,rfl⟩
theorem LF(k:Nat)(hk:k<8)(W:World):Calls prog 129 #[.int .u64 ((aE k:Nat):Int)] W fun e w'=>e=.returned (.int .i64 k)/\w'=W:=by
 have hp : 2 ^ k<=2 ^ 8:=Nat.pow_le_pow_right (by decide) (by omega);have LG:=oJ (2 ^ k) (by omega) W;rw[nG _ (Nat.ne_of_gt (Nat.pow_pos (by decide))),Nat.log2_two_pow] at LG;exact LH _ (2 ^ k) k W (by unfold aE;omega) (by unfold aE;omega) LG
theorem LD(n m k:Nat)(W:World)(e1:(n:Int)/4096=(m:Int))(hn:n<=1048576)(LG:Calls prog 160 #[.int .u64 m] W fun e w'=>e=.returned (.int .i64 k)/\w'=W):Calls prog 131 #[.int .u64 n] W fun e w'=>e=.returned (.int .i64 k)/\w'=W:=by
 have L:=aA LG;clear LG;go_enter func131,ntmps131;go_wp2_with fail;refine L.out.mono ?_;rintro e w1 ⟨rfl,rfl⟩;go_wp2_with fail;go_ret;exact⟨rfl,rfl⟩
theorem LC(k:Nat)(hk:k<=8)(W:World):Calls prog 131 #[.int .u64 ((4096*2 ^ k:Nat):Int)] W fun e w'=>e=.returned (.int .i64 k)/\w'=W:=by
 have hp : 2 ^ k<=2 ^ 8:=Nat.pow_le_pow_right (by decide) (by omega);have LG:=oJ (2 ^ k) (by omega) W;rw[nG _ (Nat.ne_of_gt (Nat.pow_pos (by decide))),Nat.log2_two_pow] at LG;exact LD _ (2 ^ k) k W (by skip;omega) (by skip;omega) LG
section
variable {w W W':World} {hb sb lw:Nat} {x:Bx} {t:Bt} {fr:Nat->List Nat} {ls:List (Nat×Nat)} {S:Sb} {s:Int}
def fZ(o m:Nat):Bool:=decide (cl m<=12+o)
theorem KZ{o m:Nat}(hm : 16<=m)(h:fZ o m=true):(∃ k,k<8/\2 ^ cl m=aE k)\/(∃ k,k<=o/\2 ^ cl m=4096*2 ^ k):=by
 have h:=of_decide_eq_true h;have h4 : 4<=cl m:=by
  refine Nat.le_of_not_lt fun hlt=>?_
  have:=(oP m 3).2 (by omega);omega
 by_cases h12:cl m<12
 ·refine .inl ⟨cl m-4,by omega,?_⟩;unfold aE;rw[show(16:Nat)=2 ^ 4 from rfl,<-Nat.pow_add];congr 1
  omega
 ·refine .inr ⟨cl m-12,by omega,?_⟩;rw[show(4096:Nat)=2 ^ 12 from rfl,<-Nat.pow_add];congr 1
  omega
end
theorem uM(W:World)(hb sz al ov r L:Nat)(hs:sz<18446744073709551616)(ha:al<18446744073709551616)(m:Nat)(hm:m=max (max sz al) 16)(cv rv re:Int)(cb:Bool)(hz:(cv=(r:Int)/\cb=true/\r<18446744073709551616/\¬(L:Int)<r/\rv=(r:Int)/\re=0)\/(cv=(r:Int)/\cb=true/\r<18446744073709551616/\(L:Int)<r/\rv=0/\re=3)\/(cv=0/\cb=false/\rv=0/\re=3))(c4:W.cell? ⟨hb,4,none⟩=some (.int .i64 ov))(CE:Hid (Calls prog 127 #[.int .u64 m] W fun e w'=>e=.returned (.tuple #[.int .u64 cv,.bool cb])/\w'=W))(hov:ov<=8)(hL:(4096:Int)*2 ^ ov=(L:Int))(hLb:L<=1048576):
  Calls prog 82 #[.pointer (some ⟨hb,0,none⟩),.int .u64 sz,.int .u64 al] W fun e w'=>e=.returned (.tuple #[.int .u64 rv,.int .i64 re])/\w'=W:=by
 have ho:((sz:Int)<al/\(al:Int)<16/\(m:Int)=16)\/((sz:Int)<al/\¬(al:Int)<16/\(m:Int)=al)\/(¬(sz:Int)<al/\(sz:Int)<16/\(m:Int)=16)\/(¬(sz:Int)<al/\¬(sz:Int)<16/\(m:Int)=sz):=by omega
 rcases ho with ⟨h1,h2,h3⟩|⟨h1,h2,h3⟩|⟨h1,h2,h3⟩|⟨h1,h2,h3⟩
 all_goals
  rw[h3] at CE;clear h3 hm;rcases hz with ⟨rfl,rfl,hr,hle,rfl,rfl⟩|⟨rfl,rfl,hr,hle,rfl,rfl⟩|⟨rfl,rfl,rfl,rfl⟩
  all_goals
   go_enter func82,ntmps82;go_wp2_with fail;refine CE.out.mono ?_;rintro e w1 ⟨rfl,rfl⟩;go_wp2_with fail;go_ret2;exact⟨rfl,rfl⟩
section
variable {w W W':World} {hb sb lw:Nat} {x:Bx} {t:Bt} {fr:Nat->List Nat} {ls:List (Nat×Nat)} {S:Sb} {s:Int}
theorem WR(H:HW w W hb sb lw x t fr ls S s)(sz al:Nat)(hs:sz<18446744073709551616)(ha:al<18446744073709551616)(m:Nat)(hm:m=max (max sz al) 16):
  Calls prog 82 #[.pointer (some ⟨hb,0,none⟩),.int .u64 sz,.int .u64 al] W fun e w'=>e=.returned (.tuple #[.int .u64 ((if fZ x.o m=true then 2 ^ cl m else 0:Nat):Int),.int .i64 (if fZ x.o m=true then 0 else 3)])/\w'=W:=by
 have n1:=H.po.nums.1;have c4:=H.c.2.2.2.1;have hmb:m<18446744073709551616:=by omega
 have CE:=KV m hmb W;obtain⟨L,hL⟩:=xe (4096*2 ^ x.o);have hLi:(4096:Int)*2 ^ x.o=(L:Int):=by rw[hL];simp
 have hLb:L<=1048576:=by
  have : 2 ^ x.o<=2 ^ 8:=Nat.pow_le_pow_right (by decide) n1;omega
 have hLp:L=2 ^ (12+x.o):=by rw[hL,Nat.pow_add]
 by_cases h64:cl m<64
 ·have hv:jZ 64 m=2 ^ cl m:=by unfold jZ;rw[if_pos h64]
  have hbt:oA 64 m=true:=decide_eq_true h64;have hlt : 2 ^ cl m<18446744073709551616:=by
   have:=(iY (cl m) 64).2 h64;omega
  rw[hv,hbt] at CE;have hok:=nI (cl m) (12+x.o);rw[<-hLp] at hok
  cases ho:fZ x.o m with
  | true=>
   have hle:=hok.2 (of_decide_eq_true ho);rw[if_pos rfl,if_pos rfl];obtain⟨r,hr⟩:=xe (2 ^ cl m);rw[<-hr] at CE hle hlt ⊢;clear hok hv hbt hLp hr ho h64;exact uM W hb sz al x.o r L hs ha m hm _ _ _ _ (.inl ⟨rfl,rfl,hlt,by omega,rfl,rfl⟩) c4 CE n1 hLi hLb
  | false=>
   have hle:=fun e=>of_decide_eq_false ho (hok.1 e)
   rw[if_neg (by decide),if_neg (by decide)];obtain⟨r,hr⟩:=xe (2 ^ cl m);rw[<-hr] at CE hle hlt;clear hok hv hbt hLp hr ho h64;exact uM W hb sz al x.o r L hs ha m hm _ _ _ _ (.inr (.inl ⟨rfl,rfl,hlt,by have:=Nat.lt_of_not_le hle;omega,rfl,rfl⟩)) c4 CE n1 hLi hLb
 ·have hv:jZ 64 m=0:=by unfold jZ;rw[if_neg h64]
  have hbt:oA 64 m=false:=decide_eq_false h64;rw[hv,hbt] at CE;have ho:fZ x.o m=false:=decide_eq_false (by omega);rw[ho,if_neg (by decide),if_neg (by decide)];exact uM W hb sz al x.o 0 L hs ha m hm _ _ _ _ (.inr (.inr ⟨rfl,rfl,rfl,rfl⟩)) c4 CE n1 hLi hLb
end
section
variable {w W W1 W':World} {hb sb lw:Nat} {x:Bx} {t:Bt} {fr:Nat->List Nat} {ls:List (Nat×Nat)} {S:Sb} {s:Int}
theorem Nx.from{x' t' fr' ls' S'}(k:Kt nO W W1)(h:Nx w W1 W' hb sb lw x t ls S s x' t' fr' ls' S'):Nx w W W' hb sb lw x t ls S s x' t' fr' ls' S':=
 ⟨h.H,h.ch,(k.mono (fun _ _ e=>e.elim)).trans h.kp (fun _ _ e=>e) (fun _ _ e=>e),fun y hy=>(h.ns y hy).imp id (Nat.le_trans k.size)⟩
theorem Tq.from{r:Nat}{d:Bool}{p:Nat}{er:Int}(k:Kt nO W W1)(h:Tq w W1 hb sb lw x t fr ls S s r d p er W'):Tq w W hb sb lw x t fr ls S s r d p er W':=by
 cases h with
 | no hp he nf hd kp=>exact .no hp he nf hd (nT k kp)
 | yes x' t' fr' ls' S' b he td nx hL hN hn hm hb1 hb2=>exact .yes x' t' fr' ls' S' b he td (nx.from k) hL hN hn hm hb1 hb2
theorem Tq.st{r:Nat}{d:Bool}{p:Nat}{er:Int}(H:HW w W hb sb lw x t fr ls S s)(h:Tq w W hb sb lw x t fr ls S s r d p er W'):∃ x' t' fr' ls' S',HW w W' hb sb lw x' t' fr' ls' S' s:=by
 cases h with
 | no hp he nf hd kp=>exact⟨_,_,_,_,_,H.keep kp⟩
 | yes x' t' fr' ls' S' b he td nx=>exact⟨_,_,_,_,_,nx.H⟩
theorem Tq.c{r:Nat}{d:Bool}{p:Nat}{er:Int}(H:HW w W hb sb lw x t fr ls S s)(h:Tq w W hb sb lw x t fr ls S s r d p er W'):W'.cell? ⟨hb,5,none⟩=some (.pointer (some ⟨lw,0,none⟩))/\W'.cell? ⟨hb,6,none⟩=some (.pointer (some ⟨sb,0,none⟩)):=by
 obtain⟨x',t',fr',ls',S',H'⟩:=h.st H;exact⟨H'.c.2.2.2.2.1,H'.c.2.2.2.2.2⟩
theorem ZO(H:HW w W hb sb lw x t fr ls S s){k:Nat}(hk:k<8)(d:Bool):
  Calls prog 83 #[.pointer (some ⟨hb,0,none⟩),.int .u64 ((aE k:Nat):Int),.bool d] W fun e w'=>∃ p er,e=.returned (.tuple #[.int .u64 ((p:Nat):Int),.int .i64 er])/\Tq w W hb sb lw x t fr ls S s (aE k) d p er w':=by
 have hz:=dV hk;obtain⟨c0,c2,c3,c4,c5,c6⟩:=H.c;have KD:=aA ((Kt.refl nO W).drew);have CL:=aA (LF k hk);have TK:=aA (((H.keep KD.out).take_small hk d).mono fun e w' h=>(show ∃ p g er,e=pS p g er/\Tq w W hb sb lw x t fr ls S s (aE k) d p er w' from by
  obtain⟨p,g,er,he,hT⟩:=h;exact⟨p,g,er,he,hT.from KD.out⟩))
 have TC:=aA (fun (w':World) (p:Nat) (er:Int) (h:Tq w W hb sb lw x t fr ls S s (aE k) d p er w')=>h.c H);obtain⟨r,hr⟩:=xe (aE k);rw[<-hr] at hz CL TK TC ⊢;have hlt:(r:Int)<4096:=by omega
 have d5:W.drew.cell? ⟨hb,5,none⟩=some (.pointer (some ⟨lw,0,none⟩)):=c5;have d6:W.drew.cell? ⟨hb,6,none⟩=some (.pointer (some ⟨sb,0,none⟩)):=c6;clear H hr hk hz;go_enter func83,ntmps83;go_wp2_with fail;go_region_held3 (fun w'=>w'.cell? ⟨hb,6,none⟩=some (.pointer (some ⟨sb,0,none⟩))) (first|with_reducible exact d6|with_reducible exact e6) (first
  | (go_at_call 129;(with_reducible refine(CL.out _).mono ?_);rintro e w5 ⟨rfl,h5⟩;replace h5:=h5.symm;subst h5)
  | (go_at_call 128;(with_reducible refine(TK.out).mono ?_);rintro e w2 ⟨p,g,er,rfl,hT⟩;have e6:=(TC.out _ _ _ hT).2;have D:=aA hT;clear hT)
  | fail)
 all_goals
  go_wp2_with fail;exact⟨rfl,.tuple #[.int .u64 ((p:Nat):Int),.int .i64 er],by simp[results,results83,go_sem],p,er,rfl,D.out⟩
theorem WW(H:HW w W hb sb lw x t fr ls S s){k:Nat}(hk:k<=x.o)(d:Bool):
  Calls prog 83 #[.pointer (some ⟨hb,0,none⟩),.int .u64 ((4096*2 ^ k:Nat):Int),.bool d] W fun e w'=>∃ p er,e=.returned (.tuple #[.int .u64 ((p:Nat):Int),.int .i64 er])/\Tq w W hb sb lw x t fr ls S s (4096*2 ^ k) d p er w':=by
 have hz : 0<2 ^ k:=Nat.pow_pos (by decide);have hk8:k<=8:=Nat.le_trans hk H.po.nums.1;obtain⟨c0,c2,c3,c4,c5,c6⟩:=H.c;have KD:=aA ((Kt.refl nO W).drew);have CL:=aA (LC k hk8);have TK:=aA (((H.keep KD.out).need_big hk d).mono fun e w' h=>(show ∃ p g er,e=pS p g er/\Tq w W hb sb lw x t fr ls S s (4096*2 ^ k) d p er w' from by
  obtain⟨p,g,er,he,hT⟩:=h;exact⟨p,g,er,he,hT.from KD.out⟩))
 have TC:=aA (fun (w':World) (p:Nat) (er:Int) (h:Tq w W hb sb lw x t fr ls S s (4096*2 ^ k) d p er w')=>h.c H);obtain⟨r,hr⟩:=xe (4096*2 ^ k);have hlr:¬r<4096:=by omega
 rw[<-hr] at CL TK TC ⊢;have hlt:¬(r:Int)<4096:=by omega
 have d5:W.drew.cell? ⟨hb,5,none⟩=some (.pointer (some ⟨lw,0,none⟩)):=c5;clear H hr hk hz hk8;go_enter func83,ntmps83;go_wp2_with fail;go_region_held3 (fun w'=>w'.cell? ⟨hb,5,none⟩=some (.pointer (some ⟨lw,0,none⟩))) (first|with_reducible exact d5|with_reducible exact e5) (first
  | (go_at_call 131;(with_reducible refine(CL.out _).mono ?_);rintro e w5 ⟨rfl,h5⟩;replace h5:=h5.symm;subst h5)
  | (go_at_call 130;(with_reducible refine(TK.out).mono ?_);rintro e w2 ⟨p,g,er,rfl,hT⟩;have e5:=(TC.out _ _ _ hT).1;have D:=aA hT;clear hT)
  | fail)
 all_goals
  go_wp2_with fail;exact⟨rfl,.tuple #[.int .u64 ((p:Nat):Int),.int .i64 er],by simp[results,results83,go_sem],p,er,rfl,D.out⟩
theorem DJ(H:HW w W hb sb lw x t fr ls S s)(r:Nat)(hr:(∃ k,k<8/\r=aE k)\/(∃ k,k<=x.o/\r=4096*2 ^ k))(d:Bool):
  Calls prog 83 #[.pointer (some ⟨hb,0,none⟩),.int .u64 r,.bool d] W fun e w'=>∃ p er,e=.returned (.tuple #[.int .u64 ((p:Nat):Int),.int .i64 er])/\Tq w W hb sb lw x t fr ls S s r d p er w':=by
 rcases hr with ⟨k,hk,rfl⟩|⟨k,hk,rfl⟩
 ·exact ZO H hk d
 ·exact WW H hk d
inductive Rq8(w W:World)(hb sb lw:Nat)(x:Bx)(t:Bt)(fr:Nat->List Nat)(ls:List (Nat×Nat))(S:Sb)(s:Int)(m:Nat)(d:Bool)(p:Nat)(er:Int)(w':World):Prop where
 | big (ho:fZ x.o m=false) (hp:p=0) (he:er=3) (kp:Kt nO W w')
 | ok (ho:fZ x.o m=true) (hT:Tq w W hb sb lw x t fr ls S s (2 ^ cl m) d p er w')
theorem Rq8.st{m d p er}(H:HW w W hb sb lw x t fr ls S s)(h:Rq8 w W hb sb lw x t fr ls S s m d p er W'):∃ x' t' fr' ls' S',HW w W' hb sb lw x' t' fr' ls' S' s:=by
 cases h with
 | big ho hp he kp=>exact⟨_,_,_,_,_,H.keep kp⟩
 | ok ho hT=>exact hT.st H
theorem VT(H:HW w W hb sb lw x t fr ls S s)(sz al:Nat)(hs:sz<18446744073709551616)(ha:al<18446744073709551616)(d:Bool)(m:Nat)(hm:m=max (max sz al) 16):
  Calls prog 37 #[.pointer (some ⟨hb,0,none⟩),.int .u64 sz,.int .u64 al,.bool d] W fun e w'=>∃ p er,e=.returned (.tuple #[.int .u64 ((p:Nat):Int),.int .i64 er])/\Rq8 w W hb sb lw x t fr ls S s m d p er w':=by
 have SF:=aA (WR H sz al hs ha m hm);have HH:=aA H
 cases ho:fZ x.o m with
 | false=>
  rw[ho] at SF;rw[if_neg (by decide),if_neg (by decide)] at SF;have D:=aA (show Rq8 w W hb sb lw x t fr ls S s m d 0 3 W from .big ho rfl rfl (Kt.refl _ _));clear H ho hm;go_enter func37,ntmps37;go_wp2_with fail;refine SF.out.mono ?_;rintro e w1 ⟨rfl,h1⟩;replace h1:=h1.symm;subst h1;go_wp2_with fail;exact⟨rfl,.tuple #[.int .u64 ((0:Nat):Int),.int .i64 3],by simp[results,results37,go_sem],0,3,rfl,D.out⟩
 | true=>
  rw[ho] at SF;rw[if_pos rfl,if_pos rfl] at SF;have TK:=aA ((DJ H (2 ^ cl m) (KZ (by omega) ho) d).mono fun e w' h=>(show ∃ p er,e=.returned (.tuple #[.int .u64 ((p:Nat):Int),.int .i64 er])/\Rq8 w W hb sb lw x t fr ls S s m d p er w' from by
   obtain⟨p,er,he,hT⟩:=h;exact⟨p,er,he,.ok ho hT⟩))
  generalize 2 ^ cl m=r at *;clear H ho hm;go_enter func37,ntmps37;go_wp2_with fail;refine SF.out.mono ?_;rintro e w1 ⟨rfl,h1⟩;replace h1:=h1.symm;subst h1;go_wp2_with fail;refine TK.out.mono ?_;rintro e w2 ⟨p,er,rfl,hT⟩;have D:=aA hT;clear hT;go_wp2_with fail;exact⟨rfl,.tuple #[.int .u64 ((p:Nat):Int),.int .i64 er],by simp[results,results37,go_sem],p,er,rfl,D.out⟩
end
abbrev jG(W:World)(hb:Nat):World:=W.setCell ⟨hb,0,none⟩ (.int .i32 1)
abbrev lV(W:World)(hb:Nat):World:=W.setCell ⟨hb,0,none⟩ (.int .i32 0)
section
variable {w W W1 W':World} {hb sb lw:Nat} {x:Bx} {t:Bt} {fr:Nat->List Nat} {ls:List (Nat×Nat)} {S:Sb} {s:Int}
theorem HW.in(H:HW w W hb sb lw x t fr ls S 0):HW w (jG W hb) hb sb lw x t fr ls S 1:=(H.set 1).1
theorem HW.kout(H:HW w W hb sb lw x t fr ls S 0)(k:Kt nO (jG W hb) W'):Kt nO W (lV W' hb):=H.round id k (H.in.keep k) rfl rfl rfl
theorem Nx.out{x' t' fr' ls' S'}(H:HW w W hb sb lw x t fr ls S 0)(n:Nx w (jG W hb) W' hb sb lw x t ls S 1 x' t' fr' ls' S'):Nx w W (lV W' hb) hb sb lw x t ls S 0 x' t' fr' ls' S':=
 ⟨(n.H.set 0).1,n.ch,H.round H.nhb n.kp n.H n.ch.bS n.ch.lim n.ch.o,fun y hy=>(n.ns y hy).imp id (fun e=>by simpa using e)⟩
theorem Tq.out{r d p er}(H:HW w W hb sb lw x t fr ls S 0)(h:Tq w (jG W hb) hb sb lw x t fr ls S 1 r d p er W'):Tq w W hb sb lw x t fr ls S 0 r d p er (lV W' hb):=by
 cases h with
 | no hp he nf hd kp=>exact .no hp he nf hd (H.kout kp)
 | yes x' t' fr' ls' S' b he td nx hL hN hn hm hb1 hb2=>exact .yes x' t' fr' ls' S' b he td (nx.out H) hL hN hn hm hb1 hb2
theorem Rq8.out{m d p er}(H:HW w W hb sb lw x t fr ls S 0)(h:Rq8 w (jG W hb) hb sb lw x t fr ls S 1 m d p er W'):Rq8 w W hb sb lw x t fr ls S 0 m d p er (lV W' hb):=by
 cases h with
 | big ho hp he kp=>exact .big ho hp he (H.kout kp)
 | ok ho hT=>exact .ok ho (hT.out H)
theorem TW(H:HW w W hb sb lw x t fr ls S 0)(sz:Nat)(hs:sz<18446744073709551616)(d:Bool)(m:Nat)(hm:m=max sz 16):
  Calls prog 12 #[.pointer (some ⟨hb,0,none⟩),.int .u64 sz,.bool d] W fun e w'=>∃ p er,e=.returned (.tuple #[.int .u64 ((p:Nat):Int),.int .i64 er])/\Rq8 w W hb sb lw x t fr ls S 0 m d p er w':=by
 have LK:=aA H.lock;have RQ:=aA (VT H.in sz 1 hs (by decide) d m (by omega));have ST:=aA (fun (w2:World) (p:Nat) (er:Int) (h:Rq8 w (jG W hb) hb sb lw x t fr ls S 1 m d p er w2)=>And.intro (h.st H.in) (h.out H));clear H hm;go_enter_defers func12,ntmps12;go_wp2_with fail;refine LK.out.mono ?_;rintro e w1 ⟨rfl,rfl⟩;go_wp2_with fail;refine RQ.out.mono ?_;rintro e w2 ⟨p,er,rfl,hq⟩;obtain⟨⟨x',t',fr',ls',S',H2⟩,hD⟩:=ST.out _ _ _ hq;have UL:=aA (H2.unlock .returning);have D:=aA hD;clear hD H2 hq;go_wp2_with fail;refine leaves_cons (f:=36) (args:=#[.pointer (some ⟨hb,0,none⟩)]) (by simp) (by simp[go_sem]) ?_;refine UL.out.mono ?_;rintro e u' w3 ⟨rfl,rfl,rfl⟩;exact⟨_,results_tmp2 rfl _ _ _,p,er,rfl,D.out⟩
end
section
variable {w W W1 W':World} {hb sb lw:Nat} {x:Bx} {t:Bt} {fr:Nat->List Nat} {ls:List (Nat×Nat)} {S:Sb} {s:Int}
theorem HW.other(H:HW w W hb sb lw x t fr ls S s){y0:Nat}{cs:Array Value}{e:TypeId}{z:Nat×Nat}(hy:W.heap[y0]?=some (.cells cs e z))(hn:w.heap.size<=y0)(h1:¬Go.Proofs.YtkfmheelhinjdaaGreatDoor.pty e)(h2:e≠135)(h3:e≠75)(k:Kt (fun y=>y=y0) W W'):HW w W' hb sb lw x t fr ls S s:=by
 obtain⟨h,o⟩:=H.so;have hpty:∀ y,(aD x y\/y=x.b\/y=x.l\/y=lw)->y≠y0:=fun y hy2 e=>by
  subst e;exact h1 (o.sw.pl.pty hy hy2)
 have hsb:sb≠y0:=fun e=>by
  subst e;exact h2 (kD hy o.sw.bx)
 have hhb:hb≠y0:=fun e=>by
  subst e;exact h3 (kD hy H.bx)
 refine⟨⟨h,⟨⟨⟨(k.block _ (lH o.sw.pl.box) (hpty _ (.inr (.inr (.inr rfl))))).trans o.sw.pl.box,o.sw.pl.bd.kept k (fun y hy2=>hpty y ?_),o.sw.pl.nw,o.sw.pl.kp.trans k (fun _ _ e=>e) (fun y hy e=>absurd hn (by rw[<-e];exact Nat.not_le.2 hy))⟩,(k.block _ (lH o.sw.bx) hsb).trans o.sw.bx,o.sw.nw,o.sw.tb⟩,o.sf,o.st,o.bm,o.si,o.hd⟩⟩,H.lv,(k.block _ (lH H.bx) hhb).trans H.bx,H.nw,H.br⟩;rcases hy2 with hy2|hy2|hy2
 ·exact .inl hy2
 ·exact .inr (.inl hy2)
 ·exact .inr (.inr (.inl hy2))
end
section
variable {w W:World} {wb sb lw:Nat} {x:Bx} {t:Bt} {fr:Nat->List Nat} {ls:List (Nat×Nat)} {S:Sb} {h:Nat->Int}
end
section
variable {w W W1 W':World} {hb sb lw:Nat} {x:Bx} {t:Bt} {fr:Nat->List Nat} {ls:List (Nat×Nat)} {S:Sb} {s:Int}
theorem HW.space(H:HW w W hb sb lw x t fr ls S s)(hn : 0<x.n):∃ g,x.a=some g/\M.SpA W x.s (some g) x.bS x.R x.lim x.n t.f:=by
 have hs:=H.po.pl.bd.sp;obtain⟨g,hg⟩:=uU hs hn;exact⟨g,hg,by rw[hg] at hs;exact hs⟩
end
theorem GS.pushM{w0 W:World}{e:TypeId}{size:Nat}{v:Value}{n:Nat}{xs:List Value}(h:GS w0 W e size v n xs)(t:TypeId)(i:TypeInfo)(z:Value)(bytes:Nat)
  (ht:prog.underlying t=some (.slice e)) (hi:prog.info? e=some i) (hz:i.zero=some z) (hs:i.size=size) (hby:i.bytes=bytes) (hzs:z.cells.size=size) (hsz : 0<size)
  (a:Addr) (c m:Nat) (hm : 0<m) (news:List Value) (hl':news.length=m*size) (hnews:∀ j u,news[j]?=some u->W.cell? (a.add j)=some u) (h1:∀ u∈news,u.oneCell'=true) (h63:n+m<=maxLen) (hbb:(n+m)*bytes<=140737488355328):
  ∃ g cap w',(∀ ty,(Builtin.append_ #[t,t] ty #[v,.slice (some a) m c]).run prog W=.ok (.slice (some ⟨g,0,none⟩) (n + m) cap) w')/\GS w0 w' e size (.slice (some ⟨g,0,none⟩) (n + m) cap) (n + m) (xs ++ news)/\w0.heap.size<=g/\Kt (fun b=>v.ownBlock=some b) W w'/\(v.ownBlock=some g\/W.heap.size<=g):=by
 have ho:=h.own;by_cases hr:∃ g cap,v=.slice (some ⟨g,0,none⟩) n cap/\n+m<=cap
 ·obtain⟨g,cap,rfl,hroom⟩:=hr;obtain⟨w',hrun,hown,hgr⟩:=run_append_fits (P:=prog) W 0 t 0 e i size ht hi hs g n cap xs ho a m c news hl' hnews h1 hroom;have hg:=(h.new g cap rfl).resolve_left (by omega);have hk:=kZ hgr;refine⟨g,cap,w',fun ty=>?_,⟨hown,fun g' cap' e=>?_,h.kp.trans hk (fun _ _ x=>x) (fun x hx e=>?_)⟩,hg,hk,.inl (by simp[Value.ownBlock])⟩
  ·rw[<-hrun];simp[Builtin.append_]
  ·simp at e;exact .inr (by omega)
  ·cases e;omega
 ·have key:∃ v' w',(Builtin.append_ #[t,t] 0 #[v,.slice (some a) m c]).run prog W=.ok v' w'/\w'.ownsRow W.heap.size e size v' (n + m) (xs ++ news)/\Kt nO W w':=by
   rcases ho.2 with ⟨rfl,h0⟩|⟨g,cap,cur,rfl,hb,hg,hnc,hcm,hcs,htake⟩
   ·subst h0;have:xs=[]:=List.eq_nil_of_length_eq_zero (by rw[ho.1,Nat.zero_mul]);subst this;obtain⟨v',w',hrun,hown,hgr,_⟩:=run_append_own (P:=prog) W W.heap.size t 0 e i z size bytes ht hi hz hs hby hzs hsz (.slice none 0 0) 0 [] (World.ownsRow_nil _ _ _ _) a m c news hl' hnews h1 h63 hbb (Nat.le_refl _);exact⟨v',w',hrun,hown,(kZ hgr).mono (fun _ _ e=>by cases e)⟩
   ·obtain⟨v',w',hrun,hown,hgr⟩:=run_append_arg_grows (P:=prog) W t 0 e i z size bytes ht hi hz hs hby hzs hsz ⟨g,0,none⟩ n cap xs ho.1 (fun j u hj=>by
     rw[Addr.add_lit,Nat.zero_add];rw[<-htake,List.getElem?_take] at hj;split at hj
     ·simp only[World.cell?,hg];rw[<-Array.getElem?_toList,hj];rfl
     ·cases hj) a m c news hl' hnews (Nat.lt_of_not_le fun hle=>hr ⟨g,cap,rfl,hle⟩) h63 hbb
    exact⟨v',w',hrun,hown,(kZ hgr).mono (fun _ _ e=>by cases e)⟩
  obtain⟨v',w',hrun,hown,hk⟩:=key;rcases hown.2 with ⟨_,h0⟩|⟨g,cap,cur,rfl,hb,hg,h3⟩
  ·omega
  ·refine⟨g,cap,w',fun ty=>?_,⟨⟨hown.1,.inr ⟨g,cap,cur,rfl,Nat.zero_le _,hg,h3⟩⟩,fun g' cap' e=>?_,nT h.kp hk⟩,Nat.le_trans h.kp.size hb,hk.mono (fun _ _ e=>e.elim),.inr hb⟩
   ·rw[<-hrun];simp[Builtin.append_]
   ·simp at e;exact .inr (by have:=h.kp.size;omega)
def blV:List (Nat×Nat)->List Value
 | []=>[]
 | b :: l=>.int .u64 b.1 :: .int .u64 b.2 :: blV l
theorem mJ:∀ l m:List (Nat×Nat),blV (l ++ m)=blV l ++ blV m
 | [],_=>rfl
 | b :: l,m=>by
  show _ :: _ :: blV (l ++ m)=_
  rw[mJ l m];rfl
theorem kX:∀ l:List (Nat×Nat),(blV l).length=l.length*2
 | []=>rfl
 | b :: l=>by
  show(blV l).length+1+1=(l.length+1)*2
  rw[kX l];omega
theorem xQ:∀ (l:List (Nat×Nat)) (u:Value),u∈blV l->u.oneCell'=true
 | b :: l,u,h=>by
  rcases List.mem_cons.1 h with rfl|h
  ·rfl
  ·rcases List.mem_cons.1 h with rfl|h
   ·rfl
   ·exact xQ l u h
theorem nR:(prog.info? 45).map (fun i=>(i.zero,i.size,i.bytes))=some (some (.agg #[.int .u64 0,.int .u64 0]),2,16):=by kernel_rfl
abbrev GB(w0 W:World)(v:Value)(l:List (Nat×Nat)):Prop:=GS w0 W 45 2 v l.length (blV l)
theorem GB.push{w0 W:World}{v:Value}{l:List (Nat×Nat)}(h:GB w0 W v l)(a s:Nat)(hn:l.length<=4000000):
  ∃ g cap w',(∀ t,(Builtin.append_ #[46,46] t #[v,.slice (some ⟨W.heap.size,0,none⟩) 1 1]).run prog (W.alloc (bP a s))=.ok (.slice (some ⟨g,0,none⟩) (l.length + 1) cap) w')/\GB w0 w' (.slice (some ⟨g,0,none⟩) (l.length + 1) cap) (l ++ [(a,s)])/\Kt (fun b=>v.ownBlock=some b) W w':=by
 obtain⟨i,hi,hzz⟩:=Option.map_eq_some_iff.1 nR;simp only[Prod.mk.injEq] at hzz;have ka:=(Kt.refl nO W).alloc (bP a s);obtain⟨g,cap,w',h1,h2,h5,h6,h7⟩:=(GS.keep h ka).pushM 46 i (.agg #[.int .u64 0,.int .u64 0]) 16 Tryz.underlying46 hi hzz.1 hzz.2.1 hzz.2.2 rfl (by decide) ⟨W.heap.size,0,none⟩ 1 1 (by decide) [.int .u64 a,.int .u64 s] rfl (fun j u hj=>kK (cs:=#[.int .u64 a,.int .u64 s]) j u hj) (by simp[Value.oneCell']) (by simp only[maxLen];omega) (by omega);refine⟨g,cap,w',h1,?_,ka.trans h6 (fun _ _ e=>e.elim) (fun _ _ e=>e)⟩;show GS _ _ _ _ _ (l ++ [(a,s)]).length (blV (l ++ [(a,s)]))
 rw[mJ,List.length_append];exact h2
theorem GB.pushL{w0 W:World}{v u:Value}{l m:List (Nat×Nat)}(h:GB w0 W v l)(hu:W.ownsRow 0 45 2 u m.length (blV m))(hn:l.length<=4000000)(hm:m.length<=4000000):
  ∃ v' w',(∀ t,(Builtin.append_ #[46,46] t #[v,u]).run prog W=.ok v' w')/\GB w0 w' v' (l ++ m)/\Kt (fun b=>v.ownBlock=some b) W w':=by
 obtain⟨i,hi,hzz⟩:=Option.map_eq_some_iff.1 nR;simp only[Prod.mk.injEq] at hzz;rcases hu.2 with ⟨rfl,h0⟩|⟨g,cap,cur,rfl,hb,hg,hnc,hcm,hcs,htake⟩
 ·obtain rfl:=List.eq_nil_of_length_eq_zero h0;refine⟨v,W,fun t=>?_,by rw[List.append_nil];exact h,Kt.refl _ _⟩;exact run_append_owned_none W 0 46 t 45 i 2 Tryz.underlying46 hi v _ _ h.own
 ·rcases Nat.eq_zero_or_pos m.length with h0|h0
  ·obtain rfl:=List.eq_nil_of_length_eq_zero h0;refine⟨v,W,fun t=>?_,by rw[List.append_nil];exact h,Kt.refl _ _⟩;obtain⟨va,vc,rfl⟩:=qX h.own;have hle:l.length<=vc:=by
    rcases h.own.2 with ⟨e,_⟩|⟨g',cap',cur',e,_,hg',hnc',_⟩
    ·simp at e;omega
    ·simp at e;omega
   exact run_append_nothing W 46 46 t 45 i Tryz.underlying46 hi va l.length vc hle _ (Src.ofSlice W Tryz.underlying46 ⟨g,0,none⟩ 0 cap [] (by simp) (fun j u hj=>by simp at hj) (fun u hu=>by simp at hu))
  ·obtain⟨g2,cap2,w',h1,h2,h5,h6,h7⟩:=GS.pushM h 46 i (.agg #[.int .u64 0,.int .u64 0]) 16 Tryz.underlying46 hi hzz.1 hzz.2.1 hzz.2.2 rfl (by decide) ⟨g,0,none⟩ cap m.length h0 (blV m) (kX m) (fun j u hj=>by
     rw[Addr.add_lit,Nat.zero_add];rw[<-htake,List.getElem?_take] at hj;split at hj
     ·simp only[World.cell?,hg];rw[<-Array.getElem?_toList,hj];rfl
     ·cases hj) (xQ m) (by simp only[maxLen];omega) (by omega)
   refine⟨_,w',h1,?_,h6⟩;show GS _ _ _ _ _ (l ++ m).length (blV (l ++ m))
   rw[mJ,List.length_append];exact h2
theorem PX(b g:Nat):b+4096*(g+1)=b+4096*g+4096:=by omega
def gH(x:Bx)(S:Sb)(g k:Nat):Nat->List (Nat×Nat)
 | 0=>[]
 | j + 1=>if j∈S.fl g then gH x S g k j else gH x S g k j ++ [(aQ x g k j,aE k)]
theorem qY(x:Bx)(S:Sb)(g k:Nat):∀ j,(gH x S g k j).length<=j
 | 0=>Nat.le_refl _
 | j+1=>by
  have:=qY x S g k j;unfold gH;split
  ·omega
  ·rw[List.length_append];exact Nat.succ_le_succ this
section
variable {w W W':World} {hb sb lw:Nat} {x:Bx} {t:Bt} {fr:Nat->List Nat} {ls:List (Nat×Nat)} {S:Sb} {s:Int}
theorem WT(H:HW w W hb sb lw x t fr ls S s){g k j:Nat}(hc:S.c g=some k)(hj:j<aG k):∃ z:Nat,(j∈S.fl g->z=0)/\(j ∉ S.fl g->16<=z)/\z<=2048/\∀ W',Kt nO W W'->Calls prog 113 #[.pointer (some ⟨sb,0,none⟩),.int .u64 ((aQ x g k j:Nat):Int)] W' fun e w'=>e=.returned (.int .u64 z)/\Kt nO W' w':=by
 obtain⟨h,o⟩:=H.so;have n4:=H.po.nums.2.2.2.1;obtain⟨hk,sp⟩:=o.si.pg _ k hc;have hm:=o.mem hc;have hof:=kI (x:=x) (p:=g) hk hj (by omega);have hz:=dV hk;have hlv:=o.cell_liv hc hj;by_cases hf:j∈S.fl g
 ·rw[decide_eq_false (fun e=>e hf)] at hlv;refine⟨0,fun _=>rfl,fun e=>absurd hf e,by omega,fun W' kp=>?_⟩;obtain⟨h',o'⟩:=(H.keep kp).so;exact OC o'.sw _ hof.2.2 hlv
 ·rw[decide_eq_true hf] at hlv;refine⟨aE k,fun e=>absurd e hf,fun _=>hz.1,hz.2,fun W' kp=>?_⟩;obtain⟨h',o'⟩:=(H.keep kp).so;have:=TM o'.sw _ hof.2.2 hlv;rw[show dB x t (aQ x g k j)=t.m.pg g from(sP (x:=x) (t:=t) hk hj (by omega) hm.2.1 sp.kd sp.cl).2.2.1,sp.cl,Int.toNat_natCast] at this;exact this
theorem QK(H:HW w W hb sb lw x t fr ls S s){g k:Nat}(hc:S.c g=some k)(q:Pg)(hq:q.cl=(k:Int)):
  Calls prog 75 #[.pointer (some ⟨hb,0,none⟩),.int .i64 g,cC q] W fun e w'=>∃ v,e=.returned v/\GB W w' v (gH x S g k (aG k)):=by
 have n4:=H.po.nums.2.2.2.1;have n2:=H.po.nums.2.1;obtain⟨h,o⟩:=H.so;obtain⟨hk,sp⟩:=o.si.pg _ k hc;have hm:=o.mem hc;have hnb:=dM hk;have hz:=dV hk;have hg:g+1<=1024:=by omega
 clear o h sp;have K0:=aA ((Kt.refl nO W).alloc (aI q));have X0:=aA (nH W (aI q));have CL:=aA (fun W'=>EI k hk q hq W');have AD:=aA (fun W' (k:Kt nO W W')=>uA (H.keep k) g (by omega));have AD1:=aA (fun W' (k:Kt nO W W')=>uA (H.keep k) (g+1) hg);have SZ:=aA (fun j (hj:j<aG k)=>WT H hc hj);have CB:=aA (fun W' (k:Kt nO W W')=>(H.keep k).c);have CE:=aA (fun j=>And.intro (qY x S g k j) (show gH x S g k (j + 1)=if j∈S.fl g then gH x S g k j else gH x S g k j ++ [(aQ x g k j,aE k)] from rfl));have cj:∀ j,aQ x g k j=x.bS+4096*g+j*aE k:=fun j=>rfl
 have jm:∀ j,j<=aG k->j*aE k<=4096:=fun j hj=>by
  rw[<-hnb.1];exact Nat.mul_le_mul_right _ hj
 have js:∀ j,(j+1)*aE k=j*aE k+aE k:=fun j=>by rw[Nat.add_mul,Nat.one_mul]
 have CF:=aA (fun j=>cj j);have JM:=aA (fun j (hj:j<=aG k)=>jm j hj);have JS:=aA js;obtain⟨a1,ha1⟩:∃ a,a=x.bS+4096*(g+1):=⟨_,rfl⟩;obtain⟨a0,ha0⟩:∃ a,a=x.bS+4096*g:=⟨_,rfl⟩;rw[<-ha1] at AD1;rw[<-ha0] at AD CF;have hA:a1=a0+4096:=by rw[ha1,ha0];exact PX x.bS g
 have hab:a1<=9223372036854775808:=by omega
 obtain⟨N,hN⟩:=xe (aG k);obtain⟨z,hzz⟩:=xe (aE k);have NZ:=aA (show N*z=4096 by rw[hN,hzz];exact hnb.1);rw[<-hN] at SZ JM hnb ⊢;rw[<-hzz] at CL CE CF JM JS hz hnb;have hNb:N<=256:=hnb.2.2;obtain⟨f,hf⟩:=xe (gH x S g k);rw[<-hf] at CE ⊢;have f0:f 0=[]:=by rw[hf];rfl
 have HH:=aA H;clear H n4 n2 hm hq hc cj jm js ha0 ha1 hN hzz hnb hf hk;go_enter func75,ntmps75;obtain⟨x0,x1,x2,x3,x4,x5,x6,x7,x8,x9,x10⟩:=kS X0.out;go_wp2_with fail;refine(CL.out _).mono ?_;rintro e w1 ⟨rfl,hk1⟩;have K1:=aA (nT K0.out hk1);clear hk1 x0 x1 x2 x3 x4 x5 x6 x7 x8 x9 x10 X0 K0;go_wp2_with fail;refine(AD.out _ K1.out).mono ?_;rintro e w2 ⟨rfl,h2⟩;replace h2:=h2.symm;subst h2;go_wp2_with fail;have HA:=aA hA;clear hA;obtain⟨g1,hg1⟩:=xe (g+1);rw[<-hg1] at AD1 hg;have ig2:(g:Int)+1=(g1:Int):=by omega
 clear hg1;go_loopw [7,9] (fun c p V=>∃ j:Nat,j<=N/\p=.int .u64 ((a0+j*z:Nat):Int)/\Hid (GB W V c (f j))) (fun _ p _=>a1-(intOf p).toNat)
 case atStart=>exact⟨0,Nat.zero_le _,by rw[Nat.zero_mul,Nat.add_zero],aA (by rw[f0];exact GS.nil _ _ _ _ K1.out)⟩
 case round=>
  clear K1 AD f0;obtain⟨j,hj,rfl,hG⟩:=hrel;have hle:=(CE.out j).1;have jm:=JM.out j hj;have A1:=aA (AD1.out _ hG.out.kp);have hA:=HA.out;by_cases hlt:j<N
  ·have js:=JS.out j;have jm1:=JM.out (j+1) hlt;obtain⟨zz,z1,z2,z3,SZj⟩:=SZ.out j hlt;have SZj:=aA SZj;rw[CF.out j] at SZj;have ce:=(CE.out j).2;rw[CF.out j] at ce;obtain⟨c0,c2,c3,c4,c5,c6⟩:=CB.out _ hG.out.kp;rw[js] at jm1;obtain⟨p,hp⟩:=xe (a0+j*z);obtain⟨p1,hp1⟩:∃ p,p=a0+(j+1)*z:=⟨_,rfl⟩;rw[<-hp] at SZj ce ⊢;have hpa:(p:Int)<a1:=(by omega);have hpp:(p:Int)+(z:Int)=p1:=(by omega);have hp1b:p1<=a1:=(by omega);have hpd:p<p1:=(by omega);have PP:=aA (show p1=a0+(j+1)*z from hp1);clear jm jm1 js hp hp1 JM JS hA HA;go_wp2_with fail;refine A1.out.mono ?_;rintro e w3 ⟨rfl,h3⟩;replace h3:=h3.symm;subst h3;go_wp2_with fail;refine(SZj.out _ hG.out.kp).mono ?_;rintro e w4 ⟨rfl,hk4⟩;have G4:=aA (GS.keep hG.out hk4);clear hk4 c0 c2 c3 c4 c5 c6;by_cases hf:j∈S.fl g
   ·rw[if_pos hf] at ce;obtain rfl:=z1 hf;have zn:(((0:Nat):Int) != 0)=false:=rfl;go_wp2_with fail;exact⟨⟨j+1,hlt,by rw[<-PP.out],aA (by rw[ce];exact G4.out)⟩,by simp[intOf];omega⟩
   ·rw[if_neg hf] at ce;have zp:=z2 hf;have zn:((zz:Int) != 0)=true:=(by rw[bne_iff_ne];omega);obtain⟨gg,cap,w5,PU,G5,_⟩:=GB.push G4.out p z (by omega);have G5:=aA G5;have HAP:=aA PU;clear PU;go_wp2_with (at_builtin;refine Lib.wpList_append_run _ rfl _ _ _ _ rfl _ (.slice (some ⟨w4.heap.size,0,none⟩) 1 1) rfl rfl _ _ (HAP.out _) ?_)
    exact⟨⟨j+1,hlt,by rw[<-PP.out],aA (by rw[ce];exact G5.out)⟩,by simp[intOf];omega⟩
  ·obtain rfl:j=N:=(by omega);rw[NZ.out] at jm ⊢;obtain⟨p,hp⟩:=xe (a0+4096);rw[<-hp];have hpa:¬(p:Int)<a1:=(by omega);clear hp hA HA jm NZ JM JS CF;go_wp2_with fail;refine A1.out.mono ?_;rintro e w3 ⟨rfl,h3⟩;replace h3:=h3.symm;subst h3;go_wp2_with fail;go_ret;exact⟨_,rfl,hG.out⟩
end
open Go.Shelf
def VH:Go.Shelf.Ren:=⟨fun|6=>94|15=>137|14=>136|28=>184|29=>185|20=>176|21=>177|22=>178|23=>179|24=>180|25=>181|26=>182|27=>183|46=>231|47=>232|48=>233|49=>234|50=>235|57=>272|n=>n,fun|22=>35|24=>27|25=>110|3=>3|39=>59|0=>0|53=>69|55=>27|4=>4|46=>222|45=>221|50=>226|5=>5|9=>9|66=>253|70=>256|76=>280|77=>57|n=>n,fun|n=>n⟩
theorem EL:SlLaysF.n6 prog VH:={
 mixed:=by kernel_rfl
 f6:=⟨Tryz.f94.name,by decide,func94.trans (congrArg some (by kernel_rfl))⟩
 f14:=⟨Tryz.f136.name,by decide,func136.trans (congrArg some (by kernel_rfl))⟩
 f15:=func137.trans (congrArg some (by kernel_rfl))
 f20:=⟨Tryz.f176.name,by decide,func176.trans (congrArg some (by kernel_rfl))⟩
 f21:=⟨Tryz.f177.name,by decide,func177.trans (congrArg some (by kernel_rfl))⟩
 f22:=⟨Tryz.f178.name,by decide,func178.trans (congrArg some (by kernel_rfl))⟩
 f23:=⟨Tryz.f179.name,by decide,func179.trans (congrArg some (by kernel_rfl))⟩
 f24:=⟨Tryz.f180.name,by decide,func180.trans (congrArg some (by kernel_rfl))⟩
 f25:=⟨Tryz.f181.name,by decide,func181.trans (congrArg some (by kernel_rfl))⟩
 f26:=⟨Tryz.f182.name,by decide,func182.trans (congrArg some (by kernel_rfl))⟩
 f27:=⟨Tryz.f183.name,by decide,func183.trans (congrArg some (by kernel_rfl))⟩
 f28:=func184.trans (congrArg some (by kernel_rfl))
 f29:=func185.trans (congrArg some (by kernel_rfl))
 f46:=⟨Tryz.f231.name,by decide,func231.trans (congrArg some (by kernel_rfl))⟩
 f47:=func232.trans (congrArg some (by kernel_rfl))
 f48:=func233.trans (congrArg some (by kernel_rfl))
 f49:=⟨Tryz.f234.name,by decide,func234.trans (congrArg some (by kernel_rfl))⟩
 f50:=⟨Tryz.f235.name,by decide,func235.trans (congrArg some (by kernel_rfl))⟩
 f57:=⟨Tryz.f272.name,by decide,func272.trans (congrArg some (by kernel_rfl))⟩
 t0:=Tryz.underlying0
 a0:=Tryz.isAgg0
 z0:=Tryz.sizeOf0
 v0:=Tryz.zeroValue0
 t3:=Tryz.underlying3
 a3:=Tryz.isAgg3
 z3:=Tryz.sizeOf3
 v3:=Tryz.zeroValue3
 t4:=Tryz.underlying4
 a4:=Tryz.isAgg4
 z4:=Tryz.sizeOf4
 v4:=Tryz.zeroValue4
 t5:=Tryz.underlying5
 a5:=Tryz.isAgg5
 z5:=Tryz.sizeOf5
 v5:=Tryz.zeroValue5
 t9:=Tryz.underlying9
 a9:=Tryz.isAgg9
 z9:=Tryz.sizeOf9
 v9:=Tryz.zeroValue9
 t22:=Tryz.underlying35
 a22:=Tryz.isAgg35
 z22:=Tryz.sizeOf35
 v22:=Tryz.zeroValue35
 a24:=Tryz.isAgg27
 z24:=Tryz.sizeOf27
 t25:=Tryz.underlying110
 a25:=Tryz.isAgg110
 z25:=Tryz.sizeOf110
 v25:=Tryz.zeroValue110
 t39:=Tryz.underlying59
 a39:=Tryz.isAgg59
 z39:=Tryz.sizeOf59
 v39:=Tryz.zeroValue59
 t45:=Tryz.underlying221
 a45:=Tryz.isAgg221
 z45:=Tryz.sizeOf221
 v45:=Tryz.zeroValue221
 t46:=Tryz.underlying222
 a46:=Tryz.isAgg222
 z46:=Tryz.sizeOf222
 v46:=Tryz.zeroValue222
 t50:=Tryz.underlying226
 a50:=Tryz.isAgg226
 z50:=Tryz.sizeOf226
 v50:=Tryz.zeroValue226
 t53:=Tryz.underlying69
 a53:=Tryz.isAgg69
 z53:=Tryz.sizeOf69
 v53:=Tryz.zeroValue69
 t55:=Tryz.underlying27
 a55:=Tryz.isAgg27
 z55:=Tryz.sizeOf27
 v55:=Tryz.zeroValue27
 t66:=Tryz.underlying253
 a66:=Tryz.isAgg253
 z66:=Tryz.sizeOf253
 v66:=Tryz.zeroValue253
 t70:=Tryz.underlying256
 a70:=Tryz.isAgg256
 z70:=Tryz.sizeOf256
 v70:=Tryz.zeroValue256
 t76:=Tryz.underlying280
 a76:=Tryz.isAgg280
 z76:=Tryz.sizeOf280
 v76:=Tryz.zeroValue280
 t77:=Tryz.underlying57
 a77:=Tryz.isAgg57
 z77:=Tryz.sizeOf57
 v77:=Tryz.zeroValue57 }
def VG:Go.Shelf.Ren:=⟨fun|6=>142|15=>137|14=>190|28=>184|29=>185|20=>238|21=>239|22=>240|23=>241|24=>242|25=>243|26=>244|27=>245|46=>273|47=>232|48=>233|49=>274|50=>275|57=>296|n=>n,fun|22=>46|24=>45|25=>116|3=>3|39=>59|0=>0|53=>69|55=>27|4=>4|46=>222|45=>221|50=>226|5=>5|9=>9|66=>253|70=>256|76=>280|77=>57|n=>n,fun|n=>n⟩
theorem EK:SlLaysF0.n6 prog VG:={
 mixed:=by kernel_rfl
 f6:=⟨Tryz.f142.name,by decide,func142.trans (congrArg some (by kernel_rfl))⟩
 f14:=⟨Tryz.f190.name,by decide,func190.trans (congrArg some (by kernel_rfl))⟩
 f15:=func137.trans (congrArg some (by kernel_rfl))
 f20:=⟨Tryz.f238.name,by decide,func238.trans (congrArg some (by kernel_rfl))⟩
 f21:=⟨Tryz.f239.name,by decide,func239.trans (congrArg some (by kernel_rfl))⟩
 f22:=⟨Tryz.f240.name,by decide,func240.trans (congrArg some (by kernel_rfl))⟩
 f23:=⟨Tryz.f241.name,by decide,func241.trans (congrArg some (by kernel_rfl))⟩
 f24:=⟨Tryz.f242.name,by decide,func242.trans (congrArg some (by kernel_rfl))⟩
 f25:=⟨Tryz.f243.name,by decide,func243.trans (congrArg some (by kernel_rfl))⟩
 f26:=⟨Tryz.f244.name,by decide,func244.trans (congrArg some (by kernel_rfl))⟩
 f27:=⟨Tryz.f245.name,by decide,func245.trans (congrArg some (by kernel_rfl))⟩
 f28:=func184.trans (congrArg some (by kernel_rfl))
 f29:=func185.trans (congrArg some (by kernel_rfl))
 f46:=⟨Tryz.f273.name,by decide,func273.trans (congrArg some (by kernel_rfl))⟩
 f47:=func232.trans (congrArg some (by kernel_rfl))
 f48:=func233.trans (congrArg some (by kernel_rfl))
 f49:=⟨Tryz.f274.name,by decide,func274.trans (congrArg some (by kernel_rfl))⟩
 f50:=⟨Tryz.f275.name,by decide,func275.trans (congrArg some (by kernel_rfl))⟩
 f57:=⟨Tryz.f296.name,by decide,func296.trans (congrArg some (by kernel_rfl))⟩
 t0:=Tryz.underlying0
 a0:=Tryz.isAgg0
 z0:=Tryz.sizeOf0
 v0:=Tryz.zeroValue0
 t3:=Tryz.underlying3
 a3:=Tryz.isAgg3
 z3:=Tryz.sizeOf3
 v3:=Tryz.zeroValue3
 t4:=Tryz.underlying4
 a4:=Tryz.isAgg4
 z4:=Tryz.sizeOf4
 v4:=Tryz.zeroValue4
 t5:=Tryz.underlying5
 a5:=Tryz.isAgg5
 z5:=Tryz.sizeOf5
 v5:=Tryz.zeroValue5
 t9:=Tryz.underlying9
 a9:=Tryz.isAgg9
 z9:=Tryz.sizeOf9
 v9:=Tryz.zeroValue9
 t22:=Tryz.underlying46
 a22:=Tryz.isAgg46
 z22:=Tryz.sizeOf46
 v22:=Tryz.zeroValue46
 t25:=Tryz.underlying116
 a25:=Tryz.isAgg116
 z25:=Tryz.sizeOf116
 v25:=Tryz.zeroValue116
 t39:=Tryz.underlying59
 a39:=Tryz.isAgg59
 z39:=Tryz.sizeOf59
 v39:=Tryz.zeroValue59
 t45:=Tryz.underlying221
 a45:=Tryz.isAgg221
 z45:=Tryz.sizeOf221
 v45:=Tryz.zeroValue221
 t46:=Tryz.underlying222
 a46:=Tryz.isAgg222
 z46:=Tryz.sizeOf222
 v46:=Tryz.zeroValue222
 t50:=Tryz.underlying226
 a50:=Tryz.isAgg226
 z50:=Tryz.sizeOf226
 v50:=Tryz.zeroValue226
 t53:=Tryz.underlying69
 a53:=Tryz.isAgg69
 z53:=Tryz.sizeOf69
 v53:=Tryz.zeroValue69
 t55:=Tryz.underlying27
 a55:=Tryz.isAgg27
 z55:=Tryz.sizeOf27
 v55:=Tryz.zeroValue27
 t66:=Tryz.underlying253
 a66:=Tryz.isAgg253
 z66:=Tryz.sizeOf253
 v66:=Tryz.zeroValue253
 t70:=Tryz.underlying256
 a70:=Tryz.isAgg256
 z70:=Tryz.sizeOf256
 v70:=Tryz.zeroValue256
 t76:=Tryz.underlying280
 a76:=Tryz.isAgg280
 z76:=Tryz.sizeOf280
 v76:=Tryz.zeroValue280
 t77:=Tryz.underlying57
 a77:=Tryz.isAgg57
 z77:=Tryz.sizeOf57
 v77:=Tryz.zeroValue57 }
def IT:Go.Shelf.Ren:=⟨fun|288=>96|283=>138|284=>139|285=>140|286=>141|129=>185|317=>186|318=>187|319=>188|320=>189|337=>236|338=>237|n=>n,fun|37=>32|53=>27|3=>3|4=>4|9=>9|171=>193|0=>0|173=>195|212=>230|51=>69|5=>5|20=>20|213=>231|46=>59|232=>282|233=>283|n=>n,fun|17=>1|18=>2|19=>3|n=>n⟩
theorem apU:LaysM.n288 prog IT:={
 mixed:=by kernel_rfl
 f129:=func185.trans (congrArg some (by kernel_rfl))
 f283:=func138.trans (congrArg some (by kernel_rfl))
 f284:=func139.trans (congrArg some (by kernel_rfl))
 f285:=func140.trans (congrArg some (by kernel_rfl))
 f286:=func141.trans (congrArg some (by kernel_rfl))
 f288:=func96.trans (congrArg some (by kernel_rfl))
 f317:=func186.trans (congrArg some (by kernel_rfl))
 f318:=func187.trans (congrArg some (by kernel_rfl))
 f319:=func188.trans (congrArg some (by kernel_rfl))
 f320:=func189.trans (congrArg some (by kernel_rfl))
 f337:=func236.trans (congrArg some (by kernel_rfl))
 f338:=func237.trans (congrArg some (by kernel_rfl))
 t0:=Tryz.underlying0
 a0:=Tryz.isAgg0
 z0:=Tryz.sizeOf0
 v0:=Tryz.zeroValue0
 t3:=Tryz.underlying3
 a3:=Tryz.isAgg3
 z3:=Tryz.sizeOf3
 v3:=Tryz.zeroValue3
 t4:=Tryz.underlying4
 a4:=Tryz.isAgg4
 z4:=Tryz.sizeOf4
 v4:=Tryz.zeroValue4
 t5:=Tryz.underlying5
 a5:=Tryz.isAgg5
 z5:=Tryz.sizeOf5
 v5:=Tryz.zeroValue5
 t9:=Tryz.underlying9
 a9:=Tryz.isAgg9
 z9:=Tryz.sizeOf9
 v9:=Tryz.zeroValue9
 t20:=Tryz.underlying20
 a20:=Tryz.isAgg20
 z20:=Tryz.sizeOf20
 v20:=Tryz.zeroValue20
 t37:=Tryz.underlying32
 a37:=Tryz.isAgg32
 z37:=Tryz.sizeOf32
 v37:=Tryz.zeroValue32
 t46:=Tryz.underlying59
 a46:=Tryz.isAgg59
 z46:=Tryz.sizeOf59
 v46:=Tryz.zeroValue59
 t51:=Tryz.underlying69
 a51:=Tryz.isAgg69
 z51:=Tryz.sizeOf69
 v51:=Tryz.zeroValue69
 t53:=Tryz.underlying27
 a53:=Tryz.isAgg27
 z53:=Tryz.sizeOf27
 v53:=Tryz.zeroValue27
 t171:=Tryz.underlying193
 a171:=Tryz.isAgg193
 z171:=Tryz.sizeOf193
 v171:=Tryz.zeroValue193
 t173:=Tryz.underlying195
 a173:=Tryz.isAgg195
 z173:=Tryz.sizeOf195
 v173:=Tryz.zeroValue195
 t212:=Tryz.underlying230
 a212:=Tryz.isAgg230
 z212:=Tryz.sizeOf230
 v212:=Tryz.zeroValue230
 t213:=Tryz.underlying231
 a213:=Tryz.isAgg231
 z213:=Tryz.sizeOf231
 t232:=Tryz.underlying282
 a232:=Tryz.isAgg282
 z232:=Tryz.sizeOf282
 v232:=Tryz.zeroValue282
 t233:=Tryz.underlying283
 a233:=Tryz.isAgg283
 z233:=Tryz.sizeOf283
 v233:=Tryz.zeroValue283
 g17:=by kernel_rfl
 g18:=by kernel_rfl
 g19:=by kernel_rfl
 i0:=by kernel_rfl
 i3:=by kernel_rfl
 i4:=by kernel_rfl
 i5:=by kernel_rfl
 i9:=by kernel_rfl
 i20:=by kernel_rfl
 i37:=by kernel_rfl
 i46:=by kernel_rfl
 i51:=by kernel_rfl
 i53:=by kernel_rfl
 i171:=by kernel_rfl
 i173:=by kernel_rfl
 i212:=by kernel_rfl
 i232:=by kernel_rfl
 i233:=by kernel_rfl
 m17:=by kernel_rfl
 m18:=by kernel_rfl
 m19:=by kernel_rfl }
end Go.Proofs.YtkfmheelhinjdaaGreatDoor
