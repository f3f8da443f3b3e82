import Derived.Test.YtkfmheelhinjdaaGreatDoorXp
import Derived.Test.YtkfmheelhinjdaaGreatDoorXm
import Derived.Conc.MuLone
set_option maxRecDepth 1000000
set_option maxHeartbeats 80000000
namespace Go.Proofs.YtkfmheelhinjdaaGreatDoor
open _root_.Go.Proofs.Tryz
open Go.RowKit
set_option linter.unusedVariables false
theorem SO.four{w W sb lw x t fr ls S h}(o:SO w W sb lw x t fr ls S h){g:Nat}(hg:g<t.m.n)(hk:(t.m.pg g).kd=4):∃ k,S.c g=some k:=by
 cases e:S.c g with
 | some k=>exact⟨k,rfl⟩
 | none=>
  exfalso
  obtain⟨B,s,hN,hL⟩:=o.sf;obtain⟨a,p,k,hb,h1,h2⟩:=s.cv g hg;have h9:a≠9:=fun e=>hN p k (e▸hb)
  have hp:=s.pg a p k hb h9 g h1 h2;rw[o.si.eP,iG e,Option.getD_none] at hp;rw[hp] at hk;have hk:(if g=p then (a:Int) else (a:Int)+1)=4:=hk;rcases s.tg a p k hb with rfl|rfl|rfl
  ·split at hk <;> omega
  ·split at hk <;> omega
  ·exact h9 rfl
def sB(x:Bx)(S:Sb)(p g k i:Nat):Prop:=S.c g=some k/\i<aG k/\i ∉ S.fl g/\p=aQ x g k i
theorem SO.liv_of{w W sb lw x t fr ls S h}(o:SO w W sb lw x t fr ls S h){p:Nat}(hp:p<18446744073709551616)(hl:eY x t p=true):∃ g k i,sB x S p g k i:=by
 unfold eY iT at hl;rw[Bool.and_eq_true,Bool.and_eq_true] at hl;obtain⟨⟨h1,h2⟩,h3⟩:=hl;have h1:=of_decide_eq_true h1;have h2:=of_decide_eq_true h2;obtain⟨g,hg⟩:=xe (bF x p/4096);have hgn:g<t.m.n:=by
  refine Nat.lt_of_not_le fun hle=>?_
  unfold dA cH at h1;rw[<-hg,if_neg] at h1
  ·exact absurd h1 (by decide)
  ·intro e;obtain⟨k,e1,e2⟩:=gH e;omega
 have hQ:dA x t p=t.m.pg g:=by
  unfold dA;rw[<-hg];exact oG hgn
 rw[hQ] at h1;obtain⟨k,hc⟩:=o.four hgn h1;obtain⟨hk,sp⟩:=o.si.pg g k hc;have hnb:=dN hk;have hz:=dU hk;have ek:(dA x t p).cl.toNat=k:=by rw[hQ,sp.cl];rfl
 rw[ek] at h2;obtain⟨i,hi⟩:=xe (bF x p%4096/aE k);have hN:fQ x t p=i:=by unfold fQ;rw[ek,hi]
 have him:i*aE k=bF x p%4096:=by
  have:=Nat.div_add_mod (bF x p%4096) (aE k);rw[h2,Nat.add_zero,Nat.mul_comm,<-hi] at this;exact this
 have hib:i<aG k:=by
  refine Nat.lt_of_not_le fun hle=>?_
  have:=Nat.mul_le_mul_right (aE k) hle;rw[hnb.1,him] at this;have:=Nat.mod_lt (bF x p) (show 0<4096 by decide);omega
 rw[hQ,hN,sp.bt i (by omega)] at h3;have h3:=of_decide_eq_true h3;refine⟨g,k,i,hc,hib,h3.2,?_⟩;obtain⟨_,hpn,hp1,hpb⟩:=o.mem hc;have n4:=o.po.nums.2.2.2.1;have e:aQ x g k i=x.bS+4096*g+i*aE k:=rfl;rw[e,him,hg];have hd:=Nat.div_add_mod (bF x p) 4096;have ho:bF x p=(p+18446744073709551616-x.bS)%18446744073709551616:=rfl;omega
theorem SO.of_liv{w W sb lw x t fr ls S h}(o:SO w W sb lw x t fr ls S h){p g k i:Nat}(hl:sB x S p g k i):eY x t p=true/\iT x t p=true/\bF x p/4096=g/\dA x t p=t.m.pg g/\fQ x t p=i/\p<18446744073709551616:=by
 obtain⟨hc,hi,hn,rfl⟩:=hl;obtain⟨hk,sp⟩:=o.si.pg g k hc;have hnb:=dN hk;obtain⟨_,hpn,hp1,hpb⟩:=o.mem hc;have n4:=o.po.nums.2.2.2.1;obtain⟨h1,h2,h3,h4⟩:=sQ (x:=x) (t:=t) hk hi (by omega) hpn sp.kd sp.cl;refine⟨?_,h1,h2,h3,h4,(kH (x:=x) (p:=g) hk hi (by omega)).2.2⟩;unfold eY;rw[h1,h3,h4,sp.bt i (by omega),decide_eq_true ⟨hi,hn⟩];rfl
theorem gF.tak{S:Sb}{p k i:Nat}{r:List Nat}(h:∀ a c,a≠p->S.c a=some c->(S.fl a).length<aG c)(hc:S.c p=some k)(hf:S.fl p=i :: r)(hl:(S.fl p).length<=aG k):gF (aP S p k r):=by
 intro a c ha;replace ha:S.c a=some c:=ha;show(aZ S.fl p r a).length<aG c
 by_cases e:a=p
 ·subst e;rw[hc] at ha
  cases ha
  rw[cV];rw[hf,List.length_cons] at hl;omega
 ·rw[cT _ _ e];exact h a c e ha
theorem gF.old{w W sb lw x t fr ls S h}(o:SO w W sb lw x t fr ls S h)(v:gF S){p k i:Nat}{l r:List Nat}(hk:k<8)(hl:S.pl k=p :: l)(hf:S.fl p=i :: r):gF (aP S p k r):=by
 have hc:=((o.si.pm k hk p).1 (by rw[hl];exact List.mem_cons_self)).1;exact gF.tak (fun a c _ ha=>v a c ha) hc hf (o.si.lv p k hc)
theorem gF.new{S:Sb}(v:gF S){p k:Nat}(hk:k<8):gF (aP (aW S p k) p k (List.range' 1 (aG k-1))):=by
 have hnl:=dN hk;have e:(aW S p k).fl p=List.range' 0 (aG k):=cV _ _ _;refine gF.tak (i:=0) (fun a c ha hc=>?_) (cV _ _ _) ?_ ?_
 ·rw[show(aW S p k).c a=S.c a from cT _ _ ha] at hc;rw[show(aW S p k).fl a=S.fl a from cT _ _ ha];exact v a c hc
 ·rw[e];obtain⟨m,hm⟩:∃ m,aG k=m+1:=⟨aG k-1,by omega⟩;rw[hm];rfl
 ·rw[e,List.length_range'];exact Nat.le_refl _
theorem SO.new{w W sb lw x t}(po:PO w W lw x t (fun _=>[]) [])(sw:SW w W sb lw x t (fun _ => -1))(hP:x.P=fun _=>none):SO w W sb lw x t (fun _=>[]) [] ⟨fun _=>none,fun _=>[],fun _=>[]⟩ (fun _ => -1):=by
 refine⟨sw,po.sf,po.st,po.bm,⟨?_,fun p k h=>?_,fun p k h=>?_,fun p k h=>?_,fun k hk=>List.nodup_nil,fun k hk p=>?_⟩,fun k hk=>rfl⟩
 ·rw[hP];funext p
  exact(iG rfl).symm
 ·cases h
 ·cases h
 ·cases h
 ·constructor
  ·intro h;cases h
  ·rintro ⟨h,_⟩;cases h
theorem gF.none:gF ⟨fun _=>Option.none,fun _=>[],fun _=>[]⟩:=fun p k h=>by cases h
def eC(x:Bx)(ls:List (Nat×Nat))(S:Sb)(p s:Nat):Prop:=(∃ g k i,sB x S p g k i/\s=aE k)\/(∃ q k,(q,k)∈ls/\S.c q=none/\p=ad x q/\s=4096*2 ^ k)
section
variable {w W:World} {sb lw:Nat} {x:Bx} {t:Bt} {fr:Nat->List Nat} {ls:List (Nat×Nat)} {S:Sb} {h:Nat->Int}
theorem SO.apart(o:SO w W sb lw x t fr ls S h){p k q j:Nat}(hp:(p,k)∈ls)(hq:(q,j)∈ls):(p=q/\k=j)\/p+2 ^ k<=q\/q+2 ^ j<=p:=by
 obtain⟨B,s,hN,hL⟩:=o.sf;rcases s.ds _ _ _ _ _ _ ((hL p k).2 hp) ((hL q j).2 hq)with ⟨_,e1,e2⟩|e|e
 ·exact .inl ⟨e1,e2⟩
 ·exact .inr (.inl e)
 ·exact .inr (.inr e)
theorem SO.al(o:SO w W sb lw x t fr ls S h){p k:Nat}(hp:(p,k)∈ls):k<=x.o/\p%2 ^ k=0/\p+2 ^ k<=t.m.n:=o.sf.sn.al hp
theorem SO.span(o:SO w W sb lw x t fr ls S h){p s:Nat}(hl:eC x ls S p s) : 0<s/\∃ q k,(q,k)∈ls/\ad x q<=p/\p+s<=ad x q+4096*2 ^ k:=by
 rcases hl with ⟨g,k,i,⟨h1,h2,h3,rfl⟩,rfl⟩|⟨q,k,h1,h2,rfl,rfl⟩
 ·have hk:=(o.si.pg g k h1).1;have hz:=dU hk;have hm:=o.mem h1;have n4:=o.po.nums.2.2.2.1;have hc:=kH (x:=x) (p:=g) hk h2 (by omega);refine⟨by omega,g,0,hm.1,?_,?_⟩
  ·unfold aQ ad;omega
  ·unfold aQ ad;rw[Nat.pow_zero];omega
 ·have : 0<2 ^ k:=Nat.pow_pos (by decide);exact⟨by omega,q,k,h1,Nat.le_refl _,Nat.le_refl _⟩
end
section
variable {w W:World} {sb lw:Nat} {x:Bx} {t:Bt} {fr:Nat->List Nat} {ls:List (Nat×Nat)} {S:Sb} {h:Nat->Int} {n:Nat}
end
theorem tG{x x':Bx}(hb:x'.bS=x.bS){ls:List (Nat×Nat)}{S:Sb}{p s:Nat} : eC x' ls S p s↔eC x ls S p s:=by
 unfold eC sB aQ ad;rw[hb]
section
variable {w W:World} {sb lw:Nat} {x:Bx} {t:Bt} {fr:Nat->List Nat} {ls:List (Nat×Nat)} {S:Sb} {h:Nat->Int} {n:Nat}
variable {w2 W2:World} {sb2 lw2:Nat} {x':Bx} {t':Bt} {fr':Nat->List Nat} {ls':List (Nat×Nat)} {S':Sb} {h':Nat->Int}
theorem SO.cell_ne(o:SO w W sb lw x t fr ls S h){g k i g' k' i':Nat}(h1:S.c g=some k)(h2:i<aG k)(h3:S.c g'=some k')(h4:i'<aG k')(e:aQ x g k i=aQ x g' k' i'):g=g'/\k=k'/\i=i':=by
 have hk:=(o.si.pg g k h1).1;have hk':=(o.si.pg g' k' h3).1;have hm:=o.mem h1;have hm':=o.mem h3;have n4:=o.po.nums.2.2.2.1;have hc:=kH (x:=x) (p:=g) hk h2 (by omega);have hc':=kH (x:=x) (p:=g') hk' h4 (by omega);have hz:=dU hk;have hz':=dU hk';unfold aQ at e;have e1:g=g':=by omega
 subst e1;rw[h1] at h3;injection h3 with h3
 subst h3;refine⟨rfl,rfl,?_⟩;have:i*aE k=i'*aE k:=by omega
 exact Nat.eq_of_mul_eq_mul_right (by omega) this
theorem SO.free_no(o:SO w W sb lw x t fr ls S h){p k i:Nat}(hc:S.c p=some k)(hi:i∈S.fl p)(s:Nat):¬eC x ls S (aQ x p k i) s:=by
 have hib:=(o.si.fl p k hc).2.1 i hi;rintro (⟨g,k',i',⟨h1,h2,h3,h4⟩,_⟩|⟨q,j,h1,h2,h3,_⟩)
 ·obtain⟨rfl,rfl,rfl⟩:=o.cell_ne hc hib h1 h2 h4;exact h3 hi
 ·have hk:=(o.si.pg p k hc).1;have hm:=o.mem hc;have n4:=o.po.nums.2.2.2.1;have hcc:=kH (x:=x) (p:=p) hk hib (by omega);have hz:=dU hk;have hzz : 0<2 ^ j:=Nat.pow_pos (by decide);unfold aQ ad at h3;rcases o.apart hm.1 h1 with ⟨e,_⟩|e|e
  ·rw[<-e,hc] at h2;cases h2
  ·omega
  ·omega
theorem IG(o:SO w W sb lw x t fr ls S h){p k i:Nat}{r:List Nat}(hc:S.c p=some k)(hf:S.fl p=i :: r)(a s:Nat):eC x ls (aP S p k r) a s↔eC x ls S a s\/(a=aQ x p k i/\s=aE k):=by
 obtain⟨n1,n2,_⟩:=o.si.fl p k hc;rw[hf,List.nodup_cons] at n1;have hib:=n2 i (by rw[hf];exact List.mem_cons_self);constructor
 ·rintro (⟨g,k',i',⟨h1,h2,h3,h4⟩,h5⟩|⟨q,j,h1,h2,h3,h4⟩)
  ·replace h1:S.c g=some k':=h1;replace h3:i' ∉ aZ S.fl p r g:=h3;by_cases e:g=p
   ·subst e;rw[hc] at h1;injection h1 with h1
    subst h1;rw[cV] at h3;by_cases e2:i'=i
    ·subst e2;exact .inr ⟨h4,h5⟩
    ·refine .inl (.inl ⟨g,k,i',⟨hc,h2,?_,h4⟩,h5⟩);rw[hf,List.mem_cons,not_or];exact⟨e2,h3⟩
   ·rw[cT _ _ e] at h3;exact .inl (.inl ⟨g,k',i',⟨h1,h2,h3,h4⟩,h5⟩)
  ·exact .inl (.inr ⟨q,j,h1,h2,h3,h4⟩)
 ·rintro ((⟨g,k',i',⟨h1,h2,h3,h4⟩,h5⟩|⟨q,j,h1,h2,h3,h4⟩)|⟨rfl,rfl⟩)
  ·refine .inl ⟨g,k',i',⟨h1,h2,?_,h4⟩,h5⟩;show i' ∉ aZ S.fl p r g
   by_cases e:g=p
   ·subst e;rw[cV];rw[hf,List.mem_cons,not_or] at h3;exact h3.2
   ·rw[cT _ _ e];exact h3
  ·exact .inr ⟨q,j,h1,h2,h3,h4⟩
  ·refine .inl ⟨p,k,i,⟨hc,hib,?_,rfl⟩,rfl⟩;show i ∉ aZ S.fl p r p
   rw[cV];exact n1.1
theorem IF{p k:Nat}(hk:k<8)(hc:S.c p=none)(hn:∀ i,(p,i) ∉ ls)(a s:Nat):eC x (ls ++ [(p,0)]) (aP (aW S p k) p k (List.range' 1 (aG k-1))) a s↔eC x ls S a s\/(a=aQ x p k 0/\s=aE k):=by
 have hnb:=dN hk;constructor
 ·rintro (⟨g,k',i',⟨h1,h2,h3,h4⟩,h5⟩|⟨q,j,h1,h2,h3,h4⟩)
  ·replace h1:aZ S.c p (some k) g=some k':=h1;replace h3:i' ∉ aZ (aZ S.fl p (List.range' 0 (aG k))) p (List.range' 1 (aG k-1)) g:=h3;by_cases e:g=p
   ·subst e;rw[cV] at h1 h3;injection h1 with h1
    subst h1;have e2:i'=0:=by
     rcases Nat.eq_zero_or_pos i' with e2|e2
     ·exact e2
     ·exact absurd (List.mem_range'_1.2 ⟨e2,by omega⟩) h3
    subst e2;exact .inr ⟨h4,h5⟩
   ·rw[cT _ _ e] at h1;rw[cT _ _ e,cT _ _ e] at h3;exact .inl (.inl ⟨g,k',i',⟨h1,h2,h3,h4⟩,h5⟩)
  ·replace h2:aZ S.c p (some k) q=none:=h2;have e:q≠p:=fun e=>by rw[e,cV] at h2;cases h2
   rw[cT _ _ e] at h2;refine .inl (.inr ⟨q,j,?_,h2,h3,h4⟩);rcases List.mem_append.1 h1 with h1|h1
   ·exact h1
   ·rw[List.mem_singleton] at h1;injection h1 with h1
    exact absurd h1 e
 ·rintro ((⟨g,k',i',⟨h1,h2,h3,h4⟩,h5⟩|⟨q,j,h1,h2,h3,h4⟩)|⟨rfl,rfl⟩)
  ·have e:g≠p:=fun e=>by rw[e,hc] at h1;cases h1
   refine .inl ⟨g,k',i',⟨?_,h2,?_,h4⟩,h5⟩
   ·show aZ S.c p (some k) g=some k'
    rw[cT _ _ e];exact h1
   ·show i' ∉ aZ (aZ S.fl p (List.range' 0 (aG k))) p (List.range' 1 (aG k-1)) g
    rw[cT _ _ e,cT _ _ e];exact h3
  ·have e:q≠p:=fun e=>hn j (e▸h1)
   refine .inr ⟨q,j,List.mem_append_left _ h1,?_,h3,h4⟩;show aZ S.c p (some k) q=none
   rw[cT _ _ e];exact h2
  ·refine .inl ⟨p,k,0,⟨cV _ _ _,by omega,?_,rfl⟩,rfl⟩;show 0 ∉ aZ (aZ S.fl p (List.range' 0 (aG k))) p (List.range' 1 (aG k-1)) p
   rw[cV,List.mem_range'_1];omega
theorem RX{p k:Nat}(hc:S.c p=none)(a s:Nat):eC x (ls ++ [(p,k)]) S a s↔eC x ls S a s\/(a=ad x p/\s=4096*2 ^ k):=by
 constructor
 ·rintro (h1|⟨q,j,h1,h2,h3,h4⟩)
  ·exact .inl (.inl h1)
  ·rcases List.mem_append.1 h1 with h1|h1
   ·exact .inl (.inr ⟨q,j,h1,h2,h3,h4⟩)
   ·rw[List.mem_singleton] at h1;injection h1 with e1 e2
    subst e1 e2;exact .inr ⟨h3,h4⟩
 ·rintro ((h1|⟨q,j,h1,h2,h3,h4⟩)|⟨h3,h4⟩)
  ·exact .inl h1
  ·exact .inr ⟨q,j,List.mem_append_left _ h1,h2,h3,h4⟩
  ·exact .inr ⟨p,k,List.mem_append_right _ (List.mem_singleton.2 rfl),hc,h3,h4⟩
def vK(x:Bx)(ls:List (Nat×Nat))(S:Sb)(j:Nat):Prop:=∃ p s,eC x ls S p s/\p<=x.bS+j/\x.bS+j<p+s
theorem SO.byte(o:SO w W sb lw x t fr ls S h){j:Nat}(hj:vK x ls S j):Lv ls (j/4096):=by
 obtain⟨p,s,h1,h2,h3⟩:=hj;obtain⟨_,q,k,h4,h5,h6⟩:=o.span h1;unfold ad at h5 h6;refine⟨q,k,h4,?_,?_⟩
 ·exact(Nat.le_div_iff_mul_le (by decide)).2 (by omega)
 ·exact(Nat.div_lt_iff_lt_mul (by decide)).2 (by omega)
structure Ch(x:Bx)(t:Bt)(ls:List (Nat×Nat))(S:Sb)(x':Bx)(t':Bt)(ls':List (Nat×Nat))(S':Sb):Prop where
 bS:x'.bS=x.bS
 R:x'.R=x.R
 lim:x'.lim=x.lim
 o:x'.o=x.o
 kb:∀ j,vK x ls S j->vK x' ls' S' j->t'.f j=t.f j
end
open Go.MuLone
def KW(w:World):Type:={ W:World // Kt nO w W }
def KW.v{w:World}(x:KW w):World:=x.1
theorem KW.k{w:World}(x:KW w):Kt nO w x.v:=x.2
instance (w:World):Nonempty (KW w):=⟨⟨w,Kt.refl _ _⟩⟩
theorem dM{P:Program}{id:Nat}{Q:Exit->Act->World->Prop}{a:Act}{w:World}{l:List Oper}(hm:P.follows .mixedOrders=true)(hB:Region.lexB .any l.toArray=true)
  (h:wpQuiet P l.toArray (fun w'=>∃ x:KW w,w'=x.v) (fun a'=>∀ x:KW w,Q .normal a' x.v) l a):(Code.region id l.toArray true).wp P Q a w:=by
 refine wp_region_quiet (C:=fun w'=>∃ x:KW w,w'=x.v) hm hB ⟨⟨w.drew,(Kt.refl _ w).drew⟩,rfl⟩ ?_;have e:(fun a'=>∀ w',(∃ x:KW w,w'=x.v)->Q .normal a' w')=(fun a'=>∀ x:KW w,Q .normal a' x.v):=by
  funext a'
  exact propext ⟨fun h x=>h _ ⟨x,rfl⟩,fun h w' ⟨x,hx⟩=>hx▸h x⟩
 rw[e];simpa using h
theorem Calls.kept_of{P:Program}{f:FuncId}{args:Array Value}{w:World}{x:KW w}{v:Value}
  (h:Calls P f args x.v fun e w'=>e=.returned v/\Kt nO x.v w'):Calls P f args x.v fun e w''=>e=.returned v/\∃ y:KW w,w''=y.v:=
 h.mono fun _ w1 ⟨he,hk⟩=>⟨he,⟨w1,nT x.k hk⟩,rfl⟩
abbrev muK:Go.Conc.Locks.MuLink:={ lock:=35,unlock:=36,ilock:=80,iunlock:=81,lockSlow:=123,unlockSlow:=126,disable:=119,enable:=121,acquire:=122,relMerge:=124,cas32:=120,add32:=125,tMutex:=73,tIMutex:=71,tPMutex:=136,tPIMutex:=166,tPI32:=168,tUP:=170,tNoCopy:=68,tU32:=69 }
theorem CJ:Go.Conc.Locks.MuLib prog muK:=
 ⟨func35,func36,func80,func81,func119,func121,func122,func124,func120,func125,
 Tryz.underlying71,Tryz.runUnderlying71,Tryz.sizeOf71,Tryz.isAgg71,Tryz.zeroValue71,
 Tryz.underlying73,Tryz.runUnderlying73,Tryz.sizeOf73,Tryz.isAgg73,Tryz.zeroValue73,
 Tryz.underlying136,Tryz.runUnderlying136,Tryz.sizeOf136,Tryz.isAgg136,Tryz.zeroValue136,
 Tryz.underlying166,Tryz.runUnderlying166,Tryz.sizeOf166,Tryz.isAgg166,Tryz.zeroValue166,
 Tryz.underlying168,Tryz.runUnderlying168,Tryz.sizeOf168,Tryz.isAgg168,Tryz.zeroValue168,
 Tryz.underlying170,Tryz.runUnderlying170,Tryz.sizeOf170,Tryz.isAgg170,Tryz.zeroValue170,
 Tryz.underlying68,Tryz.runUnderlying68,Tryz.sizeOf68,Tryz.isAgg68,Tryz.zeroValue68,
 Tryz.underlying21,Tryz.runUnderlying21,Tryz.sizeOf21,Tryz.isAgg21,Tryz.zeroValue21,
 (by kernel_rfl)⟩
abbrev vE(s:Int)(lw sb bS lim o:Nat):Obj:=.cells #[.int .i32 s,.int .u32 0,.int .u64 bS,.int .i64 lim,.int .i64 o,.pointer (some ⟨lw,0,none⟩),.pointer (some ⟨sb,0,none⟩)] 75
structure HW(w W:World)(hb sb lw:Nat)(x:Bx)(t:Bt)(fr:Nat->List Nat)(ls:List (Nat×Nat))(S:Sb)(s:Int):Prop where
 so:∃ h,SO w W sb lw x t fr ls S h
 lv:gF S
 bx:W.heap[hb]?=some (vE s lw sb x.bS x.lim x.o)
 nw:w.heap.size<=hb
 br:x.bS%x.R=0
theorem SO.hty{w W sb lw x t fr ls S h}(s:SO w W sb lw x t fr ls S h){y:Nat}{cs:Array Value}{z:Nat×Nat}(hy:W.heap[y]?=some (.cells cs 75 z)):¬cW x sb y:=by
 rintro (e|e)
 ·exact absurd (s.sw.pl.pty hy (.inl e)) (by unfold Go.Proofs.YtkfmheelhinjdaaGreatDoor.pty;decide)
 ·subst e;exact absurd (kC hy s.sw.bx) (by decide)
section
variable {w W W':World} {hb sb lw:Nat} {x:Bx} {t:Bt} {fr:Nat->List Nat} {ls:List (Nat×Nat)} {S:Sb} {s:Int}
theorem HW.nhb(H:HW w W hb sb lw x t fr ls S s):¬cW x sb hb:=by
 obtain⟨h,o⟩:=H.so;exact o.hty H.bx
theorem HW.po(H:HW w W hb sb lw x t fr ls S s):PO w W lw x t fr ls:=by
 obtain⟨h,o⟩:=H.so;exact o.po
theorem HW.keep(H:HW w W hb sb lw x t fr ls S s)(k:Kt nO W W'):HW w W' hb sb lw x t fr ls S s:=by
 obtain⟨h,o⟩:=H.so;exact⟨⟨h,o.keep k⟩,H.lv,(k.block _ (lH H.bx) id).trans H.bx,H.nw,H.br⟩
theorem HW.c(H:HW w W hb sb lw x t fr ls S s):W.cell? ⟨hb,0,none⟩=some (.int .i32 s)/\W.cell? ⟨hb,2,none⟩=some (.int .u64 x.bS)/\W.cell? ⟨hb,3,none⟩=some (.int .i64 x.lim)/\W.cell? ⟨hb,4,none⟩=some (.int .i64 x.o)/\W.cell? ⟨hb,5,none⟩=some (.pointer (some ⟨lw,0,none⟩))/\W.cell? ⟨hb,6,none⟩=some (.pointer (some ⟨sb,0,none⟩)):=by
 refine⟨?_,?_,?_,?_,?_,?_⟩ <;> simp[World.cell?,H.bx]
theorem HW.fz(H:HW w W hb sb lw x t fr ls S s)(j:Nat):W.frozen? ⟨hb,j,none⟩=false:=by simp[World.frozen?,H.bx]
theorem HW.call{x':Bx}{t':Bt}{fr':Nat->List Nat}{ls':List (Nat×Nat)}{S':Sb}{h':Nat->Int}(H:HW w W hb sb lw x t fr ls S s)(o:SO w W' sb lw x' t' fr' ls' S' h')(v:gF S')(c:Ch x t ls S x' t' ls' S')(k:Kt (cW x sb) W W'):HW w W' hb sb lw x' t' fr' ls' S' s:=
 ⟨⟨h',o⟩,v,by rw[c.bS,c.lim,c.o];exact(k.block _ (lH H.bx) H.nhb).trans H.bx,H.nw,by rw[c.bS,c.R];exact H.br⟩
theorem HW.set(H:HW w W hb sb lw x t fr ls S s)(v:Int):HW w (W.setCell ⟨hb,0,none⟩ (.int .i32 v)) hb sb lw x t fr ls S v/\Kt (fun y=>y=hb) W (W.setCell ⟨hb,0,none⟩ (.int .i32 v)):=by
 have kp:Kt (fun y=>y=hb) W (W.setCell ⟨hb,0,none⟩ (.int .i32 v)):=(Kt.refl (fun y=>y=hb) W).setCell (p:=⟨hb,0,none⟩) rfl _;refine⟨⟨?_,H.lv,?_,H.nw,H.br⟩,kp⟩
 ·obtain⟨h,o⟩:=H.so;have nl:∀ {y cs e z},W.heap[y]?=some (.cells cs e z)->e≠75->y≠hb:=fun hy he e=>he (kC (e▸hy) H.bx)
  have hpty:∀ y,(aD x y\/y=x.b\/y=x.l\/y=lw)->y≠hb:=fun y hy e=>by
   subst e;exact absurd (o.sw.pl.pty H.bx hy) (by unfold Go.Proofs.YtkfmheelhinjdaaGreatDoor.pty;decide)
  refine⟨h,⟨⟨⟨(kp.block _ (lH o.sw.pl.box) (hpty _ (.inr (.inr (.inr rfl))))).trans o.sw.pl.box,o.sw.pl.bd.kept kp (fun y hy=>hpty y ?_),o.sw.pl.nw,o.sw.pl.kp.setNew (p:=⟨hb,0,none⟩) (fun e=>absurd H.nw (Nat.not_le.2 e)) _⟩,(kp.block _ (lH o.sw.bx) (nl o.sw.bx (by decide))).trans o.sw.bx,o.sw.nw,o.sw.tb⟩,o.sf,o.st,o.bm,o.si,o.hd⟩⟩;rcases hy with hy|hy|hy
  ·exact .inl hy
  ·exact .inr (.inl hy)
  ·exact .inr (.inr (.inl hy))
 ·rw[heap_set H.bx];simp
theorem HW.lock(H:HW w W hb sb lw x t fr ls S 0):
  Calls prog 35 #[.pointer (some ⟨hb,0,none⟩)] W fun e w'=>e=.returned (.tuple #[])/\w'=W.setCell ⟨hb,0,none⟩ (.int .i32 1):=lock_free CJ ⟨hb,0,none⟩ W H.c.1 (H.fz 0)
theorem HW.unlock(H:HW w W hb sb lw x t fr ls S 1)(u:FrameMode):
  CallsD prog 36 #[.pointer (some ⟨hb,0,none⟩)] u W fun e u' w'=>u'=u/\(e=.returned (.tuple #[])/\w'=W.setCell ⟨hb,0,none⟩ (.int .i32 0)):=unlock_deferred CJ ⟨hb,0,none⟩ u W H.c.1 (H.fz 0)
theorem HW.round{K:Nat->Prop}{w2:World}{x2:Bx}{t2:Bt}{fr2:Nat->List Nat}{ls2:List (Nat×Nat)}{S2:Sb}(H:HW w W hb sb lw x t fr ls S 0)(hK:¬K hb)(k:Kt K (W.setCell ⟨hb,0,none⟩ (.int .i32 1)) w2)(H2:HW w w2 hb sb lw x2 t2 fr2 ls2 S2 1)(e1:x2.bS=x.bS)(e2:x2.lim=x.lim)(e3:x2.o=x.o):Kt K W (w2.setCell ⟨hb,0,none⟩ (.int .i32 0)):=by
 have k1:=(H.set 1).2;refine⟨k.os.trans k1.os,k.tape.trans k1.tape,k.output.trans k1.output,?_,fun i hi hU=>?_⟩
 ·have h1:=k1.size;have h2:=k.size;simp
  omega
 ·by_cases e:i=hb
  ·subst e;rw[heap_set H2.bx,H.bx,e1,e2,e3];simp
  ·rw[Below.heap_setCell w2 ⟨hb,0,none⟩ _ i (fun e2=>e e2),k.block i (Nat.lt_of_lt_of_le hi k1.size) hU];exact k1.block i hi e
end
inductive Pk(x:Bx)(t:Bt)(fr:Nat->List Nat)(ls:List (Nat×Nat))(S:Sb)(g:Nat):Prop where
 | slab (k:Nat) (hc:S.c g=some k)
 | big (q k:Nat) (hm:(q,k)∈ls) (hc:S.c q=none) (hg:S.c g=none) (h1:q<=g) (h2:g<q+2 ^ k) (hp:t.m.pg g=aN (if g=q then 2 else 3) (k:Int))
 | free (q j:Nat) (hm:q∈fr j) (hj:j<=x.o) (hg:S.c g=none) (h1:q<=g) (h2:g<q+2 ^ j) (hp:t.m.pg g=aN (if g=q then 0 else 1) (j:Int))
section
variable {w W:World} {sb lw:Nat} {x:Bx} {t:Bt} {fr:Nat->List Nat} {ls:List (Nat×Nat)} {S:Sb} {h:Nat->Int}
theorem SO.kind(o:SO w W sb lw x t fr ls S h){g:Nat}(hg:g<t.m.n):Pk x t fr ls S g:=by
 cases e:S.c g with
 | some k=>exact .slab k e
 | none=>
  have hap:=fun {p k q j:Nat}=>o.apart (p:=p) (k:=k) (q:=q) (j:=j)
  have hme:=fun {p k:Nat}=>o.mem (p:=p) (k:=k)
  have heP:=o.si.eP;obtain⟨B,s,hN,hL⟩:=o.sf;obtain⟨a,p,k,hb,h1,h2⟩:=s.cv g hg;have h9:a≠9:=fun e=>hN p k (e▸hb)
  have hp:=s.pg a p k hb h9 g h1 h2;rw[heP,iG e,Option.getD_none] at hp;rcases s.tg a p k hb with rfl|rfl|rfl
  ·obtain⟨f1,f2⟩:=(s.fi p k).1 hb;exact .free p k f2 f1 e h1 h2 hp
  ·have hm:=(hL p k).1 hb;refine .big p k hm ?_ e h1 h2 hp
   cases e2:S.c p with
   | none=>rfl
   | some c=>
    exfalso
    have hz : 0<2 ^ k:=Nat.pow_pos (by decide);rcases hap (hme e2).1 hm with ⟨_,e3⟩|e3|e3
    ·subst e3;rw[Nat.pow_zero] at h2;obtain rfl:p=g:=(by omega);rw[e] at e2
     cases e2
    ·rw[Nat.pow_zero] at e3;omega
    ·omega
  ·exact absurd rfl h9
theorem SO.cell_liv(o:SO w W sb lw x t fr ls S h){g k i:Nat}(hc:S.c g=some k)(hi:i<aG k):eY x t (aQ x g k i)=decide (i ∉ S.fl g):=by
 by_cases hf:i∈S.fl g
 ·rw[decide_eq_false (fun e=>e hf)]
  cases e:eY x t (aQ x g k i)with
  | false=>rfl
  | true=>
   exfalso
   have hk:=(o.si.pg g k hc).1;have hme:=o.mem hc;have n4:=o.po.nums.2.2.2.1;obtain⟨g2,k2,i2,v1,v2,v3,v4⟩:=o.liv_of (kH (x:=x) (p:=g) hk hi (by omega)).2.2 e;obtain⟨e1,e2,e3⟩:=o.cell_ne hc hi v1 v2 v4;subst e1 e2 e3;exact v3 hf
 ·rw[decide_eq_true hf];exact(o.of_liv ⟨hc,hi,hf,rfl⟩).1
end
abbrev cG(a s:Nat):Obj:=.cells #[.int .u64 a,.int .u64 s] 45
theorem le8{P:Nat->Prop}(h0:P 0)(h1:P 1)(h2:P 2)(h3:P 3)(h4:P 4)(h5:P 5)(h6:P 6)(h7:P 7)(h8:P 8):∀ k,k<=8->P k:=fun k hk=>by
 rcases Nat.lt_or_ge k 8 with h|h
 ·exact rZ h0 h1 h2 h3 h4 h5 h6 h7 k h
 ·obtain rfl:k=8:=by omega
  exact h8
theorem EC:∀ k:Nat,k<=8->∀ (q:Pg) (hq:q.od=(k:Int)) (W:World),
  Calls prog 74 #[cC q] W fun e w'=>e=.returned (.int .u64 ((4096*2 ^ k:Nat):Int))/\Kt nO W w':=by
 apply le8 <;>
 ·intro q hq W;have K0:=aA ((Kt.refl nO W).alloc (aI q));have X0:=aA (nH W (aI q));obtain⟨_,x1,_⟩:=kQ X0.out;rw[hq] at x1;clear hq X0;go_enter func74,ntmps74;go_wp2_with fail;go_ret;exact⟨rfl,K0.out⟩
theorem JL:∀ k:Nat,k<8->∀ (q:Pg) (hq:q.cl=(k:Int)) (W:World),
  Calls prog 112 #[cC q] W fun e w'=>e=.returned (.int .u64 ((aE k:Nat):Int))/\Kt nO W w':=by
 apply rZ <;>
 ·intro q hq W;have K0:=aA ((Kt.refl nO W).alloc (aI q));have X0:=aA (nH W (aI q));obtain⟨_,_,x2,_⟩:=kQ X0.out;rw[hq] at x2;clear hq X0;go_enter func112,ntmps112;go_wp2_with fail;go_ret;exact⟨rfl,K0.out⟩
section
variable {w W W':World} {hb sb lw:Nat} {x:Bx} {t:Bt} {fr:Nat->List Nat} {ls:List (Nat×Nat)} {S:Sb} {s:Int}
theorem tW(H:HW w W hb sb lw x t fr ls S s)(n:Nat)(hn:n<=1024):
  Calls prog 73 #[.pointer (some ⟨hb,0,none⟩),.int .i64 n] W fun e w'=>e=.returned (.int .u64 ((x.bS+4096*n:Nat):Int))/\w'=W:=by
 obtain⟨c0,c2,c3,c4,c5,c6⟩:=H.c;have n4:=H.po.nums.2.2.2.1;have hbb:x.bS<=9223372036854775808:=by omega
 clear H;generalize x.bS=b at c2 n4 hbb ⊢;obtain⟨a,ha⟩:=xe (b+4096*n);rw[<-ha];have e1:IntKind.u64.wrap (n:Int)=n:=by rw[wrap_u64];omega
 have e2:IntKind.u64.wrap ((n:Int)*4096)=(n:Int)*4096:=by rw[wrap_u64];omega
 have e3:IntKind.u64.wrap ((b:Int)+(n:Int)*4096)=(a:Int):=by rw[wrap_u64];omega
 have e4:(b:Int)+(n:Int)*4096=(a:Int):=by omega
 clear n4;go_enter func73,ntmps73;go_wp2_with fail;go_ret;exact⟨eH (by omega),rfl⟩
theorem ZM(H:HW w W hb sb lw x t fr ls S s):
  Calls prog 44 #[.pointer (some ⟨hb,0,none⟩)] W fun e w'=>e=.returned (.int .u64 x.n)/\Kt nO W w':=by
 obtain⟨c0,c2,c3,c4,c5,c6⟩:=H.c;have n4:=H.po.nums.2.2.2.1;obtain⟨l0,l1,l2⟩:=H.po.pl.c;have SP:=aA (fun W' (k:Kt nO W W')=>lM (H.keep k).po.pl);have EN:=aA (fun W' (k:Kt nO W W')=>qA (H.keep k).po);obtain⟨b,hb2⟩:=xe (x.bS);obtain⟨en,hen⟩:=xe (x.bS+x.n);rw[<-hen] at EN;obtain⟨n,hn⟩:=xe (x.n);have hbb:b<=9223372036854775808:=by omega
 have e3:(en:Int)-(b:Int)=n:=by omega
 have hnb:n<=9223372036854775808:=by omega
 have heb:en<=9223372036854775808:=by omega
 rw[<-hb2] at c2;rw[<-hn];clear H n4 hb2 hen hn;have C5:=aA (fun W' (k:Kt nO W W')=>(k.cell id c5));have C2:=aA (fun W' (k:Kt nO W W')=>(k.cell id c2));go_enter func44,ntmps44;go_wp2_with fail;have c5':=fun y:KW W=>C5.out y.v y.k
 have c2':=fun y:KW W=>C2.out y.v y.k
 refine dM (by kernel_rfl) (by kernel_rfl) ?_;repeat (go_big_quiet_step (first|(go_at_call 38;exact Calls.kept_of ((SP.out _ (KW.k _)).mono fun e w' h=>⟨h.1,by rw[h.2];exact Kt.refl _ _⟩))|(go_at_call 88;exact Calls.kept_of (EN.out _ (KW.k _)))))
 refine wpQuiet_nil ?_;intro y;have D:=aA y.k;go_wp2_with fail;go_ret;exact⟨by simp,D.out⟩
end
def NF(x:Bx)(fr:Nat->List Nat)(S:Sb)(r:Nat):Prop:=(∃ k,k<8/\r=aE k/\S.pl k=[]/\∀ a,a<=x.o->fr a=[])\/(∃ k,k<=x.o/\r=4096*2 ^ k/\∀ a,k<=a->a<=x.o->fr a=[])
inductive Td(x:Bx)(t:Bt)(fr:Nat->List Nat)(ls:List (Nat×Nat))(S:Sb)(r:Nat)(d:Bool)(p:Nat)(b:Bool)(fr':Nat->List Nat)(ls':List (Nat×Nat))(S':Sb):Prop where
 | old (k g i:Nat) (l rr:List Nat) (hk:k<8) (hr:r=aE k) (hl:S.pl k=g :: l) (hf:S.fl g=i :: rr) (hp:p=aQ x g k i) (hb:b=false) (e1:fr'=fr) (e2:ls'=ls) (e3:S'=aP S g k rr)
 | new (k g:Nat) (hk:k<8) (hr:r=aE k) (hl:S.pl k=[]) (hp:p=aQ x g k 0) (nd:Ned x t fr d g b fr') (e2:ls'=ls ++ [(g,0)]) (e3:S'=aP (aW S g k) g k (List.range' 1 (aG k-1)))
 | here (k g j:Nat) (l:List Nat) (hk:k<=x.o) (hr:r=4096*2 ^ k) (hkj:k<=j) (hj:j<=x.o) (hz:∀ a,k<=a->a<j->fr a=[]) (hl:fr j=g :: l) (hp:p=ad x g) (hb:b=false) (e1:fr'=cL (cD fr j (M.dropL (fr j) g)) g j k) (e2:ls'=ls ++ [(g,k)]) (e3:S'=S)
 | grew (k:Nat) (hk:k<=x.o) (hr:r=4096*2 ^ k) (hz:∀ a,k<=a->a<=x.o->fr a=[]) (hp:p=ad x t.m.n) (hb:b=true) (e1:fr'=cL fr t.m.n x.o k) (e2:ls'=ls ++ [(t.m.n,k)]) (e3:S'=S)
structure Nx(w W W':World)(hb sb lw:Nat)(x:Bx)(t:Bt)(ls:List (Nat×Nat))(S:Sb)(s:Int)(x':Bx)(t':Bt)(fr':Nat->List Nat)(ls':List (Nat×Nat))(S':Sb):Prop where
 H:HW w W' hb sb lw x' t' fr' ls' S' s
 ch:Ch x t ls S x' t' ls' S'
 kp:Kt (cW x sb) W W'
 ns:∀ y,cW x' sb y->cW x sb y\/W.heap.size<=y
inductive Tq(w W:World)(hb sb lw:Nat)(x:Bx)(t:Bt)(fr:Nat->List Nat)(ls:List (Nat×Nat))(S:Sb)(s:Int)(r:Nat)(d:Bool)(p:Nat)(er:Int)(w':World):Prop where
 | no (hp:p=0) (he:er=2) (nf:NF x fr S r) (hd:d=true\/x.n=x.lim*x.R) (kp:Kt nO W w')
 | yes (x':Bx) (t':Bt) (fr':Nat->List Nat) (ls':List (Nat×Nat)) (S':Sb) (b:Bool) (he:er=0) (td:Td x t fr ls S r d p b fr' ls' S') (nx:Nx w W w' hb sb lw x t ls S s x' t' fr' ls' S') (hL:∀ a z,eC x' ls' S' a z↔eC x ls S a z\/(a=p/\z=r)) (hN:∀ z,¬eC x ls S p z) (hn:x'.n=(if b=true then x.n+x.R else x.n)) (hm:p%r=0) (hb1:b=true->NF x fr S r/\d=false/\x.n+x.R<=x.lim*x.R) (hb2:b=false->¬NF x fr S r)
abbrev pT(p:Nat)(g:Bool)(er:Int):Ending:=.returned (.tuple #[.int .u64 p,.bool g,.int .i64 er])
theorem oR{k j:Nat}(h:aE k=aE j):k=j:=by
 unfold aE at h;exact xD _ _ (Nat.eq_of_mul_eq_mul_left (show 0<16 by decide) h)
theorem sT{k j:Nat}(h : 4096*2 ^ k=4096*2 ^ j):k=j:=xD _ _ (Nat.eq_of_mul_eq_mul_left (show 0<4096 by decide) h)
theorem lO{k j:Nat}(hk:k<8):aE k≠4096*2 ^ j:=fun e=>by
 have:=(dU hk).2;have : 0<2 ^ j:=Nat.pow_pos (by decide);omega
theorem NF.cell{x fr S k}(hk:k<8):NF x fr S (aE k)↔S.pl k=[]/\∀ a,a<=x.o->fr a=[]:=by
 constructor
 ·rintro (⟨j,h1,h2,h3⟩|⟨j,h1,h2,h3⟩)
  ·obtain rfl:=oR h2;exact h3
  ·exact absurd h2 (lO hk)
 ·exact fun h=>.inl ⟨k,hk,rfl,h⟩
theorem NF.page{x:Bx}{fr S k}(hk:k<=x.o):NF x fr S (4096*2 ^ k)↔∀ a,k<=a->a<=x.o->fr a=[]:=by
 constructor
 ·rintro (⟨j,h1,h2,h3⟩|⟨j,h1,h2,h3⟩)
  ·exact absurd h2.symm (lO h1)
  ·obtain rfl:=sT h2;exact h3
 ·exact fun h=>.inr ⟨k,hk,rfl,h⟩
theorem yW{b k i p:Nat}(hk:k<8)(hb:b%4096=0):(b+4096*p+i*aE k)%aE k=0:=by
 have hc:=(dN hk).1;have h1:b=b/4096*(aG k*aE k):=by rw[hc];omega
 rw[h1,show 4096*p=p*(aG k*aE k)by rw[hc];omega,<-Nat.mul_assoc,<-Nat.mul_assoc,<-Nat.add_mul,<-Nat.add_mul];exact Nat.mul_mod_left _ _
section
variable {w W W':World} {hb sb lw:Nat} {x:Bx} {t:Bt} {fr:Nat->List Nat} {ls:List (Nat×Nat)} {S:Sb} {s:Int}
theorem HW.take_small(H:HW w W hb sb lw x t fr ls S s){k:Nat}(hk:k<8)(d:Bool):
  Calls prog 128 #[.pointer (some ⟨sb,0,none⟩),.int .i64 k,.bool d] W fun e w'=>∃ p g er,e=pT p g er/\Tq w W hb sb lw x t fr ls S s (aE k) d p er w':=by
 obtain⟨h,o⟩:=H.so;have hz:=dU hk;refine(RF o (k:Int) d).mono fun e w' hT=>?_
 cases hT with
 | bad hc=>exact absurd ⟨by omega,by omega⟩ hc
 | stuck k2 hk2 hc hl hz2 hd he kp=>
  obtain rfl:k=k2:=by omega
  exact⟨0,false,2,he,.no rfl rfl ((NF.cell hk).2 ⟨hl,hz2⟩) hd kp⟩
 | old k2 p i l r hk2 hc hl hf he so kp=>
  obtain rfl:k=k2:=by omega
  obtain⟨P,m',h',so',hn⟩:=so;have hcp:=((o.si.pm k hk p).1 (by rw[hl];exact List.mem_cons_self)).1;have hL:∀ a z,eC { x with P:=P } ls (aP S p k r) a z↔eC x ls S a z\/(a=aQ x p k i/\z=aE k):=fun a z=>by
   rw[tG (x:=x) (x':={ x with P:=P }) rfl];exact IG o hcp hf a z
  have ch:Ch x t ls S { x with P:=P } { t with m:=m' } ls (aP S p k r):=⟨rfl,rfl,rfl,rfl,fun j _ _=>rfl⟩;refine⟨aQ x p k i,false,0,he,.yes _ _ _ _ _ false rfl (.old k p i l r hk rfl hl hf rfl rfl rfl rfl rfl) ⟨H.call so' (gF.old o H.lv hk hl hf) ch kp,ch,kp,fun y e=>.inl e⟩ hL (o.free_no hcp (by rw[hf];exact List.mem_cons_self)) rfl (yW hk o.bm) (fun e=>by cases e) (fun _ e=>?_)⟩;have:=((NF.cell hk).1 e).1;rw[hl] at this
  cases this
 | new k2 p b hk2 hc hl he so hcp nl kp=>
  obtain rfl:k=k2:=by omega
  obtain⟨x',t',fr',h',hN,so',sm,hfb,nb,htn,hxn'⟩:=so;have hL:∀ a z,eC x' (ls ++ [(p,0)]) (aP (aW S p k) p k (List.range' 1 (aG k-1))) a z↔eC x ls S a z\/(a=aQ x p k 0/\z=aE k):=fun a z=>by
   rw[tG (x:=x) (x':=x') sm.bS];exact IF hk hcp nl a z
  have hno:∀ z,¬eC x ls S (aQ x p k 0) z:=fun z e=>by
   have h0 : 0<z:=(o.span e).1;obtain⟨_,q,j,q1,q2,q3⟩:=o.span e;have hz2 : 0<2 ^ j:=Nat.pow_pos (by decide);unfold aQ at q2 q3;unfold ad at q2 q3;rcases so'.apart (List.mem_append_left _ q1) (List.mem_append_right ls (List.mem_singleton.2 rfl))with ⟨e3,e4⟩|e3|e3
   ·subst e3;exact nl _ q1
   ·omega
   ·rw[Nat.pow_zero] at e3;omega
  have ch:Ch x t ls S x' t' (ls ++ [(p,0)]) (aP (aW S p k) p k (List.range' 1 (aG k-1))):=⟨sm.bS,sm.R,sm.lim,sm.o,fun j h1 _=>hfb j (o.byte h1)⟩;refine⟨aQ x p k 0,b,0,he,.yes _ _ _ _ _ b rfl (.new k p hk rfl hl rfl hN rfl rfl) ⟨H.call so' (H.lv.new hk) ch kp,ch,kp,fun y e=>e.elim (fun e=>(nb y e).imp (fun e=>.inl e) id) (fun e=>.inl (.inr e))⟩ hL hno hxn' (yW hk o.bm) (fun e=>?_) (fun e hf=>?_)⟩
  ·cases hN with
   | here j l2 hj hz2 hp hb=>rw[hb] at e;cases e
   | grew hz2 hd hle hb hp=>exact⟨(NF.cell hk).2 ⟨hl,hz2⟩,hd,hle⟩
  ·cases hN with
   | here j l2 hj hz2 hp hb=>
    have:=((NF.cell hk).1 hf).2 j hj;rw[hp] at this
    cases this
   | grew hz2 hd hle hb hp=>rw[hb] at e;cases e
theorem HW.need_big(H:HW w W hb sb lw x t fr ls S s){k:Nat}(hk:k<=x.o)(d:Bool):
  Calls prog 130 #[.pointer (some ⟨lw,0,none⟩),.int .i64 k,.bool d] W fun e w'=>∃ p g er,e=pT p g er/\Tq w W hb sb lw x t fr ls S s (4096*2 ^ k) d p er w':=by
 obtain⟨h,o⟩:=H.so;have hz : 0<2 ^ k:=Nat.pow_pos (by decide);have key:∀ (p:Nat) (b:Bool) (x':Bx) (t':Bt) (fr':Nat->List Nat) (e:Ending) (w':World),e=.returned (.tuple #[.int .u64 ((ad x p:Nat):Int),.bool b,.int .i64 0])->PO w w' lw x' t' fr' (ls ++ [(p,k)])->Sm x x'->BK t t' ls (ls ++ [(p,k)])->Nb W x x'->Kt (aD x) W w'->S.c p=none->(∀ i,(p,i) ∉ ls)->x'.n=(if b=true then x.n + x.R else x.n)->Td x t fr ls S (4096*2 ^ k) d (ad x p) b fr' (ls ++ [(p,k)]) S->(b=true->NF x fr S (4096*2 ^ k)/\d=false/\x.n + x.R<=x.lim*x.R)->(b=false->¬NF x fr S (4096*2 ^ k))->∃ p g er,e=pT p g er/\Tq w W hb sb lw x t fr ls S s (4096*2 ^ k) d p er w':=by
  rintro p b x' t' fr' e w' he po' sm bk nb kp hcp nl hxn td h1 h2;have o':=o.pool po' sm bk (fun a c ha=>List.mem_append_left _ (o.mem ha).1) kp;have hL:∀ a z,eC x' (ls ++ [(p,k)]) S a z↔eC x ls S a z\/(a=ad x p/\z=4096*2 ^ k):=fun a z=>by
   rw[tG (x:=x) (x':=x') sm.bS];exact RX hcp a z
  have hal:p%2 ^ k=0:=(o'.al (List.mem_append_right ls (List.mem_singleton.2 rfl))).2.1;have hno:∀ z,¬eC x ls S (ad x p) z:=fun z e=>by
   have h0 : 0<z:=(o.span e).1;obtain⟨_,q,j,q1,q2,q3⟩:=o.span e;have hz2 : 0<2 ^ j:=Nat.pow_pos (by decide);unfold ad at q2 q3;rcases o'.apart (List.mem_append_left _ q1) (List.mem_append_right ls (List.mem_singleton.2 rfl))with ⟨e3,e4⟩|e3|e3
   ·subst e3;exact nl _ q1
   ·omega
   ·omega
  have ch:Ch x t ls S x' t' (ls ++ [(p,k)]) S:=⟨sm.bS,sm.R,sm.lim,sm.o,fun j h1 h2=>bk j (o.byte h1) (o'.byte h2)⟩;have kp2:Kt (cW x sb) W w':=kp.mono (fun _ _ e=>.inl e);refine⟨ad x p,b,0,he,.yes x' t' fr' _ S b rfl td ⟨H.call o' H.lv ch kp2,ch,kp2,fun y e=>e.elim (fun e=>(nb y e).imp (fun e=>.inl e) id) (fun e=>.inl (.inr e))⟩ hL hno hxn ?_ h1 h2⟩;have hR:=o.sw.pl.bd.hR;have h1 : 4096*2 ^ k ∣ x.bS:=Nat.dvd_trans (by rw[hR];exact Nat.mul_dvd_mul_left _ (Nat.pow_dvd_pow 2 hk)) (Nat.dvd_of_mod_eq_zero H.br);have h2 : 4096*2 ^ k ∣ 4096*p:=Nat.mul_dvd_mul_left _ (Nat.dvd_of_mod_eq_zero hal);exact Nat.mod_eq_zero_of_dvd (Nat.dvd_add h1 h2)
 refine(K.Need_any o.po (k:Int) d).mono fun e w' hN=>?_
 cases hN with
 | bad hb he kp=>
  exfalso
  rw[CW hk] at hb
  cases hb
 | stuck i hi hi2 hz2 hd he kp=>
  obtain rfl:k=i:=by omega
  exact⟨0,false,2,he,.no rfl rfl ((NF.page hk).2 hz2) hd kp⟩
 | here i j p l hi hi2 hij hj hz2 hp he hs kp=>
  obtain rfl:k=i:=by omega
  obtain⟨t',po',hn,bk⟩:=hs;have hcp:S.c p=none:=by
   have h1:=o.sf.pfree hj (show p∈fr j by rw[hp];exact List.mem_cons_self)
   cases e:S.c p with
   | none=>rfl
   | some c=>
    rw[o.si.eP,jB e] at h1
    cases h1
  refine key p false x t' _ e w' he po' (Sm.refl x) bk (fun y e=>.inl e) kp hcp (fun i hm2=>?_) rfl (.here k p j l hk rfl hij hj hz2 hp rfl rfl rfl rfl rfl) (fun e=>by cases e) (fun _ e=>?_)
  ·have h0:=o.sf.apart0 hj (show p∈fr j by rw[hp];exact List.mem_cons_self) hm2;have hz1 : 0<2 ^ i:=Nat.pow_pos (by decide);have hz2 : 0<2 ^ j:=Nat.pow_pos (by decide);omega
  ·have:=(NF.page hk).1 e j hij hj;rw[hp] at this
   cases this
 | grew i hi hi2 hz2 hd hle he hs kp=>
  obtain rfl:k=i:=by omega
  obtain⟨x',t',po',sm,hn,htn,nb,bk⟩:=hs;have hcp:S.c t.m.n=none:=by
   have h1:=o.sf.pout (Nat.le_refl t.m.n)
   cases e:S.c t.m.n with
   | none=>rfl
   | some c=>
    rw[o.si.eP,jB e] at h1
    cases h1
  refine key t.m.n true x' t' _ e w' he po' sm bk nb kp hcp (fun i hm2=>?_) (by rw[if_pos rfl];exact hn) (.grew k hk rfl hz2 rfl rfl rfl rfl rfl) (fun _=>⟨(NF.page hk).2 hz2,hd,hle⟩) (fun e=>by cases e);have:=(o.al hm2).2.2;have hz1 : 0<2 ^ i:=Nat.pow_pos (by decide);omega
end
end Go.Proofs.YtkfmheelhinjdaaGreatDoor
