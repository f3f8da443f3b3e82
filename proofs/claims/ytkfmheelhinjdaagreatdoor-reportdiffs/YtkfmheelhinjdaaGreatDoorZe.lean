import Derived.Test.YtkfmheelhinjdaaGreatDoorXb
import Derived.Test.YtkfmheelhinjdaaGreatDoorXa
set_option maxRecDepth 1000000
set_option maxHeartbeats 80000000
namespace Go.Proofs.YtkfmheelhinjdaaGreatDoor
open _root_.Go.Proofs.Tryz
open Go.RowKit
set_option linter.unusedVariables false
def dE(c:Int):Pg:={ aN 4 0 with cl:=c }
theorem PgOk.slab(c:Nat)(h:c<8):PgOk (dE c):=⟨by show(0:Int)<=0;decide,by show(0:Int)<=8;decide,by show(0:Int)<=c;omega,by show(c:Int)<=7;omega,by show 0<_;decide,by show 0<_;decide,by show 0<_;decide,by show 0<_;decide⟩
def iX(m:Mp)(i c:Int):Mp:=if aC m.n i=true/\0<=c/\c<=7 then { m with pg:=aJ m.pg i.toNat (dE c) } else m
def oD(m:Mp)(i c:Int):Int:=if aC m.n i=true/\0<=c/\c<=7 then 0 else 1
theorem LP(m:Mp)(i c:Int):(iX m i c).n=m.n:=by unfold iX;split <;> rfl
theorem LI(b:Nat)(B:Bs)(m:Mp)(k c:Nat)(w:World)(h:MpA w b B m)(hk:k<m.n)(hc:c<8):
  Calls prog 194 #[.pointer (some ⟨b,0,none⟩),.int .i64 k,.int .i64 c] w fun e w'=>e=.returned (.int .i64 0)/\MpA w' b B { m with pg:=aJ m.pg k (dE c) }/\Kt (aM b B m.o) w w':=by
 have HM:=aA h;have HI:=aA (dI hk);have HK:=aA hk;have hc0:¬(c:Int)<0:=by omega
 have hc1:¬ 8<=(c:Int):=by omega
 have hki:(k:Int)<m.n:=by omega
 obtain⟨g,hg,hr⟩:=h.has_row (by omega);clear h hr hk;go_enter func194,ntmps194;go_wp2_with fail;refine(eR b B m k _ HM.out).mono ?_;rintro e w1 ⟨rfl,rfl⟩;rw[HI.out];go_wp2_with fail;refine(pL 4 0 w1).mono ?_;rintro e w2 ⟨rfl,hw2⟩;have K2:=aA (show Kt nO w1 w2 by rw[hw2];exact(Kt.refl nO w1).alloc _);have Z2:=aA (show w2.heap.size=w1.heap.size+1 by rw[hw2];simp);clear hw2;go_wp2_with fail;obtain⟨W,hW⟩:=xe (w2.alloc (.cells #[.int .i64 (aN 4 0).kd,.int .i64 (aN 4 0).od,.int .i64 c,.int .i64 (aN 4 0).lv,.int .i64 (aN 4 0).nx,.int .i64 (aN 4 0).pv,.int .i64 (aN 4 0).fs,.int .u64 ((aN 4 0).b0:Int),.int .u64 ((aN 4 0).b1:Int),.int .u64 ((aN 4 0).b2:Int),.int .u64 ((aN 4 0).b3:Int)] 99));rw[<-hW];have KW:=aA (show Kt nO w1 W by rw[hW];exact K2.out.alloc _);have XW:=aA (show W.heap[w2.heap.size]?=some (aI (dE c))by rw[hW];exact nH _ _);have MW:=aA (HM.out.keep KW.out);clear hW;obtain⟨x0,x1,x2,x3,x4,x5,x6,x7,x8,x9,x10⟩:=kS XW.out;have c1:=MW.out.c1 hg;have hr:=MW.out.row;rw[hg] at hr;have RW:=aA (show bH W g m.n m.pg from hr);obtain⟨d0,d1,d2,d3,d4,d5,d6,d7,d8,d9,d10⟩:=RW.out.cell k HK.out;have z:=aU.froz RW.out;have HG:=aA hg;clear hr hg;go_region
 all_goals
  go_wp2_with fail;go_ret;have RP:=(RW.out.put k HK.out (dE c));have OKP:∀ i,i<m.n->PgOk (aJ m.pg k (dE c) i):=fun i hi=>by
   unfold aJ;split
   ·exact PgOk.slab c (by omega)
   ·exact MW.out.ok i hi
  have KP:=pK W g k (dE c);exact⟨rfl,(MW.out.pages HG.out KP RP OKP).keep (Kt.refl nO _).drew,(KW.out.trans KP (fun _ _ x=>x.elim) (fun x _ e=>.inr (.inl (e▸HG.out)))).drew⟩
theorem PR(k o:Nat)(ho:o<=8)(hk:k<1024):wrap64 ((k:Int)/2 ^ o*2 ^ o)=((k/2 ^ o*2 ^ o:Nat):Int):=by
 have h1:k/2 ^ o*2 ^ o<=k:=Nat.div_mul_le_self _ _;have h2:((k:Int)/2 ^ o*2 ^ o)=((k/2 ^ o*2 ^ o:Nat):Int):=by simp
 rw[h2];generalize k/2 ^ o*2 ^ o=z at *;unfold wrap64;omega
def kR(m:Mp)(i:Int):Int:=if aC m.n i=true then ((i.toNat/2 ^ (m.pg i.toNat).od.toNat*2 ^ (m.pg i.toNat).od.toNat:Nat):Int) else -1
theorem PN(b:Nat)(B:Bs)(m:Mp)(i:Int)(w:World)(h:MpA w b B m)(hi:aC m.n i=false):
  Calls prog 299 #[.pointer (some ⟨b,0,none⟩),.int .i64 i] w fun e w'=>e=.returned (.int .i64 (-1))/\w'=w:=by
 have HM:=aA h;have HI:=aA hi;clear h hi;go_enter func299,ntmps299;go_wp2_with fail;refine(eR b B m i _ HM.out).mono ?_;rintro e w1 ⟨rfl,rfl⟩;rw[HI.out];go_wp2_with fail;go_ret;exact⟨rfl,rfl⟩
theorem JT(b:Nat)(B:Bs)(m:Mp)(k o:Nat)(w:World)(h:MpA w b B m)(hk:k<m.n)(ho:(m.pg k).od=o):
  Calls prog 299 #[.pointer (some ⟨b,0,none⟩),.int .i64 k] w fun e w'=>e=.returned (.int .i64 ((k/2 ^ o*2 ^ o:Nat):Int))/\w'=w:=by
 have HM:=aA h;have HI:=aA (dI hk);have ho8:o<=8:=by have:=(h.ok k hk).o8;omega
 have hkn:k<1024:=by have:=h.n1;omega
 obtain⟨g,hg,hr⟩:=h.has_row (by omega);have d1:=(hr.cell k hk).2.1;rw[ho] at d1;have c1:=h.c1 hg;have hki:(k:Int)<m.n:=by omega
 have HE:=aA (PR k o ho8 hkn);clear h hr hg;go_enter func299,ntmps299;go_wp2_with fail;refine(eR b B m k _ HM.out).mono ?_;rintro e w1 ⟨rfl,rfl⟩;rw[HI.out];go_wp2_with fail;go_ret;exact⟨eJ HE.out,rfl⟩
theorem bH.f6{w g n pg}(h:bH w g n pg)(i:Nat)(hi:i<n)(x:Int):bH (w.setCell ⟨g,i*11+6,none⟩ (.int .i64 x)) g n (aJ pg i { pg i with fs:=x }):=by
 have:=aU.set h i 6 hi (by decide) (.int .i64 x);refine aU.congr this (fun a ha b hb=>qK a b hb (fun j hj=>?_) (fun e=>?_))
 ·revert j
  apply jR <;> simp[kM,Pg.fld]
 ·simp[kM,e]
theorem VV(b:Nat)(B:Bs)(m:Mp)(i c:Int)(w:World)(h:MpA w b B m)(hi:aC m.n i=false):
  Calls prog 196 #[.pointer (some ⟨b,0,none⟩),.int .i64 i,.int .i64 c] w fun e w'=>e=.returned (.int .i64 1)/\w'=w:=by
 have HM:=aA h;have HI:=aA hi;clear h hi;go_enter func196,ntmps196;go_wp2_with fail;refine(tC b B m i _ HM.out HI.out).mono ?_;rintro e w1 ⟨rfl,rfl⟩;go_wp2_with fail;go_ret;exact⟨rfl,rfl⟩
theorem XA(b:Nat)(B:Bs)(m:Mp)(k:Nat)(c:Int)(w:World)(h:MpA w b B m)(hk:k<m.n)(hkd:(m.pg k).kd≠4):
  Calls prog 196 #[.pointer (some ⟨b,0,none⟩),.int .i64 k,.int .i64 c] w fun e w'=>e=.returned (.int .i64 1)/\w'=w:=by
 have HM:=aA h;obtain⟨g,hg,hr⟩:=h.has_row (by omega);have S:=aA (kA b B m g k w h hg hk);rw[if_neg hkd] at S;clear h hr hg;go_enter func196,ntmps196;go_wp2_with fail;refine S.out.mono ?_;rintro e w1 ⟨rfl,rfl⟩;go_wp2_with fail;go_ret;exact⟨rfl,rfl⟩
theorem WZ(b:Nat)(B:Bs)(m:Mp)(k:Nat)(c:Int)(w:World)(h:MpA w b B m)(hk:k<m.n)(hkd:(m.pg k).kd=4)(hm1:c ≠ -1)(hc:aC (eQ (m.pg k).cl) c=false):
  Calls prog 196 #[.pointer (some ⟨b,0,none⟩),.int .i64 k,.int .i64 c] w fun e w'=>e=.returned (.int .i64 1)/\w'=w:=by
 have HM:=aA h;obtain⟨g,hg,hr⟩:=h.has_row (by omega);have S:=aA (kA b B m g k w h hg hk);rw[if_pos hkd] at S;obtain⟨d0,d1,d2,d3,d4,d5,d6,d7,d8,d9,d10⟩:=hr.cell k hk;have HC:=aA (pN g (k*11) (m.pg k).cl (h.ok k hk).c0 (h.ok k hk).c7 c w d2);rw[hc] at HC;clear h hr hg;go_enter func196,ntmps196;go_wp2_with fail;refine S.out.mono ?_;rintro e w1 ⟨rfl,rfl⟩;go_wp2_with fail;refine HC.out.mono ?_;rintro e w1 ⟨rfl,rfl⟩;go_wp2_with fail;go_ret;exact⟨rfl,rfl⟩
theorem PM(b:Nat)(B:Bs)(m:Mp)(k:Nat)(c:Int)(w:World)(h:MpA w b B m)(hk:k<m.n)(hkd:(m.pg k).kd=4)(hc:c = -1\/aC (eQ (m.pg k).cl) c=true):
  Calls prog 196 #[.pointer (some ⟨b,0,none⟩),.int .i64 k,.int .i64 c] w fun e w'=>e=.returned (.int .i64 0)/\MpA w' b B { m with pg:=aJ m.pg k { m.pg k with fs:=c } }/\Kt (aM b B m.o) w w':=by
 have HM:=aA h;obtain⟨g,hg,hr⟩:=h.has_row (by omega);have S:=aA (kA b B m g k w h hg hk);rw[if_pos hkd] at S;obtain⟨d0,d1,d2,d3,d4,d5,d6,d7,d8,d9,d10⟩:=hr.cell k hk;have HC:=aA (pN g (k*11) (m.pg k).cl (h.ok k hk).c0 (h.ok k hk).c7 c w d2);have z:=aU.froz hr;have FIN:=aA (show MpA (w.setCell ⟨g,k*11+6,none⟩ (.int .i64 c)) b B { m with pg:=aJ m.pg k { m.pg k with fs:=c } }/\Kt (aM b B m.o) w (w.setCell ⟨g,k*11+6,none⟩ (.int .i64 c))from
  ⟨h.pages hg ((Kt.refl (fun x=>x=g) w).setCell (p:=⟨g,_,none⟩) rfl _) (hr.f6 k hk c) (fun i hi=>by
   unfold aJ;split
   ·exact⟨(h.ok k hk).o0,(h.ok k hk).o8,(h.ok k hk).c0,(h.ok k hk).c7,(h.ok k hk).b0,(h.ok k hk).b1,(h.ok k hk).b2,(h.ok k hk).b3⟩
   ·exact h.ok i hi),(Kt.refl (aM b B m.o) w).setCell (p:=⟨g,_,none⟩) (.inr (.inl hg)) _⟩)
 clear h hr hg;by_cases h1:c = -1
 ·subst h1;clear hc;go_enter func196,ntmps196;go_wp2_with fail;refine S.out.mono ?_;rintro e w1 ⟨rfl,rfl⟩;go_wp2_with fail;go_ret;exact⟨rfl,FIN.out⟩
 ·rw[hc.resolve_left h1] at HC;clear hc;go_enter func196,ntmps196;go_wp2_with fail;refine S.out.mono ?_;rintro e w1 ⟨rfl,rfl⟩;go_wp2_with fail;refine HC.out.mono ?_;rintro e w1 ⟨rfl,rfl⟩;go_wp2_with fail;go_ret;exact⟨rfl,FIN.out⟩
def kE(m:Mp)(p o k:Int):Bool:=decide ((k=0\/k=2)/\0<=o/\o<=m.o) && (aC m.n p && decide (p%2 ^ o.toNat=0))
theorem FS(b:Nat)(B:Bs)(m:Mp)(p o k:Int)(w:World)(h:MpA w b B m)(hc:¬((k=0\/k=2)/\0<=o/\o<=m.o)):
  Calls prog 260 #[.pointer (some ⟨b,0,none⟩),.int .i64 p,.int .i64 o,.int .i64 k] w fun e w'=>e=.returned (.int .i64 1)/\w'=w:=by
 have c0:=h.c0;clear h;by_cases h0:k=0
 ·subst h0;by_cases h1:o<0
  ·clear hc;go_enter func260,ntmps260;go_wp2_with fail;go_ret;exact⟨rfl,rfl⟩
  ·have h2:(m.o:Int)<o:=(by omega);clear hc;go_enter func260,ntmps260;go_wp2_with fail;go_ret;exact⟨rfl,rfl⟩
 ·by_cases h2k:k=2
  ·subst h2k;by_cases h1:o<0
   ·clear hc;go_enter func260,ntmps260;go_wp2_with fail;go_ret;exact⟨rfl,rfl⟩
   ·have h2:(m.o:Int)<o:=(by omega);clear hc;go_enter func260,ntmps260;go_wp2_with fail;go_ret;exact⟨rfl,rfl⟩
  ·clear hc;go_enter func260,ntmps260;go_wp2_with fail;go_ret;exact⟨rfl,rfl⟩
theorem FQ(b:Nat)(B:Bs)(m:Mp)(p:Int)(o k:Nat)(w:World)(h:MpA w b B m)(hk:k=0\/k=2)(ho:o<=m.o)(hp:aC m.n p=false):
  Calls prog 260 #[.pointer (some ⟨b,0,none⟩),.int .i64 p,.int .i64 o,.int .i64 k] w fun e w'=>e=.returned (.int .i64 1)/\w'=w:=by
 have c0:=h.c0;have HM:=aA h;have HP:=aA hp;have hoi:¬(m.o:Int)<o:=by omega
 have ho0:¬(o:Int)<0:=by omega
 clear h hp;rcases hk with rfl|rfl
 all_goals
  go_enter func260,ntmps260;go_wp2_with fail;refine(eR b B m p _ HM.out).mono ?_;rintro e w1 ⟨rfl,rfl⟩;rw[HP.out];go_wp2_with fail;go_ret;exact⟨rfl,rfl⟩
theorem FP(b:Nat)(B:Bs)(m:Mp)(p o k:Nat)(w:World)(h:MpA w b B m)(hk:k=0\/k=2)(ho:o<=m.o)(hp:p<m.n)(hm:p%2 ^ o≠0):
  Calls prog 260 #[.pointer (some ⟨b,0,none⟩),.int .i64 p,.int .i64 o,.int .i64 k] w fun e w'=>e=.returned (.int .i64 1)/\w'=w:=by
 have c0:=h.c0;have HM:=aA h;have HP:=aA (dI hp);have ho8:o<=8:=by have:=h.o8;omega
 have hn1:=h.n1;have hoi:¬(m.o:Int)<o:=by omega
 have ho0:¬(o:Int)<0:=by omega
 obtain⟨z,hz⟩:=xe (2 ^ o);have hzi:(2:Int) ^ o=(z:Int):=by rw[hz];simp
 have hz1 : 1<=z:=by rw[hz];exact qH o
 have hz2:z<=256:=by rw[hz];exact Nat.pow_le_pow_right (n:=2) (by decide) ho8
 rw[<-hz] at hm;have hmi:((p:Int)%(z:Int) == 0)=false:=beq_eq_false_iff_ne.2 (by omega);have hmj:((p:Int)%(z:Int) != 0)=true:=by simp only[bne,hmi,Bool.not_false]
 clear h hp hz hm;rcases hk with rfl|rfl
 all_goals
  go_enter func260,ntmps260;go_wp2_with fail;refine(eR b B m p _ HM.out).mono ?_;rintro e w1 ⟨rfl,rfl⟩;rw[HP.out];go_wp2_with fail;go_ret;exact⟨rfl,rfl⟩
def cM(m:Mp)(p o k:Int):Mp:=if kE m p o k=true then { m with pg:=eV m.pg p.toNat o.toNat k } else m
def gS(m:Mp)(p o k:Int):Int:=if kE m p o k=true then 0 else 1
theorem QD(b:Nat)(B:Bs)(m:Mp)(p o k:Int)(w:World)(h:MpA w b B m):
  Calls prog 260 #[.pointer (some ⟨b,0,none⟩),.int .i64 p,.int .i64 o,.int .i64 k] w fun e w'=>e=.returned (.int .i64 (gS m p o k))/\MpA w' b B (cM m p o k)/\Kt (aM b B m.o) w w':=by
 have no:∀ {E:Ending} {w':World},kE m p o k=false->E=.returned (.int .i64 1)/\w'=w->E=.returned (.int .i64 (gS m p o k))/\MpA w' b B (cM m p o k)/\Kt (aM b B m.o) w w':=by
  rintro E w' hc ⟨rfl,rfl⟩;rw[show gS m p o k=1 by simp[gS,hc],show cM m p o k=m by simp[cM,hc]];exact⟨rfl,h,Kt.refl _ _⟩
 by_cases h1:(k=0\/k=2)/\0<=o/\o<=m.o
 ·obtain⟨o',rfl⟩:=Int.eq_ofNat_of_zero_le h1.2.1;obtain⟨k',rfl⟩:=Int.eq_ofNat_of_zero_le (show 0<=k by omega);have ho:o'<=m.o:=by omega
  have hk:k'=0\/k'=2:=by omega
  cases h2:aC m.n p with
  | false=>exact(FQ b B m p o' k' w h hk ho h2).mono (fun _ _=>no (by simp[kE,h2]))
  | true=>
   obtain⟨q,rfl,hq⟩:=gM h2;have e1:((q:Int)%2 ^ (o':Int).toNat=0)↔q%2 ^ o'=0:=by
    have:((q:Int)%2 ^ (o':Int).toNat)=((q%2 ^ o':Nat):Int):=by simp
    rw[this];omega
   by_cases h3:q%2 ^ o'=0
   ·have hc:kE m (q:Int) (o':Int) (k':Int)=true:=by
     unfold kE;rw[decide_eq_true h1,h2,decide_eq_true (e1.2 h3)];rfl
    rw[show gS m (q:Int) (o':Int) (k':Int)=0 by simp[gS,hc],show cM m (q:Int) (o':Int) (k':Int)={ m with pg:=eV m.pg q o' k' } by simp[cM,hc]];exact wO b B m q o' k' w h hq ho h3 hk
   ·exact(FP b B m q o' k' w h hk ho hq h3).mono (fun _ _=>no (by
     unfold kE;rw[show decide ((q:Int)%2 ^ (o':Int).toNat=0)=false from decide_eq_false (fun e=>h3 (e1.1 e))];simp))
 ·exact(FS b B m p o k w h h1).mono (fun _ _=>no (by
   unfold kE;rw[decide_eq_false h1];rfl))
theorem dL.kept{w w1 w2:World}{b:Nat}{B B':Bs}{o:Nat}(k:Kt (aM b B o) w w1)(f:dL w b B B' o)(k2:Kt (aM b B' o) w1 w2):Kt (aM b B o) w w2:=
 k.trans k2 (fun _ _ x=>x) (fun x hx e=>(f x e).resolve_right (by omega))
def cG(m:Mp):Mp:=if 1024<m.n+2 ^ m.o then m else { iK m (m.n+2 ^ m.o)with pg:=eV (iK m (m.n+2 ^ m.o)).pg m.n m.o 2 }
theorem WO(b:Nat)(B:Bs)(m:Mp)(w:World)(h:MpA w b B m)(hf : 1024<m.n+2 ^ m.o):
  Calls prog 210 #[.pointer (some ⟨b,0,none⟩)] w fun e w'=>e=.returned (.tuple #[])/\w'=w:=by
 obtain⟨cq,c0,c1,c2⟩:=h.cb;have ho8:=h.o8;have hn1:=h.n1;obtain⟨z,hz⟩:=xe (2 ^ m.o);have hzi:(2:Int) ^ m.o=(z:Int):=by rw[hz];simp
 have hz2:z<=256:=by rw[hz];exact Nat.pow_le_pow_right (n:=2) (by decide) ho8
 rw[<-hz] at hf;have hfi:(1024:Int)<(m.n:Int)+z:=by omega
 clear h hz;go_enter func210,ntmps210;go_wp2_with fail;exact⟨rfl,.tuple #[],by simp[results,results210,go_sem],rfl,rfl⟩
theorem JC{n o:Nat}(h:∃ r,n=r*2 ^ o):∃ r,n+2 ^ o=r*2 ^ o:=by
 obtain⟨r,hr⟩:=h;exact⟨r+1,by rw[hr,Nat.add_mul,Nat.one_mul]⟩
theorem JB{n o:Nat}(h:∃ r,n=r*2 ^ o):n%2 ^ o=0:=by
 obtain⟨r,hr⟩:=h;rw[hr];exact Nat.mul_mod_left _ _
theorem QC(b:Nat)(B:Bs)(m:Mp)(w:World)(h:MpA w b B m)(hf:¬ 1024<m.n+2 ^ m.o):
  Calls prog 210 #[.pointer (some ⟨b,0,none⟩)] w fun e w'=>e=.returned (.tuple #[])/\∃ B',MpA w' b B' (cG m)/\Kt (aM b B m.o) w w'/\dL w b B B' m.o:=by
 rw[show cG m={ iK m (m.n+2 ^ m.o)with pg:=eV (iK m (m.n+2 ^ m.o)).pg m.n m.o 2 } by simp only[cG,if_neg hf]];obtain⟨cq,c0,c1,c2⟩:=h.cb;have ho8:=h.o8;have hn1:=h.n1;have RZ:=aA (ZY b B m (m.n+2 ^ m.o) (by omega) (JC h.dv) w h);have RN:=aA (fun w1 B1 (h1:MpA w1 b B1 (iK m (m.n+2 ^ m.o)))=>wO b B1 (iK m (m.n+2 ^ m.o)) m.n m.o 2 w1 h1 (by show m.n<m.n+2 ^ m.o;have:=qH m.o;omega) (Nat.le_refl _) (JB h.dv) (.inr rfl));obtain⟨z,hz⟩:=xe (2 ^ m.o);have hzi:(2:Int) ^ m.o=(z:Int):=by rw[hz];simp
 have hz2:z<=256:=by rw[hz];exact Nat.pow_le_pow_right (n:=2) (by decide) ho8
 rw[<-hz] at hf RZ RN ⊢;have hfi:¬(1024:Int)<(m.n:Int)+z:=by omega
 have hcast:((m.n+z:Nat):Int)=(m.n:Int)+z:=by omega
 rw[hcast] at RZ;have HOM:=aA (show(iK m (m.n+z)).o=m.o from rfl);generalize iK m (m.n+z)=m2 at *;clear h hz hcast;go_enter func210,ntmps210;go_wp2_with fail;refine RZ.out.mono ?_;rintro e w1 ⟨rfl,B1,hM1,hK1,hF1⟩;have M1:=aA hM1;have K1:=aA hK1;have F1:=aA hF1;have c0:=hM1.c0;rw[HOM.out] at c0;clear hM1 hK1 hF1;go_wp2_with fail;refine(RN.out w1 B1 M1.out).mono ?_;rintro e w2 ⟨rfl,hM2,hK2⟩;have M2:=aA hM2;have K2:=aA hK2;rw[HOM.out] at K2;clear hM2 hK2;go_wp2_with fail;go_end0
 exact⟨rfl,B1,M2.out,dL.kept K1.out F1.out K2.out,F1.out⟩
theorem dL.refl(w:World)(b:Nat)(B:Bs)(o:Nat):dL w b B B o:=fun _ h=>.inl h
theorem WB(b:Nat)(B:Bs)(m:Mp)(w:World)(h:MpA w b B m):
  Calls prog 210 #[.pointer (some ⟨b,0,none⟩)] w fun e w'=>e=.returned (.tuple #[])/\∃ B',MpA w' b B' (cG m)/\Kt (aM b B m.o) w w'/\dL w b B B' m.o:=by
 by_cases hf : 1024<m.n+2 ^ m.o
 ·refine(WO b B m w h hf).mono ?_;rintro e w' ⟨rfl,rfl⟩;rw[show cG m=m by simp only[cG,if_pos hf]];exact⟨rfl,B,h,Kt.refl _ _,dL.refl _ _ _ _⟩
 ·exact QC b B m w h hf
def fE(w w':World)(b:Nat)(B:Bs)(o:Nat)(m':Mp):Prop:=MpA w' b B m'/\Kt (aM b B o) w w'
theorem fE.same{w w' b B m}(h:MpA w b B m)(k:Kt nO w w'):fE w w' b B m.o m:=⟨h.keep k,k.mono (fun _ _ x=>x.elim)⟩
theorem fE.mk{w w' b B o m'}(h:MpA w' b B m')(k:Kt (aM b B o) w w'):fE w w' b B o m':=⟨h,k⟩
theorem EC(b:Nat)(B:Bs)(m:Mp)(i c:Int)(w:World)(h:MpA w b B m)(hc:¬(aC m.n i=true/\0<=c/\c<=7)):
  Calls prog 194 #[.pointer (some ⟨b,0,none⟩),.int .i64 i,.int .i64 c] w fun e w'=>e=.returned (.int .i64 1)/\Kt nO w w':=by
 have HM:=aA h
 cases hi:aC m.n i with
 | false=>
  have HI:=aA hi;clear h hc hi;go_enter func194,ntmps194;go_wp2_with fail;refine(eR b B m i _ HM.out).mono ?_;rintro e w1 ⟨rfl,rfl⟩;rw[HI.out];go_wp2_with fail;go_ret;exact⟨rfl,Kt.refl nO _⟩
 | true=>
  have HI:=aA hi;by_cases h0:c<0
  ·clear h hc hi;go_enter func194,ntmps194;go_wp2_with fail;refine(eR b B m i _ HM.out).mono ?_;rintro e w1 ⟨rfl,rfl⟩;rw[HI.out];go_wp2_with fail;go_ret;exact⟨rfl,Kt.refl nO _⟩
  ·have h8 : 8<=c:=by
    by_cases h7:c<=7
    ·exact absurd ⟨hi,by omega,h7⟩ hc
    ·omega
   clear h hc hi;go_enter func194,ntmps194;go_wp2_with fail;refine(eR b B m i _ HM.out).mono ?_;rintro e w1 ⟨rfl,rfl⟩;rw[HI.out];go_wp2_with fail;go_ret;exact⟨rfl,Kt.refl nO _⟩
theorem SJ(b:Nat)(B:Bs)(m:Mp)(i c:Int)(w:World)(h:MpA w b B m):
  Calls prog 194 #[.pointer (some ⟨b,0,none⟩),.int .i64 i,.int .i64 c] w fun e w'=>e=.returned (.int .i64 (oD m i c))/\fE w w' b B m.o (iX m i c):=by
 by_cases hc:aC m.n i=true/\0<=c/\c<=7
 ·rw[show oD m i c=0 from if_pos hc,show iX m i c={ m with pg:=aJ m.pg i.toNat (dE c) } from if_pos hc];obtain⟨k,rfl,hk⟩:=gM hc.1;obtain⟨d,rfl⟩:=Int.eq_ofNat_of_zero_le hc.2.1;refine(LI b B m k d w h hk (by omega)).mono ?_;rintro e w' ⟨rfl,h1,h2⟩;exact⟨rfl,fE.mk h1 h2⟩
 ·rw[show oD m i c=1 from if_neg hc,show iX m i c=m from if_neg hc];refine(EC b B m i c w h hc).mono ?_;rintro e w' ⟨rfl,hk⟩;exact⟨rfl,fE.same h hk⟩
def nJ(m:Mp)(i c:Int):Bool:=aC m.n i && (decide ((m.pg i.toNat).kd=4) && aC (eQ (m.pg i.toNat).cl) c)
def iZ(m:Mp)(i c:Int)(live:Bool):Bool:=nJ m i c && (aH (m.pg i.toNat) c.toNat != live)
def cQ(m:Mp)(i c:Int)(live:Bool):Mp:=if iZ m i c live=true then { m with pg:=aJ m.pg i.toNat (bU (m.pg i.toNat) c.toNat) } else m
def dX(m:Mp)(i c:Int)(live:Bool):Int:=if iZ m i c live=true then 0 else 1
theorem II(b:Nat)(B:Bs)(m:Mp)(i c:Int)(live:Bool)(w:World)(h:MpA w b B m):
  Calls prog 200 #[.pointer (some ⟨b,0,none⟩),.int .i64 i,.int .i64 c,.bool live] w fun e w'=>e=.returned (.int .i64 (dX m i c live))/\fE w w' b B m.o (cQ m i c live):=by
 have no:∀ {E:Ending} {w':World},iZ m i c live=false->E=.returned (.int .i64 1)/\w'=w->E=.returned (.int .i64 (dX m i c live))/\fE w w' b B m.o (cQ m i c live):=by
  rintro E w' hc ⟨rfl,rfl⟩;rw[show dX m i c live=1 by simp[dX,hc],show cQ m i c live=m by simp[cQ,hc]];exact⟨rfl,fE.same h (Kt.refl _ _)⟩
 cases hi:aC m.n i with
 | false=>exact(QG b B m i c live w h hi).mono (fun _ _=>no (by simp[iZ,nJ,hi]))
 | true=>
  obtain⟨k,rfl,hk⟩:=gM hi;by_cases hkd:(m.pg k).kd=4
  ·cases hc:aC (eQ (m.pg k).cl) c with
   | false=>exact(WG b B m k c live w h hk hkd hc).mono (fun _ _=>no (by simp[iZ,nJ,hc]))
   | true=>
    obtain⟨d,rfl,hd⟩:=JD (h.ok k hk).c0 hc;by_cases hl:aH (m.pg k) d=live
    ·subst hl;refine(WF b B m k d w h hk hkd hc hd).mono ?_;rintro E w' ⟨rfl,hkk⟩;have hcc:iZ m (k:Int) (d:Int) (aH (m.pg k) d)=false:=(by simp[iZ]);rw[show dX m (k:Int) (d:Int) (aH (m.pg k) d)=1 by simp[dX,hcc],show cQ m (k:Int) (d:Int) (aH (m.pg k) d)=m by simp[cQ,hcc]];exact⟨rfl,fE.same h hkk⟩
    ·obtain rfl:live=!aH (m.pg k) d:=(by revert hl;cases aH (m.pg k) d <;> cases live <;> simp);have hcc:iZ m (k:Int) (d:Int) (!aH (m.pg k) d)=true:=by
      unfold iZ nJ;rw[hi,Int.toNat_natCast,Int.toNat_natCast,decide_eq_true hkd,hc]
      cases aH (m.pg k) d <;> rfl
     rw[show dX m (k:Int) (d:Int) (!aH (m.pg k) d)=0 by simp[dX,hcc],show cQ m (k:Int) (d:Int) (!aH (m.pg k) d)={ m with pg:=aJ m.pg k (bU (m.pg k) d) } by simp[cQ,hcc]];refine(WE b B m k d w h hk hkd hc hd).mono ?_;rintro E w' ⟨rfl,h1,h2⟩;exact⟨rfl,fE.mk h1 h2⟩
  ·exact(WH b B m k c live w h hk hkd).mono (fun _ _=>no (by simp[iZ,nJ,hkd]))
def kH(m:Mp)(i c:Int):Bool:=aC m.n i && (decide ((m.pg i.toNat).kd=4) && (c == -1 || aC (eQ (m.pg i.toNat).cl) c))
def fP(m:Mp)(i c:Int):Mp:=if kH m i c=true then { m with pg:=aJ m.pg i.toNat { m.pg i.toNat with fs:=c } } else m
def jM(m:Mp)(i c:Int):Int:=if kH m i c=true then 0 else 1
theorem UY(b:Nat)(B:Bs)(m:Mp)(i c:Int)(w:World)(h:MpA w b B m):
  Calls prog 196 #[.pointer (some ⟨b,0,none⟩),.int .i64 i,.int .i64 c] w fun e w'=>e=.returned (.int .i64 (jM m i c))/\fE w w' b B m.o (fP m i c):=by
 have no:∀ {E:Ending} {w':World},kH m i c=false->E=.returned (.int .i64 1)/\w'=w->E=.returned (.int .i64 (jM m i c))/\fE w w' b B m.o (fP m i c):=by
  rintro E w' hc ⟨rfl,rfl⟩;rw[show jM m i c=1 by simp[jM,hc],show fP m i c=m by simp[fP,hc]];exact⟨rfl,fE.same h (Kt.refl _ _)⟩
 cases hi:aC m.n i with
 | false=>exact(VV b B m i c w h hi).mono (fun _ _=>no (by simp[kH,hi]))
 | true=>
  obtain⟨k,rfl,hk⟩:=gM hi;by_cases hkd:(m.pg k).kd=4
  ·by_cases hc:c = -1\/aC (eQ (m.pg k).cl) c=true
   ·have hcc:kH m (k:Int) c=true:=by
     unfold kH;rw[hi,Int.toNat_natCast,decide_eq_true hkd];rcases hc with rfl|hc
     ·rfl
     ·simp[hc]
    rw[show jM m (k:Int) c=0 by simp[jM,hcc],show fP m (k:Int) c={ m with pg:=aJ m.pg k { m.pg k with fs:=c } } by simp[fP,hcc]];refine(PM b B m k c w h hk hkd hc).mono ?_;rintro E w' ⟨rfl,h1,h2⟩;exact⟨rfl,fE.mk h1 h2⟩
   ·have h1:c ≠ -1:=fun e=>hc (.inl e)
    have h2:aC (eQ (m.pg k).cl) c=false:=by cases e:aC (eQ (m.pg k).cl) c with|false=>rfl|true=>exact absurd (.inr e) hc
    exact(WZ b B m k c w h hk hkd h1 h2).mono (fun _ _=>no (by simp[kH,h1,h2]))
  ·exact(XA b B m k c w h hk hkd).mono (fun _ _=>no (by simp[kH,hkd]))
def jN(m:Mp)(i x y:Int):Bool:=aC m.n i && (decide ((m.pg i.toNat).kd=4) && (cJ m.n x && cJ m.n y))
def dH(m:Mp)(i x y:Int):Mp:=if jN m i x y=true then { m with pg:=aJ m.pg i.toNat { m.pg i.toNat with nx:=x,pv:=y } } else m
def mG(m:Mp)(i x y:Int):Int:=if jN m i x y=true then 0 else 1
theorem UW(b:Nat)(B:Bs)(m:Mp)(i x y:Int)(w:World)(h:MpA w b B m):
  Calls prog 250 #[.pointer (some ⟨b,0,none⟩),.int .i64 i,.int .i64 x,.int .i64 y] w fun e w'=>e=.returned (.int .i64 (mG m i x y))/\fE w w' b B m.o (dH m i x y):=by
 have no:∀ {E:Ending} {w':World},jN m i x y=false->E=.returned (.int .i64 1)/\w'=w->E=.returned (.int .i64 (mG m i x y))/\fE w w' b B m.o (dH m i x y):=by
  rintro E w' hc ⟨rfl,rfl⟩;rw[show mG m i x y=1 by simp[mG,hc],show dH m i x y=m by simp[dH,hc]];exact⟨rfl,fE.same h (Kt.refl _ _)⟩
 cases hi:aC m.n i with
 | false=>exact(VW b B m i x y w h hi).mono (fun _ _=>no (by simp[jN,hi]))
 | true=>
  obtain⟨k,rfl,hk⟩:=gM hi;by_cases hkd:(m.pg k).kd=4
  ·cases hx:cJ m.n x with
   | false=>
    have h1:x ≠ -1:=fun e=>by subst e;simp[cJ] at hx
    have h2:aC m.n x=false:=(by simpa [cJ,h1] using hx);exact(XB b B m k x y w h hk hkd h1 h2).mono (fun _ _=>no (by simp[jN,hx]))
   | true=>
    cases hy:cJ m.n y with
    | false=>exact(AY b B m k x y w h hk hkd hx 1 w (.inl ⟨hy,rfl,rfl⟩)).mono (fun _ _=>no (by simp[jN,hy]))
    | true=>
     obtain⟨g,hg,hr⟩:=h.has_row (by omega);have hcc:jN m (k:Int) x y=true:=by
      unfold jN;rw[hi,Int.toNat_natCast,decide_eq_true hkd,hx,hy];rfl
     rw[show mG m (k:Int) x y=0 by simp[mG,hcc],show dH m (k:Int) x y={ m with pg:=aJ m.pg k { m.pg k with nx:=x,pv:=y } } by simp[dH,hcc]];refine(AY b B m k x y w h hk hkd hx 0 _ (.inr ⟨hy,rfl,g,hg,rfl⟩)).mono ?_;rintro E w' ⟨rfl,rfl⟩;refine⟨rfl,fE.mk (h.pages hg (((Kt.refl (fun x=>x=g) w).setCell (p:=⟨g,_,none⟩) rfl _).setCell (p:=⟨g,_,none⟩) rfl _) (hr.f45 k hk x y) (fun j hj=>?_)) (((Kt.refl (aM b B m.o) w).setCell (p:=⟨g,_,none⟩) (.inr (.inl hg)) _).setCell (p:=⟨g,_,none⟩) (.inr (.inl hg)) _)⟩;unfold aJ;split
     ·exact⟨(h.ok k hk).o0,(h.ok k hk).o8,(h.ok k hk).c0,(h.ok k hk).c7,(h.ok k hk).b0,(h.ok k hk).b1,(h.ok k hk).b2,(h.ok k hk).b3⟩
     ·exact h.ok j hj
  ·exact(XD b B m k x y w h hk hkd).mono (fun _ _=>no (by simp[jN,hkd]))
def mN(k i:Int):Nat:=i.toNat/2 ^ (k.toNat+1)
def mO(m:Mp)(k:Int):Nat:=m.n/2 ^ (k.toNat+1)
def dA(m:Mp)(k i:Int):Bool:=aC m.o k && aC m.n i
def eK(m:Mp)(k i:Int):Mp:=if dA m k i=true then { m with wd:=gR m.wd k.toNat (fO (mO m k) (m.wd k.toNat) (mN k i:Int)) } else m
def oC(m:Mp)(k i:Int):Int:=if dA m k i=true then 0 else 1
def hZ(m:Mp)(k i:Int):Bool:=dA m k i && cA (mO m k) (m.wd k.toNat) (mN k i:Int)
end Go.Proofs.YtkfmheelhinjdaaGreatDoor
