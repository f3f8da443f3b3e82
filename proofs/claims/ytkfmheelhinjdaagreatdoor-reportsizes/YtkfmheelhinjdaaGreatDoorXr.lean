import Derived.Test.YtkfmheelhinjdaaGreatDoorXs
set_option maxRecDepth 1000000
set_option maxHeartbeats 80000000
namespace Go.Proofs.YtkfmheelhinjdaaGreatDoor
open Tryz
open Go.RowKit
set_option linter.unusedVariables false
def dE(c:Int):Pg:={ aN 4 0 with cl:=c }
theorem PgOk.slab(c:Nat)(h:c<8):PgOk (dE c):=⟨by show(0:Int)<=0;decide,by show(0:Int)<=8;decide,by show(0:Int)<=c;omega,by show(c:Int)<=7;omega,by show 0<_;decide,by show 0<_;decide,by show 0<_;decide,by show 0<_;decide⟩
def iQ(m:Mp)(i c:Int):Mp:=if aB m.n i=true/\0<=c/\c<=7 then { m with pg:=aJ m.pg i.toNat (dE c) } else m
def nS(m:Mp)(i c:Int):Int:=if aB m.n i=true/\0<=c/\c<=7 then 0 else 1
theorem NA(m:Mp)(i c:Int):(iQ m i c).n=m.n:=by unfold iQ;split <;> rfl
theorem MZ(b:Nat)(B:Bs)(m:Mp)(k c:Nat)(w:World)(h:MpA w b B m)(hk:k<m.n)(hc:c<8):
  Calls prog 194 #[.pointer (some ⟨b,0,none⟩),.int .i64 k,.int .i64 c] w fun e w'=>e=.returned (.int .i64 0)/\MpA w' b B { m with pg:=aJ m.pg k (dE c) }/\Kt (aM b B m.o) w w':=by
 have HM:=aA h;have HI:=aA (dH hk);have HK:=aA hk;have hc0:¬(c:Int)<0:=by omega
 have hc1:¬ 8<=(c:Int):=by omega
 have hki:(k:Int)<m.n:=by omega
 obtain⟨g,hg,hr⟩:=h.has_row (by omega);clear h hr hk;go_enter func194,ntmps194;go_wp2_with fail;refine(eN b B m k _ HM.out).mono ?_;rintro e w1 ⟨rfl,rfl⟩;rw[HI.out];go_wp2_with fail;refine(oY 4 0 w1).mono ?_;rintro e w2 ⟨rfl,hw2⟩;have K2:=aA (show Kt nO w1 w2 by rw[hw2];exact(Kt.refl nO w1).alloc _);have Z2:=aA (show w2.heap.size=w1.heap.size+1 by rw[hw2];simp);clear hw2;go_wp2_with fail;obtain⟨W,hW⟩:=xe (w2.alloc (.cells #[.int .i64 (aN 4 0).kd,.int .i64 (aN 4 0).od,.int .i64 c,.int .i64 (aN 4 0).lv,.int .i64 (aN 4 0).nx,.int .i64 (aN 4 0).pv,.int .i64 (aN 4 0).fs,.int .u64 ((aN 4 0).b0:Int),.int .u64 ((aN 4 0).b1:Int),.int .u64 ((aN 4 0).b2:Int),.int .u64 ((aN 4 0).b3:Int)] 99));rw[<-hW];have KW:=aA (show Kt nO w1 W by rw[hW];exact K2.out.alloc _);have XW:=aA (show W.heap[w2.heap.size]?=some (aI (dE c))by rw[hW];exact nH _ _);have MW:=aA (HM.out.keep KW.out);clear hW;obtain⟨x0,x1,x2,x3,x4,x5,x6,x7,x8,x9,x10⟩:=kL XW.out;have c1:=MW.out.c1 hg;have hr:=MW.out.row;rw[hg] at hr;have RW:=aA (show bH W g m.n m.pg from hr);obtain⟨d0,d1,d2,d3,d4,d5,d6,d7,d8,d9,d10⟩:=RW.out.cell k HK.out;have z:=aT.froz RW.out;have HG:=aA hg;clear hr hg;go_region
 all_goals
  go_wp2_with fail;go_ret;have RP:=(RW.out.put k HK.out (dE c));have OKP:∀ i,i<m.n->PgOk (aJ m.pg k (dE c) i):=fun i hi=>by
   unfold aJ;split
   ·exact PgOk.slab c (by omega)
   ·exact MW.out.ok i hi
  have KP:=oX W g k (dE c);exact⟨rfl,(MW.out.pages HG.out KP RP OKP).keep (Kt.refl nO _).drew,(KW.out.trans KP (fun _ _ x=>x.elim) (fun x _ e=>.inr (.inl (e▸HG.out)))).drew⟩
theorem QP(k o:Nat)(ho:o<=8)(hk:k<1024):wrap64 ((k:Int)/2 ^ o*2 ^ o)=((k/2 ^ o*2 ^ o:Nat):Int):=by
 have h1:k/2 ^ o*2 ^ o<=k:=Nat.div_mul_le_self _ _;have h2:((k:Int)/2 ^ o*2 ^ o)=((k/2 ^ o*2 ^ o:Nat):Int):=by simp
 rw[h2];generalize k/2 ^ o*2 ^ o=z at *;unfold wrap64;omega
def kK(m:Mp)(i:Int):Int:=if aB m.n i=true then ((i.toNat/2 ^ (m.pg i.toNat).od.toNat*2 ^ (m.pg i.toNat).od.toNat:Nat):Int) else -1
theorem QO(b:Nat)(B:Bs)(m:Mp)(i:Int)(w:World)(h:MpA w b B m)(hi:aB m.n i=false):
  Calls prog 299 #[.pointer (some ⟨b,0,none⟩),.int .i64 i] w fun e w'=>e=.returned (.int .i64 (-1))/\w'=w:=by
 have HM:=aA h;have HI:=aA hi;clear h hi;go_enter func299,ntmps299;go_wp2_with fail;refine(eN b B m i _ HM.out).mono ?_;rintro e w1 ⟨rfl,rfl⟩;rw[HI.out];go_wp2_with fail;go_ret;exact⟨rfl,rfl⟩
theorem EP(b:Nat)(B:Bs)(m:Mp)(k o:Nat)(w:World)(h:MpA w b B m)(hk:k<m.n)(ho:(m.pg k).od=o):
  Calls prog 299 #[.pointer (some ⟨b,0,none⟩),.int .i64 k] w fun e w'=>e=.returned (.int .i64 ((k/2 ^ o*2 ^ o:Nat):Int))/\w'=w:=by
 have HM:=aA h;have HI:=aA (dH hk);have ho8:o<=8:=by have:=(h.ok k hk).o8;omega
 have hkn:k<1024:=by have:=h.n1;omega
 obtain⟨g,hg,hr⟩:=h.has_row (by omega);have d1:=(hr.cell k hk).2.1;rw[ho] at d1;have c1:=h.c1 hg;have hki:(k:Int)<m.n:=by omega
 have HE:=aA (QP k o ho8 hkn);clear h hr hg;go_enter func299,ntmps299;go_wp2_with fail;refine(eN b B m k _ HM.out).mono ?_;rintro e w1 ⟨rfl,rfl⟩;rw[HI.out];go_wp2_with fail;go_ret;exact⟨eG HE.out,rfl⟩
theorem bH.f6{w g n pg}(h:bH w g n pg)(i:Nat)(hi:i<n)(x:Int):bH (w.setCell ⟨g,i*11+6,none⟩ (.int .i64 x)) g n (aJ pg i { pg i with fs:=x }):=by
 have:=aT.set h i 6 hi (by decide) (.int .i64 x);refine aT.congr this (fun a ha b hb=>pT a b hb (fun j hj=>?_) (fun e=>?_))
 ·revert j
  apply jL <;> simp[kF,Pg.fld]
 ·simp[kF,e]
theorem QR(b:Nat)(B:Bs)(m:Mp)(i c:Int)(w:World)(h:MpA w b B m)(hi:aB m.n i=false):
  Calls prog 196 #[.pointer (some ⟨b,0,none⟩),.int .i64 i,.int .i64 c] w fun e w'=>e=.returned (.int .i64 1)/\w'=w:=by
 have HM:=aA h;have HI:=aA hi;clear h hi;go_enter func196,ntmps196;go_wp2_with fail;refine(sV b B m i _ HM.out HI.out).mono ?_;rintro e w1 ⟨rfl,rfl⟩;go_wp2_with fail;go_ret;exact⟨rfl,rfl⟩
theorem XK(b:Nat)(B:Bs)(m:Mp)(k:Nat)(c:Int)(w:World)(h:MpA w b B m)(hk:k<m.n)(hkd:(m.pg k).kd≠4):
  Calls prog 196 #[.pointer (some ⟨b,0,none⟩),.int .i64 k,.int .i64 c] w fun e w'=>e=.returned (.int .i64 1)/\w'=w:=by
 have HM:=aA h;obtain⟨g,hg,hr⟩:=h.has_row (by omega);have S:=aA (jT b B m g k w h hg hk);rw[if_neg hkd] at S;clear h hr hg;go_enter func196,ntmps196;go_wp2_with fail;refine S.out.mono ?_;rintro e w1 ⟨rfl,rfl⟩;go_wp2_with fail;go_ret;exact⟨rfl,rfl⟩
theorem XI(b:Nat)(B:Bs)(m:Mp)(k:Nat)(c:Int)(w:World)(h:MpA w b B m)(hk:k<m.n)(hkd:(m.pg k).kd=4)(hm1:c ≠ -1)(hc:aB (eL (m.pg k).cl) c=false):
  Calls prog 196 #[.pointer (some ⟨b,0,none⟩),.int .i64 k,.int .i64 c] w fun e w'=>e=.returned (.int .i64 1)/\w'=w:=by
 have HM:=aA h;obtain⟨g,hg,hr⟩:=h.has_row (by omega);have S:=aA (jT b B m g k w h hg hk);rw[if_pos hkd] at S;obtain⟨d0,d1,d2,d3,d4,d5,d6,d7,d8,d9,d10⟩:=hr.cell k hk;have HC:=aA (pB g (k*11) (m.pg k).cl (h.ok k hk).c0 (h.ok k hk).c7 c w d2);rw[hc] at HC;clear h hr hg;go_enter func196,ntmps196;go_wp2_with fail;refine S.out.mono ?_;rintro e w1 ⟨rfl,rfl⟩;go_wp2_with fail;refine HC.out.mono ?_;rintro e w1 ⟨rfl,rfl⟩;go_wp2_with fail;go_ret;exact⟨rfl,rfl⟩
theorem QN(b:Nat)(B:Bs)(m:Mp)(k:Nat)(c:Int)(w:World)(h:MpA w b B m)(hk:k<m.n)(hkd:(m.pg k).kd=4)(hc:c = -1\/aB (eL (m.pg k).cl) c=true):
  Calls prog 196 #[.pointer (some ⟨b,0,none⟩),.int .i64 k,.int .i64 c] w fun e w'=>e=.returned (.int .i64 0)/\MpA w' b B { m with pg:=aJ m.pg k { m.pg k with fs:=c } }/\Kt (aM b B m.o) w w':=by
 have HM:=aA h;obtain⟨g,hg,hr⟩:=h.has_row (by omega);have S:=aA (jT b B m g k w h hg hk);rw[if_pos hkd] at S;obtain⟨d0,d1,d2,d3,d4,d5,d6,d7,d8,d9,d10⟩:=hr.cell k hk;have HC:=aA (pB g (k*11) (m.pg k).cl (h.ok k hk).c0 (h.ok k hk).c7 c w d2);have z:=aT.froz hr;have FIN:=aA (show MpA (w.setCell ⟨g,k*11+6,none⟩ (.int .i64 c)) b B { m with pg:=aJ m.pg k { m.pg k with fs:=c } }/\Kt (aM b B m.o) w (w.setCell ⟨g,k*11+6,none⟩ (.int .i64 c))from
  ⟨h.pages hg ((Kt.refl (fun x=>x=g) w).setCell (p:=⟨g,_,none⟩) rfl _) (hr.f6 k hk c) (fun i hi=>by
   unfold aJ;split
   ·exact⟨(h.ok k hk).o0,(h.ok k hk).o8,(h.ok k hk).c0,(h.ok k hk).c7,(h.ok k hk).b0,(h.ok k hk).b1,(h.ok k hk).b2,(h.ok k hk).b3⟩
   ·exact h.ok i hi),(Kt.refl (aM b B m.o) w).setCell (p:=⟨g,_,none⟩) (.inr (.inl hg)) _⟩)
 clear h hr hg;by_cases h1:c = -1
 ·subst h1;clear hc;go_enter func196,ntmps196;go_wp2_with fail;refine S.out.mono ?_;rintro e w1 ⟨rfl,rfl⟩;go_wp2_with fail;go_ret;exact⟨rfl,FIN.out⟩
 ·rw[hc.resolve_left h1] at HC;clear hc;go_enter func196,ntmps196;go_wp2_with fail;refine S.out.mono ?_;rintro e w1 ⟨rfl,rfl⟩;go_wp2_with fail;refine HC.out.mono ?_;rintro e w1 ⟨rfl,rfl⟩;go_wp2_with fail;go_ret;exact⟨rfl,FIN.out⟩
def cH(n:Nat)(x:Int):Bool:=x == -1 || aB n x
theorem bH.f45{w g n pg}(h:bH w g n pg)(i:Nat)(hi:i<n)(x y:Int):bH ((w.setCell ⟨g,i*11+4,none⟩ (.int .i64 x)).setCell ⟨g,i*11+5,none⟩ (.int .i64 y)) g n (aJ pg i { pg i with nx:=x,pv:=y }):=by
 have:=(aT.set h i 4 hi (by decide) (.int .i64 x)).set i 5 hi (by decide) (.int .i64 y);refine aT.congr this (fun a ha b hb=>pT a b hb (fun j hj=>?_) (fun e=>?_))
 ·revert j
  apply jL <;> simp[kF,Pg.fld]
 ·simp[kF,e]
theorem QS(b:Nat)(B:Bs)(m:Mp)(i x y:Int)(w:World)(h:MpA w b B m)(hi:aB m.n i=false):
  Calls prog 250 #[.pointer (some ⟨b,0,none⟩),.int .i64 i,.int .i64 x,.int .i64 y] w fun e w'=>e=.returned (.int .i64 1)/\w'=w:=by
 have HM:=aA h;have HI:=aA hi;clear h hi;go_enter func250,ntmps250;go_wp2_with fail;refine(sV b B m i _ HM.out HI.out).mono ?_;rintro e w1 ⟨rfl,rfl⟩;go_wp2_with fail;go_ret;exact⟨rfl,rfl⟩
theorem XN(b:Nat)(B:Bs)(m:Mp)(k:Nat)(x y:Int)(w:World)(h:MpA w b B m)(hk:k<m.n)(hkd:(m.pg k).kd≠4):
  Calls prog 250 #[.pointer (some ⟨b,0,none⟩),.int .i64 k,.int .i64 x,.int .i64 y] w fun e w'=>e=.returned (.int .i64 1)/\w'=w:=by
 have HM:=aA h;obtain⟨g,hg,hr⟩:=h.has_row (by omega);have S:=aA (jT b B m g k w h hg hk);rw[if_neg hkd] at S;clear h hr hg;go_enter func250,ntmps250;go_wp2_with fail;refine S.out.mono ?_;rintro e w1 ⟨rfl,rfl⟩;go_wp2_with fail;go_ret;exact⟨rfl,rfl⟩
theorem XM(b:Nat)(B:Bs)(m:Mp)(k:Nat)(x y:Int)(w:World)(h:MpA w b B m)(hk:k<m.n)(hkd:(m.pg k).kd=4)(hx:x ≠ -1)(hx2:aB m.n x=false):
  Calls prog 250 #[.pointer (some ⟨b,0,none⟩),.int .i64 k,.int .i64 x,.int .i64 y] w fun e w'=>e=.returned (.int .i64 1)/\w'=w:=by
 have HM:=aA h;obtain⟨g,hg,hr⟩:=h.has_row (by omega);have S:=aA (jT b B m g k w h hg hk);rw[if_pos hkd] at S;have HX:=aA hx2;clear h hr hg hx2;go_enter func250,ntmps250;go_wp2_with fail;refine S.out.mono ?_;rintro e w1 ⟨rfl,rfl⟩;go_wp2_with fail;refine(eN b B m x _ HM.out).mono ?_;rintro e w1 ⟨rfl,rfl⟩;rw[HX.out];go_wp2_with fail;go_ret;exact⟨rfl,rfl⟩
theorem zW(b:Nat)(B:Bs)(m:Mp)(k:Nat)(x y:Int)(w:World)(h:MpA w b B m)(hk:k<m.n)(hkd:(m.pg k).kd=4)(hx:cH m.n x=true)(R:Int)(W:World)
  (hR:(cH m.n y=false/\R=1/\W=w)\/(cH m.n y=true/\R=0/\∃ g,B.g=some g/\W=(w.setCell ⟨g,k*11+4,none⟩ (.int .i64 x)).setCell ⟨g,k*11+5,none⟩ (.int .i64 y))):
  Calls prog 250 #[.pointer (some ⟨b,0,none⟩),.int .i64 k,.int .i64 x,.int .i64 y] w fun e w'=>e=.returned (.int .i64 R)/\w'=W:=by
 have HM:=aA h;obtain⟨g,hg,hr⟩:=h.has_row (by omega);have S:=aA (jT b B m g k w h hg hk);rw[if_pos hkd] at S;have HX:=aA hx;obtain⟨d0,d1,d2,d3,d4,d5,d6,d7,d8,d9,d10⟩:=hr.cell k hk;have z:=aT.froz hr;have hR2:(cH m.n y=false/\R=1/\W=w)\/(cH m.n y=true/\R=0/\W=(w.setCell ⟨g,k*11+4,none⟩ (.int .i64 x)).setCell ⟨g,k*11+5,none⟩ (.int .i64 y)):=by
  rcases hR with h|⟨h1,h2,g',hg',h3⟩
  ·exact .inl h
  ·rw[hg] at hg'
   cases hg'
   exact .inr ⟨h1,h2,h3⟩
 have HR:=aA hR2;clear h hr hg hx hR hR2 d0 d1 d2 d3 d6 d7 d8 d9 d10;by_cases hx1:x = -1
 all_goals by_cases hy1:y = -1
 ·subst hx1 hy1;have hR3:=(HR.out.resolve_left (fun h=>by simp[cH] at h)).2;obtain⟨rfl,rfl⟩:=hR3;clear HR;go_enter func250,ntmps250;go_wp2_with fail;refine S.out.mono ?_;rintro e w1 ⟨rfl,rfl⟩;go_wp2_with fail;go_ret;exact⟨rfl,rfl⟩
 ·subst hx1;go_enter func250,ntmps250;go_wp2_with fail;refine S.out.mono ?_;rintro e w1 ⟨rfl,rfl⟩;go_wp2_with fail;refine(eN b B m y _ HM.out).mono ?_;rintro e w2 ⟨rfl,rfl⟩;rcases HR.out with ⟨h1,rfl,rfl⟩|⟨h1,rfl,rfl⟩
  ·rw[show aB m.n y=false by simpa [cH,hy1] using h1];clear h1 HR;go_wp2_with fail;go_ret;exact⟨rfl,rfl⟩
  ·rw[show aB m.n y=true by simpa [cH,hy1] using h1];clear h1 HR;go_wp2_with fail;go_ret;exact⟨rfl,rfl⟩
 ·subst hy1;have hR3:=(HR.out.resolve_left (fun h=>by simp[cH] at h)).2;obtain⟨rfl,rfl⟩:=hR3;have HX2:=aA (show aB m.n x=true by simpa [cH,hx1] using HX.out);clear HR;go_enter func250,ntmps250;go_wp2_with fail;refine S.out.mono ?_;rintro e w1 ⟨rfl,rfl⟩;go_wp2_with fail;refine(eN b B m x _ HM.out).mono ?_;rintro e w2 ⟨rfl,rfl⟩;rw[HX2.out];go_wp2_with fail;go_ret;exact⟨rfl,rfl⟩
 ·have HX2:=aA (show aB m.n x=true by simpa [cH,hx1] using HX.out);go_enter func250,ntmps250;go_wp2_with fail;refine S.out.mono ?_;rintro e w1 ⟨rfl,rfl⟩;go_wp2_with fail;refine(eN b B m x _ HM.out).mono ?_;rintro e w2 ⟨rfl,rfl⟩;rw[HX2.out];go_wp2_with fail;refine(eN b B m y _ HM.out).mono ?_;rintro e w2 ⟨rfl,rfl⟩;rcases HR.out with ⟨h1,rfl,rfl⟩|⟨h1,rfl,rfl⟩
  ·rw[show aB m.n y=false by simpa [cH,hy1] using h1];clear h1 HR;go_wp2_with fail;go_ret;exact⟨rfl,rfl⟩
  ·rw[show aB m.n y=true by simpa [cH,hy1] using h1];clear h1 HR;go_wp2_with fail;go_ret;exact⟨rfl,rfl⟩
end Go.Proofs.YtkfmheelhinjdaaGreatDoor
