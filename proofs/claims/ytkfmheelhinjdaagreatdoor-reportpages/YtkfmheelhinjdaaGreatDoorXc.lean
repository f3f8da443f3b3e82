import Derived.Test.YtkfmheelhinjdaaGreatDoorXb
import Derived.Test.YtkfmheelhinjdaaGreatDoorZe
set_option maxRecDepth 1000000
set_option maxHeartbeats 80000000
namespace Go.Proofs.YtkfmheelhinjdaaGreatDoor
open Tryz
open Go.RowKit
set_option linter.unusedVariables false
theorem VU(k o:Nat)(ho:o<=8)(hk:k<1024):wrap64 ((k:Int)/2 ^ o*2 ^ o)=((k/2 ^ o*2 ^ o:Nat):Int):=by
 have h1:k/2 ^ o*2 ^ o<=k:=Nat.div_mul_le_self _ _;have h2:((k:Int)/2 ^ o*2 ^ o)=((k/2 ^ o*2 ^ o:Nat):Int):=by simp
 rw[h2];generalize k/2 ^ o*2 ^ o=z at *;unfold wrap64;omega
def kU(m:Mp)(i:Int):Int:=if aB m.n i=true then ((i.toNat/2 ^ (m.pg i.toNat).od.toNat*2 ^ (m.pg i.toNat).od.toNat:Nat):Int) else -1
theorem VT(b:Nat)(B:Bs)(m:Mp)(i:Int)(w:World)(h:MpA w b B m)(hi:aB m.n i=false):
  Calls prog 299 #[.pointer (some ⟨b,0,none⟩),.int .i64 i] w fun e w'=>e=.returned (.int .i64 (-1))/\w'=w:=by
 have HM:=aA h;have HI:=aA hi;clear h hi;go_enter func299,ntmps299;go_wp2_with fail;refine(eY b B m i _ HM.out).mono ?_;rintro e w1 ⟨rfl,rfl⟩;rw[HI.out];go_wp2_with fail;go_ret;exact⟨rfl,rfl⟩
theorem QC(b:Nat)(B:Bs)(m:Mp)(k o:Nat)(w:World)(h:MpA w b B m)(hk:k<m.n)(ho:(m.pg k).od=o):
  Calls prog 299 #[.pointer (some ⟨b,0,none⟩),.int .i64 k] w fun e w'=>e=.returned (.int .i64 ((k/2 ^ o*2 ^ o:Nat):Int))/\w'=w:=by
 have HM:=aA h;have HI:=aA (dM hk);have ho8:o<=8:=by have:=(h.ok k hk).o8;omega
 have hkn:k<1024:=by have:=h.n1;omega
 obtain⟨g,hg,hr⟩:=h.has_row (by omega);have d1:=(hr.cell k hk).2.1;rw[ho] at d1;have c1:=h.c1 hg;have hki:(k:Int)<m.n:=by omega
 have HE:=aA (VU k o ho8 hkn);clear h hr hg;go_enter func299,ntmps299;go_wp2_with fail;refine(eY b B m k _ HM.out).mono ?_;rintro e w1 ⟨rfl,rfl⟩;rw[HI.out];go_wp2_with fail;go_ret;exact⟨dX HE.out,rfl⟩
theorem bH.f6{w g n pg}(h:bH w g n pg)(i:Nat)(hi:i<n)(x:Int):bH (w.setCell ⟨g,i*11+6,none⟩ (.int .i64 x)) g n (aK pg i { pg i with fs:=x }):=by
 have:=aV.set h i 6 hi (by decide) (.int .i64 x);refine aV.congr this (fun a ha b hb=>qX a b hb (fun j hj=>?_) (fun e=>?_))
 ·revert j
  apply gU <;> simp[kP,Pg.fld]
 ·simp[kP,e]
theorem ZI(b:Nat)(B:Bs)(m:Mp)(i c:Int)(w:World)(h:MpA w b B m)(hi:aB m.n i=false):
  Calls prog 196 #[.pointer (some ⟨b,0,none⟩),.int .i64 i,.int .i64 c] w fun e w'=>e=.returned (.int .i64 1)/\w'=w:=by
 have HM:=aA h;have HI:=aA hi;clear h hi;go_enter func196,ntmps196;go_wp2_with fail;refine(uL b B m i _ HM.out HI.out).mono ?_;rintro e w1 ⟨rfl,rfl⟩;go_wp2_with fail;go_ret;exact⟨rfl,rfl⟩
theorem zhr(b:Nat)(B:Bs)(m:Mp)(k:Nat)(c:Int)(w:World)(h:MpA w b B m)(hk:k<m.n)(hkd:(m.pg k).kd≠4):
  Calls prog 196 #[.pointer (some ⟨b,0,none⟩),.int .i64 k,.int .i64 c] w fun e w'=>e=.returned (.int .i64 1)/\w'=w:=by
 have HM:=aA h;obtain⟨g,hg,hr⟩:=h.has_row (by omega);have S:=aA (kA b B m g k w h hg hk);rw[if_neg hkd] at S;clear h hr hg;go_enter func196,ntmps196;go_wp2_with fail;refine S.out.mono ?_;rintro e w1 ⟨rfl,rfl⟩;go_wp2_with fail;go_ret;exact⟨rfl,rfl⟩
theorem zhs(b:Nat)(B:Bs)(m:Mp)(k:Nat)(c:Int)(w:World)(h:MpA w b B m)(hk:k<m.n)(hkd:(m.pg k).kd=4)(hm1:c ≠ -1)(hc:aB (eX (m.pg k).cl) c=false):
  Calls prog 196 #[.pointer (some ⟨b,0,none⟩),.int .i64 k,.int .i64 c] w fun e w'=>e=.returned (.int .i64 1)/\w'=w:=by
 have HM:=aA h;obtain⟨g,hg,hr⟩:=h.has_row (by omega);have S:=aA (kA b B m g k w h hg hk);rw[if_pos hkd] at S;obtain⟨d0,d1,d2,d3,d4,d5,d6,d7,d8,d9,d10⟩:=hr.cell k hk;have HC:=aA (pO g (k*11) (m.pg k).cl (h.ok k hk).c0 (h.ok k hk).c7 c w d2);rw[hc] at HC;clear h hr hg;go_enter func196,ntmps196;go_wp2_with fail;refine S.out.mono ?_;rintro e w1 ⟨rfl,rfl⟩;go_wp2_with fail;refine HC.out.mono ?_;rintro e w1 ⟨rfl,rfl⟩;go_wp2_with fail;go_ret;exact⟨rfl,rfl⟩
theorem VR(b:Nat)(B:Bs)(m:Mp)(k:Nat)(c:Int)(w:World)(h:MpA w b B m)(hk:k<m.n)(hkd:(m.pg k).kd=4)(hc:c = -1\/aB (eX (m.pg k).cl) c=true):
  Calls prog 196 #[.pointer (some ⟨b,0,none⟩),.int .i64 k,.int .i64 c] w fun e w'=>e=.returned (.int .i64 0)/\MpA w' b B { m with pg:=aK m.pg k { m.pg k with fs:=c } }/\Kt (aO b B m.o) w w':=by
 have HM:=aA h;obtain⟨g,hg,hr⟩:=h.has_row (by omega);have S:=aA (kA b B m g k w h hg hk);rw[if_pos hkd] at S;obtain⟨d0,d1,d2,d3,d4,d5,d6,d7,d8,d9,d10⟩:=hr.cell k hk;have HC:=aA (pO g (k*11) (m.pg k).cl (h.ok k hk).c0 (h.ok k hk).c7 c w d2);have z:=aV.froz hr;have FIN:=aA (show MpA (w.setCell ⟨g,k*11+6,none⟩ (.int .i64 c)) b B { m with pg:=aK m.pg k { m.pg k with fs:=c } }/\Kt (aO b B m.o) w (w.setCell ⟨g,k*11+6,none⟩ (.int .i64 c))from
  ⟨h.pages hg ((Kt.refl (fun x=>x=g) w).setCell (p:=⟨g,_,none⟩) rfl _) (hr.f6 k hk c) (fun i hi=>by
   unfold aK;split
   ·exact⟨(h.ok k hk).o0,(h.ok k hk).o8,(h.ok k hk).c0,(h.ok k hk).c7,(h.ok k hk).b0,(h.ok k hk).b1,(h.ok k hk).b2,(h.ok k hk).b3⟩
   ·exact h.ok i hi),(Kt.refl (aO b B m.o) w).setCell (p:=⟨g,_,none⟩) (.inr (.inl hg)) _⟩)
 clear h hr hg;by_cases h1:c = -1
 ·subst h1;clear hc;go_enter func196,ntmps196;go_wp2_with fail;refine S.out.mono ?_;rintro e w1 ⟨rfl,rfl⟩;go_wp2_with fail;go_ret;exact⟨rfl,FIN.out⟩
 ·rw[hc.resolve_left h1] at HC;clear hc;go_enter func196,ntmps196;go_wp2_with fail;refine S.out.mono ?_;rintro e w1 ⟨rfl,rfl⟩;go_wp2_with fail;refine HC.out.mono ?_;rintro e w1 ⟨rfl,rfl⟩;go_wp2_with fail;go_ret;exact⟨rfl,FIN.out⟩
def cN(n:Nat)(x:Int):Bool:=x == -1 || aB n x
theorem bH.f45{w g n pg}(h:bH w g n pg)(i:Nat)(hi:i<n)(x y:Int):bH ((w.setCell ⟨g,i*11+4,none⟩ (.int .i64 x)).setCell ⟨g,i*11+5,none⟩ (.int .i64 y)) g n (aK pg i { pg i with nx:=x,pv:=y }):=by
 have:=(aV.set h i 4 hi (by decide) (.int .i64 x)).set i 5 hi (by decide) (.int .i64 y);refine aV.congr this (fun a ha b hb=>qX a b hb (fun j hj=>?_) (fun e=>?_))
 ·revert j
  apply gU <;> simp[kP,Pg.fld]
 ·simp[kP,e]
theorem ZJ(b:Nat)(B:Bs)(m:Mp)(i x y:Int)(w:World)(h:MpA w b B m)(hi:aB m.n i=false):
  Calls prog 250 #[.pointer (some ⟨b,0,none⟩),.int .i64 i,.int .i64 x,.int .i64 y] w fun e w'=>e=.returned (.int .i64 1)/\w'=w:=by
 have HM:=aA h;have HI:=aA hi;clear h hi;go_enter func250,ntmps250;go_wp2_with fail;refine(uL b B m i _ HM.out HI.out).mono ?_;rintro e w1 ⟨rfl,rfl⟩;go_wp2_with fail;go_ret;exact⟨rfl,rfl⟩
theorem zhp(b:Nat)(B:Bs)(m:Mp)(k:Nat)(x y:Int)(w:World)(h:MpA w b B m)(hk:k<m.n)(hkd:(m.pg k).kd≠4):
  Calls prog 250 #[.pointer (some ⟨b,0,none⟩),.int .i64 k,.int .i64 x,.int .i64 y] w fun e w'=>e=.returned (.int .i64 1)/\w'=w:=by
 have HM:=aA h;obtain⟨g,hg,hr⟩:=h.has_row (by omega);have S:=aA (kA b B m g k w h hg hk);rw[if_neg hkd] at S;clear h hr hg;go_enter func250,ntmps250;go_wp2_with fail;refine S.out.mono ?_;rintro e w1 ⟨rfl,rfl⟩;go_wp2_with fail;go_ret;exact⟨rfl,rfl⟩
theorem zhq(b:Nat)(B:Bs)(m:Mp)(k:Nat)(x y:Int)(w:World)(h:MpA w b B m)(hk:k<m.n)(hkd:(m.pg k).kd=4)(hx:x ≠ -1)(hx2:aB m.n x=false):
  Calls prog 250 #[.pointer (some ⟨b,0,none⟩),.int .i64 k,.int .i64 x,.int .i64 y] w fun e w'=>e=.returned (.int .i64 1)/\w'=w:=by
 have HM:=aA h;obtain⟨g,hg,hr⟩:=h.has_row (by omega);have S:=aA (kA b B m g k w h hg hk);rw[if_pos hkd] at S;have HX:=aA hx2;clear h hr hg hx2;go_enter func250,ntmps250;go_wp2_with fail;refine S.out.mono ?_;rintro e w1 ⟨rfl,rfl⟩;go_wp2_with fail;refine(eY b B m x _ HM.out).mono ?_;rintro e w1 ⟨rfl,rfl⟩;rw[HX.out];go_wp2_with fail;go_ret;exact⟨rfl,rfl⟩
theorem DH(b:Nat)(B:Bs)(m:Mp)(k:Nat)(x y:Int)(w:World)(h:MpA w b B m)(hk:k<m.n)(hkd:(m.pg k).kd=4)(hx:cN m.n x=true)(R:Int)(W:World)
  (hR:(cN m.n y=false/\R=1/\W=w)\/(cN m.n y=true/\R=0/\∃ g,B.g=some g/\W=(w.setCell ⟨g,k*11+4,none⟩ (.int .i64 x)).setCell ⟨g,k*11+5,none⟩ (.int .i64 y))):
  Calls prog 250 #[.pointer (some ⟨b,0,none⟩),.int .i64 k,.int .i64 x,.int .i64 y] w fun e w'=>e=.returned (.int .i64 R)/\w'=W:=by
 have HM:=aA h;obtain⟨g,hg,hr⟩:=h.has_row (by omega);have S:=aA (kA b B m g k w h hg hk);rw[if_pos hkd] at S;have HX:=aA hx;obtain⟨d0,d1,d2,d3,d4,d5,d6,d7,d8,d9,d10⟩:=hr.cell k hk;have z:=aV.froz hr;have hR2:(cN m.n y=false/\R=1/\W=w)\/(cN m.n y=true/\R=0/\W=(w.setCell ⟨g,k*11+4,none⟩ (.int .i64 x)).setCell ⟨g,k*11+5,none⟩ (.int .i64 y)):=by
  rcases hR with h|⟨h1,h2,g',hg',h3⟩
  ·exact .inl h
  ·rw[hg] at hg'
   cases hg'
   exact .inr ⟨h1,h2,h3⟩
 have HR:=aA hR2;clear h hr hg hx hR hR2 d0 d1 d2 d3 d6 d7 d8 d9 d10;by_cases hx1:x = -1
 all_goals by_cases hy1:y = -1
 ·subst hx1 hy1;have hR3:=(HR.out.resolve_left (fun h=>by simp[cN] at h)).2;obtain⟨rfl,rfl⟩:=hR3;clear HR;go_enter func250,ntmps250;go_wp2_with fail;refine S.out.mono ?_;rintro e w1 ⟨rfl,rfl⟩;go_wp2_with fail;go_ret;exact⟨rfl,rfl⟩
 ·subst hx1;go_enter func250,ntmps250;go_wp2_with fail;refine S.out.mono ?_;rintro e w1 ⟨rfl,rfl⟩;go_wp2_with fail;refine(eY b B m y _ HM.out).mono ?_;rintro e w2 ⟨rfl,rfl⟩;rcases HR.out with ⟨h1,rfl,rfl⟩|⟨h1,rfl,rfl⟩
  ·rw[show aB m.n y=false by simpa [cN,hy1] using h1];clear h1 HR;go_wp2_with fail;go_ret;exact⟨rfl,rfl⟩
  ·rw[show aB m.n y=true by simpa [cN,hy1] using h1];clear h1 HR;go_wp2_with fail;go_ret;exact⟨rfl,rfl⟩
 ·subst hy1;have hR3:=(HR.out.resolve_left (fun h=>by simp[cN] at h)).2;obtain⟨rfl,rfl⟩:=hR3;have HX2:=aA (show aB m.n x=true by simpa [cN,hx1] using HX.out);clear HR;go_enter func250,ntmps250;go_wp2_with fail;refine S.out.mono ?_;rintro e w1 ⟨rfl,rfl⟩;go_wp2_with fail;refine(eY b B m x _ HM.out).mono ?_;rintro e w2 ⟨rfl,rfl⟩;rw[HX2.out];go_wp2_with fail;go_ret;exact⟨rfl,rfl⟩
 ·have HX2:=aA (show aB m.n x=true by simpa [cN,hx1] using HX.out);go_enter func250,ntmps250;go_wp2_with fail;refine S.out.mono ?_;rintro e w1 ⟨rfl,rfl⟩;go_wp2_with fail;refine(eY b B m x _ HM.out).mono ?_;rintro e w2 ⟨rfl,rfl⟩;rw[HX2.out];go_wp2_with fail;refine(eY b B m y _ HM.out).mono ?_;rintro e w2 ⟨rfl,rfl⟩;rcases HR.out with ⟨h1,rfl,rfl⟩|⟨h1,rfl,rfl⟩
  ·rw[show aB m.n y=false by simpa [cN,hy1] using h1];clear h1 HR;go_wp2_with fail;go_ret;exact⟨rfl,rfl⟩
  ·rw[show aB m.n y=true by simpa [cN,hy1] using h1];clear h1 HR;go_wp2_with fail;go_ret;exact⟨rfl,rfl⟩
def gQ(wd:Nat->List Nat)(k:Nat)(ws:List Nat):Nat->List Nat:=fun j=>if j=k then ws else wd j
theorem MpA.words{w w' b B m}{ws:List Nat}(h:MpA w b B m)(k:Nat)(hk:k<m.o)(kp:Kt (fun x=>x=B.C k) w w')(hS:SetAt w' (B.S k) (B.C k) (m.n/2 ^ (k+1)) ws):MpA w' b B { m with wd:=gQ m.wd k ws }:=by
 obtain⟨cq,hb,hp⟩:=h.hb;have s0:=h.set k hk;refine⟨h.o8,h.n1,h.dv,⟨cq,(kp.block b (lH hb) (bX hb s0.hc (by decide))).trans hb,hp.kept kp (fun x e=>?_)⟩,Rows.kept h.row kp (fun x e=>?_),fun j hj=>?_,h.injS,h.injC,h.ok⟩
 ·rw[e] at hp;obtain⟨ds,hq,_⟩:=hp;exact bX hq s0.hc (by decide)
 ·have hr:=h.row;rw[e] at hr;obtain⟨cs,hgb,_⟩:=hr;exact bX hgb s0.hc (by decide)
 ·show SetAt w' (B.S j) (B.C j) (m.n/2 ^ (j+1)) (gQ m.wd k ws j)
  unfold gQ;by_cases e:j=k
  ·rw[if_pos e,e];exact hS
  ·rw[if_neg e];have s:=h.set j hj;exact s.kept kp (bX s.hb s0.hc (by decide)) (fun e2=>e (h.injC j k hj hk e2))
theorem RE(i k:Nat)(hk:k<8)(W:World):Sem.run prog (Op.shift BinOp.shr IntKind.i64 (i:Int) IntKind.i64 (IntKind.i64.wrap ((k:Int)+1))) W=Result.ok (.int .i64 ((i/2 ^ (k+1):Nat):Int)) W:=by
 have hw:IntKind.i64.wrap ((k:Int)+1)=((k+1:Nat):Int):=by rw[IntKind.wrap_i64];omega
 rw[hw];unfold Op.shift;simp[go_sem];rw[if_neg (by omega),Nat.min_eq_left (by omega),Int.fdiv_eq_ediv_of_nonneg _ (Int.le_of_lt (Int.pow_pos (by decide)))]
theorem RD(b:Nat)(B:Bs)(m:Mp)(k i:Int)(w:World)(h:MpA w b B m)(hp:(aB m.o k && aB m.n i)=false):
  Calls prog 258 #[.pointer (some ⟨b,0,none⟩),.int .i64 k,.int .i64 i] w fun e w'=>e=.returned (.tuple #[.bool false,.int .i64 1])/\Kt nO w w':=by
 have HM:=aA h;have HP:=aA hp;clear h hp;go_enter func258,ntmps258;go_wp2_with fail;refine(pX b B m k i _ HM.out).mono ?_;rintro e w1 ⟨rfl,rfl⟩;rw[HP.out];go_wp2_with fail;exact⟨rfl,_,by simp[results,results258,go_sem],rfl,Kt.refl nO _⟩
theorem RA(b:Nat)(B:Bs)(m:Mp)(k i:Nat)(w:World)(h:MpA w b B m)(hk:k<m.o)(hi:i<m.n):
  Calls prog 258 #[.pointer (some ⟨b,0,none⟩),.int .i64 k,.int .i64 i] w fun e w'=>e=.returned (.tuple #[.bool (cC (m.n/2 ^ (k+1)) (fN (m.n/2 ^ (k+1)) (m.wd k) ((i/2 ^ (k+1):Nat):Int)) ((i/2 ^ (k+1):Nat):Int)),.int .i64 0])/\MpA w' b B { m with wd:=gQ m.wd k (fN (m.n/2 ^ (k+1)) (m.wd k) ((i/2 ^ (k+1):Nat):Int)) }/\Kt (aO b B m.o) w w':=by
 have HM:=aA h;have HP:=aA (show(aB m.o (k:Int) && aB m.n (i:Int))=true by rw[dM hk,dM hi];rfl);obtain⟨q,hq,cp⟩:=h.cp k hk;obtain⟨cq,c2⟩:=h.c2 hq;have FL:=aA (fun w' (kk:Kt nO w w')=>uC (B.S k) (B.C k) _ (m.wd k) ((i/2 ^ (k+1):Nat):Int) w' ((h.set k hk).kept kk (fun x=>x) (fun x=>x)));have hk8:k<8:=by have:=h.o8;omega
 have hi10:i<1024:=by have:=h.n1;omega
 have hki:(k:Int)<m.o:=by omega
 have hsh:=RE i k hk8;have HK:=aA hk;have HI:=aA hi;clear h hq hk hi;go_enter func258,ntmps258;go_wp2_with fail;refine(pX b B m k i _ HM.out).mono ?_;rintro e w1 ⟨rfl,rfl⟩;rw[HP.out];go_wp2_with fail;go_region_with ((go_at_call 285;refine(FL.out _ (Kt.refl nO w1).drew).mono ?_;rintro e w2 ⟨rfl,hS,hK,hsz⟩))
 all_goals
  have M2:=aA ((HM.out.keep (Kt.refl nO _).drew).words k HK.out hK hS);have K2:=aA (show Kt (aO b B m.o) w1 w2 from(Kt.refl nO w1).drew.trans hK (fun _ _ x=>x.elim) (fun x _ e=>.inr (.inr (.inr ⟨k,HK.out,.inr e⟩))));clear hS hK hsz;have PI:=aA (MY b B _ k i w2 M2.out HK.out HI.out);go_wp2_with fail;refine PI.out.mono ?_;rintro e w3 ⟨rfl,hK3⟩;have M3:=aA (M2.out.keep hK3);have K3:=aA (K2.out.trans (U:=aO b B m.o) hK3 (fun _ _ x=>x) (fun _ _ x=>x.elim));clear hK3;go_wp2_with fail;exact⟨rfl,_,by simp[results,results258,go_sem,gQ],rfl,M3.out,K3.out⟩
end Go.Proofs.YtkfmheelhinjdaaGreatDoor
