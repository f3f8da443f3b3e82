import Derived.Test.YtkfmheelhinjdaaGreatDoorXb
import Derived.Test.YtkfmheelhinjdaaGreatDoorZf
set_option maxRecDepth 1000000
set_option maxHeartbeats 80000000
namespace Go.Proofs.YtkfmheelhinjdaaGreatDoor
open Tryz
open Go.RowKit
set_option linter.unusedVariables false
def kH(m:Mp)(p o k:Int):Bool:=decide ((k=0\/k=2)/\0<=o/\o<=m.o) && (aB m.n p && decide (p%2 ^ o.toNat=0))
theorem FI(b:Nat)(B:Bs)(m:Mp)(p o k:Int)(w:World)(h:MpA w b B m)(hc:¬((k=0\/k=2)/\0<=o/\o<=m.o)):
  Calls prog 260 #[.pointer (some ⟨b,0,none⟩),.int .i64 p,.int .i64 o,.int .i64 k] w fun e w'=>e=.returned (.int .i64 1)/\w'=w:=by
 have c0:=h.c0;clear h;by_cases h0:k=0
 ·subst h0;by_cases h1:o<0
  ·clear hc;go_enter func260,ntmps260;go_wp2_with fail;go_ret;exact⟨rfl,rfl⟩
  ·have h2:(m.o:Int)<o:=(by omega);clear hc;go_enter func260,ntmps260;go_wp2_with fail;go_ret;exact⟨rfl,rfl⟩
 ·by_cases h2k:k=2
  ·subst h2k;by_cases h1:o<0
   ·clear hc;go_enter func260,ntmps260;go_wp2_with fail;go_ret;exact⟨rfl,rfl⟩
   ·have h2:(m.o:Int)<o:=(by omega);clear hc;go_enter func260,ntmps260;go_wp2_with fail;go_ret;exact⟨rfl,rfl⟩
  ·clear hc;go_enter func260,ntmps260;go_wp2_with fail;go_ret;exact⟨rfl,rfl⟩
theorem JG(b:Nat)(B:Bs)(m:Mp)(p:Int)(o k:Nat)(w:World)(h:MpA w b B m)(hk:k=0\/k=2)(ho:o<=m.o)(hp:aB m.n p=false):
  Calls prog 260 #[.pointer (some ⟨b,0,none⟩),.int .i64 p,.int .i64 o,.int .i64 k] w fun e w'=>e=.returned (.int .i64 1)/\w'=w:=by
 have c0:=h.c0;have HM:=aA h;have HP:=aA hp;have hoi:¬(m.o:Int)<o:=by omega
 have ho0:¬(o:Int)<0:=by omega
 clear h hp;rcases hk with rfl|rfl
 all_goals
  go_enter func260,ntmps260;go_wp2_with fail;refine(eV b B m p _ HM.out).mono ?_;rintro e w1 ⟨rfl,rfl⟩;rw[HP.out];go_wp2_with fail;go_ret;exact⟨rfl,rfl⟩
theorem JF(b:Nat)(B:Bs)(m:Mp)(p o k:Nat)(w:World)(h:MpA w b B m)(hk:k=0\/k=2)(ho:o<=m.o)(hp:p<m.n)(hm:p%2 ^ o≠0):
  Calls prog 260 #[.pointer (some ⟨b,0,none⟩),.int .i64 p,.int .i64 o,.int .i64 k] w fun e w'=>e=.returned (.int .i64 1)/\w'=w:=by
 have c0:=h.c0;have HM:=aA h;have HP:=aA (dM hp);have ho8:o<=8:=by have:=h.o8;omega
 have hn1:=h.n1;have hoi:¬(m.o:Int)<o:=by omega
 have ho0:¬(o:Int)<0:=by omega
 obtain⟨z,hz⟩:=xe (2 ^ o);have hzi:(2:Int) ^ o=(z:Int):=by rw[hz];simp
 have hz1 : 1<=z:=by rw[hz];exact qW o
 have hz2:z<=256:=by rw[hz];exact Nat.pow_le_pow_right (n:=2) (by decide) ho8
 rw[<-hz] at hm;have hmi:((p:Int)%(z:Int) == 0)=false:=beq_eq_false_iff_ne.2 (by omega);have hmj:((p:Int)%(z:Int) != 0)=true:=by simp only[bne,hmi,Bool.not_false]
 clear h hp hz hm;rcases hk with rfl|rfl
 all_goals
  go_enter func260,ntmps260;go_wp2_with fail;refine(eV b B m p _ HM.out).mono ?_;rintro e w1 ⟨rfl,rfl⟩;rw[HP.out];go_wp2_with fail;go_ret;exact⟨rfl,rfl⟩
def cQ(m:Mp)(p o k:Int):Mp:=if kH m p o k=true then { m with pg:=eW m.pg p.toNat o.toNat k } else m
def gP(m:Mp)(p o k:Int):Int:=if kH m p o k=true then 0 else 1
theorem TS(b:Nat)(B:Bs)(m:Mp)(p o k:Int)(w:World)(h:MpA w b B m):
  Calls prog 260 #[.pointer (some ⟨b,0,none⟩),.int .i64 p,.int .i64 o,.int .i64 k] w fun e w'=>e=.returned (.int .i64 (gP m p o k))/\MpA w' b B (cQ m p o k)/\Kt (aO b B m.o) w w':=by
 have no:∀ {E:Ending} {w':World},kH m p o k=false->E=.returned (.int .i64 1)/\w'=w->E=.returned (.int .i64 (gP m p o k))/\MpA w' b B (cQ m p o k)/\Kt (aO b B m.o) w w':=by
  rintro E w' hc ⟨rfl,rfl⟩;rw[show gP m p o k=1 by simp[gP,hc],show cQ m p o k=m by simp[cQ,hc]];exact⟨rfl,h,Kt.refl _ _⟩
 by_cases h1:(k=0\/k=2)/\0<=o/\o<=m.o
 ·obtain⟨o',rfl⟩:=Int.eq_ofNat_of_zero_le h1.2.1;obtain⟨k',rfl⟩:=Int.eq_ofNat_of_zero_le (show 0<=k by omega);have ho:o'<=m.o:=by omega
  have hk:k'=0\/k'=2:=by omega
  cases h2:aB m.n p with
  | false=>exact(JG b B m p o' k' w h hk ho h2).mono (fun _ _=>no (by simp[kH,h2]))
  | true=>
   obtain⟨q,rfl,hq⟩:=gJ h2;have e1:((q:Int)%2 ^ (o':Int).toNat=0)↔q%2 ^ o'=0:=by
    have:((q:Int)%2 ^ (o':Int).toNat)=((q%2 ^ o':Nat):Int):=by simp
    rw[this];omega
   by_cases h3:q%2 ^ o'=0
   ·have hc:kH m (q:Int) (o':Int) (k':Int)=true:=by
     unfold kH;rw[decide_eq_true h1,h2,decide_eq_true (e1.2 h3)];rfl
    rw[show gP m (q:Int) (o':Int) (k':Int)=0 by simp[gP,hc],show cQ m (q:Int) (o':Int) (k':Int)={ m with pg:=eW m.pg q o' k' } by simp[cQ,hc]];exact xM b B m q o' k' w h hq ho h3 hk
   ·exact(JF b B m q o' k' w h hk ho hq h3).mono (fun _ _=>no (by
     unfold kH;rw[show decide ((q:Int)%2 ^ (o':Int).toNat=0)=false from decide_eq_false (fun e=>h3 (e1.1 e))];simp))
 ·exact(FI b B m p o k w h h1).mono (fun _ _=>no (by
   unfold kH;rw[decide_eq_false h1];rfl))
theorem dP.kept{w w1 w2:World}{b:Nat}{B B':Bs}{o:Nat}(k:Kt (aO b B o) w w1)(f:dP w b B B' o)(k2:Kt (aO b B' o) w1 w2):Kt (aO b B o) w w2:=
 k.trans k2 (fun _ _ x=>x) (fun x hx e=>(f x e).resolve_right (by omega))
def cJ(m:Mp):Mp:=if 1024<m.n+2 ^ m.o then m else { iI m (m.n+2 ^ m.o)with pg:=eW (iI m (m.n+2 ^ m.o)).pg m.n m.o 2 }
theorem zhF(b:Nat)(B:Bs)(m:Mp)(w:World)(h:MpA w b B m)(hf : 1024<m.n+2 ^ m.o):
  Calls prog 210 #[.pointer (some ⟨b,0,none⟩)] w fun e w'=>e=.returned (.tuple #[])/\w'=w:=by
 obtain⟨cq,c0,c1,c2⟩:=h.cb;have ho8:=h.o8;have hn1:=h.n1;obtain⟨z,hz⟩:=xe (2 ^ m.o);have hzi:(2:Int) ^ m.o=(z:Int):=by rw[hz];simp
 have hz2:z<=256:=by rw[hz];exact Nat.pow_le_pow_right (n:=2) (by decide) ho8
 rw[<-hz] at hf;have hfi:(1024:Int)<(m.n:Int)+z:=by omega
 clear h hz;go_enter func210,ntmps210;go_wp2_with fail;exact⟨rfl,.tuple #[],by simp[results,results210,go_sem],rfl,rfl⟩
theorem JZ{n o:Nat}(h:∃ r,n=r*2 ^ o):∃ r,n+2 ^ o=r*2 ^ o:=by
 obtain⟨r,hr⟩:=h;exact⟨r+1,by rw[hr,Nat.add_mul,Nat.one_mul]⟩
theorem JY{n o:Nat}(h:∃ r,n=r*2 ^ o):n%2 ^ o=0:=by
 obtain⟨r,hr⟩:=h;rw[hr];exact Nat.mul_mod_left _ _
theorem TQ(b:Nat)(B:Bs)(m:Mp)(w:World)(h:MpA w b B m)(hf:¬ 1024<m.n+2 ^ m.o):
  Calls prog 210 #[.pointer (some ⟨b,0,none⟩)] w fun e w'=>e=.returned (.tuple #[])/\∃ B',MpA w' b B' (cJ m)/\Kt (aO b B m.o) w w'/\dP w b B B' m.o:=by
 rw[show cJ m={ iI m (m.n+2 ^ m.o)with pg:=eW (iI m (m.n+2 ^ m.o)).pg m.n m.o 2 } by simp only[cJ,if_neg hf]];obtain⟨cq,c0,c1,c2⟩:=h.cb;have ho8:=h.o8;have hn1:=h.n1;have RZ:=aA (zfL b B m (m.n+2 ^ m.o) (by omega) (JZ h.dv) w h);have RN:=aA (fun w1 B1 (h1:MpA w1 b B1 (iI m (m.n+2 ^ m.o)))=>xM b B1 (iI m (m.n+2 ^ m.o)) m.n m.o 2 w1 h1 (by show m.n<m.n+2 ^ m.o;have:=qW m.o;omega) (Nat.le_refl _) (JY h.dv) (.inr rfl));obtain⟨z,hz⟩:=xe (2 ^ m.o);have hzi:(2:Int) ^ m.o=(z:Int):=by rw[hz];simp
 have hz2:z<=256:=by rw[hz];exact Nat.pow_le_pow_right (n:=2) (by decide) ho8
 rw[<-hz] at hf RZ RN ⊢;have hfi:¬(1024:Int)<(m.n:Int)+z:=by omega
 have hcast:((m.n+z:Nat):Int)=(m.n:Int)+z:=by omega
 rw[hcast] at RZ;have HOM:=aA (show(iI m (m.n+z)).o=m.o from rfl);generalize iI m (m.n+z)=m2 at *;clear h hz hcast;go_enter func210,ntmps210;go_wp2_with fail;refine RZ.out.mono ?_;rintro e w1 ⟨rfl,B1,hM1,hK1,hF1⟩;have M1:=aA hM1;have K1:=aA hK1;have F1:=aA hF1;have c0:=hM1.c0;rw[HOM.out] at c0;clear hM1 hK1 hF1;go_wp2_with fail;refine(RN.out w1 B1 M1.out).mono ?_;rintro e w2 ⟨rfl,hM2,hK2⟩;have M2:=aA hM2;have K2:=aA hK2;rw[HOM.out] at K2;clear hM2 hK2;go_wp2_with fail;go_end0
 exact⟨rfl,B1,M2.out,dP.kept K1.out F1.out K2.out,F1.out⟩
theorem dP.refl(w:World)(b:Nat)(B:Bs)(o:Nat):dP w b B B o:=fun _ h=>.inl h
theorem WZ(b:Nat)(B:Bs)(m:Mp)(w:World)(h:MpA w b B m):
  Calls prog 210 #[.pointer (some ⟨b,0,none⟩)] w fun e w'=>e=.returned (.tuple #[])/\∃ B',MpA w' b B' (cJ m)/\Kt (aO b B m.o) w w'/\dP w b B B' m.o:=by
 by_cases hf : 1024<m.n+2 ^ m.o
 ·refine(zhF b B m w h hf).mono ?_;rintro e w' ⟨rfl,rfl⟩;rw[show cJ m=m by simp only[cJ,if_pos hf]];exact⟨rfl,B,h,Kt.refl _ _,dP.refl _ _ _ _⟩
 ·exact TQ b B m w h hf
def fC(w w':World)(b:Nat)(B:Bs)(o:Nat)(m':Mp):Prop:=MpA w' b B m'/\Kt (aO b B o) w w'
theorem fC.same{w w' b B m}(h:MpA w b B m)(k:Kt nO w w'):fC w w' b B m.o m:=⟨h.keep k,k.mono (fun _ _ x=>x.elim)⟩
theorem fC.mk{w w' b B o m'}(h:MpA w' b B m')(k:Kt (aO b B o) w w'):fC w w' b B o m':=⟨h,k⟩
theorem NA(b:Nat)(B:Bs)(m:Mp)(i c:Int)(w:World)(h:MpA w b B m)(hc:¬(aB m.n i=true/\0<=c/\c<=7)):
  Calls prog 194 #[.pointer (some ⟨b,0,none⟩),.int .i64 i,.int .i64 c] w fun e w'=>e=.returned (.int .i64 1)/\Kt nO w w':=by
 have HM:=aA h
 cases hi:aB m.n i with
 | false=>
  have HI:=aA hi;clear h hc hi;go_enter func194,ntmps194;go_wp2_with fail;refine(eV b B m i _ HM.out).mono ?_;rintro e w1 ⟨rfl,rfl⟩;rw[HI.out];go_wp2_with fail;go_ret;exact⟨rfl,Kt.refl nO _⟩
 | true=>
  have HI:=aA hi;by_cases h0:c<0
  ·clear h hc hi;go_enter func194,ntmps194;go_wp2_with fail;refine(eV b B m i _ HM.out).mono ?_;rintro e w1 ⟨rfl,rfl⟩;rw[HI.out];go_wp2_with fail;go_ret;exact⟨rfl,Kt.refl nO _⟩
  ·have h8 : 8<=c:=by
    by_cases h7:c<=7
    ·exact absurd ⟨hi,by omega,h7⟩ hc
    ·omega
   clear h hc hi;go_enter func194,ntmps194;go_wp2_with fail;refine(eV b B m i _ HM.out).mono ?_;rintro e w1 ⟨rfl,rfl⟩;rw[HI.out];go_wp2_with fail;go_ret;exact⟨rfl,Kt.refl nO _⟩
theorem VC(b:Nat)(B:Bs)(m:Mp)(i c:Int)(w:World)(h:MpA w b B m):
  Calls prog 194 #[.pointer (some ⟨b,0,none⟩),.int .i64 i,.int .i64 c] w fun e w'=>e=.returned (.int .i64 (oP m i c))/\fC w w' b B m.o (iY m i c):=by
 by_cases hc:aB m.n i=true/\0<=c/\c<=7
 ·rw[show oP m i c=0 from if_pos hc,show iY m i c={ m with pg:=aK m.pg i.toNat (dI c) } from if_pos hc];obtain⟨k,rfl,hk⟩:=gJ hc.1;obtain⟨d,rfl⟩:=Int.eq_ofNat_of_zero_le hc.2.1;refine(TE b B m k d w h hk (by omega)).mono ?_;rintro e w' ⟨rfl,h1,h2⟩;exact⟨rfl,fC.mk h1 h2⟩
 ·rw[show oP m i c=1 from if_neg hc,show iY m i c=m from if_neg hc];refine(NA b B m i c w h hc).mono ?_;rintro e w' ⟨rfl,hk⟩;exact⟨rfl,fC.same h hk⟩
def nM(m:Mp)(i c:Int):Bool:=aB m.n i && (decide ((m.pg i.toNat).kd=4) && aB (eR (m.pg i.toNat).cl) c)
def jA(m:Mp)(i c:Int)(live:Bool):Bool:=nM m i c && (aJ (m.pg i.toNat) c.toNat != live)
def cW(m:Mp)(i c:Int)(live:Bool):Mp:=if jA m i c live=true then { m with pg:=aK m.pg i.toNat (bU (m.pg i.toNat) c.toNat) } else m
def eG(m:Mp)(i c:Int)(live:Bool):Int:=if jA m i c live=true then 0 else 1
theorem PZ(b:Nat)(B:Bs)(m:Mp)(i c:Int)(live:Bool)(w:World)(h:MpA w b B m):
  Calls prog 200 #[.pointer (some ⟨b,0,none⟩),.int .i64 i,.int .i64 c,.bool live] w fun e w'=>e=.returned (.int .i64 (eG m i c live))/\fC w w' b B m.o (cW m i c live):=by
 have no:∀ {E:Ending} {w':World},jA m i c live=false->E=.returned (.int .i64 1)/\w'=w->E=.returned (.int .i64 (eG m i c live))/\fC w w' b B m.o (cW m i c live):=by
  rintro E w' hc ⟨rfl,rfl⟩;rw[show eG m i c live=1 by simp[eG,hc],show cW m i c live=m by simp[cW,hc]];exact⟨rfl,fC.same h (Kt.refl _ _)⟩
 cases hi:aB m.n i with
 | false=>exact(TV b B m i c live w h hi).mono (fun _ _=>no (by simp[jA,nM,hi]))
 | true=>
  obtain⟨k,rfl,hk⟩:=gJ hi;by_cases hkd:(m.pg k).kd=4
  ·cases hc:aB (eR (m.pg k).cl) c with
   | false=>exact(XH b B m k c live w h hk hkd hc).mono (fun _ _=>no (by simp[jA,nM,hc]))
   | true=>
    obtain⟨d,rfl,hd⟩:=KC (h.ok k hk).c0 hc;by_cases hl:aJ (m.pg k) d=live
    ·subst hl;refine(XG b B m k d w h hk hkd hc hd).mono ?_;rintro E w' ⟨rfl,hkk⟩;have hcc:jA m (k:Int) (d:Int) (aJ (m.pg k) d)=false:=(by simp[jA]);rw[show eG m (k:Int) (d:Int) (aJ (m.pg k) d)=1 by simp[eG,hcc],show cW m (k:Int) (d:Int) (aJ (m.pg k) d)=m by simp[cW,hcc]];exact⟨rfl,fC.same h hkk⟩
    ·obtain rfl:live=!aJ (m.pg k) d:=(by revert hl;cases aJ (m.pg k) d <;> cases live <;> simp);have hcc:jA m (k:Int) (d:Int) (!aJ (m.pg k) d)=true:=by
      unfold jA nM;rw[hi,Int.toNat_natCast,Int.toNat_natCast,decide_eq_true hkd,hc]
      cases aJ (m.pg k) d <;> rfl
     rw[show eG m (k:Int) (d:Int) (!aJ (m.pg k) d)=0 by simp[eG,hcc],show cW m (k:Int) (d:Int) (!aJ (m.pg k) d)={ m with pg:=aK m.pg k (bU (m.pg k) d) } by simp[cW,hcc]];refine(XB b B m k d w h hk hkd hc hd).mono ?_;rintro E w' ⟨rfl,h1,h2⟩;exact⟨rfl,fC.mk h1 h2⟩
  ·exact(XI b B m k c live w h hk hkd).mono (fun _ _=>no (by simp[jA,nM,hkd]))
def kN(m:Mp)(i c:Int):Bool:=aB m.n i && (decide ((m.pg i.toNat).kd=4) && (c == -1 || aB (eR (m.pg i.toNat).cl) c))
def fN(m:Mp)(i c:Int):Mp:=if kN m i c=true then { m with pg:=aK m.pg i.toNat { m.pg i.toNat with fs:=c } } else m
def jR(m:Mp)(i c:Int):Int:=if kN m i c=true then 0 else 1
theorem ZO(b:Nat)(B:Bs)(m:Mp)(i c:Int)(w:World)(h:MpA w b B m):
  Calls prog 196 #[.pointer (some ⟨b,0,none⟩),.int .i64 i,.int .i64 c] w fun e w'=>e=.returned (.int .i64 (jR m i c))/\fC w w' b B m.o (fN m i c):=by
 have no:∀ {E:Ending} {w':World},kN m i c=false->E=.returned (.int .i64 1)/\w'=w->E=.returned (.int .i64 (jR m i c))/\fC w w' b B m.o (fN m i c):=by
  rintro E w' hc ⟨rfl,rfl⟩;rw[show jR m i c=1 by simp[jR,hc],show fN m i c=m by simp[fN,hc]];exact⟨rfl,fC.same h (Kt.refl _ _)⟩
 cases hi:aB m.n i with
 | false=>exact(zi0 b B m i c w h hi).mono (fun _ _=>no (by simp[kN,hi]))
 | true=>
  obtain⟨k,rfl,hk⟩:=gJ hi;by_cases hkd:(m.pg k).kd=4
  ·by_cases hc:c = -1\/aB (eR (m.pg k).cl) c=true
   ·have hcc:kN m (k:Int) c=true:=by
     unfold kN;rw[hi,Int.toNat_natCast,decide_eq_true hkd];rcases hc with rfl|hc
     ·rfl
     ·simp[hc]
    rw[show jR m (k:Int) c=0 by simp[jR,hcc],show fN m (k:Int) c={ m with pg:=aK m.pg k { m.pg k with fs:=c } } by simp[fN,hcc]];refine(WG b B m k c w h hk hkd hc).mono ?_;rintro E w' ⟨rfl,h1,h2⟩;exact⟨rfl,fC.mk h1 h2⟩
   ·have h1:c ≠ -1:=fun e=>hc (.inl e)
    have h2:aB (eR (m.pg k).cl) c=false:=by cases e:aB (eR (m.pg k).cl) c with|false=>rfl|true=>exact absurd (.inr e) hc
    exact(zhq b B m k c w h hk hkd h1 h2).mono (fun _ _=>no (by simp[kN,h1,h2]))
  ·exact(zhp b B m k c w h hk hkd).mono (fun _ _=>no (by simp[kN,hkd]))
def jT(m:Mp)(i x y:Int):Bool:=aB m.n i && (decide ((m.pg i.toNat).kd=4) && (cN m.n x && cN m.n y))
def dL(m:Mp)(i x y:Int):Mp:=if jT m i x y=true then { m with pg:=aK m.pg i.toNat { m.pg i.toNat with nx:=x,pv:=y } } else m
def mK(m:Mp)(i x y:Int):Int:=if jT m i x y=true then 0 else 1
theorem ZN(b:Nat)(B:Bs)(m:Mp)(i x y:Int)(w:World)(h:MpA w b B m):
  Calls prog 250 #[.pointer (some ⟨b,0,none⟩),.int .i64 i,.int .i64 x,.int .i64 y] w fun e w'=>e=.returned (.int .i64 (mK m i x y))/\fC w w' b B m.o (dL m i x y):=by
 have no:∀ {E:Ending} {w':World},jT m i x y=false->E=.returned (.int .i64 1)/\w'=w->E=.returned (.int .i64 (mK m i x y))/\fC w w' b B m.o (dL m i x y):=by
  rintro E w' hc ⟨rfl,rfl⟩;rw[show mK m i x y=1 by simp[mK,hc],show dL m i x y=m by simp[dL,hc]];exact⟨rfl,fC.same h (Kt.refl _ _)⟩
 cases hi:aB m.n i with
 | false=>exact(ziZ b B m i x y w h hi).mono (fun _ _=>no (by simp[jT,hi]))
 | true=>
  obtain⟨k,rfl,hk⟩:=gJ hi;by_cases hkd:(m.pg k).kd=4
  ·cases hx:cN m.n x with
   | false=>
    have h1:x ≠ -1:=fun e=>by subst e;simp[cN] at hx
    have h2:aB m.n x=false:=(by simpa [cN,h1] using hx);exact(zho b B m k x y w h hk hkd h1 h2).mono (fun _ _=>no (by simp[jT,hx]))
   | true=>
    cases hy:cN m.n y with
    | false=>exact(DR b B m k x y w h hk hkd hx 1 w (.inl ⟨hy,rfl,rfl⟩)).mono (fun _ _=>no (by simp[jT,hy]))
    | true=>
     obtain⟨g,hg,hr⟩:=h.has_row (by omega);have hcc:jT m (k:Int) x y=true:=by
      unfold jT;rw[hi,Int.toNat_natCast,decide_eq_true hkd,hx,hy];rfl
     rw[show mK m (k:Int) x y=0 by simp[mK,hcc],show dL m (k:Int) x y={ m with pg:=aK m.pg k { m.pg k with nx:=x,pv:=y } } by simp[dL,hcc]];refine(DR b B m k x y w h hk hkd hx 0 _ (.inr ⟨hy,rfl,g,hg,rfl⟩)).mono ?_;rintro E w' ⟨rfl,rfl⟩;refine⟨rfl,fC.mk (h.pages hg (((Kt.refl (fun x=>x=g) w).setCell (p:=⟨g,_,none⟩) rfl _).setCell (p:=⟨g,_,none⟩) rfl _) (hr.f45 k hk x y) (fun j hj=>?_)) (((Kt.refl (aO b B m.o) w).setCell (p:=⟨g,_,none⟩) (.inr (.inl hg)) _).setCell (p:=⟨g,_,none⟩) (.inr (.inl hg)) _)⟩;unfold aK;split
     ·exact⟨(h.ok k hk).o0,(h.ok k hk).o8,(h.ok k hk).c0,(h.ok k hk).c7,(h.ok k hk).b0,(h.ok k hk).b1,(h.ok k hk).b2,(h.ok k hk).b3⟩
     ·exact h.ok j hj
  ·exact(zhn b B m k x y w h hk hkd).mono (fun _ _=>no (by simp[jT,hkd]))
def mS(k i:Int):Nat:=i.toNat/2 ^ (k.toNat+1)
def mT(m:Mp)(k:Int):Nat:=m.n/2 ^ (k.toNat+1)
def dE(m:Mp)(k i:Int):Bool:=aB m.o k && aB m.n i
def eL(m:Mp)(k i:Int):Mp:=if dE m k i=true then { m with wd:=gO m.wd k.toNat (fM (mT m k) (m.wd k.toNat) (mS k i:Int)) } else m
def oM(m:Mp)(k i:Int):Int:=if dE m k i=true then 0 else 1
def gW(m:Mp)(k i:Int):Bool:=dE m k i && cA (mT m k) (m.wd k.toNat) (mS k i:Int)
end Go.Proofs.YtkfmheelhinjdaaGreatDoor
