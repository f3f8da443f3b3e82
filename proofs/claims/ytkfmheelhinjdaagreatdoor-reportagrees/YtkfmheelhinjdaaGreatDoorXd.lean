import Derived.Test.YtkfmheelhinjdaaGreatDoorXc
import Derived.Test.YtkfmheelhinjdaaGreatDoorXa
set_option maxRecDepth 1000000
set_option maxHeartbeats 80000000
namespace Go.Proofs.YtkfmheelhinjdaaGreatDoor
open Tryz
open Go.RowKit
set_option linter.unusedVariables false
def kH(m:Mp)(p o k:Int):Bool:=decide ((k=0\/k=2)/\0<=o/\o<=m.o) && (aB m.n p && decide (p%2 ^ o.toNat=0))
theorem JT(b:Nat)(B:Bs)(m:Mp)(p o k:Int)(w:World)(h:MpA w b B m)(hc:¬((k=0\/k=2)/\0<=o/\o<=m.o)):
  Calls prog 260 #[.pointer (some ⟨b,0,none⟩),.int .i64 p,.int .i64 o,.int .i64 k] w fun e w'=>e=.returned (.int .i64 1)/\w'=w:=by
 have c0:=h.c0;clear h;by_cases h0:k=0
 ·subst h0;by_cases h1:o<0
  ·clear hc;go_enter func260,ntmps260;go_wp2_with fail;go_ret;exact⟨rfl,rfl⟩
  ·have h2:(m.o:Int)<o:=(by omega);clear hc;go_enter func260,ntmps260;go_wp2_with fail;go_ret;exact⟨rfl,rfl⟩
 ·by_cases h2k:k=2
  ·subst h2k;by_cases h1:o<0
   ·clear hc;go_enter func260,ntmps260;go_wp2_with fail;go_ret;exact⟨rfl,rfl⟩
   ·have h2:(m.o:Int)<o:=(by omega);clear hc;go_enter func260,ntmps260;go_wp2_with fail;go_ret;exact⟨rfl,rfl⟩
  ·clear hc;go_enter func260,ntmps260;go_wp2_with fail;go_ret;exact⟨rfl,rfl⟩
theorem JR(b:Nat)(B:Bs)(m:Mp)(p:Int)(o k:Nat)(w:World)(h:MpA w b B m)(hk:k=0\/k=2)(ho:o<=m.o)(hp:aB m.n p=false):
  Calls prog 260 #[.pointer (some ⟨b,0,none⟩),.int .i64 p,.int .i64 o,.int .i64 k] w fun e w'=>e=.returned (.int .i64 1)/\w'=w:=by
 have c0:=h.c0;have HM:=aA h;have HP:=aA hp;have hoi:¬(m.o:Int)<o:=by omega
 have ho0:¬(o:Int)<0:=by omega
 clear h hp;rcases hk with rfl|rfl
 all_goals
  go_enter func260,ntmps260;go_wp2_with fail;refine(eW b B m p _ HM.out).mono ?_;rintro e w1 ⟨rfl,rfl⟩;rw[HP.out];go_wp2_with fail;go_ret;exact⟨rfl,rfl⟩
theorem JQ(b:Nat)(B:Bs)(m:Mp)(p o k:Nat)(w:World)(h:MpA w b B m)(hk:k=0\/k=2)(ho:o<=m.o)(hp:p<m.n)(hm:p%2 ^ o≠0):
  Calls prog 260 #[.pointer (some ⟨b,0,none⟩),.int .i64 p,.int .i64 o,.int .i64 k] w fun e w'=>e=.returned (.int .i64 1)/\w'=w:=by
 have c0:=h.c0;have HM:=aA h;have HP:=aA (dK hp);have ho8:o<=8:=by have:=h.o8;omega
 have hn1:=h.n1;have hoi:¬(m.o:Int)<o:=by omega
 have ho0:¬(o:Int)<0:=by omega
 obtain⟨z,hz⟩:=xe (2 ^ o);have hzi:(2:Int) ^ o=(z:Int):=by rw[hz];simp
 have hz1 : 1<=z:=by rw[hz];exact qW o
 have hz2:z<=256:=by rw[hz];exact Nat.pow_le_pow_right (n:=2) (by decide) ho8
 rw[<-hz] at hm;have hmi:((p:Int)%(z:Int) == 0)=false:=beq_eq_false_iff_ne.2 (by omega);have hmj:((p:Int)%(z:Int) != 0)=true:=by simp only[bne,hmi,Bool.not_false]
 clear h hp hz hm;rcases hk with rfl|rfl
 all_goals
  go_enter func260,ntmps260;go_wp2_with fail;refine(eW b B m p _ HM.out).mono ?_;rintro e w1 ⟨rfl,rfl⟩;rw[HP.out];go_wp2_with fail;go_ret;exact⟨rfl,rfl⟩
def cP(m:Mp)(p o k:Int):Mp:=if kH m p o k=true then { m with pg:=eX m.pg p.toNat o.toNat k } else m
def gS(m:Mp)(p o k:Int):Int:=if kH m p o k=true then 0 else 1
theorem UB(b:Nat)(B:Bs)(m:Mp)(p o k:Int)(w:World)(h:MpA w b B m):
  Calls prog 260 #[.pointer (some ⟨b,0,none⟩),.int .i64 p,.int .i64 o,.int .i64 k] w fun e w'=>e=.returned (.int .i64 (gS m p o k))/\MpA w' b B (cP m p o k)/\Kt (aO b B m.o) w w':=by
 have no:∀ {E:Ending} {w':World},kH m p o k=false->E=.returned (.int .i64 1)/\w'=w->E=.returned (.int .i64 (gS m p o k))/\MpA w' b B (cP m p o k)/\Kt (aO b B m.o) w w':=by
  rintro E w' hc ⟨rfl,rfl⟩;rw[show gS m p o k=1 by simp[gS,hc],show cP m p o k=m by simp[cP,hc]];exact⟨rfl,h,Kt.refl _ _⟩
 by_cases h1:(k=0\/k=2)/\0<=o/\o<=m.o
 ·obtain⟨o',rfl⟩:=Int.eq_ofNat_of_zero_le h1.2.1;obtain⟨k',rfl⟩:=Int.eq_ofNat_of_zero_le (show 0<=k by omega);have ho:o'<=m.o:=by omega
  have hk:k'=0\/k'=2:=by omega
  cases h2:aB m.n p with
  | false=>exact(JR b B m p o' k' w h hk ho h2).mono (fun _ _=>no (by simp[kH,h2]))
  | true=>
   obtain⟨q,rfl,hq⟩:=gL h2;have e1:((q:Int)%2 ^ (o':Int).toNat=0)↔q%2 ^ o'=0:=by
    have:((q:Int)%2 ^ (o':Int).toNat)=((q%2 ^ o':Nat):Int):=by simp
    rw[this];omega
   by_cases h3:q%2 ^ o'=0
   ·have hc:kH m (q:Int) (o':Int) (k':Int)=true:=by
     unfold kH;rw[decide_eq_true h1,h2,decide_eq_true (e1.2 h3)];rfl
    rw[show gS m (q:Int) (o':Int) (k':Int)=0 by simp[gS,hc],show cP m (q:Int) (o':Int) (k':Int)={ m with pg:=eX m.pg q o' k' } by simp[cP,hc]];exact xR b B m q o' k' w h hq ho h3 hk
   ·exact(JQ b B m q o' k' w h hk ho hq h3).mono (fun _ _=>no (by
     unfold kH;rw[show decide ((q:Int)%2 ^ (o':Int).toNat=0)=false from decide_eq_false (fun e=>h3 (e1.1 e))];simp))
 ·exact(JT b B m p o k w h h1).mono (fun _ _=>no (by
   unfold kH;rw[decide_eq_false h1];rfl))
theorem dN.kept{w w1 w2:World}{b:Nat}{B B':Bs}{o:Nat}(k:Kt (aO b B o) w w1)(f:dN w b B B' o)(k2:Kt (aO b B' o) w1 w2):Kt (aO b B o) w w2:=
 k.trans k2 (fun _ _ x=>x) (fun x hx e=>(f x e).resolve_right (by omega))
def cJ(m:Mp):Mp:=if 1024<m.n+2 ^ m.o then m else { iM m (m.n+2 ^ m.o)with pg:=eX (iM m (m.n+2 ^ m.o)).pg m.n m.o 2 }
theorem zhM(b:Nat)(B:Bs)(m:Mp)(w:World)(h:MpA w b B m)(hf : 1024<m.n+2 ^ m.o):
  Calls prog 210 #[.pointer (some ⟨b,0,none⟩)] w fun e w'=>e=.returned (.tuple #[])/\w'=w:=by
 obtain⟨cq,c0,c1,c2⟩:=h.cb;have ho8:=h.o8;have hn1:=h.n1;obtain⟨z,hz⟩:=xe (2 ^ m.o);have hzi:(2:Int) ^ m.o=(z:Int):=by rw[hz];simp
 have hz2:z<=256:=by rw[hz];exact Nat.pow_le_pow_right (n:=2) (by decide) ho8
 rw[<-hz] at hf;have hfi:(1024:Int)<(m.n:Int)+z:=by omega
 clear h hz;go_enter func210,ntmps210;go_wp2_with fail;exact⟨rfl,.tuple #[],by simp[results,results210,go_sem],rfl,rfl⟩
theorem OQ{n o:Nat}(h:∃ r,n=r*2 ^ o):∃ r,n+2 ^ o=r*2 ^ o:=by
 obtain⟨r,hr⟩:=h;exact⟨r+1,by rw[hr,Nat.add_mul,Nat.one_mul]⟩
theorem OO{n o:Nat}(h:∃ r,n=r*2 ^ o):n%2 ^ o=0:=by
 obtain⟨r,hr⟩:=h;rw[hr];exact Nat.mul_mod_left _ _
theorem UA(b:Nat)(B:Bs)(m:Mp)(w:World)(h:MpA w b B m)(hf:¬ 1024<m.n+2 ^ m.o):
  Calls prog 210 #[.pointer (some ⟨b,0,none⟩)] w fun e w'=>e=.returned (.tuple #[])/\∃ B',MpA w' b B' (cJ m)/\Kt (aO b B m.o) w w'/\dN w b B B' m.o:=by
 rw[show cJ m={ iM m (m.n+2 ^ m.o)with pg:=eX (iM m (m.n+2 ^ m.o)).pg m.n m.o 2 } by simp only[cJ,if_neg hf]];obtain⟨cq,c0,c1,c2⟩:=h.cb;have ho8:=h.o8;have hn1:=h.n1;have RZ:=aA (zfO b B m (m.n+2 ^ m.o) (by omega) (OQ h.dv) w h);have RN:=aA (fun w1 B1 (h1:MpA w1 b B1 (iM m (m.n+2 ^ m.o)))=>xR b B1 (iM m (m.n+2 ^ m.o)) m.n m.o 2 w1 h1 (by show m.n<m.n+2 ^ m.o;have:=qW m.o;omega) (Nat.le_refl _) (OO h.dv) (.inr rfl));obtain⟨z,hz⟩:=xe (2 ^ m.o);have hzi:(2:Int) ^ m.o=(z:Int):=by rw[hz];simp
 have hz2:z<=256:=by rw[hz];exact Nat.pow_le_pow_right (n:=2) (by decide) ho8
 rw[<-hz] at hf RZ RN ⊢;have hfi:¬(1024:Int)<(m.n:Int)+z:=by omega
 have hcast:((m.n+z:Nat):Int)=(m.n:Int)+z:=by omega
 rw[hcast] at RZ;have HOM:=aA (show(iM m (m.n+z)).o=m.o from rfl);generalize iM m (m.n+z)=m2 at *;clear h hz hcast;go_enter func210,ntmps210;go_wp2_with fail;refine RZ.out.mono ?_;rintro e w1 ⟨rfl,B1,hM1,hK1,hF1⟩;have M1:=aA hM1;have K1:=aA hK1;have F1:=aA hF1;have c0:=hM1.c0;rw[HOM.out] at c0;clear hM1 hK1 hF1;go_wp2_with fail;refine(RN.out w1 B1 M1.out).mono ?_;rintro e w2 ⟨rfl,hM2,hK2⟩;have M2:=aA hM2;have K2:=aA hK2;rw[HOM.out] at K2;clear hM2 hK2;go_wp2_with fail;go_end0
 exact⟨rfl,B1,M2.out,dN.kept K1.out F1.out K2.out,F1.out⟩
theorem dN.refl(w:World)(b:Nat)(B:Bs)(o:Nat):dN w b B B o:=fun _ h=>.inl h
theorem XX(b:Nat)(B:Bs)(m:Mp)(w:World)(h:MpA w b B m):
  Calls prog 210 #[.pointer (some ⟨b,0,none⟩)] w fun e w'=>e=.returned (.tuple #[])/\∃ B',MpA w' b B' (cJ m)/\Kt (aO b B m.o) w w'/\dN w b B B' m.o:=by
 by_cases hf : 1024<m.n+2 ^ m.o
 ·refine(zhM b B m w h hf).mono ?_;rintro e w' ⟨rfl,rfl⟩;rw[show cJ m=m by simp only[cJ,if_pos hf]];exact⟨rfl,B,h,Kt.refl _ _,dN.refl _ _ _ _⟩
 ·exact UA b B m w h hf
def fF(w w':World)(b:Nat)(B:Bs)(o:Nat)(m':Mp):Prop:=MpA w' b B m'/\Kt (aO b B o) w w'
theorem fF.same{w w' b B m}(h:MpA w b B m)(k:Kt nO w w'):fF w w' b B m.o m:=⟨h.keep k,k.mono (fun _ _ x=>x.elim)⟩
theorem fF.mk{w w' b B o m'}(h:MpA w' b B m')(k:Kt (aO b B o) w w'):fF w w' b B o m':=⟨h,k⟩
theorem IY(b:Nat)(B:Bs)(m:Mp)(i c:Int)(w:World)(h:MpA w b B m)(hc:¬(aB m.n i=true/\0<=c/\c<=7)):
  Calls prog 194 #[.pointer (some ⟨b,0,none⟩),.int .i64 i,.int .i64 c] w fun e w'=>e=.returned (.int .i64 1)/\Kt nO w w':=by
 have HM:=aA h
 cases hi:aB m.n i with
 | false=>
  have HI:=aA hi;clear h hc hi;go_enter func194,ntmps194;go_wp2_with fail;refine(eW b B m i _ HM.out).mono ?_;rintro e w1 ⟨rfl,rfl⟩;rw[HI.out];go_wp2_with fail;go_ret;exact⟨rfl,Kt.refl nO _⟩
 | true=>
  have HI:=aA hi;by_cases h0:c<0
  ·clear h hc hi;go_enter func194,ntmps194;go_wp2_with fail;refine(eW b B m i _ HM.out).mono ?_;rintro e w1 ⟨rfl,rfl⟩;rw[HI.out];go_wp2_with fail;go_ret;exact⟨rfl,Kt.refl nO _⟩
  ·have h8 : 8<=c:=by
    by_cases h7:c<=7
    ·exact absurd ⟨hi,by omega,h7⟩ hc
    ·omega
   clear h hc hi;go_enter func194,ntmps194;go_wp2_with fail;refine(eW b B m i _ HM.out).mono ?_;rintro e w1 ⟨rfl,rfl⟩;rw[HI.out];go_wp2_with fail;go_ret;exact⟨rfl,Kt.refl nO _⟩
theorem VJ(b:Nat)(B:Bs)(m:Mp)(i c:Int)(w:World)(h:MpA w b B m):
  Calls prog 194 #[.pointer (some ⟨b,0,none⟩),.int .i64 i,.int .i64 c] w fun e w'=>e=.returned (.int .i64 (oR m i c))/\fF w w' b B m.o (jA m i c):=by
 by_cases hc:aB m.n i=true/\0<=c/\c<=7
 ·rw[show oR m i c=0 from if_pos hc,show jA m i c={ m with pg:=aK m.pg i.toNat (dH c) } from if_pos hc];obtain⟨k,rfl,hk⟩:=gL hc.1;obtain⟨d,rfl⟩:=Int.eq_ofNat_of_zero_le hc.2.1;refine(TO b B m k d w h hk (by omega)).mono ?_;rintro e w' ⟨rfl,h1,h2⟩;exact⟨rfl,fF.mk h1 h2⟩
 ·rw[show oR m i c=1 from if_neg hc,show jA m i c=m from if_neg hc];refine(IY b B m i c w h hc).mono ?_;rintro e w' ⟨rfl,hk⟩;exact⟨rfl,fF.same h hk⟩
def nV(m:Mp)(i c:Int):Bool:=aB m.n i && (decide ((m.pg i.toNat).kd=4) && aB (eV (m.pg i.toNat).cl) c)
def jC(m:Mp)(i c:Int)(live:Bool):Bool:=nV m i c && (aJ (m.pg i.toNat) c.toNat != live)
def cW(m:Mp)(i c:Int)(live:Bool):Mp:=if jC m i c live=true then { m with pg:=aK m.pg i.toNat (bX (m.pg i.toNat) c.toNat) } else m
def eC(m:Mp)(i c:Int)(live:Bool):Int:=if jC m i c live=true then 0 else 1
theorem TG(b:Nat)(B:Bs)(m:Mp)(i c:Int)(live:Bool)(w:World)(h:MpA w b B m):
  Calls prog 200 #[.pointer (some ⟨b,0,none⟩),.int .i64 i,.int .i64 c,.bool live] w fun e w'=>e=.returned (.int .i64 (eC m i c live))/\fF w w' b B m.o (cW m i c live):=by
 have no:∀ {E:Ending} {w':World},jC m i c live=false->E=.returned (.int .i64 1)/\w'=w->E=.returned (.int .i64 (eC m i c live))/\fF w w' b B m.o (cW m i c live):=by
  rintro E w' hc ⟨rfl,rfl⟩;rw[show eC m i c live=1 by simp[eC,hc],show cW m i c live=m by simp[cW,hc]];exact⟨rfl,fF.same h (Kt.refl _ _)⟩
 cases hi:aB m.n i with
 | false=>exact(UE b B m i c live w h hi).mono (fun _ _=>no (by simp[jC,nV,hi]))
 | true=>
  obtain⟨k,rfl,hk⟩:=gL hi;by_cases hkd:(m.pg k).kd=4
  ·cases hc:aB (eV (m.pg k).cl) c with
   | false=>exact(YB b B m k c live w h hk hkd hc).mono (fun _ _=>no (by simp[jC,nV,hc]))
   | true=>
    obtain⟨d,rfl,hd⟩:=OS (h.ok k hk).c0 hc;by_cases hl:aJ (m.pg k) d=live
    ·subst hl;refine(YA b B m k d w h hk hkd hc hd).mono ?_;rintro E w' ⟨rfl,hkk⟩;have hcc:jC m (k:Int) (d:Int) (aJ (m.pg k) d)=false:=(by simp[jC]);rw[show eC m (k:Int) (d:Int) (aJ (m.pg k) d)=1 by simp[eC,hcc],show cW m (k:Int) (d:Int) (aJ (m.pg k) d)=m by simp[cW,hcc]];exact⟨rfl,fF.same h hkk⟩
    ·obtain rfl:live=!aJ (m.pg k) d:=(by revert hl;cases aJ (m.pg k) d <;> cases live <;> simp);have hcc:jC m (k:Int) (d:Int) (!aJ (m.pg k) d)=true:=by
      unfold jC nV;rw[hi,Int.toNat_natCast,Int.toNat_natCast,decide_eq_true hkd,hc]
      cases aJ (m.pg k) d <;> rfl
     rw[show eC m (k:Int) (d:Int) (!aJ (m.pg k) d)=0 by simp[eC,hcc],show cW m (k:Int) (d:Int) (!aJ (m.pg k) d)={ m with pg:=aK m.pg k (bX (m.pg k) d) } by simp[cW,hcc]];refine(XZ b B m k d w h hk hkd hc hd).mono ?_;rintro E w' ⟨rfl,h1,h2⟩;exact⟨rfl,fF.mk h1 h2⟩
  ·exact(YC b B m k c live w h hk hkd).mono (fun _ _=>no (by simp[jC,nV,hkd]))
def kN(m:Mp)(i c:Int):Bool:=aB m.n i && (decide ((m.pg i.toNat).kd=4) && (c == -1 || aB (eV (m.pg i.toNat).cl) c))
def fQ(m:Mp)(i c:Int):Mp:=if kN m i c=true then { m with pg:=aK m.pg i.toNat { m.pg i.toNat with fs:=c } } else m
def jR(m:Mp)(i c:Int):Int:=if kN m i c=true then 0 else 1
theorem ziE(b:Nat)(B:Bs)(m:Mp)(i c:Int)(w:World)(h:MpA w b B m):
  Calls prog 196 #[.pointer (some ⟨b,0,none⟩),.int .i64 i,.int .i64 c] w fun e w'=>e=.returned (.int .i64 (jR m i c))/\fF w w' b B m.o (fQ m i c):=by
 have no:∀ {E:Ending} {w':World},kN m i c=false->E=.returned (.int .i64 1)/\w'=w->E=.returned (.int .i64 (jR m i c))/\fF w w' b B m.o (fQ m i c):=by
  rintro E w' hc ⟨rfl,rfl⟩;rw[show jR m i c=1 by simp[jR,hc],show fQ m i c=m by simp[fQ,hc]];exact⟨rfl,fF.same h (Kt.refl _ _)⟩
 cases hi:aB m.n i with
 | false=>exact(zi5 b B m i c w h hi).mono (fun _ _=>no (by simp[kN,hi]))
 | true=>
  obtain⟨k,rfl,hk⟩:=gL hi;by_cases hkd:(m.pg k).kd=4
  ·by_cases hc:c = -1\/aB (eV (m.pg k).cl) c=true
   ·have hcc:kN m (k:Int) c=true:=by
     unfold kN;rw[hi,Int.toNat_natCast,decide_eq_true hkd];rcases hc with rfl|hc
     ·rfl
     ·simp[hc]
    rw[show jR m (k:Int) c=0 by simp[jR,hcc],show fQ m (k:Int) c={ m with pg:=aK m.pg k { m.pg k with fs:=c } } by simp[fQ,hcc]];refine(WO b B m k c w h hk hkd hc).mono ?_;rintro E w' ⟨rfl,h1,h2⟩;exact⟨rfl,fF.mk h1 h2⟩
   ·have h1:c ≠ -1:=fun e=>hc (.inl e)
    have h2:aB (eV (m.pg k).cl) c=false:=by cases e:aB (eV (m.pg k).cl) c with|false=>rfl|true=>exact absurd (.inr e) hc
    exact(zhy b B m k c w h hk hkd h1 h2).mono (fun _ _=>no (by simp[kN,h1,h2]))
  ·exact(zhx b B m k c w h hk hkd).mono (fun _ _=>no (by simp[kN,hkd]))
def jT(m:Mp)(i x y:Int):Bool:=aB m.n i && (decide ((m.pg i.toNat).kd=4) && (cM m.n x && cM m.n y))
def dJ(m:Mp)(i x y:Int):Mp:=if jT m i x y=true then { m with pg:=aK m.pg i.toNat { m.pg i.toNat with nx:=x,pv:=y } } else m
def mN(m:Mp)(i x y:Int):Int:=if jT m i x y=true then 0 else 1
theorem ziF(b:Nat)(B:Bs)(m:Mp)(i x y:Int)(w:World)(h:MpA w b B m):
  Calls prog 250 #[.pointer (some ⟨b,0,none⟩),.int .i64 i,.int .i64 x,.int .i64 y] w fun e w'=>e=.returned (.int .i64 (mN m i x y))/\fF w w' b B m.o (dJ m i x y):=by
 have no:∀ {E:Ending} {w':World},jT m i x y=false->E=.returned (.int .i64 1)/\w'=w->E=.returned (.int .i64 (mN m i x y))/\fF w w' b B m.o (dJ m i x y):=by
  rintro E w' hc ⟨rfl,rfl⟩;rw[show mN m i x y=1 by simp[mN,hc],show dJ m i x y=m by simp[dJ,hc]];exact⟨rfl,fF.same h (Kt.refl _ _)⟩
 cases hi:aB m.n i with
 | false=>exact(zi4 b B m i x y w h hi).mono (fun _ _=>no (by simp[jT,hi]))
 | true=>
  obtain⟨k,rfl,hk⟩:=gL hi;by_cases hkd:(m.pg k).kd=4
  ·cases hx:cM m.n x with
   | false=>
    have h1:x ≠ -1:=fun e=>by subst e;simp[cM] at hx
    have h2:aB m.n x=false:=(by simpa [cM,h1] using hx);exact(zhw b B m k x y w h hk hkd h1 h2).mono (fun _ _=>no (by simp[jT,hx]))
   | true=>
    cases hy:cM m.n y with
    | false=>exact(EL b B m k x y w h hk hkd hx 1 w (.inl ⟨hy,rfl,rfl⟩)).mono (fun _ _=>no (by simp[jT,hy]))
    | true=>
     obtain⟨g,hg,hr⟩:=h.has_row (by omega);have hcc:jT m (k:Int) x y=true:=by
      unfold jT;rw[hi,Int.toNat_natCast,decide_eq_true hkd,hx,hy];rfl
     rw[show mN m (k:Int) x y=0 by simp[mN,hcc],show dJ m (k:Int) x y={ m with pg:=aK m.pg k { m.pg k with nx:=x,pv:=y } } by simp[dJ,hcc]];refine(EL b B m k x y w h hk hkd hx 0 _ (.inr ⟨hy,rfl,g,hg,rfl⟩)).mono ?_;rintro E w' ⟨rfl,rfl⟩;refine⟨rfl,fF.mk (h.pages hg (((Kt.refl (fun x=>x=g) w).setCell (p:=⟨g,_,none⟩) rfl _).setCell (p:=⟨g,_,none⟩) rfl _) (hr.f45 k hk x y) (fun j hj=>?_)) (((Kt.refl (aO b B m.o) w).setCell (p:=⟨g,_,none⟩) (.inr (.inl hg)) _).setCell (p:=⟨g,_,none⟩) (.inr (.inl hg)) _)⟩;unfold aK;split
     ·exact⟨(h.ok k hk).o0,(h.ok k hk).o8,(h.ok k hk).c0,(h.ok k hk).c7,(h.ok k hk).b0,(h.ok k hk).b1,(h.ok k hk).b2,(h.ok k hk).b3⟩
     ·exact h.ok j hj
  ·exact(zhv b B m k x y w h hk hkd).mono (fun _ _=>no (by simp[jT,hkd]))
def mY(k i:Int):Nat:=i.toNat/2 ^ (k.toNat+1)
def mZ(m:Mp)(k:Int):Nat:=m.n/2 ^ (k.toNat+1)
def dD(m:Mp)(k i:Int):Bool:=aB m.o k && aB m.n i
def eL(m:Mp)(k i:Int):Mp:=if dD m k i=true then { m with wd:=gR m.wd k.toNat (fP (mZ m k) (m.wd k.toNat) (mY k i:Int)) } else m
def oQ(m:Mp)(k i:Int):Int:=if dD m k i=true then 0 else 1
def hY(m:Mp)(k i:Int):Bool:=dD m k i && cA (mZ m k) (m.wd k.toNat) (mY k i:Int)
end Go.Proofs.YtkfmheelhinjdaaGreatDoor
