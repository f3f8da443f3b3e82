import Derived.Test.YtkfmheelhinjdaaGreatDoorXt
import Derived.Test.YtkfmheelhinjdaaGreatDoorXr
set_option maxRecDepth 1000000
set_option maxHeartbeats 80000000
namespace Go.Proofs.YtkfmheelhinjdaaGreatDoor
open Tryz
open Go.RowKit
set_option linter.unusedVariables false
def jY(m:Mp)(p o k:Int):Bool:=decide ((k=0\/k=2)/\0<=o/\o<=m.o) && (aB m.n p && decide (p%2 ^ o.toNat=0))
theorem BS(b:Nat)(B:Bs)(m:Mp)(p o k:Int)(w:World)(h:MpA w b B m)(hc:¬((k=0\/k=2)/\0<=o/\o<=m.o)):
  Calls prog 260 #[.pointer (some ⟨b,0,none⟩),.int .i64 p,.int .i64 o,.int .i64 k] w fun e w'=>e=.returned (.int .i64 1)/\w'=w:=by
 have c0:=h.c0;clear h;by_cases h0:k=0
 ·subst h0;by_cases h1:o<0
  ·clear hc;go_enter func260,ntmps260;go_wp2_with fail;go_ret;exact⟨rfl,rfl⟩
  ·have h2:(m.o:Int)<o:=(by omega);clear hc;go_enter func260,ntmps260;go_wp2_with fail;go_ret;exact⟨rfl,rfl⟩
 ·by_cases h2k:k=2
  ·subst h2k;by_cases h1:o<0
   ·clear hc;go_enter func260,ntmps260;go_wp2_with fail;go_ret;exact⟨rfl,rfl⟩
   ·have h2:(m.o:Int)<o:=(by omega);clear hc;go_enter func260,ntmps260;go_wp2_with fail;go_ret;exact⟨rfl,rfl⟩
  ·clear hc;go_enter func260,ntmps260;go_wp2_with fail;go_ret;exact⟨rfl,rfl⟩
theorem BR(b:Nat)(B:Bs)(m:Mp)(p:Int)(o k:Nat)(w:World)(h:MpA w b B m)(hk:k=0\/k=2)(ho:o<=m.o)(hp:aB m.n p=false):
  Calls prog 260 #[.pointer (some ⟨b,0,none⟩),.int .i64 p,.int .i64 o,.int .i64 k] w fun e w'=>e=.returned (.int .i64 1)/\w'=w:=by
 have c0:=h.c0;have HM:=aA h;have HP:=aA hp;have hoi:¬(m.o:Int)<o:=by omega
 have ho0:¬(o:Int)<0:=by omega
 clear h hp;rcases hk with rfl|rfl
 all_goals
  go_enter func260,ntmps260;go_wp2_with fail;refine(eN b B m p _ HM.out).mono ?_;rintro e w1 ⟨rfl,rfl⟩;rw[HP.out];go_wp2_with fail;go_ret;exact⟨rfl,rfl⟩
theorem BQ(b:Nat)(B:Bs)(m:Mp)(p o k:Nat)(w:World)(h:MpA w b B m)(hk:k=0\/k=2)(ho:o<=m.o)(hp:p<m.n)(hm:p%2 ^ o≠0):
  Calls prog 260 #[.pointer (some ⟨b,0,none⟩),.int .i64 p,.int .i64 o,.int .i64 k] w fun e w'=>e=.returned (.int .i64 1)/\w'=w:=by
 have c0:=h.c0;have HM:=aA h;have HP:=aA (dH hp);have ho8:o<=8:=by have:=h.o8;omega
 have hn1:=h.n1;have hoi:¬(m.o:Int)<o:=by omega
 have ho0:¬(o:Int)<0:=by omega
 obtain⟨z,hz⟩:=xe (2 ^ o);have hzi:(2:Int) ^ o=(z:Int):=by rw[hz];simp
 have hz1 : 1<=z:=by rw[hz];exact qA o
 have hz2:z<=256:=by rw[hz];exact Nat.pow_le_pow_right (n:=2) (by decide) ho8
 rw[<-hz] at hm;have hmi:((p:Int)%(z:Int) == 0)=false:=beq_eq_false_iff_ne.2 (by omega);have hmj:((p:Int)%(z:Int) != 0)=true:=by simp only[bne,hmi,Bool.not_false]
 clear h hp hz hm;rcases hk with rfl|rfl
 all_goals
  go_enter func260,ntmps260;go_wp2_with fail;refine(eN b B m p _ HM.out).mono ?_;rintro e w1 ⟨rfl,rfl⟩;rw[HP.out];go_wp2_with fail;go_ret;exact⟨rfl,rfl⟩
def cK(m:Mp)(p o k:Int):Mp:=if jY m p o k=true then { m with pg:=eO m.pg p.toNat o.toNat k } else m
def gM(m:Mp)(p o k:Int):Int:=if jY m p o k=true then 0 else 1
theorem MK(b:Nat)(B:Bs)(m:Mp)(p o k:Int)(w:World)(h:MpA w b B m):
  Calls prog 260 #[.pointer (some ⟨b,0,none⟩),.int .i64 p,.int .i64 o,.int .i64 k] w fun e w'=>e=.returned (.int .i64 (gM m p o k))/\MpA w' b B (cK m p o k)/\Kt (aM b B m.o) w w':=by
 have no:∀ {E:Ending} {w':World},jY m p o k=false->E=.returned (.int .i64 1)/\w'=w->E=.returned (.int .i64 (gM m p o k))/\MpA w' b B (cK m p o k)/\Kt (aM b B m.o) w w':=by
  rintro E w' hc ⟨rfl,rfl⟩;rw[show gM m p o k=1 by simp[gM,hc],show cK m p o k=m by simp[cK,hc]];exact⟨rfl,h,Kt.refl _ _⟩
 by_cases h1:(k=0\/k=2)/\0<=o/\o<=m.o
 ·obtain⟨o',rfl⟩:=Int.eq_ofNat_of_zero_le h1.2.1;obtain⟨k',rfl⟩:=Int.eq_ofNat_of_zero_le (show 0<=k by omega);have ho:o'<=m.o:=by omega
  have hk:k'=0\/k'=2:=by omega
  cases h2:aB m.n p with
  | false=>exact(BR b B m p o' k' w h hk ho h2).mono (fun _ _=>no (by simp[jY,h2]))
  | true=>
   obtain⟨q,rfl,hq⟩:=gG h2;have e1:((q:Int)%2 ^ (o':Int).toNat=0)↔q%2 ^ o'=0:=by
    have:((q:Int)%2 ^ (o':Int).toNat)=((q%2 ^ o':Nat):Int):=by simp
    rw[this];omega
   by_cases h3:q%2 ^ o'=0
   ·have hc:jY m (q:Int) (o':Int) (k':Int)=true:=by
     unfold jY;rw[decide_eq_true h1,h2,decide_eq_true (e1.2 h3)];rfl
    rw[show gM m (q:Int) (o':Int) (k':Int)=0 by simp[gM,hc],show cK m (q:Int) (o':Int) (k':Int)={ m with pg:=eO m.pg q o' k' } by simp[cK,hc]];exact vO b B m q o' k' w h hq ho h3 hk
   ·exact(BQ b B m q o' k' w h hk ho hq h3).mono (fun _ _=>no (by
     unfold jY;rw[show decide ((q:Int)%2 ^ (o':Int).toNat=0)=false from decide_eq_false (fun e=>h3 (e1.1 e))];simp))
 ·exact(BS b B m p o k w h h1).mono (fun _ _=>no (by
   unfold jY;rw[decide_eq_false h1];rfl))
theorem dK.kept{w w1 w2:World}{b:Nat}{B B':Bs}{o:Nat}(k:Kt (aM b B o) w w1)(f:dK w b B B' o)(k2:Kt (aM b B' o) w1 w2):Kt (aM b B o) w w2:=
 k.trans k2 (fun _ _ x=>x) (fun x hx e=>(f x e).resolve_right (by omega))
def cF(m:Mp):Mp:=if 1024<m.n+2 ^ m.o then m else { hZ m (m.n+2 ^ m.o)with pg:=eO (hZ m (m.n+2 ^ m.o)).pg m.n m.o 2 }
theorem UN(b:Nat)(B:Bs)(m:Mp)(w:World)(h:MpA w b B m)(hf : 1024<m.n+2 ^ m.o):
  Calls prog 210 #[.pointer (some ⟨b,0,none⟩)] w fun e w'=>e=.returned (.tuple #[])/\w'=w:=by
 obtain⟨cq,c0,c1,c2⟩:=h.cb;have ho8:=h.o8;have hn1:=h.n1;obtain⟨z,hz⟩:=xe (2 ^ m.o);have hzi:(2:Int) ^ m.o=(z:Int):=by rw[hz];simp
 have hz2:z<=256:=by rw[hz];exact Nat.pow_le_pow_right (n:=2) (by decide) ho8
 rw[<-hz] at hf;have hfi:(1024:Int)<(m.n:Int)+z:=by omega
 clear h hz;go_enter func210,ntmps210;go_wp2_with fail;exact⟨rfl,.tuple #[],by simp[results,results210,go_sem],rfl,rfl⟩
theorem GN{n o:Nat}(h:∃ r,n=r*2 ^ o):∃ r,n+2 ^ o=r*2 ^ o:=by
 obtain⟨r,hr⟩:=h;exact⟨r+1,by rw[hr,Nat.add_mul,Nat.one_mul]⟩
theorem GM{n o:Nat}(h:∃ r,n=r*2 ^ o):n%2 ^ o=0:=by
 obtain⟨r,hr⟩:=h;rw[hr];exact Nat.mul_mod_left _ _
theorem MJ(b:Nat)(B:Bs)(m:Mp)(w:World)(h:MpA w b B m)(hf:¬ 1024<m.n+2 ^ m.o):
  Calls prog 210 #[.pointer (some ⟨b,0,none⟩)] w fun e w'=>e=.returned (.tuple #[])/\∃ B',MpA w' b B' (cF m)/\Kt (aM b B m.o) w w'/\dK w b B B' m.o:=by
 rw[show cF m={ hZ m (m.n+2 ^ m.o)with pg:=eO (hZ m (m.n+2 ^ m.o)).pg m.n m.o 2 } by simp only[cF,if_neg hf]];obtain⟨cq,c0,c1,c2⟩:=h.cb;have ho8:=h.o8;have hn1:=h.n1;have RZ:=aA (XP b B m (m.n+2 ^ m.o) (by omega) (GN h.dv) w h);have RN:=aA (fun w1 B1 (h1:MpA w1 b B1 (hZ m (m.n+2 ^ m.o)))=>vO b B1 (hZ m (m.n+2 ^ m.o)) m.n m.o 2 w1 h1 (by show m.n<m.n+2 ^ m.o;have:=qA m.o;omega) (Nat.le_refl _) (GM h.dv) (.inr rfl));obtain⟨z,hz⟩:=xe (2 ^ m.o);have hzi:(2:Int) ^ m.o=(z:Int):=by rw[hz];simp
 have hz2:z<=256:=by rw[hz];exact Nat.pow_le_pow_right (n:=2) (by decide) ho8
 rw[<-hz] at hf RZ RN ⊢;have hfi:¬(1024:Int)<(m.n:Int)+z:=by omega
 have hcast:((m.n+z:Nat):Int)=(m.n:Int)+z:=by omega
 rw[hcast] at RZ;have HOM:=aA (show(hZ m (m.n+z)).o=m.o from rfl);generalize hZ m (m.n+z)=m2 at *;clear h hz hcast;go_enter func210,ntmps210;go_wp2_with fail;refine RZ.out.mono ?_;rintro e w1 ⟨rfl,B1,hM1,hK1,hF1⟩;have M1:=aA hM1;have K1:=aA hK1;have F1:=aA hF1;have c0:=hM1.c0;rw[HOM.out] at c0;clear hM1 hK1 hF1;go_wp2_with fail;refine(RN.out w1 B1 M1.out).mono ?_;rintro e w2 ⟨rfl,hM2,hK2⟩;have M2:=aA hM2;have K2:=aA hK2;rw[HOM.out] at K2;clear hM2 hK2;go_wp2_with fail;go_end0
 exact⟨rfl,B1,M2.out,dK.kept K1.out F1.out K2.out,F1.out⟩
theorem dK.refl(w:World)(b:Nat)(B:Bs)(o:Nat):dK w b B B o:=fun _ h=>.inl h
theorem SG(b:Nat)(B:Bs)(m:Mp)(w:World)(h:MpA w b B m):
  Calls prog 210 #[.pointer (some ⟨b,0,none⟩)] w fun e w'=>e=.returned (.tuple #[])/\∃ B',MpA w' b B' (cF m)/\Kt (aM b B m.o) w w'/\dK w b B B' m.o:=by
 by_cases hf : 1024<m.n+2 ^ m.o
 ·refine(UN b B m w h hf).mono ?_;rintro e w' ⟨rfl,rfl⟩;rw[show cF m=m by simp only[cF,if_pos hf]];exact⟨rfl,B,h,Kt.refl _ _,dK.refl _ _ _ _⟩
 ·exact MJ b B m w h hf
def fA(w w':World)(b:Nat)(B:Bs)(o:Nat)(m':Mp):Prop:=MpA w' b B m'/\Kt (aM b B o) w w'
theorem fA.same{w w' b B m}(h:MpA w b B m)(k:Kt nO w w'):fA w w' b B m.o m:=⟨h.keep k,k.mono (fun _ _ x=>x.elim)⟩
theorem fA.mk{w w' b B o m'}(h:MpA w' b B m')(k:Kt (aM b B o) w w'):fA w w' b B o m':=⟨h,k⟩
theorem FM(b:Nat)(B:Bs)(m:Mp)(i c:Int)(w:World)(h:MpA w b B m)(hc:¬(aB m.n i=true/\0<=c/\c<=7)):
  Calls prog 194 #[.pointer (some ⟨b,0,none⟩),.int .i64 i,.int .i64 c] w fun e w'=>e=.returned (.int .i64 1)/\Kt nO w w':=by
 have HM:=aA h
 cases hi:aB m.n i with
 | false=>
  have HI:=aA hi;clear h hc hi;go_enter func194,ntmps194;go_wp2_with fail;refine(eN b B m i _ HM.out).mono ?_;rintro e w1 ⟨rfl,rfl⟩;rw[HI.out];go_wp2_with fail;go_ret;exact⟨rfl,Kt.refl nO _⟩
 | true=>
  have HI:=aA hi;by_cases h0:c<0
  ·clear h hc hi;go_enter func194,ntmps194;go_wp2_with fail;refine(eN b B m i _ HM.out).mono ?_;rintro e w1 ⟨rfl,rfl⟩;rw[HI.out];go_wp2_with fail;go_ret;exact⟨rfl,Kt.refl nO _⟩
  ·have h8 : 8<=c:=by
    by_cases h7:c<=7
    ·exact absurd ⟨hi,by omega,h7⟩ hc
    ·omega
   clear h hc hi;go_enter func194,ntmps194;go_wp2_with fail;refine(eN b B m i _ HM.out).mono ?_;rintro e w1 ⟨rfl,rfl⟩;rw[HI.out];go_wp2_with fail;go_ret;exact⟨rfl,Kt.refl nO _⟩
theorem PR(b:Nat)(B:Bs)(m:Mp)(i c:Int)(w:World)(h:MpA w b B m):
  Calls prog 194 #[.pointer (some ⟨b,0,none⟩),.int .i64 i,.int .i64 c] w fun e w'=>e=.returned (.int .i64 (nS m i c))/\fA w w' b B m.o (iQ m i c):=by
 by_cases hc:aB m.n i=true/\0<=c/\c<=7
 ·rw[show nS m i c=0 from if_pos hc,show iQ m i c={ m with pg:=aJ m.pg i.toNat (dE c) } from if_pos hc];obtain⟨k,rfl,hk⟩:=gG hc.1;obtain⟨d,rfl⟩:=Int.eq_ofNat_of_zero_le hc.2.1;refine(MZ b B m k d w h hk (by omega)).mono ?_;rintro e w' ⟨rfl,h1,h2⟩;exact⟨rfl,fA.mk h1 h2⟩
 ·rw[show nS m i c=1 from if_neg hc,show iQ m i c=m from if_neg hc];refine(FM b B m i c w h hc).mono ?_;rintro e w' ⟨rfl,hk⟩;exact⟨rfl,fA.same h hk⟩
def mX(m:Mp)(i c:Int):Bool:=aB m.n i && (decide ((m.pg i.toNat).kd=4) && aB (eL (m.pg i.toNat).cl) c)
def iT(m:Mp)(i c:Int)(live:Bool):Bool:=mX m i c && (aH (m.pg i.toNat) c.toNat != live)
def cQ(m:Mp)(i c:Int)(live:Bool):Mp:=if iT m i c live=true then { m with pg:=aJ m.pg i.toNat (bT (m.pg i.toNat) c.toNat) } else m
def dV(m:Mp)(i c:Int)(live:Bool):Int:=if iT m i c live=true then 0 else 1
theorem KV(b:Nat)(B:Bs)(m:Mp)(i c:Int)(live:Bool)(w:World)(h:MpA w b B m):
  Calls prog 200 #[.pointer (some ⟨b,0,none⟩),.int .i64 i,.int .i64 c,.bool live] w fun e w'=>e=.returned (.int .i64 (dV m i c live))/\fA w w' b B m.o (cQ m i c live):=by
 have no:∀ {E:Ending} {w':World},iT m i c live=false->E=.returned (.int .i64 1)/\w'=w->E=.returned (.int .i64 (dV m i c live))/\fA w w' b B m.o (cQ m i c live):=by
  rintro E w' hc ⟨rfl,rfl⟩;rw[show dV m i c live=1 by simp[dV,hc],show cQ m i c live=m by simp[cQ,hc]];exact⟨rfl,fA.same h (Kt.refl _ _)⟩
 cases hi:aB m.n i with
 | false=>exact(MO b B m i c live w h hi).mono (fun _ _=>no (by simp[iT,mX,hi]))
 | true=>
  obtain⟨k,rfl,hk⟩:=gG hi;by_cases hkd:(m.pg k).kd=4
  ·cases hc:aB (eL (m.pg k).cl) c with
   | false=>exact(SU b B m k c live w h hk hkd hc).mono (fun _ _=>no (by simp[iT,mX,hc]))
   | true=>
    obtain⟨d,rfl,hd⟩:=DY (h.ok k hk).c0 hc;by_cases hl:aH (m.pg k) d=live
    ·subst hl;refine(SQ b B m k d w h hk hkd hc hd).mono ?_;rintro E w' ⟨rfl,hkk⟩;have hcc:iT m (k:Int) (d:Int) (aH (m.pg k) d)=false:=(by simp[iT]);rw[show dV m (k:Int) (d:Int) (aH (m.pg k) d)=1 by simp[dV,hcc],show cQ m (k:Int) (d:Int) (aH (m.pg k) d)=m by simp[cQ,hcc]];exact⟨rfl,fA.same h hkk⟩
    ·obtain rfl:live=!aH (m.pg k) d:=(by revert hl;cases aH (m.pg k) d <;> cases live <;> simp);have hcc:iT m (k:Int) (d:Int) (!aH (m.pg k) d)=true:=by
      unfold iT mX;rw[hi,Int.toNat_natCast,Int.toNat_natCast,decide_eq_true hkd,hc]
      cases aH (m.pg k) d <;> rfl
     rw[show dV m (k:Int) (d:Int) (!aH (m.pg k) d)=0 by simp[dV,hcc],show cQ m (k:Int) (d:Int) (!aH (m.pg k) d)={ m with pg:=aJ m.pg k (bT (m.pg k) d) } by simp[cQ,hcc]];refine(SM b B m k d w h hk hkd hc hd).mono ?_;rintro E w' ⟨rfl,h1,h2⟩;exact⟨rfl,fA.mk h1 h2⟩
  ·exact(SV b B m k c live w h hk hkd).mono (fun _ _=>no (by simp[iT,mX,hkd]))
def kB(m:Mp)(i c:Int):Bool:=aB m.n i && (decide ((m.pg i.toNat).kd=4) && (c == -1 || aB (eL (m.pg i.toNat).cl) c))
def fL(m:Mp)(i c:Int):Mp:=if kB m i c=true then { m with pg:=aJ m.pg i.toNat { m.pg i.toNat with fs:=c } } else m
def jF(m:Mp)(i c:Int):Int:=if kB m i c=true then 0 else 1
theorem RF(b:Nat)(B:Bs)(m:Mp)(i c:Int)(w:World)(h:MpA w b B m):
  Calls prog 196 #[.pointer (some ⟨b,0,none⟩),.int .i64 i,.int .i64 c] w fun e w'=>e=.returned (.int .i64 (jF m i c))/\fA w w' b B m.o (fL m i c):=by
 have no:∀ {E:Ending} {w':World},kB m i c=false->E=.returned (.int .i64 1)/\w'=w->E=.returned (.int .i64 (jF m i c))/\fA w w' b B m.o (fL m i c):=by
  rintro E w' hc ⟨rfl,rfl⟩;rw[show jF m i c=1 by simp[jF,hc],show fL m i c=m by simp[fL,hc]];exact⟨rfl,fA.same h (Kt.refl _ _)⟩
 cases hi:aB m.n i with
 | false=>exact(QR b B m i c w h hi).mono (fun _ _=>no (by simp[kB,hi]))
 | true=>
  obtain⟨k,rfl,hk⟩:=gG hi;by_cases hkd:(m.pg k).kd=4
  ·by_cases hc:c = -1\/aB (eL (m.pg k).cl) c=true
   ·have hcc:kB m (k:Int) c=true:=by
     unfold kB;rw[hi,Int.toNat_natCast,decide_eq_true hkd];rcases hc with rfl|hc
     ·rfl
     ·simp[hc]
    rw[show jF m (k:Int) c=0 by simp[jF,hcc],show fL m (k:Int) c={ m with pg:=aJ m.pg k { m.pg k with fs:=c } } by simp[fL,hcc]];refine(QN b B m k c w h hk hkd hc).mono ?_;rintro E w' ⟨rfl,h1,h2⟩;exact⟨rfl,fA.mk h1 h2⟩
   ·have h1:c ≠ -1:=fun e=>hc (.inl e)
    have h2:aB (eL (m.pg k).cl) c=false:=by cases e:aB (eL (m.pg k).cl) c with|false=>rfl|true=>exact absurd (.inr e) hc
    exact(XI b B m k c w h hk hkd h1 h2).mono (fun _ _=>no (by simp[kB,h1,h2]))
  ·exact(XK b B m k c w h hk hkd).mono (fun _ _=>no (by simp[kB,hkd]))
def jH(m:Mp)(i x y:Int):Bool:=aB m.n i && (decide ((m.pg i.toNat).kd=4) && (cH m.n x && cH m.n y))
def dG(m:Mp)(i x y:Int):Mp:=if jH m i x y=true then { m with pg:=aJ m.pg i.toNat { m.pg i.toNat with nx:=x,pv:=y } } else m
def lU(m:Mp)(i x y:Int):Int:=if jH m i x y=true then 0 else 1
theorem RE(b:Nat)(B:Bs)(m:Mp)(i x y:Int)(w:World)(h:MpA w b B m):
  Calls prog 250 #[.pointer (some ⟨b,0,none⟩),.int .i64 i,.int .i64 x,.int .i64 y] w fun e w'=>e=.returned (.int .i64 (lU m i x y))/\fA w w' b B m.o (dG m i x y):=by
 have no:∀ {E:Ending} {w':World},jH m i x y=false->E=.returned (.int .i64 1)/\w'=w->E=.returned (.int .i64 (lU m i x y))/\fA w w' b B m.o (dG m i x y):=by
  rintro E w' hc ⟨rfl,rfl⟩;rw[show lU m i x y=1 by simp[lU,hc],show dG m i x y=m by simp[dG,hc]];exact⟨rfl,fA.same h (Kt.refl _ _)⟩
 cases hi:aB m.n i with
 | false=>exact(QS b B m i x y w h hi).mono (fun _ _=>no (by simp[jH,hi]))
 | true=>
  obtain⟨k,rfl,hk⟩:=gG hi;by_cases hkd:(m.pg k).kd=4
  ·cases hx:cH m.n x with
   | false=>
    have h1:x ≠ -1:=fun e=>by subst e;simp[cH] at hx
    have h2:aB m.n x=false:=(by simpa [cH,h1] using hx);exact(XM b B m k x y w h hk hkd h1 h2).mono (fun _ _=>no (by simp[jH,hx]))
   | true=>
    cases hy:cH m.n y with
    | false=>exact(zW b B m k x y w h hk hkd hx 1 w (.inl ⟨hy,rfl,rfl⟩)).mono (fun _ _=>no (by simp[jH,hy]))
    | true=>
     obtain⟨g,hg,hr⟩:=h.has_row (by omega);have hcc:jH m (k:Int) x y=true:=by
      unfold jH;rw[hi,Int.toNat_natCast,decide_eq_true hkd,hx,hy];rfl
     rw[show lU m (k:Int) x y=0 by simp[lU,hcc],show dG m (k:Int) x y={ m with pg:=aJ m.pg k { m.pg k with nx:=x,pv:=y } } by simp[dG,hcc]];refine(zW b B m k x y w h hk hkd hx 0 _ (.inr ⟨hy,rfl,g,hg,rfl⟩)).mono ?_;rintro E w' ⟨rfl,rfl⟩;refine⟨rfl,fA.mk (h.pages hg (((Kt.refl (fun x=>x=g) w).setCell (p:=⟨g,_,none⟩) rfl _).setCell (p:=⟨g,_,none⟩) rfl _) (hr.f45 k hk x y) (fun j hj=>?_)) (((Kt.refl (aM b B m.o) w).setCell (p:=⟨g,_,none⟩) (.inr (.inl hg)) _).setCell (p:=⟨g,_,none⟩) (.inr (.inl hg)) _)⟩;unfold aJ;split
     ·exact⟨(h.ok k hk).o0,(h.ok k hk).o8,(h.ok k hk).c0,(h.ok k hk).c7,(h.ok k hk).b0,(h.ok k hk).b1,(h.ok k hk).b2,(h.ok k hk).b3⟩
     ·exact h.ok j hj
  ·exact(XN b B m k x y w h hk hkd).mono (fun _ _=>no (by simp[jH,hkd]))
def mA(k i:Int):Nat:=i.toNat/2 ^ (k.toNat+1)
def mB(m:Mp)(k:Int):Nat:=m.n/2 ^ (k.toNat+1)
def dA(m:Mp)(k i:Int):Bool:=aB m.o k && aB m.n i
def eH(m:Mp)(k i:Int):Mp:=if dA m k i=true then { m with wd:=gL m.wd k.toNat (fK (mB m k) (m.wd k.toNat) (mA k i:Int)) } else m
def nR(m:Mp)(k i:Int):Int:=if dA m k i=true then 0 else 1
def gT(m:Mp)(k i:Int):Bool:=dA m k i && bY (mB m k) (m.wd k.toNat) (mA k i:Int)
end Go.Proofs.YtkfmheelhinjdaaGreatDoor
