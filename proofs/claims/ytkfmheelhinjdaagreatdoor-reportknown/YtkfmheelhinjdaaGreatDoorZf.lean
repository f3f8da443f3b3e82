import Derived.Test.YtkfmheelhinjdaaGreatDoorXb
import Derived.Test.YtkfmheelhinjdaaGreatDoorZe
set_option maxRecDepth 1000000
set_option maxHeartbeats 80000000
namespace Go.Proofs.YtkfmheelhinjdaaGreatDoor
open _root_.Go.Proofs.Tryz
open Go.RowKit
set_option linter.unusedVariables false
def dD(c:Int):Pg:={ aN 4 0 with cl:=c }
theorem PgOk.slab(c:Nat)(h:c<8):PgOk (dD c):=⟨by show(0:Int)<=0;decide,by show(0:Int)<=8;decide,by show(0:Int)<=c;omega,by show(c:Int)<=7;omega,by show 0<_;decide,by show 0<_;decide,by show 0<_;decide,by show 0<_;decide⟩
def iW(m:Mp)(i c:Int):Mp:=if aC m.n i=true/\0<=c/\c<=7 then { m with pg:=aJ m.pg i.toNat (dD c) } else m
def oD(m:Mp)(i c:Int):Int:=if aC m.n i=true/\0<=c/\c<=7 then 0 else 1
theorem KY(m:Mp)(i c:Int):(iW m i c).n=m.n:=by unfold iW;split <;> rfl
theorem KV(b:Nat)(B:Bs)(m:Mp)(k c:Nat)(w:World)(h:MpA w b B m)(hk:k<m.n)(hc:c<8):
  Calls prog 194 #[.pointer (some ⟨b,0,none⟩),.int .i64 k,.int .i64 c] w fun e w'=>e=.returned (.int .i64 0)/\MpA w' b B { m with pg:=aJ m.pg k (dD c) }/\Kt (aM b B m.o) w w':=by
 have HM:=aA h;have HI:=aA (dH hk);have HK:=aA hk;have hc0:¬(c:Int)<0:=by omega
 have hc1:¬ 8<=(c:Int):=by omega
 have hki:(k:Int)<m.n:=by omega
 obtain⟨g,hg,hr⟩:=h.has_row (by omega);clear h hr hk;go_enter func194,ntmps194;go_wp2_with fail;refine(eO b B m k _ HM.out).mono ?_;rintro e w1 ⟨rfl,rfl⟩;rw[HI.out];go_wp2_with fail;refine(pK 4 0 w1).mono ?_;rintro e w2 ⟨rfl,hw2⟩;have K2:=aA (show Kt nO w1 w2 by rw[hw2];exact(Kt.refl nO w1).alloc _);have Z2:=aA (show w2.heap.size=w1.heap.size+1 by rw[hw2];simp);clear hw2;go_wp2_with fail;obtain⟨W,hW⟩:=xe (w2.alloc (.cells #[.int .i64 (aN 4 0).kd,.int .i64 (aN 4 0).od,.int .i64 c,.int .i64 (aN 4 0).lv,.int .i64 (aN 4 0).nx,.int .i64 (aN 4 0).pv,.int .i64 (aN 4 0).fs,.int .u64 ((aN 4 0).b0:Int),.int .u64 ((aN 4 0).b1:Int),.int .u64 ((aN 4 0).b2:Int),.int .u64 ((aN 4 0).b3:Int)] 99));rw[<-hW];have KW:=aA (show Kt nO w1 W by rw[hW];exact K2.out.alloc _);have XW:=aA (show W.heap[w2.heap.size]?=some (aI (dD c))by rw[hW];exact nH _ _);have MW:=aA (HM.out.keep KW.out);clear hW;obtain⟨x0,x1,x2,x3,x4,x5,x6,x7,x8,x9,x10⟩:=kQ XW.out;have c1:=MW.out.c1 hg;have hr:=MW.out.row;rw[hg] at hr;have RW:=aA (show bH W g m.n m.pg from hr);obtain⟨d0,d1,d2,d3,d4,d5,d6,d7,d8,d9,d10⟩:=RW.out.cell k HK.out;have z:=aU.froz RW.out;have HG:=aA hg;clear hr hg;go_region
 all_goals
  go_wp2_with fail;go_ret;have RP:=(RW.out.put k HK.out (dD c));have OKP:∀ i,i<m.n->PgOk (aJ m.pg k (dD c) i):=fun i hi=>by
   unfold aJ;split
   ·exact PgOk.slab c (by omega)
   ·exact MW.out.ok i hi
  have KP:=pJ W g k (dD c);exact⟨rfl,(MW.out.pages HG.out KP RP OKP).keep (Kt.refl nO _).drew,(KW.out.trans KP (fun _ _ x=>x.elim) (fun x _ e=>.inr (.inl (e▸HG.out)))).drew⟩
def kD(m:Mp)(p o k:Int):Bool:=decide ((k=0\/k=2)/\0<=o/\o<=m.o) && (aC m.n p && decide (p%2 ^ o.toNat=0))
theorem FF(b:Nat)(B:Bs)(m:Mp)(p o k:Int)(w:World)(h:MpA w b B m)(hc:¬((k=0\/k=2)/\0<=o/\o<=m.o)):
  Calls prog 260 #[.pointer (some ⟨b,0,none⟩),.int .i64 p,.int .i64 o,.int .i64 k] w fun e w'=>e=.returned (.int .i64 1)/\w'=w:=by
 have c0:=h.c0;clear h;by_cases h0:k=0
 ·subst h0;by_cases h1:o<0
  ·clear hc;go_enter func260,ntmps260;go_wp2_with fail;go_ret;exact⟨rfl,rfl⟩
  ·have h2:(m.o:Int)<o:=(by omega);clear hc;go_enter func260,ntmps260;go_wp2_with fail;go_ret;exact⟨rfl,rfl⟩
 ·by_cases h2k:k=2
  ·subst h2k;by_cases h1:o<0
   ·clear hc;go_enter func260,ntmps260;go_wp2_with fail;go_ret;exact⟨rfl,rfl⟩
   ·have h2:(m.o:Int)<o:=(by omega);clear hc;go_enter func260,ntmps260;go_wp2_with fail;go_ret;exact⟨rfl,rfl⟩
  ·clear hc;go_enter func260,ntmps260;go_wp2_with fail;go_ret;exact⟨rfl,rfl⟩
theorem EZ(b:Nat)(B:Bs)(m:Mp)(p:Int)(o k:Nat)(w:World)(h:MpA w b B m)(hk:k=0\/k=2)(ho:o<=m.o)(hp:aC m.n p=false):
  Calls prog 260 #[.pointer (some ⟨b,0,none⟩),.int .i64 p,.int .i64 o,.int .i64 k] w fun e w'=>e=.returned (.int .i64 1)/\w'=w:=by
 have c0:=h.c0;have HM:=aA h;have HP:=aA hp;have hoi:¬(m.o:Int)<o:=by omega
 have ho0:¬(o:Int)<0:=by omega
 clear h hp;rcases hk with rfl|rfl
 all_goals
  go_enter func260,ntmps260;go_wp2_with fail;refine(eO b B m p _ HM.out).mono ?_;rintro e w1 ⟨rfl,rfl⟩;rw[HP.out];go_wp2_with fail;go_ret;exact⟨rfl,rfl⟩
theorem EY(b:Nat)(B:Bs)(m:Mp)(p o k:Nat)(w:World)(h:MpA w b B m)(hk:k=0\/k=2)(ho:o<=m.o)(hp:p<m.n)(hm:p%2 ^ o≠0):
  Calls prog 260 #[.pointer (some ⟨b,0,none⟩),.int .i64 p,.int .i64 o,.int .i64 k] w fun e w'=>e=.returned (.int .i64 1)/\w'=w:=by
 have c0:=h.c0;have HM:=aA h;have HP:=aA (dH hp);have ho8:o<=8:=by have:=h.o8;omega
 have hn1:=h.n1;have hoi:¬(m.o:Int)<o:=by omega
 have ho0:¬(o:Int)<0:=by omega
 obtain⟨z,hz⟩:=xe (2 ^ o);have hzi:(2:Int) ^ o=(z:Int):=by rw[hz];simp
 have hz1 : 1<=z:=by rw[hz];exact qQ o
 have hz2:z<=256:=by rw[hz];exact Nat.pow_le_pow_right (n:=2) (by decide) ho8
 rw[<-hz] at hm;have hmi:((p:Int)%(z:Int) == 0)=false:=beq_eq_false_iff_ne.2 (by omega);have hmj:((p:Int)%(z:Int) != 0)=true:=by simp only[bne,hmi,Bool.not_false]
 clear h hp hz hm;rcases hk with rfl|rfl
 all_goals
  go_enter func260,ntmps260;go_wp2_with fail;refine(eO b B m p _ HM.out).mono ?_;rintro e w1 ⟨rfl,rfl⟩;rw[HP.out];go_wp2_with fail;go_ret;exact⟨rfl,rfl⟩
def cN(m:Mp)(p o k:Int):Mp:=if kD m p o k=true then { m with pg:=eQ m.pg p.toNat o.toNat k } else m
def gO(m:Mp)(p o k:Int):Int:=if kD m p o k=true then 0 else 1
theorem PS(b:Nat)(B:Bs)(m:Mp)(p o k:Int)(w:World)(h:MpA w b B m):
  Calls prog 260 #[.pointer (some ⟨b,0,none⟩),.int .i64 p,.int .i64 o,.int .i64 k] w fun e w'=>e=.returned (.int .i64 (gO m p o k))/\MpA w' b B (cN m p o k)/\Kt (aM b B m.o) w w':=by
 have no:∀ {E:Ending} {w':World},kD m p o k=false->E=.returned (.int .i64 1)/\w'=w->E=.returned (.int .i64 (gO m p o k))/\MpA w' b B (cN m p o k)/\Kt (aM b B m.o) w w':=by
  rintro E w' hc ⟨rfl,rfl⟩;rw[show gO m p o k=1 by simp[gO,hc],show cN m p o k=m by simp[cN,hc]];exact⟨rfl,h,Kt.refl _ _⟩
 by_cases h1:(k=0\/k=2)/\0<=o/\o<=m.o
 ·obtain⟨o',rfl⟩:=Int.eq_ofNat_of_zero_le h1.2.1;obtain⟨k',rfl⟩:=Int.eq_ofNat_of_zero_le (show 0<=k by omega);have ho:o'<=m.o:=by omega
  have hk:k'=0\/k'=2:=by omega
  cases h2:aC m.n p with
  | false=>exact(EZ b B m p o' k' w h hk ho h2).mono (fun _ _=>no (by simp[kD,h2]))
  | true=>
   obtain⟨q,rfl,hq⟩:=gH h2;have e1:((q:Int)%2 ^ (o':Int).toNat=0)↔q%2 ^ o'=0:=by
    have:((q:Int)%2 ^ (o':Int).toNat)=((q%2 ^ o':Nat):Int):=by simp
    rw[this];omega
   by_cases h3:q%2 ^ o'=0
   ·have hc:kD m (q:Int) (o':Int) (k':Int)=true:=by
     unfold kD;rw[decide_eq_true h1,h2,decide_eq_true (e1.2 h3)];rfl
    rw[show gO m (q:Int) (o':Int) (k':Int)=0 by simp[gO,hc],show cN m (q:Int) (o':Int) (k':Int)={ m with pg:=eQ m.pg q o' k' } by simp[cN,hc]];exact wN b B m q o' k' w h hq ho h3 hk
   ·exact(EY b B m q o' k' w h hk ho hq h3).mono (fun _ _=>no (by
     unfold kD;rw[show decide ((q:Int)%2 ^ (o':Int).toNat=0)=false from decide_eq_false (fun e=>h3 (e1.1 e))];simp))
 ·exact(FF b B m p o k w h h1).mono (fun _ _=>no (by
   unfold kD;rw[decide_eq_false h1];rfl))
theorem dL.kept{w w1 w2:World}{b:Nat}{B B':Bs}{o:Nat}(k:Kt (aM b B o) w w1)(f:dL w b B B' o)(k2:Kt (aM b B' o) w1 w2):Kt (aM b B o) w w2:=
 k.trans k2 (fun _ _ x=>x) (fun x hx e=>(f x e).resolve_right (by omega))
def cI(m:Mp):Mp:=if 1024<m.n+2 ^ m.o then m else { iI m (m.n+2 ^ m.o)with pg:=eQ (iI m (m.n+2 ^ m.o)).pg m.n m.o 2 }
theorem WG(b:Nat)(B:Bs)(m:Mp)(w:World)(h:MpA w b B m)(hf : 1024<m.n+2 ^ m.o):
  Calls prog 210 #[.pointer (some ⟨b,0,none⟩)] w fun e w'=>e=.returned (.tuple #[])/\w'=w:=by
 obtain⟨cq,c0,c1,c2⟩:=h.cb;have ho8:=h.o8;have hn1:=h.n1;obtain⟨z,hz⟩:=xe (2 ^ m.o);have hzi:(2:Int) ^ m.o=(z:Int):=by rw[hz];simp
 have hz2:z<=256:=by rw[hz];exact Nat.pow_le_pow_right (n:=2) (by decide) ho8
 rw[<-hz] at hf;have hfi:(1024:Int)<(m.n:Int)+z:=by omega
 clear h hz;go_enter func210,ntmps210;go_wp2_with fail;exact⟨rfl,.tuple #[],by simp[results,results210,go_sem],rfl,rfl⟩
theorem IY{n o:Nat}(h:∃ r,n=r*2 ^ o):∃ r,n+2 ^ o=r*2 ^ o:=by
 obtain⟨r,hr⟩:=h;exact⟨r+1,by rw[hr,Nat.add_mul,Nat.one_mul]⟩
theorem IX{n o:Nat}(h:∃ r,n=r*2 ^ o):n%2 ^ o=0:=by
 obtain⟨r,hr⟩:=h;rw[hr];exact Nat.mul_mod_left _ _
theorem PR(b:Nat)(B:Bs)(m:Mp)(w:World)(h:MpA w b B m)(hf:¬ 1024<m.n+2 ^ m.o):
  Calls prog 210 #[.pointer (some ⟨b,0,none⟩)] w fun e w'=>e=.returned (.tuple #[])/\∃ B',MpA w' b B' (cI m)/\Kt (aM b B m.o) w w'/\dL w b B B' m.o:=by
 rw[show cI m={ iI m (m.n+2 ^ m.o)with pg:=eQ (iI m (m.n+2 ^ m.o)).pg m.n m.o 2 } by simp only[cI,if_neg hf]];obtain⟨cq,c0,c1,c2⟩:=h.cb;have ho8:=h.o8;have hn1:=h.n1;have RZ:=aA (ZB b B m (m.n+2 ^ m.o) (by omega) (IY h.dv) w h);have RN:=aA (fun w1 B1 (h1:MpA w1 b B1 (iI m (m.n+2 ^ m.o)))=>wN b B1 (iI m (m.n+2 ^ m.o)) m.n m.o 2 w1 h1 (by show m.n<m.n+2 ^ m.o;have:=qQ m.o;omega) (Nat.le_refl _) (IX h.dv) (.inr rfl));obtain⟨z,hz⟩:=xe (2 ^ m.o);have hzi:(2:Int) ^ m.o=(z:Int):=by rw[hz];simp
 have hz2:z<=256:=by rw[hz];exact Nat.pow_le_pow_right (n:=2) (by decide) ho8
 rw[<-hz] at hf RZ RN ⊢;have hfi:¬(1024:Int)<(m.n:Int)+z:=by omega
 have hcast:((m.n+z:Nat):Int)=(m.n:Int)+z:=by omega
 rw[hcast] at RZ;have HOM:=aA (show(iI m (m.n+z)).o=m.o from rfl);generalize iI m (m.n+z)=m2 at *;clear h hz hcast;go_enter func210,ntmps210;go_wp2_with fail;refine RZ.out.mono ?_;rintro e w1 ⟨rfl,B1,hM1,hK1,hF1⟩;have M1:=aA hM1;have K1:=aA hK1;have F1:=aA hF1;have c0:=hM1.c0;rw[HOM.out] at c0;clear hM1 hK1 hF1;go_wp2_with fail;refine(RN.out w1 B1 M1.out).mono ?_;rintro e w2 ⟨rfl,hM2,hK2⟩;have M2:=aA hM2;have K2:=aA hK2;rw[HOM.out] at K2;clear hM2 hK2;go_wp2_with fail;go_end0
 exact⟨rfl,B1,M2.out,dL.kept K1.out F1.out K2.out,F1.out⟩
theorem dL.refl(w:World)(b:Nat)(B:Bs)(o:Nat):dL w b B B o:=fun _ h=>.inl h
theorem UK(b:Nat)(B:Bs)(m:Mp)(w:World)(h:MpA w b B m):
  Calls prog 210 #[.pointer (some ⟨b,0,none⟩)] w fun e w'=>e=.returned (.tuple #[])/\∃ B',MpA w' b B' (cI m)/\Kt (aM b B m.o) w w'/\dL w b B B' m.o:=by
 by_cases hf : 1024<m.n+2 ^ m.o
 ·refine(WG b B m w h hf).mono ?_;rintro e w' ⟨rfl,rfl⟩;rw[show cI m=m by simp only[cI,if_pos hf]];exact⟨rfl,B,h,Kt.refl _ _,dL.refl _ _ _ _⟩
 ·exact PR b B m w h hf
def fC(w w':World)(b:Nat)(B:Bs)(o:Nat)(m':Mp):Prop:=MpA w' b B m'/\Kt (aM b B o) w w'
theorem fC.same{w w' b B m}(h:MpA w b B m)(k:Kt nO w w'):fC w w' b B m.o m:=⟨h.keep k,k.mono (fun _ _ x=>x.elim)⟩
theorem fC.mk{w w' b B o m'}(h:MpA w' b B m')(k:Kt (aM b B o) w w'):fC w w' b B o m':=⟨h,k⟩
theorem DT(b:Nat)(B:Bs)(m:Mp)(i c:Int)(w:World)(h:MpA w b B m)(hc:¬(aC m.n i=true/\0<=c/\c<=7)):
  Calls prog 194 #[.pointer (some ⟨b,0,none⟩),.int .i64 i,.int .i64 c] w fun e w'=>e=.returned (.int .i64 1)/\Kt nO w w':=by
 have HM:=aA h
 cases hi:aC m.n i with
 | false=>
  have HI:=aA hi;clear h hc hi;go_enter func194,ntmps194;go_wp2_with fail;refine(eO b B m i _ HM.out).mono ?_;rintro e w1 ⟨rfl,rfl⟩;rw[HI.out];go_wp2_with fail;go_ret;exact⟨rfl,Kt.refl nO _⟩
 | true=>
  have HI:=aA hi;by_cases h0:c<0
  ·clear h hc hi;go_enter func194,ntmps194;go_wp2_with fail;refine(eO b B m i _ HM.out).mono ?_;rintro e w1 ⟨rfl,rfl⟩;rw[HI.out];go_wp2_with fail;go_ret;exact⟨rfl,Kt.refl nO _⟩
  ·have h8 : 8<=c:=by
    by_cases h7:c<=7
    ·exact absurd ⟨hi,by omega,h7⟩ hc
    ·omega
   clear h hc hi;go_enter func194,ntmps194;go_wp2_with fail;refine(eO b B m i _ HM.out).mono ?_;rintro e w1 ⟨rfl,rfl⟩;rw[HI.out];go_wp2_with fail;go_ret;exact⟨rfl,Kt.refl nO _⟩
theorem RJ(b:Nat)(B:Bs)(m:Mp)(i c:Int)(w:World)(h:MpA w b B m):
  Calls prog 194 #[.pointer (some ⟨b,0,none⟩),.int .i64 i,.int .i64 c] w fun e w'=>e=.returned (.int .i64 (oD m i c))/\fC w w' b B m.o (iW m i c):=by
 by_cases hc:aC m.n i=true/\0<=c/\c<=7
 ·rw[show oD m i c=0 from if_pos hc,show iW m i c={ m with pg:=aJ m.pg i.toNat (dD c) } from if_pos hc];obtain⟨k,rfl,hk⟩:=gH hc.1;obtain⟨d,rfl⟩:=Int.eq_ofNat_of_zero_le hc.2.1;refine(KV b B m k d w h hk (by omega)).mono ?_;rintro e w' ⟨rfl,h1,h2⟩;exact⟨rfl,fC.mk h1 h2⟩
 ·rw[show oD m i c=1 from if_neg hc,show iW m i c=m from if_neg hc];refine(DT b B m i c w h hc).mono ?_;rintro e w' ⟨rfl,hk⟩;exact⟨rfl,fC.same h hk⟩
def nK(m:Mp)(i c:Int):Bool:=aC m.n i && (decide ((m.pg i.toNat).kd=4) && aC (eN (m.pg i.toNat).cl) c)
def iY(m:Mp)(i c:Int)(live:Bool):Bool:=nK m i c && (aH (m.pg i.toNat) c.toNat != live)
def cR(m:Mp)(i c:Int)(live:Bool):Mp:=if iY m i c live=true then { m with pg:=aJ m.pg i.toNat (bT (m.pg i.toNat) c.toNat) } else m
def dW(m:Mp)(i c:Int)(live:Bool):Int:=if iY m i c live=true then 0 else 1
theorem IC(b:Nat)(B:Bs)(m:Mp)(i c:Int)(live:Bool)(w:World)(h:MpA w b B m):
  Calls prog 200 #[.pointer (some ⟨b,0,none⟩),.int .i64 i,.int .i64 c,.bool live] w fun e w'=>e=.returned (.int .i64 (dW m i c live))/\fC w w' b B m.o (cR m i c live):=by
 have no:∀ {E:Ending} {w':World},iY m i c live=false->E=.returned (.int .i64 1)/\w'=w->E=.returned (.int .i64 (dW m i c live))/\fC w w' b B m.o (cR m i c live):=by
  rintro E w' hc ⟨rfl,rfl⟩;rw[show dW m i c live=1 by simp[dW,hc],show cR m i c live=m by simp[cR,hc]];exact⟨rfl,fC.same h (Kt.refl _ _)⟩
 cases hi:aC m.n i with
 | false=>exact(PY b B m i c live w h hi).mono (fun _ _=>no (by simp[iY,nK,hi]))
 | true=>
  obtain⟨k,rfl,hk⟩:=gH hi;by_cases hkd:(m.pg k).kd=4
  ·cases hc:aC (eN (m.pg k).cl) c with
   | false=>exact(UQ b B m k c live w h hk hkd hc).mono (fun _ _=>no (by simp[iY,nK,hc]))
   | true=>
    obtain⟨d,rfl,hd⟩:=IZ (h.ok k hk).c0 hc;by_cases hl:aH (m.pg k) d=live
    ·subst hl;refine(UO b B m k d w h hk hkd hc hd).mono ?_;rintro E w' ⟨rfl,hkk⟩;have hcc:iY m (k:Int) (d:Int) (aH (m.pg k) d)=false:=(by simp[iY]);rw[show dW m (k:Int) (d:Int) (aH (m.pg k) d)=1 by simp[dW,hcc],show cR m (k:Int) (d:Int) (aH (m.pg k) d)=m by simp[cR,hcc]];exact⟨rfl,fC.same h hkk⟩
    ·obtain rfl:live=!aH (m.pg k) d:=(by revert hl;cases aH (m.pg k) d <;> cases live <;> simp);have hcc:iY m (k:Int) (d:Int) (!aH (m.pg k) d)=true:=by
      unfold iY nK;rw[hi,Int.toNat_natCast,Int.toNat_natCast,decide_eq_true hkd,hc]
      cases aH (m.pg k) d <;> rfl
     rw[show dW m (k:Int) (d:Int) (!aH (m.pg k) d)=0 by simp[dW,hcc],show cR m (k:Int) (d:Int) (!aH (m.pg k) d)={ m with pg:=aJ m.pg k (bT (m.pg k) d) } by simp[cR,hcc]];refine(UN b B m k d w h hk hkd hc hd).mono ?_;rintro E w' ⟨rfl,h1,h2⟩;exact⟨rfl,fC.mk h1 h2⟩
  ·exact(UR b B m k c live w h hk hkd).mono (fun _ _=>no (by simp[iY,nK,hkd]))
def kG(m:Mp)(i c:Int):Bool:=aC m.n i && (decide ((m.pg i.toNat).kd=4) && (c == -1 || aC (eN (m.pg i.toNat).cl) c))
def fO(m:Mp)(i c:Int):Mp:=if kG m i c=true then { m with pg:=aJ m.pg i.toNat { m.pg i.toNat with fs:=c } } else m
def jL(m:Mp)(i c:Int):Int:=if kG m i c=true then 0 else 1
theorem UH(b:Nat)(B:Bs)(m:Mp)(i c:Int)(w:World)(h:MpA w b B m):
  Calls prog 196 #[.pointer (some ⟨b,0,none⟩),.int .i64 i,.int .i64 c] w fun e w'=>e=.returned (.int .i64 (jL m i c))/\fC w w' b B m.o (fO m i c):=by
 have no:∀ {E:Ending} {w':World},kG m i c=false->E=.returned (.int .i64 1)/\w'=w->E=.returned (.int .i64 (jL m i c))/\fC w w' b B m.o (fO m i c):=by
  rintro E w' hc ⟨rfl,rfl⟩;rw[show jL m i c=1 by simp[jL,hc],show fO m i c=m by simp[fO,hc]];exact⟨rfl,fC.same h (Kt.refl _ _)⟩
 cases hi:aC m.n i with
 | false=>exact(VH b B m i c w h hi).mono (fun _ _=>no (by simp[kG,hi]))
 | true=>
  obtain⟨k,rfl,hk⟩:=gH hi;by_cases hkd:(m.pg k).kd=4
  ·by_cases hc:c = -1\/aC (eN (m.pg k).cl) c=true
   ·have hcc:kG m (k:Int) c=true:=by
     unfold kG;rw[hi,Int.toNat_natCast,decide_eq_true hkd];rcases hc with rfl|hc
     ·rfl
     ·simp[hc]
    rw[show jL m (k:Int) c=0 by simp[jL,hcc],show fO m (k:Int) c={ m with pg:=aJ m.pg k { m.pg k with fs:=c } } by simp[fO,hcc]];refine(OZ b B m k c w h hk hkd hc).mono ?_;rintro E w' ⟨rfl,h1,h2⟩;exact⟨rfl,fC.mk h1 h2⟩
   ·have h1:c ≠ -1:=fun e=>hc (.inl e)
    have h2:aC (eN (m.pg k).cl) c=false:=by cases e:aC (eN (m.pg k).cl) c with|false=>rfl|true=>exact absurd (.inr e) hc
    exact(YX b B m k c w h hk hkd h1 h2).mono (fun _ _=>no (by simp[kG,h1,h2]))
  ·exact(YY b B m k c w h hk hkd).mono (fun _ _=>no (by simp[kG,hkd]))
def jM(m:Mp)(i x y:Int):Bool:=aC m.n i && (decide ((m.pg i.toNat).kd=4) && (cK m.n x && cK m.n y))
def dG(m:Mp)(i x y:Int):Mp:=if jM m i x y=true then { m with pg:=aJ m.pg i.toNat { m.pg i.toNat with nx:=x,pv:=y } } else m
def mD(m:Mp)(i x y:Int):Int:=if jM m i x y=true then 0 else 1
theorem UG(b:Nat)(B:Bs)(m:Mp)(i x y:Int)(w:World)(h:MpA w b B m):
  Calls prog 250 #[.pointer (some ⟨b,0,none⟩),.int .i64 i,.int .i64 x,.int .i64 y] w fun e w'=>e=.returned (.int .i64 (mD m i x y))/\fC w w' b B m.o (dG m i x y):=by
 have no:∀ {E:Ending} {w':World},jM m i x y=false->E=.returned (.int .i64 1)/\w'=w->E=.returned (.int .i64 (mD m i x y))/\fC w w' b B m.o (dG m i x y):=by
  rintro E w' hc ⟨rfl,rfl⟩;rw[show mD m i x y=1 by simp[mD,hc],show dG m i x y=m by simp[dG,hc]];exact⟨rfl,fC.same h (Kt.refl _ _)⟩
 cases hi:aC m.n i with
 | false=>exact(TV b B m i x y w h hi).mono (fun _ _=>no (by simp[jM,hi]))
 | true=>
  obtain⟨k,rfl,hk⟩:=gH hi;by_cases hkd:(m.pg k).kd=4
  ·cases hx:cK m.n x with
   | false=>
    have h1:x ≠ -1:=fun e=>by subst e;simp[cK] at hx
    have h2:aC m.n x=false:=(by simpa [cK,h1] using hx);exact(YZ b B m k x y w h hk hkd h1 h2).mono (fun _ _=>no (by simp[jM,hx]))
   | true=>
    cases hy:cK m.n y with
    | false=>exact(AZ b B m k x y w h hk hkd hx 1 w (.inl ⟨hy,rfl,rfl⟩)).mono (fun _ _=>no (by simp[jM,hy]))
    | true=>
     obtain⟨g,hg,hr⟩:=h.has_row (by omega);have hcc:jM m (k:Int) x y=true:=by
      unfold jM;rw[hi,Int.toNat_natCast,decide_eq_true hkd,hx,hy];rfl
     rw[show mD m (k:Int) x y=0 by simp[mD,hcc],show dG m (k:Int) x y={ m with pg:=aJ m.pg k { m.pg k with nx:=x,pv:=y } } by simp[dG,hcc]];refine(AZ b B m k x y w h hk hkd hx 0 _ (.inr ⟨hy,rfl,g,hg,rfl⟩)).mono ?_;rintro E w' ⟨rfl,rfl⟩;refine⟨rfl,fC.mk (h.pages hg (((Kt.refl (fun x=>x=g) w).setCell (p:=⟨g,_,none⟩) rfl _).setCell (p:=⟨g,_,none⟩) rfl _) (hr.f45 k hk x y) (fun j hj=>?_)) (((Kt.refl (aM b B m.o) w).setCell (p:=⟨g,_,none⟩) (.inr (.inl hg)) _).setCell (p:=⟨g,_,none⟩) (.inr (.inl hg)) _)⟩;unfold aJ;split
     ·exact⟨(h.ok k hk).o0,(h.ok k hk).o8,(h.ok k hk).c0,(h.ok k hk).c7,(h.ok k hk).b0,(h.ok k hk).b1,(h.ok k hk).b2,(h.ok k hk).b3⟩
     ·exact h.ok j hj
  ·exact(ZA b B m k x y w h hk hkd).mono (fun _ _=>no (by simp[jM,hkd]))
def mM(k i:Int):Nat:=i.toNat/2 ^ (k.toNat+1)
def mN(m:Mp)(k:Int):Nat:=m.n/2 ^ (k.toNat+1)
def cZ(m:Mp)(k i:Int):Bool:=aC m.o k && aC m.n i
def eJ(m:Mp)(k i:Int):Mp:=if cZ m k i=true then { m with wd:=gN m.wd k.toNat (fN (mN m k) (m.wd k.toNat) (mM k i:Int)) } else m
def oB(m:Mp)(k i:Int):Int:=if cZ m k i=true then 0 else 1
def gX(m:Mp)(k i:Int):Bool:=cZ m k i && bZ (mN m k) (m.wd k.toNat) (mM k i:Int)
end Go.Proofs.YtkfmheelhinjdaaGreatDoor
