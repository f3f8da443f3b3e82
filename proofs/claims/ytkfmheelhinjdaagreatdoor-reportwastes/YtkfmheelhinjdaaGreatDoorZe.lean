import Derived.Test.YtkfmheelhinjdaaGreatDoorXb
import Derived.Test.YtkfmheelhinjdaaGreatDoorXa
set_option maxRecDepth 1000000
set_option maxHeartbeats 80000000
namespace Go.Proofs.YtkfmheelhinjdaaGreatDoor
open _root_.Go.Proofs.Tryz
open Go.RowKit
set_option linter.unusedVariables false
def dK(c:Int):Pg:={ aN 4 0 with cl:=c }
theorem PgOk.slab(c:Nat)(h:c<8):PgOk (dK c):=⟨by show(0:Int)<=0;decide,by show(0:Int)<=8;decide,by show(0:Int)<=c;omega,by show(c:Int)<=7;omega,by show 0<_;decide,by show 0<_;decide,by show 0<_;decide,by show 0<_;decide⟩
def jM(m:Mp)(i c:Int):Mp:=if aB m.n i=true/\0<=c/\c<=7 then { m with pg:=aK m.pg i.toNat (dK c) } else m
def pK(m:Mp)(i c:Int):Int:=if aB m.n i=true/\0<=c/\c<=7 then 0 else 1
theorem UA(m:Mp)(i c:Int):(jM m i c).n=m.n:=by unfold jM;split <;> rfl
theorem TZ(b:Nat)(B:Bs)(m:Mp)(k c:Nat)(w:World)(h:MpA w b B m)(hk:k<m.n)(hc:c<8):
  Calls prog 194 #[.pointer (some ⟨b,0,none⟩),.int .i64 k,.int .i64 c] w fun e w'=>e=.returned (.int .i64 0)/\MpA w' b B { m with pg:=aK m.pg k (dK c) }/\Kt (aP b B m.o) w w':=by
 have HM:=aA h;have HI:=aA (dM hk);have HK:=aA hk;have hc0:¬(c:Int)<0:=by omega
 have hc1:¬ 8<=(c:Int):=by omega
 have hki:(k:Int)<m.n:=by omega
 obtain⟨g,hg,hr⟩:=h.has_row (by omega);clear h hr hk;go_enter func194,ntmps194;go_wp2_with fail;refine(eZ b B m k _ HM.out).mono ?_;rintro e w1 ⟨rfl,rfl⟩;rw[HI.out];go_wp2_with fail;refine(qT 4 0 w1).mono ?_;rintro e w2 ⟨rfl,hw2⟩;have K2:=aA (show Kt nO w1 w2 by rw[hw2];exact(Kt.refl nO w1).alloc _);have Z2:=aA (show w2.heap.size=w1.heap.size+1 by rw[hw2];simp);clear hw2;go_wp2_with fail;obtain⟨W,hW⟩:=xe (w2.alloc (.cells #[.int .i64 (aN 4 0).kd,.int .i64 (aN 4 0).od,.int .i64 c,.int .i64 (aN 4 0).lv,.int .i64 (aN 4 0).nx,.int .i64 (aN 4 0).pv,.int .i64 (aN 4 0).fs,.int .u64 ((aN 4 0).b0:Int),.int .u64 ((aN 4 0).b1:Int),.int .u64 ((aN 4 0).b2:Int),.int .u64 ((aN 4 0).b3:Int)] 99));rw[<-hW];have KW:=aA (show Kt nO w1 W by rw[hW];exact K2.out.alloc _);have XW:=aA (show W.heap[w2.heap.size]?=some (aM (dK c))by rw[hW];exact nH _ _);have MW:=aA (HM.out.keep KW.out);clear hW;obtain⟨x0,x1,x2,x3,x4,x5,x6,x7,x8,x9,x10⟩:=lR XW.out;have c1:=MW.out.c1 hg;have hr:=MW.out.row;rw[hg] at hr;have RW:=aA (show bG W g m.n m.pg from hr);obtain⟨d0,d1,d2,d3,d4,d5,d6,d7,d8,d9,d10⟩:=RW.out.cell k HK.out;have z:=aV.froz RW.out;have HG:=aA hg;clear hr hg;go_region
 all_goals
  go_wp2_with fail;go_ret;have RP:=(RW.out.put k HK.out (dK c));have OKP:∀ i,i<m.n->PgOk (aK m.pg k (dK c) i):=fun i hi=>by
   unfold aK;split
   ·exact PgOk.slab c (by omega)
   ·exact MW.out.ok i hi
  have KP:=oN W g k (dK c);exact⟨rfl,(MW.out.pages HG.out KP RP OKP).keep (Kt.refl nO _).drew,(KW.out.trans KP (fun _ _ x=>x.elim) (fun x _ e=>.inr (.inl (e▸HG.out)))).drew⟩
def lB(m:Mp)(p o k:Int):Bool:=decide ((k=0\/k=2)/\0<=o/\o<=m.o) && (aB m.n p && decide (p%2 ^ o.toNat=0))
theorem JK(b:Nat)(B:Bs)(m:Mp)(p o k:Int)(w:World)(h:MpA w b B m)(hc:¬((k=0\/k=2)/\0<=o/\o<=m.o)):
  Calls prog 260 #[.pointer (some ⟨b,0,none⟩),.int .i64 p,.int .i64 o,.int .i64 k] w fun e w'=>e=.returned (.int .i64 1)/\w'=w:=by
 have c0:=h.c0;clear h;by_cases h0:k=0
 ·subst h0;by_cases h1:o<0
  ·clear hc;go_enter func260,ntmps260;go_wp2_with fail;go_ret;exact⟨rfl,rfl⟩
  ·have h2:(m.o:Int)<o:=(by omega);clear hc;go_enter func260,ntmps260;go_wp2_with fail;go_ret;exact⟨rfl,rfl⟩
 ·by_cases h2k:k=2
  ·subst h2k;by_cases h1:o<0
   ·clear hc;go_enter func260,ntmps260;go_wp2_with fail;go_ret;exact⟨rfl,rfl⟩
   ·have h2:(m.o:Int)<o:=(by omega);clear hc;go_enter func260,ntmps260;go_wp2_with fail;go_ret;exact⟨rfl,rfl⟩
  ·clear hc;go_enter func260,ntmps260;go_wp2_with fail;go_ret;exact⟨rfl,rfl⟩
theorem JJ(b:Nat)(B:Bs)(m:Mp)(p:Int)(o k:Nat)(w:World)(h:MpA w b B m)(hk:k=0\/k=2)(ho:o<=m.o)(hp:aB m.n p=false):
  Calls prog 260 #[.pointer (some ⟨b,0,none⟩),.int .i64 p,.int .i64 o,.int .i64 k] w fun e w'=>e=.returned (.int .i64 1)/\w'=w:=by
 have c0:=h.c0;have HM:=aA h;have HP:=aA hp;have hoi:¬(m.o:Int)<o:=by omega
 have ho0:¬(o:Int)<0:=by omega
 clear h hp;rcases hk with rfl|rfl
 all_goals
  go_enter func260,ntmps260;go_wp2_with fail;refine(eZ b B m p _ HM.out).mono ?_;rintro e w1 ⟨rfl,rfl⟩;rw[HP.out];go_wp2_with fail;go_ret;exact⟨rfl,rfl⟩
theorem JI(b:Nat)(B:Bs)(m:Mp)(p o k:Nat)(w:World)(h:MpA w b B m)(hk:k=0\/k=2)(ho:o<=m.o)(hp:p<m.n)(hm:p%2 ^ o≠0):
  Calls prog 260 #[.pointer (some ⟨b,0,none⟩),.int .i64 p,.int .i64 o,.int .i64 k] w fun e w'=>e=.returned (.int .i64 1)/\w'=w:=by
 have c0:=h.c0;have HM:=aA h;have HP:=aA (dM hp);have ho8:o<=8:=by have:=h.o8;omega
 have hn1:=h.n1;have hoi:¬(m.o:Int)<o:=by omega
 have ho0:¬(o:Int)<0:=by omega
 obtain⟨z,hz⟩:=xe (2 ^ o);have hzi:(2:Int) ^ o=(z:Int):=by rw[hz];simp
 have hz1 : 1<=z:=by rw[hz];exact rT o
 have hz2:z<=256:=by rw[hz];exact Nat.pow_le_pow_right (n:=2) (by decide) ho8
 rw[<-hz] at hm;have hmi:((p:Int)%(z:Int) == 0)=false:=beq_eq_false_iff_ne.2 (by omega);have hmj:((p:Int)%(z:Int) != 0)=true:=by simp only[bne,hmi,Bool.not_false]
 clear h hp hz hm;rcases hk with rfl|rfl
 all_goals
  go_enter func260,ntmps260;go_wp2_with fail;refine(eZ b B m p _ HM.out).mono ?_;rintro e w1 ⟨rfl,rfl⟩;rw[HP.out];go_wp2_with fail;go_ret;exact⟨rfl,rfl⟩
def cQ(m:Mp)(p o k:Int):Mp:=if lB m p o k=true then { m with pg:=fD m.pg p.toNat o.toNat k } else m
def iA(m:Mp)(p o k:Int):Int:=if lB m p o k=true then 0 else 1
theorem UJ(b:Nat)(B:Bs)(m:Mp)(p o k:Int)(w:World)(h:MpA w b B m):
  Calls prog 260 #[.pointer (some ⟨b,0,none⟩),.int .i64 p,.int .i64 o,.int .i64 k] w fun e w'=>e=.returned (.int .i64 (iA m p o k))/\MpA w' b B (cQ m p o k)/\Kt (aP b B m.o) w w':=by
 have no:∀ {E:Ending} {w':World},lB m p o k=false->E=.returned (.int .i64 1)/\w'=w->E=.returned (.int .i64 (iA m p o k))/\MpA w' b B (cQ m p o k)/\Kt (aP b B m.o) w w':=by
  rintro E w' hc ⟨rfl,rfl⟩;rw[show iA m p o k=1 by simp[iA,hc],show cQ m p o k=m by simp[cQ,hc]];exact⟨rfl,h,Kt.refl _ _⟩
 by_cases h1:(k=0\/k=2)/\0<=o/\o<=m.o
 ·obtain⟨o',rfl⟩:=Int.eq_ofNat_of_zero_le h1.2.1;obtain⟨k',rfl⟩:=Int.eq_ofNat_of_zero_le (show 0<=k by omega);have ho:o'<=m.o:=by omega
  have hk:k'=0\/k'=2:=by omega
  cases h2:aB m.n p with
  | false=>exact(JJ b B m p o' k' w h hk ho h2).mono (fun _ _=>no (by simp[lB,h2]))
  | true=>
   obtain⟨q,rfl,hq⟩:=gS h2;have e1:((q:Int)%2 ^ (o':Int).toNat=0)↔q%2 ^ o'=0:=by
    have:((q:Int)%2 ^ (o':Int).toNat)=((q%2 ^ o':Nat):Int):=by simp
    rw[this];omega
   by_cases h3:q%2 ^ o'=0
   ·have hc:lB m (q:Int) (o':Int) (k':Int)=true:=by
     unfold lB;rw[decide_eq_true h1,h2,decide_eq_true (e1.2 h3)];rfl
    rw[show iA m (q:Int) (o':Int) (k':Int)=0 by simp[iA,hc],show cQ m (q:Int) (o':Int) (k':Int)={ m with pg:=fD m.pg q o' k' } by simp[cQ,hc]];exact zD b B m q o' k' w h hq ho h3 hk
   ·exact(JI b B m q o' k' w h hk ho hq h3).mono (fun _ _=>no (by
     unfold lB;rw[show decide ((q:Int)%2 ^ (o':Int).toNat=0)=false from decide_eq_false (fun e=>h3 (e1.1 e))];simp))
 ·exact(JK b B m p o k w h h1).mono (fun _ _=>no (by
   unfold lB;rw[decide_eq_false h1];rfl))
theorem dP.kept{w w1 w2:World}{b:Nat}{B B':Bs}{o:Nat}(k:Kt (aP b B o) w w1)(f:dP w b B B' o)(k2:Kt (aP b B' o) w1 w2):Kt (aP b B o) w w2:=
 k.trans k2 (fun _ _ x=>x) (fun x hx e=>(f x e).resolve_right (by omega))
def cL(m:Mp):Mp:=if 1024<m.n+2 ^ m.o then m else { iX m (m.n+2 ^ m.o)with pg:=fD (iX m (m.n+2 ^ m.o)).pg m.n m.o 2 }
theorem zh1(b:Nat)(B:Bs)(m:Mp)(w:World)(h:MpA w b B m)(hf : 1024<m.n+2 ^ m.o):
  Calls prog 210 #[.pointer (some ⟨b,0,none⟩)] w fun e w'=>e=.returned (.tuple #[])/\w'=w:=by
 obtain⟨cq,c0,c1,c2⟩:=h.cb;have ho8:=h.o8;have hn1:=h.n1;obtain⟨z,hz⟩:=xe (2 ^ m.o);have hzi:(2:Int) ^ m.o=(z:Int):=by rw[hz];simp
 have hz2:z<=256:=by rw[hz];exact Nat.pow_le_pow_right (n:=2) (by decide) ho8
 rw[<-hz] at hf;have hfi:(1024:Int)<(m.n:Int)+z:=by omega
 clear h hz;go_enter func210,ntmps210;go_wp2_with fail;exact⟨rfl,.tuple #[],by simp[results,results210,go_sem],rfl,rfl⟩
theorem SU{n o:Nat}(h:∃ r,n=r*2 ^ o):∃ r,n+2 ^ o=r*2 ^ o:=by
 obtain⟨r,hr⟩:=h;exact⟨r+1,by rw[hr,Nat.add_mul,Nat.one_mul]⟩
theorem SS{n o:Nat}(h:∃ r,n=r*2 ^ o):n%2 ^ o=0:=by
 obtain⟨r,hr⟩:=h;rw[hr];exact Nat.mul_mod_left _ _
theorem UI(b:Nat)(B:Bs)(m:Mp)(w:World)(h:MpA w b B m)(hf:¬ 1024<m.n+2 ^ m.o):
  Calls prog 210 #[.pointer (some ⟨b,0,none⟩)] w fun e w'=>e=.returned (.tuple #[])/\∃ B',MpA w' b B' (cL m)/\Kt (aP b B m.o) w w'/\dP w b B B' m.o:=by
 rw[show cL m={ iX m (m.n+2 ^ m.o)with pg:=fD (iX m (m.n+2 ^ m.o)).pg m.n m.o 2 } by simp only[cL,if_neg hf]];obtain⟨cq,c0,c1,c2⟩:=h.cb;have ho8:=h.o8;have hn1:=h.n1;have RZ:=aA (zf0 b B m (m.n+2 ^ m.o) (by omega) (SU h.dv) w h);have RN:=aA (fun w1 B1 (h1:MpA w1 b B1 (iX m (m.n+2 ^ m.o)))=>zD b B1 (iX m (m.n+2 ^ m.o)) m.n m.o 2 w1 h1 (by show m.n<m.n+2 ^ m.o;have:=rT m.o;omega) (Nat.le_refl _) (SS h.dv) (.inr rfl));obtain⟨z,hz⟩:=xe (2 ^ m.o);have hzi:(2:Int) ^ m.o=(z:Int):=by rw[hz];simp
 have hz2:z<=256:=by rw[hz];exact Nat.pow_le_pow_right (n:=2) (by decide) ho8
 rw[<-hz] at hf RZ RN ⊢;have hfi:¬(1024:Int)<(m.n:Int)+z:=by omega
 have hcast:((m.n+z:Nat):Int)=(m.n:Int)+z:=by omega
 rw[hcast] at RZ;have HOM:=aA (show(iX m (m.n+z)).o=m.o from rfl);generalize iX m (m.n+z)=m2 at *;clear h hz hcast;go_enter func210,ntmps210;go_wp2_with fail;refine RZ.out.mono ?_;rintro e w1 ⟨rfl,B1,hM1,hK1,hF1⟩;have M1:=aA hM1;have K1:=aA hK1;have F1:=aA hF1;have c0:=hM1.c0;rw[HOM.out] at c0;clear hM1 hK1 hF1;go_wp2_with fail;refine(RN.out w1 B1 M1.out).mono ?_;rintro e w2 ⟨rfl,hM2,hK2⟩;have M2:=aA hM2;have K2:=aA hK2;rw[HOM.out] at K2;clear hM2 hK2;go_wp2_with fail;go_end0
 exact⟨rfl,B1,M2.out,dP.kept K1.out F1.out K2.out,F1.out⟩
theorem dP.refl(w:World)(b:Nat)(B:Bs)(o:Nat):dP w b B B o:=fun _ h=>.inl h
theorem zjQ(b:Nat)(B:Bs)(m:Mp)(w:World)(h:MpA w b B m):
  Calls prog 210 #[.pointer (some ⟨b,0,none⟩)] w fun e w'=>e=.returned (.tuple #[])/\∃ B',MpA w' b B' (cL m)/\Kt (aP b B m.o) w w'/\dP w b B B' m.o:=by
 by_cases hf : 1024<m.n+2 ^ m.o
 ·refine(zh1 b B m w h hf).mono ?_;rintro e w' ⟨rfl,rfl⟩;rw[show cL m=m by simp only[cL,if_pos hf]];exact⟨rfl,B,h,Kt.refl _ _,dP.refl _ _ _ _⟩
 ·exact UI b B m w h hf
def fJ(w w':World)(b:Nat)(B:Bs)(o:Nat)(m':Mp):Prop:=MpA w' b B m'/\Kt (aP b B o) w w'
theorem fJ.same{w w' b B m}(h:MpA w b B m)(k:Kt nO w w'):fJ w w' b B m.o m:=⟨h.keep k,k.mono (fun _ _ x=>x.elim)⟩
theorem fJ.mk{w w' b B o m'}(h:MpA w' b B m')(k:Kt (aP b B o) w w'):fJ w w' b B o m':=⟨h,k⟩
theorem OA(b:Nat)(B:Bs)(m:Mp)(i c:Int)(w:World)(h:MpA w b B m)(hc:¬(aB m.n i=true/\0<=c/\c<=7)):
  Calls prog 194 #[.pointer (some ⟨b,0,none⟩),.int .i64 i,.int .i64 c] w fun e w'=>e=.returned (.int .i64 1)/\Kt nO w w':=by
 have HM:=aA h
 cases hi:aB m.n i with
 | false=>
  have HI:=aA hi;clear h hc hi;go_enter func194,ntmps194;go_wp2_with fail;refine(eZ b B m i _ HM.out).mono ?_;rintro e w1 ⟨rfl,rfl⟩;rw[HI.out];go_wp2_with fail;go_ret;exact⟨rfl,Kt.refl nO _⟩
 | true=>
  have HI:=aA hi;by_cases h0:c<0
  ·clear h hc hi;go_enter func194,ntmps194;go_wp2_with fail;refine(eZ b B m i _ HM.out).mono ?_;rintro e w1 ⟨rfl,rfl⟩;rw[HI.out];go_wp2_with fail;go_ret;exact⟨rfl,Kt.refl nO _⟩
  ·have h8 : 8<=c:=by
    by_cases h7:c<=7
    ·exact absurd ⟨hi,by omega,h7⟩ hc
    ·omega
   clear h hc hi;go_enter func194,ntmps194;go_wp2_with fail;refine(eZ b B m i _ HM.out).mono ?_;rintro e w1 ⟨rfl,rfl⟩;rw[HI.out];go_wp2_with fail;go_ret;exact⟨rfl,Kt.refl nO _⟩
theorem ZJ(b:Nat)(B:Bs)(m:Mp)(i c:Int)(w:World)(h:MpA w b B m):
  Calls prog 194 #[.pointer (some ⟨b,0,none⟩),.int .i64 i,.int .i64 c] w fun e w'=>e=.returned (.int .i64 (pK m i c))/\fJ w w' b B m.o (jM m i c):=by
 by_cases hc:aB m.n i=true/\0<=c/\c<=7
 ·rw[show pK m i c=0 from if_pos hc,show jM m i c={ m with pg:=aK m.pg i.toNat (dK c) } from if_pos hc];obtain⟨k,rfl,hk⟩:=gS hc.1;obtain⟨d,rfl⟩:=Int.eq_ofNat_of_zero_le hc.2.1;refine(TZ b B m k d w h hk (by omega)).mono ?_;rintro e w' ⟨rfl,h1,h2⟩;exact⟨rfl,fJ.mk h1 h2⟩
 ·rw[show pK m i c=1 from if_neg hc,show jM m i c=m from if_neg hc];refine(OA b B m i c w h hc).mono ?_;rintro e w' ⟨rfl,hk⟩;exact⟨rfl,fJ.same h hk⟩
def oJ(m:Mp)(i c:Int):Bool:=aB m.n i && (decide ((m.pg i.toNat).kd=4) && aB (eY (m.pg i.toNat).cl) c)
def jO(m:Mp)(i c:Int)(live:Bool):Bool:=oJ m i c && (aJ (m.pg i.toNat) c.toNat != live)
def cY(m:Mp)(i c:Int)(live:Bool):Mp:=if jO m i c live=true then { m with pg:=aK m.pg i.toNat (bU (m.pg i.toNat) c.toNat) } else m
def eJ(m:Mp)(i c:Int)(live:Bool):Int:=if jO m i c live=true then 0 else 1
theorem PM(b:Nat)(B:Bs)(m:Mp)(i c:Int)(live:Bool)(w:World)(h:MpA w b B m):
  Calls prog 200 #[.pointer (some ⟨b,0,none⟩),.int .i64 i,.int .i64 c,.bool live] w fun e w'=>e=.returned (.int .i64 (eJ m i c live))/\fJ w w' b B m.o (cY m i c live):=by
 have no:∀ {E:Ending} {w':World},jO m i c live=false->E=.returned (.int .i64 1)/\w'=w->E=.returned (.int .i64 (eJ m i c live))/\fJ w w' b B m.o (cY m i c live):=by
  rintro E w' hc ⟨rfl,rfl⟩;rw[show eJ m i c live=1 by simp[eJ,hc],show cY m i c live=m by simp[cY,hc]];exact⟨rfl,fJ.same h (Kt.refl _ _)⟩
 cases hi:aB m.n i with
 | false=>exact(WY b B m i c live w h hi).mono (fun _ _=>no (by simp[jO,oJ,hi]))
 | true=>
  obtain⟨k,rfl,hk⟩:=gS hi;by_cases hkd:(m.pg k).kd=4
  ·cases hc:aB (eY (m.pg k).cl) c with
   | false=>exact(zjM b B m k c live w h hk hkd hc).mono (fun _ _=>no (by simp[jO,oJ,hc]))
   | true=>
    obtain⟨d,rfl,hd⟩:=SV (h.ok k hk).c0 hc;by_cases hl:aJ (m.pg k) d=live
    ·subst hl;refine(zjN b B m k d w h hk hkd hc hd).mono ?_;rintro E w' ⟨rfl,hkk⟩;have hcc:jO m (k:Int) (d:Int) (aJ (m.pg k) d)=false:=(by simp[jO]);rw[show eJ m (k:Int) (d:Int) (aJ (m.pg k) d)=1 by simp[eJ,hcc],show cY m (k:Int) (d:Int) (aJ (m.pg k) d)=m by simp[cY,hcc]];exact⟨rfl,fJ.same h hkk⟩
    ·obtain rfl:live=!aJ (m.pg k) d:=(by revert hl;cases aJ (m.pg k) d <;> cases live <;> simp);have hcc:jO m (k:Int) (d:Int) (!aJ (m.pg k) d)=true:=by
      unfold jO oJ;rw[hi,Int.toNat_natCast,Int.toNat_natCast,decide_eq_true hkd,hc]
      cases aJ (m.pg k) d <;> rfl
     rw[show eJ m (k:Int) (d:Int) (!aJ (m.pg k) d)=0 by simp[eJ,hcc],show cY m (k:Int) (d:Int) (!aJ (m.pg k) d)={ m with pg:=aK m.pg k (bU (m.pg k) d) } by simp[cY,hcc]];refine(zjO b B m k d w h hk hkd hc hd).mono ?_;rintro E w' ⟨rfl,h1,h2⟩;exact⟨rfl,fJ.mk h1 h2⟩
  ·exact(zjL b B m k c live w h hk hkd).mono (fun _ _=>no (by simp[jO,oJ,hkd]))
def lE(m:Mp)(i c:Int):Bool:=aB m.n i && (decide ((m.pg i.toNat).kd=4) && (c == -1 || aB (eY (m.pg i.toNat).cl) c))
def fW(m:Mp)(i c:Int):Mp:=if lE m i c=true then { m with pg:=aK m.pg i.toNat { m.pg i.toNat with fs:=c } } else m
def kI(m:Mp)(i c:Int):Int:=if lE m i c=true then 0 else 1
theorem ziT(b:Nat)(B:Bs)(m:Mp)(i c:Int)(w:World)(h:MpA w b B m):
  Calls prog 196 #[.pointer (some ⟨b,0,none⟩),.int .i64 i,.int .i64 c] w fun e w'=>e=.returned (.int .i64 (kI m i c))/\fJ w w' b B m.o (fW m i c):=by
 have no:∀ {E:Ending} {w':World},lE m i c=false->E=.returned (.int .i64 1)/\w'=w->E=.returned (.int .i64 (kI m i c))/\fJ w w' b B m.o (fW m i c):=by
  rintro E w' hc ⟨rfl,rfl⟩;rw[show kI m i c=1 by simp[kI,hc],show fW m i c=m by simp[fW,hc]];exact⟨rfl,fJ.same h (Kt.refl _ _)⟩
 cases hi:aB m.n i with
 | false=>exact(zjo b B m i c w h hi).mono (fun _ _=>no (by simp[lE,hi]))
 | true=>
  obtain⟨k,rfl,hk⟩:=gS hi;by_cases hkd:(m.pg k).kd=4
  ·by_cases hc:c = -1\/aB (eY (m.pg k).cl) c=true
   ·have hcc:lE m (k:Int) c=true:=by
     unfold lE;rw[hi,Int.toNat_natCast,decide_eq_true hkd];rcases hc with rfl|hc
     ·rfl
     ·simp[hc]
    rw[show kI m (k:Int) c=0 by simp[kI,hcc],show fW m (k:Int) c={ m with pg:=aK m.pg k { m.pg k with fs:=c } } by simp[fW,hcc]];refine(ZQ b B m k c w h hk hkd hc).mono ?_;rintro E w' ⟨rfl,h1,h2⟩;exact⟨rfl,fJ.mk h1 h2⟩
   ·have h1:c ≠ -1:=fun e=>hc (.inl e)
    have h2:aB (eY (m.pg k).cl) c=false:=by cases e:aB (eY (m.pg k).cl) c with|false=>rfl|true=>exact absurd (.inr e) hc
    exact(zhM b B m k c w h hk hkd h1 h2).mono (fun _ _=>no (by simp[lE,h1,h2]))
  ·exact(zhL b B m k c w h hk hkd).mono (fun _ _=>no (by simp[lE,hkd]))
def kM(m:Mp)(i x y:Int):Bool:=aB m.n i && (decide ((m.pg i.toNat).kd=4) && (cN m.n x && cN m.n y))
def dL(m:Mp)(i x y:Int):Mp:=if kM m i x y=true then { m with pg:=aK m.pg i.toNat { m.pg i.toNat with nx:=x,pv:=y } } else m
def nC(m:Mp)(i x y:Int):Int:=if kM m i x y=true then 0 else 1
theorem ziU(b:Nat)(B:Bs)(m:Mp)(i x y:Int)(w:World)(h:MpA w b B m):
  Calls prog 250 #[.pointer (some ⟨b,0,none⟩),.int .i64 i,.int .i64 x,.int .i64 y] w fun e w'=>e=.returned (.int .i64 (nC m i x y))/\fJ w w' b B m.o (dL m i x y):=by
 have no:∀ {E:Ending} {w':World},kM m i x y=false->E=.returned (.int .i64 1)/\w'=w->E=.returned (.int .i64 (nC m i x y))/\fJ w w' b B m.o (dL m i x y):=by
  rintro E w' hc ⟨rfl,rfl⟩;rw[show nC m i x y=1 by simp[nC,hc],show dL m i x y=m by simp[dL,hc]];exact⟨rfl,fJ.same h (Kt.refl _ _)⟩
 cases hi:aB m.n i with
 | false=>exact(zjn b B m i x y w h hi).mono (fun _ _=>no (by simp[kM,hi]))
 | true=>
  obtain⟨k,rfl,hk⟩:=gS hi;by_cases hkd:(m.pg k).kd=4
  ·cases hx:cN m.n x with
   | false=>
    have h1:x ≠ -1:=fun e=>by subst e;simp[cN] at hx
    have h2:aB m.n x=false:=(by simpa [cN,h1] using hx);exact(zhK b B m k x y w h hk hkd h1 h2).mono (fun _ _=>no (by simp[kM,hx]))
   | true=>
    cases hy:cN m.n y with
    | false=>exact(GC b B m k x y w h hk hkd hx 1 w (.inl ⟨hy,rfl,rfl⟩)).mono (fun _ _=>no (by simp[kM,hy]))
    | true=>
     obtain⟨g,hg,hr⟩:=h.has_row (by omega);have hcc:kM m (k:Int) x y=true:=by
      unfold kM;rw[hi,Int.toNat_natCast,decide_eq_true hkd,hx,hy];rfl
     rw[show nC m (k:Int) x y=0 by simp[nC,hcc],show dL m (k:Int) x y={ m with pg:=aK m.pg k { m.pg k with nx:=x,pv:=y } } by simp[dL,hcc]];refine(GC b B m k x y w h hk hkd hx 0 _ (.inr ⟨hy,rfl,g,hg,rfl⟩)).mono ?_;rintro E w' ⟨rfl,rfl⟩;refine⟨rfl,fJ.mk (h.pages hg (((Kt.refl (fun x=>x=g) w).setCell (p:=⟨g,_,none⟩) rfl _).setCell (p:=⟨g,_,none⟩) rfl _) (hr.f45 k hk x y) (fun j hj=>?_)) (((Kt.refl (aP b B m.o) w).setCell (p:=⟨g,_,none⟩) (.inr (.inl hg)) _).setCell (p:=⟨g,_,none⟩) (.inr (.inl hg)) _)⟩;unfold aK;split
     ·exact⟨(h.ok k hk).o0,(h.ok k hk).o8,(h.ok k hk).c0,(h.ok k hk).c7,(h.ok k hk).b0,(h.ok k hk).b1,(h.ok k hk).b2,(h.ok k hk).b3⟩
     ·exact h.ok j hj
  ·exact(zhJ b B m k x y w h hk hkd).mono (fun _ _=>no (by simp[kM,hkd]))
def nM(k i:Int):Nat:=i.toNat/2 ^ (k.toNat+1)
def nN(m:Mp)(k:Int):Nat:=m.n/2 ^ (k.toNat+1)
def dG(m:Mp)(k i:Int):Bool:=aB m.o k && aB m.n i
def eQ(m:Mp)(k i:Int):Mp:=if dG m k i=true then { m with wd:=hY m.wd k.toNat (fU (nN m k) (m.wd k.toNat) (nM k i:Int)) } else m
def pI(m:Mp)(k i:Int):Int:=if dG m k i=true then 0 else 1
def iM(m:Mp)(k i:Int):Bool:=dG m k i && cC (nN m k) (m.wd k.toNat) (nM k i:Int)
end Go.Proofs.YtkfmheelhinjdaaGreatDoor
