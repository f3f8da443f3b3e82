import Derived.Test.YtkfmheelhinjdaaGreatDoorXx
set_option maxRecDepth 1000000
set_option maxHeartbeats 80000000
namespace Go.Proofs.YtkfmheelhinjdaaGreatDoor.W
open _root_.Go.Proofs.Tryz
open Go.RowKit
set_option linter.unusedVariables false
set_option maxHeartbeats 8000000
set_option maxRecDepth 6000
def jP(I:Img)(k:Nat):Nat->List UInt8
 | 0=>[]
 | j + 1=>jP I k j ++ (gD (I.pg j) :: if (j + 1)%2 ^ k=0 then [10] else [])
def nW(I:Img):List UInt8:=if (chk I).1=0 then jP I I.ord.toNat I.np else []
theorem xS(I:Img)(k:Nat):∀ j,(jP I k j).length<=2*j
 | 0=>Nat.le_refl _
 | j+1=>by
  have:=xS I k j;unfold jP;rw[List.length_append,List.length_cons];split <;> simp <;> omega
theorem XP(I:Img)(V:ImV)(w:World)(hI:ImD w I V):
  Calls prog 16 #[imA I V] w fun e w'=>e=.returned (.string ⟨(nW I).toArray⟩)/\Kt nO w w':=by
 obtain⟨⟨ma,mc,hm⟩,⟨pa,pc,hp⟩,⟨ra,rc,hr⟩,⟨ha,hc,hh⟩,⟨ta,tc,ht⟩,-⟩:=hI.sl;have IM0:=aA (show ImAt (w.alloc (cR I V)) w.heap.size I V from⟨nH _ _,hI.keep ((Kt.refl _ w).alloc _)⟩);have K0:=aA (show Kt nO w (w.alloc (cR I V))from(Kt.refl _ w).alloc _);have HCK:=aA (show Calls prog 47 #[.agg #[.int .u64 I.bS,.int .i64 I.lim,.int .i64 I.ord,.int .i64 I.reg,V.m,V.p,V.r,V.h,V.t]] (w.alloc (cR I V)) fun e w'=>e=.returned (.bool ((chk I).1 == 0))/\Kt nO (w.alloc (cR I V)) w' from AO I V (w.alloc (cR I V)) IM0.out.d);have SP:=aA hp;obtain⟨bL,hbL⟩:=xe (nW I);rw[<-hbL];have BAD:=aA (show(chk I).1≠0->bL=[] from fun h=>by rw[hbL,nW,if_neg h]);have GOOD:=aA (show(chk I).1=0->bL=jP I I.ord.toNat I.np from fun h=>by rw[hbL,nW,if_pos h]);obtain⟨ru,hru⟩:=xe ((chk I).1);rw[<-hru] at HCK;show Calls prog 16 #[.agg #[.int .u64 I.bS,.int .i64 I.lim,.int .i64 I.ord,.int .i64 I.reg,V.m,V.p,V.r,V.h,V.t]] w _
 rw[hm,hp,hr,hh,ht] at HCK ⊢;have HRU:=aA hru;clear hbL hru;have EW:=aA (show(w.alloc (.cells #[.int .u64 I.bS,.int .i64 I.lim,.int .i64 I.ord,.int .i64 I.reg,.slice ma I.nm mc,.slice pa I.np pc,.slice ra I.no rc,.slice ha I.hd.length hc,.slice ta I.pt.length tc] 38 (0,0)))=w.alloc (cR I V)by rw[<-hm,<-hp,<-hr,<-hh,<-ht]);clear hm hp hr hh ht hI;go_enter func16,ntmps16;go_wp2_with fail;rw[EW.out];refine HCK.out.mono ?_;rintro e w1 ⟨rfl,hk1⟩;have IM1:=aA (IM0.out.keep hk1);have K1:=aA (nT K0.out hk1);clear hk1 EW;generalize w.alloc (cR I V)=W0 at *;generalize w.heap.size=ib at *;by_cases h0:ru=0
 case neg=>
  have f0:(ru == 0)=false:=by rw[beq_eq_false_iff_ne];exact h0
  have E:=aA (BAD.out (by rw[<-HRU.out];exact h0));rw[f0];clear h0 f0;go_wp2_with fail;go_ret;exact⟨by rw[E.out];rfl,K1.out⟩
 have f0:(ru == 0)=true:=by rw[beq_iff_eq];exact h0
 have hz:(chk I).1=0:=by rw[<-HRU.out];exact h0
 have E:=aA (GOOD.out hz);obtain⟨r,hS⟩:=qT hz;have HS:=aA hS;have hnp:=hS.np1;have hk8:=hS.k8;have hord:=hS.ord;obtain⟨n,hn⟩:=xe (I.np);obtain⟨k,hk⟩:=xe (I.ord.toNat);rw[<-hn] at hnp E SP;rw[<-hk] at hord hk8 E HS;have HN:=aA hn;have HO:=aA hord;rw[f0];clear h0 f0 hz hS hn hk hord;obtain⟨P,hP⟩:=xe (2 ^ k);have HP:=aA hP;obtain⟨s1,s2,-⟩:=oE hk8 hP;have hP1 : 1<=P:=by rw[hP];exact Nat.two_pow_pos k
 have hP2:P<=256:=by rw[hP];exact Nat.pow_le_pow_right (n:=2) (by decide) hk8
 have HP1:=aA hP1;have hP0:¬(P:Int)=0:=by omega
 have hPm:¬(P:Int) = -1:=by omega
 clear hP;obtain⟨c0,c1,c2,c3,c4,c5,c6,c7,c8⟩:=IM1.out.cells;rw[SP.out] at c5;rw[<-HN.out];go_wp2_with fail;clear c0 c1 c2 c3 c4 c5 c6 c7 c8;go_loopw [3,12] (fun tv iv W=>∃ (a:Nat) (l:List UInt8) (oa:Option Addr) (oc:Nat),a<=n/\iv=.int .i64 a/\tv=.slice oa l.length oc/\Hid (l=jP I k a/\TX w1 W (.slice oa l.length oc) l)) (fun _ iv _=>n-(intOf iv).toNat)
 case atStart=>exact⟨0,[],none,0,Nat.zero_le _,rfl,rfl,aA ⟨rfl,GS.nil _ _ _ _ (Kt.refl _ _)⟩⟩
 case round=>
  obtain⟨a,l,oa,oc,ha,rfl,rfl,HI⟩:=hrel;have HL:=aA (show l.length<=2*n from by rw[HI.out.1];exact Nat.le_trans (xS I k a) (by omega));by_cases hlt:a<n
  ·have hai:(a:Int)<n:=(by omega);obtain⟨bl,o,oc',hv',hpi,hpc⟩:=(IM1.out.keep HI.out.2.kp).page a (by rw[<-HN.out];exact hlt);rw[SP.out] at hv';injection hv' with e1 e2 e3
   subst e1;obtain⟨d0,d1,d2,d3,d4,d5,d6,d7,d8,d9,d10⟩:=hpc.c;obtain⟨kd,od,cl,lv,y1,y2,y3,y4,y5,y6,y7,y8,-⟩:=HS.out.pg a (by rw[<-HN.out];exact hlt);have LT:=aA (fun W=>ZA (I.pg a) od cl lv y3 (by omega) y5 (by omega) y7 y8 W);rw[<-QJ y3 (by omega) y5 (by omega)] at LT;have KB:=aA ((Kt.refl nO wr).alloc (aV (I.pg a)));have PB:=aA (nH wr (aV (I.pg a)));have XT:=aA (show jP I k (a + 1)=jP I k a ++ (gD (I.pg a) :: if (a + 1)%P=0 then [10] else [])from by rw[HP.out];rfl);generalize hpp:I.pg a=p at *;clear hpi hpc e2 e3 y1 y2 y3 y4 y5 y6 y7 y8 hpp;go_wp2_with fail;generalize wr.alloc (aV p)=W2 at *;generalize wr.heap.size=gb at *;obtain⟨p0,p1,p2,p3,p4,p5,p6,p7,p8,p9,p10⟩:=eL PB.out;clear d0 d1 d2 d3 d4 d5 d6 d7 d8 d9 d10;refine(LT.out _).mono ?_;rintro e w3 ⟨rfl,hk3⟩;have T3:=aA (HI.out.2.keep (nT KB.out hk3));obtain⟨g4,cap4,w4,ap4,t4,k4⟩:=TX.push T3.out (gD p) (by have:=HL.out;omega);have AP4:=aA ap4;have T4:=aA t4;have IM4:=aA (IM1.out.keep t4.kp);clear hk3 ap4 t4 k4 p0 p1 p2 p3 p4 p5 p6 p7 p8 p9 p10;obtain⟨q,hq⟩:=xe ((a+1)%P);have m1:((a:Int)+1)%(P:Int)=q:=(by rw[hq];simp);have m2:((a:Int)+1).tmod (P:Int)=q:=(by rw[Int.tmod_eq_emod_of_nonneg (by omega)];exact m1);rw[<-hq] at XT;have HA1:=aA (show a+1<=n from hlt);obtain⟨c0,c1,c2,c3,c4,c5,c6,c7,c8⟩:=IM4.out.cells;rw[HO.out] at c2;by_cases hq0:q=0
   ·have m3:((q:Int) == 0)=true:=(by rw[beq_iff_eq];omega);have X5:=aA (show(l ++ [gD p]) ++ [10]=jP I k (a + 1)from by rw[XT.out,if_pos hq0,HI.out.1];simp);obtain⟨g5,cap5,w5,ap5,t5,k5⟩:=TX.push T4.out 10 (by have:=HL.out;simp;omega);have AP5:=aA ap5;have T5:=aA t5;clear ap5 t5 k5 hq hq0;go_wp2_with (at_builtin;first|(with_reducible refine Lib.wpList_append_run _ rfl _ _ _ _ rfl (.slice oa l.length oc) _ rfl rfl _ _ (AP4.out _) ?_)|(refine Lib.wpList_append_run _ rfl _ _ _ _ rfl (.slice (some ⟨g4,0,none⟩) (l.length+1) cap4) _ rfl rfl _ _ (AP5.out _) ?_))
    refine⟨⟨a + 1,(l ++ [gD p]) ++ [10],some ⟨g5,0,none⟩,cap5,HA1.out,by simp,by simp,aA ⟨X5.out,?_⟩⟩,by simp[intOf];omega⟩;have:=T5.out;simpa using this
   ·have m3:((q:Int) == 0)=false:=(by rw[beq_eq_false_iff_ne];omega);have X5:=aA (show l ++ [gD p]=jP I k (a + 1)from by rw[XT.out,if_neg hq0,HI.out.1]);clear hq hq0;go_wp2_with (at_builtin;refine Lib.wpList_append_run _ rfl _ _ _ _ rfl (.slice oa l.length oc) _ rfl rfl _ _ (AP4.out _) ?_)
    refine⟨⟨a + 1,l ++ [gD p],some ⟨g4,0,none⟩,cap4,HA1.out,by simp,by simp,aA ⟨X5.out,?_⟩⟩,by simp[intOf];omega⟩;have:=T4.out;simpa using this
  ·have hai:¬(a:Int)<n:=(by omega);have ea:a=n:=(by omega);have ST:=aA (TX.str HI.out.2);have FIN:=aA (show bL=l from by rw[E.out,HI.out.1,ea]);have KF:=aA (nT K1.out HI.out.2.kp);have st:=ST.out;clear HI HL;go_wp2_with fail;go_ret;exact⟨by rw[FIN.out];rfl,KF.out⟩
end Go.Proofs.YtkfmheelhinjdaaGreatDoor.W
