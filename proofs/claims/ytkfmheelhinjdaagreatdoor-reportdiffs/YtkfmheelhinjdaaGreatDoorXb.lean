import Derived.Test.YtkfmheelhinjdaaGreatDoorZd
import Derived.Test.YtkfmheelhinjdaaGreatDoorZf
set_option maxRecDepth 1000000
set_option maxHeartbeats 80000000
namespace Go.Proofs.YtkfmheelhinjdaaGreatDoor
open _root_.Go.Proofs.Tryz
open Go.RowKit
set_option linter.unusedVariables false
def eV(pg:Nat->Pg)(p o:Nat)(k:Int):Nat->Pg:=fun i=>if i=p then aN k o else if p<i/\i<p+2 ^ o then aN (k+1) o else pg i
theorem TJ{n mo p o r:Nat}(hn:n=r*2 ^ mo)(ho:o<=mo)(hp:p<n)(hm:p%2 ^ o=0):p+2 ^ o<=n:=by
 obtain⟨d,rfl⟩:∃ d,mo=o+d:=⟨mo-o,by omega⟩;obtain⟨a,ha⟩:∃ a,p=a*2 ^ o:=⟨p/2 ^ o,by have:=Nat.div_add_mod p (2 ^ o);rw[hm,Nat.add_zero,Nat.mul_comm] at this;exact this.symm⟩;obtain⟨b,hb⟩:∃ b,n=b*2 ^ o:=⟨r*2 ^ d,by rw[hn,Nat.pow_add,Nat.mul_comm (2 ^ o),Nat.mul_assoc]⟩;have h0 : 0<2 ^ o:=qH o;generalize 2 ^ o=z at *;subst ha hb;have:a<b:=Nat.lt_of_mul_lt_mul_right hp;calc a*z+z=(a+1)*z:=by rw[Nat.add_mul,Nat.one_mul]
  _<=b*z:=Nat.mul_le_mul_right _ this
theorem wO(b:Nat)(B:Bs)(m:Mp)(p o k:Nat)(w:World)(h:MpA w b B m)(hp:p<m.n)(ho:o<=m.o)(hm:p%2 ^ o=0)(hk:k=0\/k=2):
  Calls prog 260 #[.pointer (some ⟨b,0,none⟩),.int .i64 p,.int .i64 o,.int .i64 k] w fun e w'=>e=.returned (.int .i64 0)/\MpA w' b B { m with pg:=eV m.pg p o k }/\Kt (aM b B m.o) w w':=by
 obtain⟨r,hr⟩:=h.dv;have hfit:=TJ hr ho hp hm;have ho8:o<=8:=by have:=h.o8;omega
 have hn1:=h.n1;obtain⟨g,hg,hrow⟩:=h.has_row (by omega);have HM:=aA h;have HI:=aA (dI hp);have HG:=aA hg;have HP:=aA hp;have c0:=h.c0;have c1:=h.c1 hg;have hoi:¬(m.o:Int)<o:=by omega
 have hmi:(p:Int)%2 ^ o=0:=by
  have:((p%2 ^ o:Nat):Int)=0:=by rw[hm];rfl
  simpa using this
 have hpw : 1<=2 ^ o:=qH o;have hpw2 : 2 ^ o<=256:=Nat.pow_le_pow_right (n:=2) (by decide) ho8;obtain⟨z,hz⟩:=xe (2 ^ o);have hzi:(2:Int) ^ o=(z:Int):=by rw[hz];simp
 rw[<-hz] at hfit hpw hpw2;rw[hzi] at hmi;have HZ:=aA hz;clear h hr hg hrow hm hz;rcases hk with rfl|rfl
 ·go_enter func260,ntmps260;go_wp2_with fail;refine(eR b B m p _ HM.out).mono ?_;rintro e w1 ⟨rfl,rfl⟩;rw[HI.out];go_wp2_with fail;go_region_with ((go_at_call 246;refine(pL 0 o _).mono ?_;rintro e w2 ⟨rfl,hw2⟩;have K2:=aA (show Kt nO w1 w2 by rw[hw2];exact((Kt.refl nO w1).drew).alloc _);have R2:=aA (bH.kept (HM.out.rowg HG.out) K2.out (fun x=>x));obtain⟨d0,d1,d2,d3,d4,d5,d6,d7,d8,d9,d10⟩:=R2.out.cell p HP.out;have zz:=aU.froz R2.out;have c1:=(HM.out.keep K2.out).c1 HG.out;clear hw2))
  all_goals
   have R3:=aA (R2.out.put p HP.out (aN 0 o));have K3:=aA (show Kt (fun x=>x=g) w1 (cY w2 g p (aN 0 o))from K2.out.trans (pK w2 g p _) (fun _ _ x=>x.elim) (fun _ _ x=>x));generalize hW:cY w2 g p (aN 0 o)=W at R3 K3;unfold cY at hW;rw[hW];clear hW K2 R2 d0 d1 d2 d3 d4 d5 d6 d7 d8 d9 d10 zz c1;go_wp2_with fail;have H0:=aA (show bH W g m.n (fun i=>if i=p then aN 0 o else if p<i/\i<p+1 then aN 1 o else m.pg i)from R3.out.congr (fun i hi=>by unfold aJ;by_cases e:i=p <;> simp[e];omega));go_loopw [10] (fun i W=>∃ q:Nat,p+1<=q/\q<=p+z/\i=.int .i64 q/\Hid (bH W g m.n (fun i=>if i=p then aN 0 o else if p<i/\i<q then aN 1 o else m.pg i)/\Kt (fun x=>x=g) w1 W)) (fun i _=>p+z-(intOf i).toNat)
   case atStart=>exact⟨p+1,Nat.le_refl _,by omega,by simp,⟨H0.out,K3.out⟩⟩
   case round=>
    clear H0 K3 R3;obtain⟨q,hq1,hqz,rfl,hR⟩:=hrel;have HR:=aA hR.out;clear hR;have KW:=aA (show MpA wr b B _ from HM.out.pages HG.out HR.out.2 HR.out.1 (fun i hi=>by
     by_cases e:i=p
     ·simp only[e,if_true];exact PgOk.blank _ _ (by omega) (by omega)
     ·simp only[e,if_false];split
      ·exact PgOk.blank _ _ (by omega) (by omega)
      ·exact HM.out.ok i hi))
    by_cases hlt:q<p+z
    ·have hji:(q:Int)<p+z:=(by omega);have hjn:(q:Int)<m.n:=(by omega);have HQ:=aA (show q<m.n/\q<p+z/\p+1<=q by omega);have c1:=KW.out.c1 HG.out;clear hlt hq1 hqz;go_wp2_with fail;go_region_with ((go_at_call 246;refine(pL 1 o _).mono ?_;rintro e w3 ⟨rfl,hw3⟩;have K4:=aA (show Kt nO wr w3 by rw[hw3];exact((Kt.refl nO wr).drew).alloc _);have R4:=aA (bH.kept HR.out.1 K4.out (fun x=>x));obtain⟨d0,d1,d2,d3,d4,d5,d6,d7,d8,d9,d10⟩:=R4.out.cell q HQ.out.1;have zz:=aU.froz R4.out;have c1:=(KW.out.keep K4.out).c1 HG.out;clear hw3))
     all_goals
      have R5:=aA (R4.out.put q HQ.out.1 (aN 1 o));have K5:=aA (show Kt (fun x=>x=g) w1 (cY w3 g q (aN 1 o))from(HR.out.2.trans (U:=fun x=>x=g) K4.out (fun _ _ x=>x) (fun _ _ x=>x.elim)).trans (pK w3 g q _) (fun _ _ x=>x) (fun _ _ x=>x));generalize hW:cY w3 g q (aN 1 o)=W5 at R5 K5;unfold cY at hW;rw[hW];clear hW K4 R4 d0 d1 d2 d3 d4 d5 d6 d7 d8 d9 d10 zz c1;have R6:=aA (show bH W5 g m.n (fun i=>if i=p then aN 0 o else if p<i/\i<q+1 then aN 1 o else m.pg i)from R5.out.congr (fun i hi=>by
       have:=HQ.out;unfold aJ;by_cases e:i=q
       ·simp only[e,if_true];rw[if_neg (by omega),if_pos (by omega)]
       ·simp only[e,if_false];by_cases e2:i=p
        ·simp only[e2,if_true]
        ·simp only[e2,if_false];by_cases e3:p<i/\i<q
         ·rw[if_pos e3,if_pos (by omega)]
         ·rw[if_neg e3,if_neg (by omega)]))
      go_wp2_with fail;exact⟨⟨q+1,by have:=HQ.out;omega,by have:=HQ.out;omega,by simp,⟨R6.out,K5.out⟩⟩,by have:=HQ.out;simp[intOf];omega⟩
    ·have hji:¬(q:Int)<p+z:=(by omega);have HQ:=aA (show q=p+z by omega);clear hlt hq1 hqz;go_wp2_with fail;go_ret;refine⟨rfl,?_,HR.out.2.mono (fun x _ e=>.inr (.inl (by rw[e];exact HG.out)))⟩;have:=KW.out;rw[HQ.out,HZ.out] at this;exact this
 ·go_enter func260,ntmps260;go_wp2_with fail;refine(eR b B m p _ HM.out).mono ?_;rintro e w1 ⟨rfl,rfl⟩;rw[HI.out];go_wp2_with fail;go_region_with ((go_at_call 246;refine(pL 2 o _).mono ?_;rintro e w2 ⟨rfl,hw2⟩;have K2:=aA (show Kt nO w1 w2 by rw[hw2];exact((Kt.refl nO w1).drew).alloc _);have R2:=aA (bH.kept (HM.out.rowg HG.out) K2.out (fun x=>x));obtain⟨d0,d1,d2,d3,d4,d5,d6,d7,d8,d9,d10⟩:=R2.out.cell p HP.out;have zz:=aU.froz R2.out;have c1:=(HM.out.keep K2.out).c1 HG.out;clear hw2))
  all_goals
   have R3:=aA (R2.out.put p HP.out (aN 2 o));have K3:=aA (show Kt (fun x=>x=g) w1 (cY w2 g p (aN 2 o))from K2.out.trans (pK w2 g p _) (fun _ _ x=>x.elim) (fun _ _ x=>x));generalize hW:cY w2 g p (aN 2 o)=W at R3 K3;unfold cY at hW;rw[hW];clear hW K2 R2 d0 d1 d2 d3 d4 d5 d6 d7 d8 d9 d10 zz c1;go_wp2_with fail;have H0:=aA (show bH W g m.n (fun i=>if i=p then aN 2 o else if p<i/\i<p+1 then aN 3 o else m.pg i)from R3.out.congr (fun i hi=>by unfold aJ;by_cases e:i=p <;> simp[e];omega));go_loopw [10] (fun i W=>∃ q:Nat,p+1<=q/\q<=p+z/\i=.int .i64 q/\Hid (bH W g m.n (fun i=>if i=p then aN 2 o else if p<i/\i<q then aN 3 o else m.pg i)/\Kt (fun x=>x=g) w1 W)) (fun i _=>p+z-(intOf i).toNat)
   case atStart=>exact⟨p+1,Nat.le_refl _,by omega,by simp,⟨H0.out,K3.out⟩⟩
   case round=>
    clear H0 K3 R3;obtain⟨q,hq1,hqz,rfl,hR⟩:=hrel;have HR:=aA hR.out;clear hR;have KW:=aA (show MpA wr b B _ from HM.out.pages HG.out HR.out.2 HR.out.1 (fun i hi=>by
     by_cases e:i=p
     ·simp only[e,if_true];exact PgOk.blank _ _ (by omega) (by omega)
     ·simp only[e,if_false];split
      ·exact PgOk.blank _ _ (by omega) (by omega)
      ·exact HM.out.ok i hi))
    by_cases hlt:q<p+z
    ·have hji:(q:Int)<p+z:=(by omega);have hjn:(q:Int)<m.n:=(by omega);have HQ:=aA (show q<m.n/\q<p+z/\p+1<=q by omega);have c1:=KW.out.c1 HG.out;clear hlt hq1 hqz;go_wp2_with fail;go_region_with ((go_at_call 246;refine(pL 3 o _).mono ?_;rintro e w3 ⟨rfl,hw3⟩;have K4:=aA (show Kt nO wr w3 by rw[hw3];exact((Kt.refl nO wr).drew).alloc _);have R4:=aA (bH.kept HR.out.1 K4.out (fun x=>x));obtain⟨d0,d1,d2,d3,d4,d5,d6,d7,d8,d9,d10⟩:=R4.out.cell q HQ.out.1;have zz:=aU.froz R4.out;have c1:=(KW.out.keep K4.out).c1 HG.out;clear hw3))
     all_goals
      have R5:=aA (R4.out.put q HQ.out.1 (aN 3 o));have K5:=aA (show Kt (fun x=>x=g) w1 (cY w3 g q (aN 3 o))from(HR.out.2.trans (U:=fun x=>x=g) K4.out (fun _ _ x=>x) (fun _ _ x=>x.elim)).trans (pK w3 g q _) (fun _ _ x=>x) (fun _ _ x=>x));generalize hW:cY w3 g q (aN 3 o)=W5 at R5 K5;unfold cY at hW;rw[hW];clear hW K4 R4 d0 d1 d2 d3 d4 d5 d6 d7 d8 d9 d10 zz c1;have R6:=aA (show bH W5 g m.n (fun i=>if i=p then aN 2 o else if p<i/\i<q+1 then aN 3 o else m.pg i)from R5.out.congr (fun i hi=>by
       have:=HQ.out;unfold aJ;by_cases e:i=q
       ·simp only[e,if_true];rw[if_neg (by omega),if_pos (by omega)]
       ·simp only[e,if_false];by_cases e2:i=p
        ·simp only[e2,if_true]
        ·simp only[e2,if_false];by_cases e3:p<i/\i<q
         ·rw[if_pos e3,if_pos (by omega)]
         ·rw[if_neg e3,if_neg (by omega)]))
      go_wp2_with fail;exact⟨⟨q+1,by have:=HQ.out;omega,by have:=HQ.out;omega,by simp,⟨R6.out,K5.out⟩⟩,by have:=HQ.out;simp[intOf];omega⟩
    ·have hji:¬(q:Int)<p+z:=(by omega);have HQ:=aA (show q=p+z by omega);clear hlt hq1 hqz;go_wp2_with fail;go_ret;refine⟨rfl,?_,HR.out.2.mono (fun x _ e=>.inr (.inl (by rw[e];exact HG.out)))⟩;have:=KW.out;rw[HQ.out,HZ.out] at this;exact this
end Go.Proofs.YtkfmheelhinjdaaGreatDoor
