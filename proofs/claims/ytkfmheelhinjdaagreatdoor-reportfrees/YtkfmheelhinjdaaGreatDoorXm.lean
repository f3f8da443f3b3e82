import Derived.Test.YtkfmheelhinjdaaGreatDoorXg
set_option maxRecDepth 1000000
set_option maxHeartbeats 80000000
namespace Go.Proofs.YtkfmheelhinjdaaGreatDoor.M
open Tryz
open Go.RowKit
set_option linter.unusedVariables false
theorem LH(bS:Nat)(lim ord:Int)(hl1 : -9223372036854775808<=lim)(hl2:lim<=9223372036854775807)(ho1 : -9223372036854775808<=ord)(ho2:ord<=9223372036854775807)(h:¬Bounds lim ord)(w:World):
  Calls prog 69 #[.agg #[.int .u64 bS,.int .i64 lim,.int .i64 ord]] w fun e w'=>e=.returned (.bool false)/\Kt nO w w':=by
 by_cases h1:ord<0
 ·clear h;go_enter func69,ntmps69;go_wp2
  go_ret;exact⟨rfl,(Kt.refl _ w).alloc _⟩
 ·by_cases h2 : 8<ord
  ·clear h;go_enter func69,ntmps69;go_wp2
   go_ret;exact⟨rfl,(Kt.refl _ w).alloc _⟩
  ·by_cases h3:lim<1
   ·clear h;go_enter func69,ntmps69;go_wp2
    go_ret;exact⟨rfl,(Kt.refl _ w).alloc _⟩
   ·have h4 : 64<lim:=(by unfold Bounds at h;omega);clear h;go_enter func69,ntmps69;go_wp2
    go_ret;exact⟨rfl,(Kt.refl _ w).alloc _⟩
theorem GI(bS:Nat)(hb64:bS<18446744073709551616)(lim k:Nat)(hk:k<=8)(hl1 : 1<=lim)(hl2:lim<=64)(w:World):
  Calls prog 69 #[.agg #[.int .u64 bS,.int .i64 lim,.int .i64 k]] w fun e w'=>e=.returned (.bool (mayB bS lim k))/\Kt nO w w':=by
 have hB:Bounds (lim:Int) (k:Int):=by unfold Bounds;omega
 have HMAY:=aA (show mayB bS lim k=(decide (lim*2 ^ k<=1024) && (decide (bS≠0) && decide (bS%RS k=0) && decide (bS+lim*RS k<=9223372036854775808)))from by
  unfold mayB;rw[decide_eq_true hB,Int.toNat_natCast,Int.toNat_natCast,Bool.true_and])
 clear hB;go_enter func69,ntmps69;go_wp2
 go_loop [3,4,5] (fun pg r i=>∃ j:Nat,j<=k/\i=.int .i64 j/\pg=.int .i64 ((lim*2 ^ j:Nat):Int)/\r=.int .u64 ((4096*2 ^ j:Nat):Int)) (fun _ _ i=>k-(intOf i).toNat)
 case atStart=>exact⟨0,by omega,rfl,by simp,by simp⟩
 case round=>
  obtain⟨j,hj,rfl,rfl,rfl⟩:=hrel;obtain⟨P,hP⟩:=xe (2 ^ j);have hP8:=pow8 j (by omega);rw[<-hP] at hP8 ⊢;obtain⟨lp,hlp⟩:=xe (lim*P);have hlp2:lp<=16384:=by
   rw[hlp];exact Nat.le_trans (Nat.mul_le_mul hl2 hP8.2) (by decide)
  rw[<-hlp];obtain⟨R,hR⟩:=xe (4096*P);have hR1:R<=1048576:=by omega
  rw[<-hR];by_cases hlt:j<k
  ·have hN1:=aA (show lim*2 ^ (j+1)=lp*2 from by rw[hlp,hP,Nat.pow_succ,Nat.mul_assoc]);have hN2:=aA (show 4096*2 ^ (j+1)=R*2 from by rw[hR,hP,Nat.pow_succ,Nat.mul_assoc]);have hji:(j:Int)<k:=(by omega);clear hP hlp hR;go_wp2
   refine⟨⟨j+1,by omega,by simp,?_,?_⟩,by simp[intOf];omega⟩
   ·rw[hN1.out];simp
   ·rw[hN2.out];simp
  ·obtain rfl:j=k:=(by omega);have e1:RS j=R:=(by rw[hR,hP];rfl);obtain⟨lr,hlr⟩:=xe (lim*R);have hlr2:lr=4096*lp:=(by rw[hlr,hR,hlp,Nat.mul_left_comm]);have hmul:(R:Int)*(lim:Int)=lr:=(by rw[hlr,Int.mul_comm];simp);have HM:=aA (show mayB bS lim j=(decide (lp<=1024) && (decide (bS≠0) && decide (bS%R=0) && decide (bS+lr<=9223372036854775808)))from by
    rw[HMAY.out,e1,<-hP,<-hlp,<-hlr])
   clear e1 HMAY;have hR0:¬(R:Int)=0:=(by omega);clear hP hlp hR hlr hP8;by_cases h1:lp<=1024
   ·have H1:=aA (decide_eq_true h1);have h1':¬(1024:Int)<lp:=(by omega);by_cases h0:bS=0
    ·have hb0:((bS:Int) == 0)=true:=(by rw[h0];rfl);have H0:=aA h0;clear h0 hlr2;go_wp2
     go_ret;exact⟨cE (by rw[HM.out,H0.out];simp),(Kt.refl _ w).alloc _⟩
    ·have hb0:((bS:Int) == 0)=false:=(by rw[beq_eq_false_iff_ne];omega);have H0:=aA (show decide (bS≠0)=true from decide_eq_true h0);by_cases h2:bS%R=0
     ·have hm:((bS:Int)%(R:Int) != 0)=false:=(by rw[bne_eq_false_iff_eq];omega);have H2:=aA (show decide (bS%R=0)=true from decide_eq_true h2);clear h2;by_cases h3:bS<=9223372036854775808
      ·have h3':(bS:Int)<=9223372036854775808:=(by omega);go_wp2
       go_ret;exact⟨cE (by rw[HM.out,H0.out,H1.out,H2.out,Bool.true_and,Bool.true_and,Bool.true_and,decide_eq_decide];omega),(Kt.refl _ w).alloc _⟩
      ·have h3':¬(bS:Int)<=9223372036854775808:=(by omega);have H3:=aA (show decide (bS+lr<=9223372036854775808)=false from decide_eq_false (by omega));go_wp2
       go_ret;exact⟨cE (by rw[HM.out,H3.out];simp),(Kt.refl _ w).alloc _⟩
     ·have hm:((bS:Int)%(R:Int) != 0)=true:=(by rw[bne_iff_ne];omega);have H2:=aA (show decide (bS%R=0)=false from decide_eq_false h2);clear h2 hlr2;go_wp2
      go_ret;exact⟨cE (by rw[HM.out,H2.out];simp),(Kt.refl _ w).alloc _⟩
   ·have H1:=aA (show decide (lp<=1024)=false from decide_eq_false h1);have h1':(1024:Int)<lp:=(by omega);clear h1 hlr2;go_wp2
    go_ret;exact⟨cE (by rw[HM.out,H1.out];simp),(Kt.refl _ w).alloc _⟩
theorem May_any(bS:Nat)(hb64:bS<18446744073709551616)(lim ord:Int)(hl1 : -9223372036854775808<=lim)(hl2:lim<=9223372036854775807)(ho1 : -9223372036854775808<=ord)(ho2:ord<=9223372036854775807)(w:World):
  Calls prog 69 #[.agg #[.int .u64 bS,.int .i64 lim,.int .i64 ord]] w fun e w'=>e=.returned (.bool (mayB bS lim ord))/\Kt nO w w':=by
 by_cases h:Bounds lim ord
 ·have h':=h;unfold Bounds at h';obtain⟨l,rfl⟩:=Int.eq_ofNat_of_zero_le (by omega : 0<=lim);obtain⟨k,rfl⟩:=Int.eq_ofNat_of_zero_le h'.1;exact GI bS hb64 l k (by omega) (by omega) (by omega) w
 ·have e:mayB bS lim ord=false:=by unfold mayB;rw[decide_eq_false h,Bool.false_and,Bool.false_and]
  rw[e];exact LH bS lim ord hl1 hl2 ho1 ho2 h w
theorem R_any(bS lim:Int)(k:Nat)(hk:k<=8)(w:World):
  Calls prog 145 #[.agg #[.int .u64 bS,.int .i64 lim,.int .i64 k]] w fun e w'=>e=.returned (.int .u64 ((RS k:Nat):Int))/\Kt nO w w':=by
 go_enter func145,ntmps145;go_wp2
 go_loop [3,4] (fun r i=>∃ j:Nat,j<=k/\i=.int .i64 j/\r=.int .u64 ((4096*2 ^ j:Nat):Int)) (fun _ i=>k-(intOf i).toNat)
 case atStart=>exact⟨0,by omega,rfl,by simp⟩
 case round=>
  obtain⟨j,hj,rfl,rfl⟩:=hrel;obtain⟨P,hP⟩:=xe (2 ^ j);have hP8:=pow8 j (by omega);rw[<-hP] at hP8 ⊢;obtain⟨R,hR⟩:=xe (4096*P);have hR1:R<=1048576:=by omega
  rw[<-hR];by_cases hlt:j<k
  ·have hN2:=aA (show 4096*2 ^ (j+1)=R*2 from by rw[hR,hP,Nat.pow_succ,Nat.mul_assoc]);have hji:(j:Int)<k:=(by omega);clear hP hR;go_wp2
   refine⟨⟨j+1,by omega,by simp,?_⟩,by simp[intOf];omega⟩;rw[hN2.out];simp
  ·obtain rfl:j=k:=(by omega);have E:=aA (show RS j=R by rw[hR,hP];rfl);clear hP hR;go_wp2
   go_ret;exact⟨dX (by rw[E.out]),(Kt.refl _ w).alloc _⟩
end Go.Proofs.YtkfmheelhinjdaaGreatDoor.M
