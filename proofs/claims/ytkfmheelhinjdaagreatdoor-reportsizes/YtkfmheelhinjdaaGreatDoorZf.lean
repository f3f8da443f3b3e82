import Derived.Test.YtkfmheelhinjdaaGreatDoorZe
set_option maxRecDepth 1000000
set_option maxHeartbeats 80000000
namespace Go.Proofs.YtkfmheelhinjdaaGreatDoor.M
open Tryz
open Go.RowKit
set_option linter.unusedVariables false
def RS(k:Nat):Nat:=4096*2 ^ k
theorem pow8(k:Nat)(hk:k<=8) : 1<=2 ^ k/\2 ^ k<=256:=⟨Nat.two_pow_pos k,Nat.pow_le_pow_right (n:=2) (by decide) hk⟩
theorem AZ(bS lim:Int)(k:Nat)(hk:k<=8)(w:World):
  Calls prog 115 #[.agg #[.int .u64 bS,.int .i64 lim,.int .i64 k]] w fun e w'=>e=.returned (.int .u64 ((RS k:Nat):Int))/\Kt nO w w':=by
 have E:=aA (show IntKind.u64.wrap (4096*2 ^ k)=((RS k:Nat):Int)by
  have:=pow8 k hk;have e:((2:Int) ^ k)=((2 ^ k:Nat):Int):=by simp
  rw[wrap_u64,e];unfold RS;generalize 2 ^ k=p at this;omega)
 go_enter func115,ntmps115;go_wp2
 go_ret;exact⟨eG E.out,(Kt.refl _ w).alloc _⟩
def Bounds(lim ord:Int):Prop:=0<=ord/\ord<=8/\1<=lim/\lim<=64
instance (lim ord:Int):Decidable (Bounds lim ord):=by unfold Bounds;infer_instance
def mayB(bS:Nat)(lim ord:Int):Bool:=
 decide (Bounds lim ord) && decide (lim.toNat*2 ^ ord.toNat<=1024) && (decide (bS≠0) && decide (bS%RS ord.toNat=0) && decide (bS+lim.toNat*RS ord.toNat<=9223372036854775808))
theorem VL(bS:Nat)(lim ord:Int)(hl1 : -9223372036854775808<=lim)(hl2:lim<=9223372036854775807)(ho1 : -9223372036854775808<=ord)(ho2:ord<=9223372036854775807)(h:¬Bounds lim ord)(w:World):
  Calls prog 114 #[.agg #[.int .u64 bS,.int .i64 lim,.int .i64 ord]] w fun e w'=>e=.returned (.bool false)/\Kt nO w w':=by
 by_cases h1:ord<0
 ·clear h;go_enter func114,ntmps114;go_wp2_with fail;go_ret;exact⟨rfl,(Kt.refl _ w).alloc _⟩
 ·by_cases h2 : 8<ord
  ·clear h;go_enter func114,ntmps114;go_wp2_with fail;go_ret;exact⟨rfl,(Kt.refl _ w).alloc _⟩
  ·by_cases h3:lim<1
   ·clear h;go_enter func114,ntmps114;go_wp2_with fail;go_ret;exact⟨rfl,(Kt.refl _ w).alloc _⟩
   ·have h4 : 64<lim:=(by unfold Bounds at h;omega);clear h;go_enter func114,ntmps114;go_wp2_with fail;go_ret;exact⟨rfl,(Kt.refl _ w).alloc _⟩
theorem rI(w w1:World)(bS lim ord:Int)(hK:Kt nO (w.alloc (.cells #[.int .u64 bS,.int .i64 lim,.int .i64 ord] 29)) w1):
  w1.cell? ⟨w.heap.size,0,none⟩=some (.int .u64 bS)/\w1.cell? ⟨w.heap.size,1,none⟩=some (.int .i64 lim)/\Kt nO w w1:=by
 have:=(hK.block w.heap.size (by simp) (fun x=>x)).trans (nH w _);exact⟨by simp[World.cell?,this],by simp[World.cell?,this],((Kt.refl nO w).alloc _).trans hK (fun _ _ x=>x) (fun _ _ x=>x)⟩
theorem OO(bS:Nat)(hb64:bS<18446744073709551616)(lim k:Nat)(hk:k<=8)(hl1 : 1<=lim)(hl2:lim<=64)(w:World):
  Calls prog 114 #[.agg #[.int .u64 bS,.int .i64 lim,.int .i64 k]] w fun e w'=>e=.returned (.bool (mayB bS lim k))/\Kt nO w w':=by
 obtain⟨P,hP⟩:=xe (2 ^ k);have hP8:=pow8 k hk;rw[<-hP] at hP8;obtain⟨lp,hlp⟩:=xe (lim*P);have hlp2:lp<=16384:=by
  rw[hlp];exact Nat.le_trans (Nat.mul_le_mul hl2 hP8.2) (by decide)
 have hw1:wrap64 ((lim:Int)*2 ^ k)=(lp:Int):=by
  have e:((2:Int) ^ k)=((2 ^ k:Nat):Int):=by simp
  have e2:(lim:Int)*((P:Nat):Int)=(lp:Int):=by rw[hlp];simp
  rw[e,<-hP,e2];unfold wrap64;omega
 have hB:Bounds (lim:Int) (k:Int):=by unfold Bounds;omega
 have hmay:mayB bS lim k=(decide (lp<=1024) && (decide (bS≠0) && decide (bS%RS k=0) && decide (bS+lim*RS k<=9223372036854775808))):=by
  unfold mayB;rw[decide_eq_true hB,Int.toNat_natCast,Int.toNat_natCast,<-hP,<-hlp,Bool.true_and]
 rw[hmay];clear hmay hB;obtain⟨R,hR⟩:=xe (RS k);have hR2:R=4096*P:=by rw[hR,RS,hP]
 obtain⟨lr,hlr⟩:=xe (lim*R);have hlr2:lr=4096*lp:=by rw[hlr,hR2,hlp,Nat.mul_left_comm]
 have hmul:(lim:Int)*(R:Int)=lr:=by rw[hlr];simp
 rw[<-hR,<-hlr];have HRS:=aA (show ∀ w,Calls prog 115 #[.agg #[.int .u64 bS,.int .i64 lim,.int .i64 k]] w fun e w'=>e=.returned (.int .u64 R)/\Kt nO w w' from fun w=>by
  rw[hR];exact AZ bS lim k hk w)
 have hR0:¬(R:Int)=0:=by omega
 have hRl:R<=1048576:=by omega
 by_cases h1:lp<=1024
 ·have h1':¬(1024:Int)<lp:=by omega
  have hd:decide (lp<=1024)=true:=decide_eq_true h1;rw[hd,Bool.true_and];clear hP hlp hR hd;by_cases h0:bS=0
  ·have hb0:((bS:Int) != 0)=false:=(by rw[h0];rfl);have H0:=aA h0;clear hR2 hlr hlr2 h0;go_enter func114,ntmps114;go_wp2_with fail;refine(HRS.out _).mono ?_;rintro e w1 ⟨rfl,hK⟩;obtain⟨hc0,hc1,hKK⟩:=rI w w1 bS lim k hK;have HK:=aA hKK;clear hK hKK;go_wp2
   go_ret;exact⟨cO (by rw[H0.out];simp),HK.out⟩
  ·have hb0:((bS:Int) != 0)=true:=(by rw[bne_iff_ne];omega);have hd0:decide (bS≠0)=true:=decide_eq_true h0;rw[hd0,Bool.true_and];by_cases h2:bS%R=0
   ·have hm:((bS:Int)%(R:Int) == 0)=true:=(by rw[beq_iff_eq];omega);have hd2:decide (bS%R=0)=true:=decide_eq_true h2;rw[hd2,Bool.true_and];clear hR2 hlr h2 hd2 hd0;go_enter func114,ntmps114;go_wp2_with fail;refine(HRS.out _).mono ?_;rintro e w1 ⟨rfl,hK⟩;obtain⟨hc0,hc1,hKK⟩:=rI w w1 bS lim k hK;have HK:=aA hKK;clear hK hKK;go_wp2
    go_ret;exact⟨cO (by rw[decide_eq_decide];omega),HK.out⟩
   ·have hm:((bS:Int)%(R:Int) == 0)=false:=(by rw[beq_eq_false_iff_ne];omega);have hd2:decide (bS%R=0)=false:=decide_eq_false h2;rw[hd2,Bool.false_and];clear hR2 hlr hlr2 h2 hd2 hd0;go_enter func114,ntmps114;go_wp2_with fail;refine(HRS.out _).mono ?_;rintro e w1 ⟨rfl,hK⟩;obtain⟨hc0,hc1,hKK⟩:=rI w w1 bS lim k hK;have HK:=aA hKK;clear hK hKK;go_wp2
    go_ret;exact⟨rfl,HK.out⟩
 ·have hd:decide (lp<=1024)=false:=decide_eq_false h1;rw[hd,Bool.false_and];have h1':(1024:Int)<lp:=by omega
  clear hP hlp hR hR2 hlr hlr2 h1 hd;go_enter func114,ntmps114;go_wp2_with fail;go_ret;exact⟨rfl,(Kt.refl _ w).alloc _⟩
theorem VK(bS:Nat)(hb64:bS<18446744073709551616)(lim ord:Int)(hl1 : -9223372036854775808<=lim)(hl2:lim<=9223372036854775807)(ho1 : -9223372036854775808<=ord)(ho2:ord<=9223372036854775807)(w:World):
  Calls prog 114 #[.agg #[.int .u64 bS,.int .i64 lim,.int .i64 ord]] w fun e w'=>e=.returned (.bool (mayB bS lim ord))/\Kt nO w w':=by
 by_cases h:Bounds lim ord
 ·have h':=h;unfold Bounds at h';obtain⟨l,rfl⟩:=Int.eq_ofNat_of_zero_le (by omega : 0<=lim);obtain⟨k,rfl⟩:=Int.eq_ofNat_of_zero_le h'.1;exact OO bS hb64 l k (by omega) (by omega) (by omega) w
 ·have e:mayB bS lim ord=false:=by unfold mayB;rw[decide_eq_false h,Bool.false_and,Bool.false_and]
  rw[e];exact VL bS lim ord hl1 hl2 ho1 ho2 h w
theorem ON{bS:Nat}{lim ord:Int}(h:mayB bS lim ord=true):Bounds lim ord/\Cfg bS (RS ord.toNat) lim.toNat:=by
 simp only[mayB,Bool.and_eq_true,decide_eq_true_eq] at h;obtain⟨⟨hB,h1⟩,⟨h2,h3⟩,h4⟩:=h;refine⟨hB,?_⟩;unfold Bounds at hB;have hp:=pow8 ord.toNat (by omega);have hlr:lim.toNat*RS ord.toNat=4096*(lim.toNat*2 ^ ord.toNat):=by rw[RS,Nat.mul_left_comm]
 have hR:RS ord.toNat=4096*2 ^ ord.toNat:=rfl;exact⟨by omega,by omega,by omega,by omega,by omega,by omega,h4⟩
end Go.Proofs.YtkfmheelhinjdaaGreatDoor.M
