import Derived.Test.YtbgbfpklgfpepaaGreatDoorXf
set_option maxRecDepth 1000000
set_option maxHeartbeats 80000000
namespace Go.Proofs.YtbgbfpklgfpepaaGreatDoor
open Tryz
open Go.RowKit
open Go.Proofs.YtbgbfpklgfpepaaGreatDoor.M (RS gJ mayB bE)
set_option linter.unusedVariables false
theorem jJ(bS lim:Int)(k:Nat)(hk:k<=8)(w:World):
  Calls prog 25 #[.agg #[.int .u64 bS,.int .i64 lim,.int .i64 k]] w fun e w'=>e=.returned (.int .u64 ((RS k:Nat):Int))/\Kt nO w w':=by
 have E:=aA (show IntKind.u64.wrap (4096*2 ^ k)=((RS k:Nat):Int)by
  have:=bE k hk;have e:((2:Int) ^ k)=((2 ^ k:Nat):Int):=by simp
  rw[wrap_u64,e];unfold RS;generalize 2 ^ k=p at this;omega)
 go_enter func25,ntmps25;go_wp2
 go_ret;exact⟨eJ E.out,(Kt.refl _ w).alloc _⟩
theorem wU(x:Nat)(hx:x<2 ^ 64)(w:World):Calls prog 26 #[.int .u64 x] w fun e w'=>e=.returned (.bool (cL x))/\w'=w:=by
 by_cases h:x=0
 ·subst h;go_enter func26,ntmps26;go_wp2
  go_ret;exact⟨rfl,rfl⟩
 ·have h0:((x:Int) != 0)=true:=by rw[bne_iff_ne];omega
  have h1:¬(x:Int)=0:=by omega
  have E:=aA (IZ x hx h);clear h;go_enter func26,ntmps26;go_wp2
  go_ret;exact⟨cE (by have:=E.out;rw[h0,Bool.true_and] at this;exact this),rfl⟩
def mK(W:World)(x bS:Nat)(lim ord:Int):Prop:=W.heap[x]?=some (.cells #[.int .u64 bS,.int .i64 lim,.int .i64 ord] 43)
theorem mK.cells{W:World}{x bS:Nat}{lim ord:Int}(h:mK W x bS lim ord):W.cell? ⟨x,0,none⟩=some (.int .u64 bS)/\W.cell? ⟨x,1,none⟩=some (.int .i64 lim)/\W.cell? ⟨x,2,none⟩=some (.int .i64 ord):=by
 unfold mK at h;refine⟨?_,?_,?_⟩ <;> simp[World.cell?,h]
theorem mK.keep{W W':World}{x bS:Nat}{lim ord:Int}(h:mK W x bS lim ord){S:Nat->Prop}(k:Kt S W W')(hS:¬S x):mK W' x bS lim ord:=(k.block _ (lH h) hS).trans h
theorem CY(bS:Nat)(lim ord:Int)(w:World):Calls prog 21 #[cA bS lim ord] w fun e w'=>e=.returned (cA bS lim ord)/\Kt nO w w':=by
 go_enter func21,ntmps21;go_wp2
 exact⟨rfl,.agg #[.int .u64 bS,.int .i64 lim,.int .i64 ord],by simp[results,results21,go_sem],rfl,((Kt.refl _ w).alloc _).alloc _⟩
theorem zhl(bS:Nat)(lim ord:Int)(hl1 : -9223372036854775808<=lim)(hl2:lim<=9223372036854775807)(ho1 : -9223372036854775808<=ord)(ho2:ord<=9223372036854775807)(h:¬gJ lim ord)(w:World):
  Calls prog 22 #[.agg #[.int .u64 bS,.int .i64 lim,.int .i64 ord]] w fun e w'=>e=.returned (.bool false)/\Kt nO w w':=by
 by_cases h1:ord<0
 ·clear h;go_enter func22,ntmps22;go_wp2_with fail;go_ret;exact⟨rfl,(Kt.refl _ w).alloc _⟩
 ·by_cases h2 : 8<ord
  ·clear h;go_enter func22,ntmps22;go_wp2_with fail;go_ret;exact⟨rfl,(Kt.refl _ w).alloc _⟩
  ·by_cases h3:lim<1
   ·clear h;go_enter func22,ntmps22;go_wp2_with fail;go_ret;exact⟨rfl,(Kt.refl _ w).alloc _⟩
   ·have h4 : 64<lim:=(by unfold gJ at h;omega);clear h;go_enter func22,ntmps22;go_wp2_with fail;go_ret;exact⟨rfl,(Kt.refl _ w).alloc _⟩
theorem GZ(bS:Nat)(hb64:bS<18446744073709551616)(lim k:Nat)(hk:k<=8)(hl1 : 1<=lim)(hl2:lim<=64)(w:World):
  Calls prog 22 #[.agg #[.int .u64 bS,.int .i64 lim,.int .i64 k]] w fun e w'=>e=.returned (.bool (mayB bS lim k))/\Kt nO w w':=by
 obtain⟨P,hP⟩:=xe (2 ^ k);have hP8:=bE k hk;rw[<-hP] at hP8;obtain⟨lp,hlp⟩:=xe (lim*P);have hlp2:lp<=16384:=by
  rw[hlp];exact Nat.le_trans (Nat.mul_le_mul hl2 hP8.2) (by decide)
 have hw1:wrap64 ((lim:Int)*2 ^ k)=(lp:Int):=by
  have e:((2:Int) ^ k)=((2 ^ k:Nat):Int):=by simp
  have e2:(lim:Int)*((P:Nat):Int)=(lp:Int):=by rw[hlp];simp
  rw[e,<-hP,e2];unfold wrap64;omega
 have hB:gJ (lim:Int) (k:Int):=by unfold gJ;omega
 have hmay:mayB bS lim k=(decide (lp<=1024) && (decide (bS≠0) && decide (bS%RS k=0) && decide (bS+lim*RS k<=9223372036854775808))):=by
  unfold mayB;rw[decide_eq_true hB,Int.toNat_natCast,Int.toNat_natCast,<-hP,<-hlp,Bool.true_and]
 rw[hmay];clear hmay hB;obtain⟨R,hR⟩:=xe (RS k);have hR2:R=4096*P:=by rw[hR,RS,hP]
 obtain⟨lr,hlr⟩:=xe (lim*R);have hlr2:lr=4096*lp:=by rw[hlr,hR2,hlp,Nat.mul_left_comm]
 have hmul:(lim:Int)*(R:Int)=lr:=by rw[hlr];simp
 rw[<-hR,<-hlr];have HRS:=aA (show ∀ w,Calls prog 25 #[.agg #[.int .u64 bS,.int .i64 lim,.int .i64 k]] w fun e w'=>e=.returned (.int .u64 R)/\Kt nO w w' from fun w=>by
  rw[hR];exact jJ bS lim k hk w)
 have hR0:¬(R:Int)=0:=by omega
 have hRl:R<=1048576:=by omega
 have C0:=aA (show mK (w.alloc (.cells #[.int .u64 bS,.int .i64 lim,.int .i64 k] 43)) w.heap.size bS lim k from nH w _);have K0:=aA (show Kt nO w (w.alloc (.cells #[.int .u64 bS,.int .i64 lim,.int .i64 k] 43))from(Kt.refl _ w).alloc _);by_cases h1:lp<=1024
 ·have h1':¬(1024:Int)<lp:=by omega
  rw[decide_eq_true h1,Bool.true_and];clear hP hlp hR;by_cases h0:bS=0
  ·have hb0:((bS:Int) == 0)=true:=(by rw[h0];rfl);have H0:=aA h0;clear hR2 hlr hlr2 h0;go_enter func22,ntmps22;go_wp2_with fail;refine(HRS.out _).mono ?_;rintro e w1 ⟨rfl,hK⟩;obtain⟨c0,c1,c2⟩:=(C0.out.keep hK (fun x=>x)).cells;have HK:=aA (nT K0.out hK);clear hK;go_wp2_with fail;go_ret;exact⟨cE (by rw[H0.out];simp),HK.out⟩
  ·have hb0:((bS:Int) == 0)=false:=(by rw[beq_eq_false_iff_ne];omega);have hbz:¬(bS:Int)=0:=(by omega);rw[decide_eq_true h0,Bool.true_and];by_cases h2:bS%R=0
   ·have hm:((bS:Int)%(R:Int) != 0)=false:=(by rw[bne_eq_false_iff_eq];omega);rw[decide_eq_true h2,Bool.true_and];by_cases h3:(9223372036854775808:Int)<(bS:Int)
    ·rw[decide_eq_false (by omega:¬bS+lr<=9223372036854775808)];clear hR2 hlr h2 h0;go_enter func22,ntmps22;go_wp2_with fail;refine(HRS.out _).mono ?_;rintro e w1 ⟨rfl,hK⟩;obtain⟨c0,c1,c2⟩:=(C0.out.keep hK (fun x=>x)).cells;have HK:=aA (nT K0.out hK);clear hK;go_wp2_with fail;go_ret;exact⟨rfl,HK.out⟩
    ·clear hR2 hlr h2 h0;go_enter func22,ntmps22;go_wp2_with fail;refine(HRS.out _).mono ?_;rintro e w1 ⟨rfl,hK⟩;obtain⟨c0,c1,c2⟩:=(C0.out.keep hK (fun x=>x)).cells;have HK:=aA (nT K0.out hK);clear hK;go_wp2_with fail;go_ret;exact⟨cE (by rw[decide_eq_decide];omega),HK.out⟩
   ·have hm:((bS:Int)%(R:Int) != 0)=true:=(by rw[bne_iff_ne];omega);rw[decide_eq_false h2,Bool.false_and];clear hR2 hlr hlr2 h2 h0;go_enter func22,ntmps22;go_wp2_with fail;refine(HRS.out _).mono ?_;rintro e w1 ⟨rfl,hK⟩;obtain⟨c0,c1,c2⟩:=(C0.out.keep hK (fun x=>x)).cells;have HK:=aA (nT K0.out hK);clear hK;go_wp2_with fail;go_ret;exact⟨rfl,HK.out⟩
 ·rw[decide_eq_false h1,Bool.false_and];have h1':(1024:Int)<lp:=by omega
  clear hP hlp hR hR2 hlr hlr2 h1;go_enter func22,ntmps22;go_wp2_with fail;go_ret;exact⟨rfl,K0.out⟩
theorem sX(bS:Nat)(hb64:bS<18446744073709551616)(lim ord:Int)(hl1 : -9223372036854775808<=lim)(hl2:lim<=9223372036854775807)(ho1 : -9223372036854775808<=ord)(ho2:ord<=9223372036854775807)(w:World):
  Calls prog 22 #[cA bS lim ord] w fun e w'=>e=.returned (.bool (mayB bS lim ord))/\Kt nO w w':=by
 by_cases h:gJ lim ord
 ·have h':=h;unfold gJ at h';obtain⟨l,rfl⟩:=Int.eq_ofNat_of_zero_le (by omega : 0<=lim);obtain⟨k,rfl⟩:=Int.eq_ofNat_of_zero_le h'.1;exact GZ bS hb64 l k (by omega) (by omega) (by omega) w
 ·have e:mayB bS lim ord=false:=by unfold mayB;rw[decide_eq_false h,Bool.false_and,Bool.false_and]
  rw[e];exact zhl bS lim ord hl1 hl2 ho1 ho2 h w
end Go.Proofs.YtbgbfpklgfpepaaGreatDoor
