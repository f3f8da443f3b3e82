import Derived.Test.YtkfmheelhinjdaaGreatDoorXc
set_option maxRecDepth 1000000
set_option maxHeartbeats 80000000
namespace Go.Proofs.YtkfmheelhinjdaaGreatDoor.M
open _root_.Go.Proofs.Tryz
open Go.RowKit
set_option linter.unusedVariables false
theorem New_ok(bS:Nat)(hb64:bS<18446744073709551616)(lim ord:Int)(hl1 : -9223372036854775808<=lim)(hl2:lim<=9223372036854775807)(ho1 : -9223372036854775808<=ord)(ho2:ord<=9223372036854775807)(h:mayB bS lim ord=true)(f:Nat->Nat)(w:World):
  Calls prog 76 #[.agg #[.int .u64 bS,.int .i64 lim,.int .i64 ord]] w fun e w'=>∃ b,e=.returned (.tuple #[.pointer (some ⟨b,0,none⟩),.int .i64 0])/\SpA w' b none bS (RS ord.toNat) lim.toNat 0 f/\Kt nO w w'/\w.heap.size<=b:=by
 have HM:=aA (XK bS hb64 lim ord hl1 hl2 ho1 ho2);rw[h] at HM;obtain⟨hB,hC⟩:=QR h;have hB':=hB;unfold Bounds at hB';obtain⟨l,rfl⟩:=Int.eq_ofNat_of_zero_le (by omega : 0<=lim);obtain⟨k,rfl⟩:=Int.eq_ofNat_of_zero_le hB'.1;simp only[Int.toNat_natCast] at hC ⊢;obtain⟨R,hR⟩:=xe (RS k);rw[<-hR] at hC ⊢;have HRS:=aA (show ∀ w,Calls prog 115 #[.agg #[.int .u64 bS,.int .i64 l,.int .i64 k]] w fun e w'=>e=.returned (.int .u64 R)/\Kt nO w w' from fun w=>by
  rw[hR];exact CJ bS l k (by omega) w)
 have HC:=aA hC;clear h hB hB' hC hR;go_enter func76,ntmps76;go_wp2_with fail;refine(HM.out _).mono ?_;rintro e w1 ⟨rfl,hK⟩;obtain⟨hc0,hc1,hKK⟩:=rF w w1 bS l k hK;have hc2:w1.cell? ⟨w.heap.size,2,none⟩=some (.int .i64 k):=by
  have:=(hK.block w.heap.size (by simp) (fun x=>x)).trans (nH w _);simp[World.cell?,this]
 have hlt:w.heap.size<w1.heap.size:=by have:=hK.size;simp at this;omega
 have HK:=aA hKK;have HL:=aA hlt;clear hK hKK hlt;go_wp2
 go_region_with ((go_at_call 115;refine(HRS.out _).mono ?_;rintro e w2 ⟨rfl,hK2⟩;have g0:=hK2.cell (fun x=>x) (show World.cell? _ ⟨w.heap.size,0,none⟩=some (.int .u64 bS)from hc0);have g1:=hK2.cell (fun x=>x) (show World.cell? _ ⟨w.heap.size,1,none⟩=some (.int .i64 l)from hc1);have HK2:=aA (show Kt nO w1 w2 from⟨hK2.os,hK2.tape,hK2.output,hK2.size,hK2.block⟩);clear hK2))
 all_goals (go_wp2;go_ret2)
 all_goals (have k3:=HK.out.trans (U:=nO) HK2.out (fun _ _ x=>x) (fun _ _ x=>x);exact⟨_,rfl,⟨HC.out,⟨0,by simp,Nat.zero_le _⟩,0,nH _ _,rfl,rfl⟩,k3.alloc _,k3.size⟩)
end Go.Proofs.YtkfmheelhinjdaaGreatDoor.M
