import Derived.Test.YtfmgnljlkdmndaaGreatDoorXc
set_option maxRecDepth 1000000
set_option maxHeartbeats 80000000
namespace Go.Proofs.YtfmgnljlkdmndaaGreatDoor.M
open Tryz
open Go.RowKit
set_option linter.unusedVariables false
theorem New_ok(bS:Nat)(d:bS<18446744073709551616)(lim ord:Int)(q : -9223372036854775808<=lim)(p:lim<=9223372036854775807)(n : -9223372036854775808<=ord)(t:ord<=9223372036854775807)(h:mayB bS lim ord=true)(f:Nat->Nat)(w:World):
  Calls prog 53 #[.agg #[.int .u64 bS,.int .i64 lim,.int .i64 ord]] w fun e i=>∃ b,e=.returned (.tuple #[.pointer (some ⟨b,0,none⟩),.int .i64 0])/\SpA i b none bS (RS ord.toNat) lim.toNat 0 f/\Kt nO w i/\w.heap.size<=b:=by
 have v:=aA (JB bS d lim ord q p n t);rw[h] at v;obtain⟨z,m⟩:=YW h;have a:=z;unfold Bounds at a;obtain⟨l,rfl⟩:=au (by omega : 0<=lim);obtain⟨k,rfl⟩:=au a.1;simp only[aa] at m ⊢;obtain⟨R,hR⟩:=xe (RS k);rw[<-hR] at m ⊢;have u:=aA (show ∀ w,Calls prog 101 #[.agg #[.int .u64 bS,.int .i64 l,.int .i64 k]] w fun e i=>e=.returned (.int .u64 R)/\Kt nO w i from fun w=>by rw[hR];exact LP bS l k (by omega) w)
 have D:=aA m;clear h z a m hR;go_enter func53,ntmps53;go_wp2_with fail;refine(v.o _).mono ?_;rintro e j ⟨rfl,hK⟩;obtain⟨o,r,c⟩:=qU w j bS l k hK;have A:j.cell? ⟨w.heap.size,2,none⟩=some (.int .i64 k):=by have:=(hK.block w.heap.size (by simp) (fun x=>x)).trans (nH w _);simp[World.cell?,this]
 have g:w.heap.size<j.heap.size:=by have:=hK.size;simp at this;omega
 have B:=aA c;have E:=aA g;clear hK c g;go_wp2
 go_region_with ((go_at_call 101;refine(u.o _).mono ?_;rintro e C ⟨rfl,hK2⟩;have G:=hK2.cell (fun x=>x) (show World.cell? _ ⟨w.heap.size,0,none⟩=some (.int .u64 bS)from o);have F:=hK2.cell (fun x=>x) (show World.cell? _ ⟨w.heap.size,1,none⟩=some (.int .i64 l)from r);have s:=aA (show Kt nO j C from⟨hK2.os,hK2.tape,hK2.output,hK2.size,hK2.block⟩);clear hK2))
 all_goals (go_wp2;go_ret2)
 all_goals (have y:=B.o.trans (U:=nO) s.o (fun _ _ x=>x) (fun _ _ x=>x);exact⟨_,rfl,⟨D.o,⟨0,by simp,az _⟩,0,nH _ _,rfl,rfl⟩,y.alloc _,y.size⟩)
end Go.Proofs.YtfmgnljlkdmndaaGreatDoor.M
