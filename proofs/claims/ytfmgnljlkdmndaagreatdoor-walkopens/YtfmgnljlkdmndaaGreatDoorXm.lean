import Derived.Test.YtfmgnljlkdmndaaGreatDoorZc
set_option maxRecDepth 1000000
set_option maxHeartbeats 0
namespace Go.Proofs.YtfmgnljlkdmndaaGreatDoor
namespace M
open Tryz RowKit
set_option linter.unusedVariables false
theorem New_ok(bS:Nat)(c:bS<18446744073709551616)(dl ord:Int)(u : -9223372036854775808<=dl)(r:dl<=9223372036854775807)(o : -9223372036854775808<=ord)(p:ord<=9223372036854775807)(h:mayB bS dl ord=true)(f:Nat->Nat)(w:Wd):Calls prog 53 #[.agg #[.int .u64 bS,.int .i64 dl,.int .i64 ord]] w fun e j=>∃ b,e=.returned (.tuple #[.pointer (some ⟨b,0,none⟩),.int .i64 0])/\SpA j b none bS (RS ord.toNat) dl.toNat 0 f/\Kt nO w j/\w.heap.size<=b:=by
 have y:=aA (zjO bS c dl ord u r o p);rw[h] at y;obtain⟨z,i⟩:=zlI h;have a:=z;unfold Bounds at a;obtain⟨l,rfl⟩:=au (by omega : 0<=dl);obtain⟨k,rfl⟩:=au a.1;simp only[aa] at i ⊢;obtain⟨R,hR⟩:=xe (RS k);rw[<-hR] at i ⊢;have n:=aA (show ∀ w,Calls prog 101 #[.agg #[.int .u64 bS,.int .i64 l,.int .i64 k]] w fun e j=>e=.returned (.int .u64 R)/\Kt nO w j from fun w=>by rw[hR];exact MU bS l k (by omega) w)
 have B:=aA i;clear h z a i hR;go_enter func53,ntmps53;go_wp2_with fail;refine(y.o _).mono ?_;rintro e m ⟨rfl,hK⟩;obtain⟨s,q,g⟩:=tR w m bS l k hK;have D:m.cell? ⟨w.heap.size,2,none⟩=some (.int .i64 k):=by have:=(hK.block w.heap.size (by simp) (fun x=>x)).trans (nH w _);simp[World.cell?,this]
 have d:w.heap.size<m.heap.size:=by have:=hK.size;simp at this;omega
 have A:=aA g;have E:=aA d;clear hK g d;go_wp2
 go_region_with ((go_at_call 101;refine(n.o _).mono ?_;rintro e C ⟨rfl,hK2⟩;have G:=hK2.cell (fun x=>x) (show World.cell? _ ⟨w.heap.size,0,none⟩=some (.int .u64 bS)from s);have F:=hK2.cell (fun x=>x) (show World.cell? _ ⟨w.heap.size,1,none⟩=some (.int .i64 l)from q);have t:=aA (show Kt nO m C from⟨hK2.os,hK2.tape,hK2.output,hK2.size,hK2.block⟩);clear hK2))
 all_goals (go_wp2;go_ret2)
 all_goals (have v:=A.o.trans (U:=nO) t.o (fun _ _ x=>x) (fun _ _ x=>x);exact⟨_,rfl,⟨B.o,⟨0,by simp,az _⟩,0,nH _ _,rfl,rfl⟩,v.alloc _,v.size⟩)
end M
end Go.Proofs.YtfmgnljlkdmndaaGreatDoor
