import Derived.Test.YtbgbfpklgfpepaaGreatDoorXq
set_option maxRecDepth 1000000
set_option maxHeartbeats 80000000
namespace Go.Proofs.YtbgbfpklgfpepaaGreatDoor
open Tryz
open Go.RowKit
open Go.MuLone
set_option linter.unusedVariables false
structure Cl8 where
 op:Int
 p:Nat
 a:Nat
 b:Nat
 d:Bool
 v:Value
abbrev bJ(c:Cl8):Value:=.agg #[.int .i64 c.op,.int .u64 c.p,.int .u64 c.a,.int .u64 c.b,.bool c.d,c.v]
abbrev bP(c:Cl8):Obj:=.cells #[.int .i64 c.op,.int .u64 c.p,.int .u64 c.a,.int .u64 c.b,.bool c.d,c.v] 63
abbrev mX(e:Int)(v:Nat):Value:=.agg #[.int .i64 e,.int .u64 v,.slice none 0 0,.int .u64 0,.int .u64 0,.int .i64 0,.int .i64 0,.int .u64 0,.slice none 0 0]
abbrev snO(e:Int)(v:Nat):Obj:=.cells #[.int .i64 e,.int .u64 v,.slice none 0 0,.int .u64 0,.int .u64 0,.int .i64 0,.int .i64 0,.int .u64 0,.slice none 0 0] 69
abbrev KQ(e v:Int):Obj:=.cells #[.int .i64 e,.int .u64 v,.slice none 0 0,.int .u64 0,.int .u64 0,.int .i64 0,.int .i64 0,.int .u64 0,.slice none 0 0] 69
abbrev gK:Obj:=.cells #[.int .i64 0,.int .u64 0,.slice none 0 0,.int .u64 0,.int .u64 0,.int .i64 0,.int .i64 0,.int .u64 0,.slice none 0 0] 69
theorem bO{W:World}{y:Nat}{c:Cl8}(h:W.heap[y]?=some (bP c)):W.cell? ⟨y,0,none⟩=some (.int .i64 c.op)/\W.cell? ⟨y,1,none⟩=some (.int .u64 c.p)/\W.cell? ⟨y,2,none⟩=some (.int .u64 c.a)/\W.cell? ⟨y,3,none⟩=some (.int .u64 c.b)/\W.cell? ⟨y,4,none⟩=some (.bool c.d)/\W.cell? ⟨y,5,none⟩=some c.v:=by
 refine⟨?_,?_,?_,?_,?_,?_⟩ <;> simp[World.cell?,h]
theorem TA(op:Int)(W:World):
  Calls prog 29 #[.int .i64 op] W fun e w'=>e=.returned (.bool (op == 1 || op == 2 || op == 3 || op == 4))/\w'=W:=by
 cases h1:(op == 1) <;> cases h2:(op == 2) <;> cases h3:(op == 3) <;> cases h4:(op == 4) <;>
 ·go_enter func29,ntmps29;go_wp2_with fail;go_ret;exact⟨rfl,rfl⟩
theorem EB(v:Nat)(hv:v<18446744073709551616)(er:Int)(W:World):
  Calls prog 64 #[.int .u64 v,.int .i64 er] W fun e w'=>e=.returned (mX er v)/\Kt nO W w':=by
 have D:=aA ((Kt.refl nO W).alloc (snO er v));go_enter func64,ntmps64;go_wp2_with fail;exact⟨rfl,mX er v,by simp[results,results64,go_sem],rfl,D.out⟩
theorem vZ{W:World}{y:Nat}(e v:Int)(h:W.heap[y]?=some gK):(((((((((W.setCell ⟨y,0,none⟩ (.int .i64 e)).setCell ⟨y,1,none⟩ (.int .u64 v)).setCell ⟨y,2,none⟩ (.slice none 0 0)).setCell ⟨y,3,none⟩ (.int .u64 0)).setCell ⟨y,4,none⟩ (.int .u64 0)).setCell ⟨y,5,none⟩ (.int .i64 0)).setCell ⟨y,6,none⟩ (.int .i64 0)).setCell ⟨y,7,none⟩ (.int .u64 0)).setCell ⟨y,8,none⟩ (.slice none 0 0)).heap[y]?=some (KQ e v):=by
 have:=bB (bB (bB (bB (bB (bB (bB (bB (bB h 0 (.int .i64 e)) 1 (.int .u64 v)) 2 (.slice none 0 0)) 3 (.int .u64 0)) 4 (.int .u64 0)) 5 (.int .i64 0)) 6 (.int .i64 0)) 7 (.int .u64 0)) 8 (.slice none 0 0);simpa using this
theorem mG{W:World}{y:Nat}{e v:Int}(h:W.heap[y]?=some (KQ e v)):W.cell? ⟨y,0,none⟩=some (.int .i64 e)/\W.cell? ⟨y,1,none⟩=some (.int .u64 v)/\W.cell? ⟨y,2,none⟩=some (.slice none 0 0)/\W.cell? ⟨y,3,none⟩=some (.int .u64 0)/\W.cell? ⟨y,4,none⟩=some (.int .u64 0)/\W.cell? ⟨y,5,none⟩=some (.int .i64 0)/\W.cell? ⟨y,6,none⟩=some (.int .i64 0)/\W.cell? ⟨y,7,none⟩=some (.int .u64 0)/\W.cell? ⟨y,8,none⟩=some (.slice none 0 0)/\∀ j,W.frozen? ⟨y,j,none⟩=false:=by
 refine⟨?_,?_,?_,?_,?_,?_,?_,?_,?_,fun j=>?_⟩ <;> simp[World.cell?,World.frozen?,h]
theorem oM{W:World}{y:Nat}(u0 u1 u2 u3 u4 u5 u6 u7 u8:Value):Kt (fun z=>z=y) W (((((((((W.setCell ⟨y,0,none⟩ u0).setCell ⟨y,1,none⟩ u1).setCell ⟨y,2,none⟩ u2).setCell ⟨y,3,none⟩ u3).setCell ⟨y,4,none⟩ u4).setCell ⟨y,5,none⟩ u5).setCell ⟨y,6,none⟩ u6).setCell ⟨y,7,none⟩ u7).setCell ⟨y,8,none⟩ u8):=
 (((((((((Kt.refl (fun z=>z=y) W).setCell (p:=⟨y,0,none⟩) rfl u0).setCell (p:=⟨y,1,none⟩) rfl u1).setCell (p:=⟨y,2,none⟩) rfl u2).setCell (p:=⟨y,3,none⟩) rfl u3).setCell (p:=⟨y,4,none⟩) rfl u4).setCell (p:=⟨y,5,none⟩) rfl u5).setCell (p:=⟨y,6,none⟩) rfl u6).setCell (p:=⟨y,7,none⟩) rfl u7).setCell (p:=⟨y,8,none⟩) rfl u8
abbrev gE(W:World)(c:Cl8):World:=(W.alloc (bP c)).alloc gK
end Go.Proofs.YtbgbfpklgfpepaaGreatDoor
