/- pagemap: Chain. -/
import Derived.Test.YthglogiglimebaaPgE
namespace Go.Proofs.Ythglogiglimebaa
open Go.RowKit
set_option linter.unusedVariables false

def lnk (n : Nat) (x : Int) : Bool := x == -1 || inR n x
theorem Row.f45 {w g n pg} (h : Row w g n pg) (i : Nat) (hi : i < n) (x y : Int) : Row ((w.setCell ⟨g, i * 11 + 4, none⟩ (.int .i64 x)).setCell ⟨g, i * 11 + 5, none⟩ (.int .i64 y)) g n (upp pg i { pg i with nx := x, pv := y }) := by
  have := (RowC.set h i 4 hi (by decide) (.int .i64 x)).set i 5 hi (by decide) (.int .i64 y)
  refine RowC.congr this (fun a ha b hb => fld_up a b hb (fun j hj => ?_) (fun e => ?_))
  · revert j
    apply lt11 <;> simp [upc, Pg.fld]
  · simp [upc, e]
end Go.Proofs.Ythglogiglimebaa
