/- pagemap: Own. -/
import Derived.Test.YthglogiglimebaaPgD
namespace Go.Proofs.Ythglogiglimebaa
open Go.RowKit
set_option linter.unusedVariables false

theorem MapAt.rowg {w b B m} {g : Nat} (h : MapAt w b B m) (hg : B.g = some g) : Row w g m.n m.pg := by
  have hr := h.row
  rwa [hg] at hr
theorem ncell_le {c : Int} (h : 0 ≤ c) : ncell c ≤ 256 := Nat.div_le_self _ _
theorem inCell {cl c : Int} (h0 : 0 ≤ cl) (h : inR (ncell cl) c = true) : ∃ k : Nat, c = k ∧ k < 256 := by
  obtain ⟨k, rfl, hk⟩ := inR_nat h
  exact ⟨k, rfl, Nat.lt_of_lt_of_le hk (ncell_le h0)⟩
theorem Row.bits {w g n pg} (h : Row w g n pg) (i : Nat) (hi : i < n) (t : Pg) (x : Int) (hr : t.kd = (pg i).kd ∧ t.od = (pg i).od ∧ t.cl = (pg i).cl ∧ t.lv = (pg i).lv ∧ t.nx = (pg i).nx ∧ t.pv = (pg i).pv ∧ t.fs = (pg i).fs) :
    Row (((((w.setCell ⟨g, i * 11 + 7, none⟩ (.int .u64 (t.b0 : Int))).setCell ⟨g, i * 11 + 7 + 1, none⟩ (.int .u64 (t.b1 : Int))).setCell ⟨g, i * 11 + 7 + 2, none⟩ (.int .u64 (t.b2 : Int))).setCell ⟨g, i * 11 + 7 + 3, none⟩ (.int .u64 (t.b3 : Int))).setCell ⟨g, i * 11 + 3, none⟩ (.int .i64 x)) g n (upp pg i { t with lv := x }) := by
  have := (((((RowC.set h i 7 hi (by decide) (.int .u64 (t.b0 : Int))).set i 8 hi (by decide) (.int .u64 (t.b1 : Int))).set i 9 hi (by decide) (.int .u64 (t.b2 : Int))).set i 10 hi (by decide) (.int .u64 (t.b3 : Int))).set i 3 hi (by decide) (.int .i64 x))
  obtain ⟨e0, e1, e2, e3, e4, e5, e6⟩ := hr
  refine RowC.congr this (fun a ha b hb => fld_up a b hb (fun j hj => ?_) (fun e => ?_))
  · revert j
    apply lt11 <;> simp [upc, Pg.fld, e0, e1, e2, e4, e5, e6]
  · simp [upc, e]
def ownP (p : Pg) (c : Nat) : Pg := { turnP p c with lv := wrap64 (if litP p c = true then p.lv - 1 else p.lv + 1) }
end Go.Proofs.Ythglogiglimebaa
