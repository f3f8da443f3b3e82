import Derived.Test.YthjdjgokafkjaaaGreatDoorRgD
import Derived.ProofKit
import Derived.OpenShut
import Derived.Deep.Slices
import Derived.Deep.Strs
/- A croftref11.Config that came in. (Off Cfa.) -/
namespace Go.Proofs.YthjdjgokafkjaaaGreatDoor
open Go.ChangeShapes Go.WideShapes Go.ChangeAt Go.RowKit Go.Deep
set_option linter.unusedVariables false

theorem cells_u64 : Tryz.prog.cellsOf 27 = 1 := by kernel_rfl
theorem cells_int : Tryz.prog.cellsOf 3 = 1 := by kernel_rfl
set_option maxRecDepth 8000 in
theorem cfg8_of {H : Type} {enc : TypeId × Value → H} {W : World} {base : Nat} {v : Value} {d : DataW H} {p : List MemPlace} (hok : Value.okWide Tryz.prog W .any base 43 v)
    (h : DataW.Trod enc Tryz.prog W 0 (fun _ => true) true 43 v d p) :
    ∃ (b : Nat) (lim ord : Int), v = .agg #[.int .u64 (b : Int), .int .i64 lim, .int .i64 ord] ∧ b < 18446744073709551616 ∧ -9223372036854775808 ≤ lim ∧ lim ≤ 9223372036854775807 ∧ -9223372036854775808 ≤ ord ∧ ord ≤ 9223372036854775807 := by
  obtain ⟨cs, rfl, _⟩ := okWide_struct Tryz.underlying43 hok
  obtain ⟨fuel, hf⟩ := h
  obtain ⟨y0, y1, y2, nn, _, hlen, g0, g1, g2⟩ := trod_struct3 Tryz.underlying43 hf
  obtain ⟨l⟩ := cs
  simp only [Value.cells] at hlen g0 g1 g2
  have hl3 : l.length = 3 := hlen.trans (by kernel_rfl)
  match l, hl3 with
  | [c0, c1, c2], _ =>
    rw [cells_u64] at g0
    rw [cells_int] at g1 g2
    obtain ⟨x, e0, _, w0⟩ := DataW.trod_int Tryz.underlying27 g0
    obtain ⟨y, e1, _, w1⟩ := DataW.trod_int Tryz.underlying3 g1
    obtain ⟨z, e2, _, w2⟩ := DataW.trod_int Tryz.underlying3 g2
    simp at e0 e1 e2
    subst e0 e1 e2
    have b0 := bounds_u64 w0
    have b1 := bounds_i64 w1
    have b2 := bounds_i64 w2
    obtain ⟨b, rfl⟩ := Int.eq_ofNat_of_zero_le b0.1
    exact ⟨b, y, z, rfl, by omega, b1.1, b1.2, b2.1, b2.2⟩
theorem u64_of8 {a : Int} (h : (Lit.int .u64 a).wf = true) : ∃ n : Nat, a = (n : Int) ∧ n < 2 ^ 64 := by
  have b0 := bounds_u64 h
  obtain ⟨n, rfl⟩ := Int.eq_ofNat_of_zero_le b0.1
  exact ⟨n, rfl, by omega⟩

end Go.Proofs.YthjdjgokafkjaaaGreatDoor
