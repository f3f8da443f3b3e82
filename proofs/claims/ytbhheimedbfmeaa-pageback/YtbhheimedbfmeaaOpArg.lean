/- A call that came in by itself. -/
import Derived.Test.YtbhheimedbfmeaaOps
namespace Go.Proofs.Ytbhheimedbfmeaa
open Go.ChangeShapes Go.WideShapes Go.ChangeAt Go.RowKit Go.Deep
set_option linter.unusedVariables false

set_option maxRecDepth 8000 in
theorem op_of {H : Type} {enc : TypeId × Value → H} {W : World} {base : Nat} {v : Value} {d : DataW H} {p : List MemPlace} (hok : Value.okWide Try.prog W .any base 59 v)
    (h : DataW.Trod enc Try.prog W 0 (fun _ => true) true 59 v d p) :
    ∃ (k p x y : Int) (l : Bool), v = opV k p x y l ∧ N64 k ∧ N64 p ∧ N64 x ∧ N64 y := by
  obtain ⟨cs, rfl, _⟩ := okWide_struct Try.underlying59 hok
  obtain ⟨fuel, hf⟩ := h
  obtain ⟨xs, nn, _, _, _, hxl, hfld⟩ := DataW.trod_struct Try.underlying59 hf
  obtain ⟨l⟩ := cs
  rename_i hlen _
  have hl5 : l.length = 5 := by
    have := cells_op
    simp_all [Value.cells]
  match l, hl5, xs, hxl with
  | [c0, c1, c2, c3, c4], _, [y0, y1, y2, y3, y4], _ =>
    have g0 := hfld 0 _ rfl
    have g1 := hfld 1 _ rfl
    have g2 := hfld 2 _ rfl
    have g3 := hfld 3 _ rfl
    have g4 := hfld 4 _ rfl
    obtain ⟨x0, e0, _, w0⟩ := DataW.trod_int Try.underlying3 g0
    obtain ⟨x1, e1, _, w1⟩ := DataW.trod_int Try.underlying3 g1
    obtain ⟨x2, e2, _, w2⟩ := DataW.trod_int Try.underlying3 g2
    obtain ⟨x3, e3, _, w3⟩ := DataW.trod_int Try.underlying3 g3
    obtain ⟨x4, e4, _⟩ := DataW.trod_bool Try.underlying4 g4
    simp [cells_int, cells_bool, Value.cells] at e0 e1 e2 e3 e4
    subst e0 e1 e2 e3 e4
    exact ⟨x0, x1, x2, x3, x4, rfl, bounds_i64 w0, bounds_i64 w1, bounds_i64 w2, bounds_i64 w3⟩
end Go.Proofs.Ytbhheimedbfmeaa
