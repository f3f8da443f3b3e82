/- A block that came in. -/
import Derived.Test.YtibljocjdlgfbabArg
namespace Go.Proofs.Ytibljocjdlgfbab
open Go.ChangeShapes Go.WideShapes Go.ChangeAt Go.RowKit Go.Deep
set_option linter.unusedVariables false

set_option maxRecDepth 8000 in
theorem blk_of {H : Type} {enc : TypeId × Value → H} {W : World} {base : Nat} {v : Value} {d : DataW H} {p : List MemPlace} (hok : Value.okWide Try.prog W .any base 41 v)
    (h : DataW.Trod enc Try.prog W 0 (fun _ => true) true 41 v d p) :
    ∃ b s : Nat, v = .agg #[.int .u64 (b : Int), .int .u64 (s : Int)] ∧ b < 2 ^ 64 ∧ s < 2 ^ 64 := by
  obtain ⟨cs, rfl, _⟩ := okWide_struct Try.underlying41 hok
  obtain ⟨fuel, hf⟩ := h
  obtain ⟨y0, y1, nn, _, hlen, g0, g1⟩ := trod_struct2 Try.underlying41 hf
  obtain ⟨l⟩ := cs
  simp only [Value.cells] at hlen g0 g1
  have hl2 : l.length = 2 := hlen.trans (by kernel_rfl)
  match l, hl2 with
  | [c0, c1], _ =>
    rw [cells_u64] at g0 g1
    obtain ⟨x, e0, _, w0⟩ := DataW.trod_int Try.underlying22 g0
    obtain ⟨y, e1, _, w1⟩ := DataW.trod_int Try.underlying22 g1
    simp at e0 e1
    subst e0 e1
    obtain ⟨b, rfl, hb⟩ := u64_of w0
    obtain ⟨s, rfl, hs⟩ := u64_of w1
    exact ⟨b, s, rfl, hb, hs⟩
end Go.Proofs.Ytibljocjdlgfbab
