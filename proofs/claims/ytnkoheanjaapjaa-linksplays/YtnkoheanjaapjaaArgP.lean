/- LinksPlays: the steps that came in. -/
import Derived.Test.YtnkoheanjaapjaaPlyB
import Derived.ProofKit
import Derived.OpenShut
import Derived.Deep.Slices
import Derived.Deep.Strs
namespace Go.Proofs.Ytnkoheanjaapjaa
open Go.ChangeShapes Go.WideShapes Go.ChangeAt Go.RowKit Go.Deep
set_option linter.unusedVariables false

/-- A number of Go's int. -/
def I64 (z : Int) : Prop := -9223372036854775808 ≤ z ∧ z ≤ 9223372036854775807

def StepAt (w : World) (bl o k : Nat) : Prop := ∃ (op li : Int) (P V : Nat), I64 op ∧ I64 li ∧ P < 18446744073709551616 ∧ V < 18446744073709551616 ∧ w.cell? ⟨bl, o + k * 4 + 0, none⟩ = some (.int .i64 op) ∧ w.cell? ⟨bl, o + k * 4 + 1, none⟩ = some (.int .i64 li) ∧ w.cell? ⟨bl, o + k * 4 + 2, none⟩ = some (.int .u64 (P : Int)) ∧ w.cell? ⟨bl, o + k * 4 + 3, none⟩ = some (.int .u64 (V : Int))
def Steps (w : World) (v : Value) (m : Nat) : Prop :=
  m ≤ 9223372036854775807 ∧ ∃ oa oc, v = .slice oa m oc ∧ (m = 0 ∨ ∃ bl o, oa = some ⟨bl, o, none⟩ ∧ bl < w.heap.size ∧ ∀ k, k < m → StepAt w bl o k)
theorem cells_step : Try.prog.cellsOf 55 = 4 := by kernel_rfl
theorem cells1_u64 : Try.prog.cellsOf 27 = 1 := by kernel_rfl
theorem cells1_int : Try.prog.cellsOf 3 = 1 := by kernel_rfl

theorem cell_spot {w : World} {a : Addr} {v : Value} (h : w.cell? a = some v) : ∃ b o, a = ⟨b, o, none⟩ ∧ b < w.heap.size := by
  obtain ⟨b, o, s⟩ := a
  unfold World.cell? at h
  split at h
  · rename_i hh
    have hb := (Array.getElem?_eq_some_iff.1 hh).1
    cases s with
    | none => exact ⟨b, o, rfl, hb⟩
    | some s => simp at h
  · cases h

set_option maxRecDepth 8000 in
theorem steps_of {H : Type} {enc : TypeId × Value → H} {W : World} {a : Option Addr} {len cap : Nat} {d : DataW H} {p : List MemPlace}
    (h : DataW.Trod enc Try.prog W 0 (fun _ => true) true 37 (.slice a len cap) d p) : Steps W (.slice a len cap) len := by
  obtain ⟨fuel, hf⟩ := h
  rcases open_slice Try.underlying37 hf with ⟨hcs, _⟩ | ⟨x, l, c, m, n, D, Pl, hcs, _, hl, hm, hmm, _, hx⟩
  · simp [Value.cells] at hcs
    obtain ⟨rfl, rfl, rfl⟩ := hcs
    exact ⟨by omega, none, 0, rfl, Or.inl rfl⟩
  · simp [Value.cells] at hcs
    obtain ⟨rfl, rfl, rfl⟩ := hcs
    simp only [if_true] at hmm
    subst hmm
    have hml : m ≤ 9223372036854775807 := by unfold maxLen at hm; omega
    refine ⟨by omega, some x, m, rfl, ?_⟩
    by_cases h0 : len = 0
    · exact Or.inl h0
    · right
      rw [cells_step] at hx
      have key : ∀ k, k < len → ∃ (op li : Int) (P V : Nat), I64 op ∧ I64 li ∧ P < 18446744073709551616 ∧ V < 18446744073709551616 ∧ W.cell? ((x.add (k * 4)).add 0) = some (.int .i64 op) ∧ W.cell? ((x.add (k * 4)).add 1) = some (.int .i64 li) ∧ W.cell? ((x.add (k * 4)).add 2) = some (.int .u64 (P : Int)) ∧ W.cell? ((x.add (k * 4)).add 3) = some (.int .u64 (V : Int)) := by
        intro k hk
        obtain ⟨cs, h1, h2⟩ := hx k (by omega)
        obtain ⟨_, hlen, hcell⟩ := World.cells?_some h1
        obtain ⟨xs, nn, _, _, _, hxl, hfld⟩ := DataW.trod_struct Try.underlying55 h2
        match cs, hlen, xs, hxl with
        | [c0, c1, c2, c3], _, [y0, y1, y2, y3], _ =>
          have g0 := hfld 0 _ rfl
          have g1 := hfld 1 _ rfl
          have g2 := hfld 2 _ rfl
          have g3 := hfld 3 _ rfl
          obtain ⟨x0, e0, _, w0⟩ := DataW.trod_int Try.underlying3 g0
          obtain ⟨x1, e1, _, w1⟩ := DataW.trod_int Try.underlying3 g1
          obtain ⟨x2, e2, _, w2⟩ := DataW.trod_int Try.underlying27 g2
          obtain ⟨x3, e3, _, w3⟩ := DataW.trod_int Try.underlying27 g3
          simp [cells1_int, cells1_u64] at e0 e1 e2 e3
          subst e0 e1 e2 e3
          have b2 := bounds_u64 w2
          have b3 := bounds_u64 w3
          obtain ⟨P, rfl⟩ := Int.eq_ofNat_of_zero_le b2.1
          obtain ⟨V, rfl⟩ := Int.eq_ofNat_of_zero_le b3.1
          exact ⟨x0, x1, P, V, bounds_i64 w0, bounds_i64 w1, by omega, by omega, hcell 0 (by simp), hcell 1 (by simp), hcell 2 (by simp), hcell 3 (by simp)⟩
      obtain ⟨op, ce, P, V, _, _, _, _, g0, _⟩ := key 0 (by omega)
      have e0 : (x.add (0 * 4)).add 0 = x := by simp [Addr.add]
      rw [e0] at g0
      obtain ⟨b, o, rfl, hb⟩ := cell_spot g0
      refine ⟨b, o, rfl, hb, fun k hk => ?_⟩
      obtain ⟨op, li, P, V, h1, h2, h3, h4, g0, g1, g2, g3⟩ := key k hk
      rw [Addr.add_lit, Addr.add_lit] at g0 g1 g2 g3
      exact ⟨op, li, P, V, h1, h2, h3, h4, g0, g1, g2, g3⟩

end Go.Proofs.Ytnkoheanjaapjaa
