/- BitsPlays: the calls that came in, read. -/
import Derived.Test.YtahdjaocfejjeaaPlayD
import Derived.ProofKit
import Derived.OpenShut
import Derived.Deep.Slices
import Derived.Deep.Strs
namespace Go.Proofs.Ytahdjaocfejjeaa
open Go.ChangeShapes Go.WideShapes Go.ChangeAt Go.RowKit Go.Deep
set_option linter.unusedVariables false

theorem cells_op : Try.prog.cellsOf 59 = 3 := by kernel_rfl
theorem cells_int : Try.prog.cellsOf 3 = 1 := by kernel_rfl
theorem cells_bool : Try.prog.cellsOf 4 = 1 := by kernel_rfl

theorem cell_spot {w : World} {a : Addr} {v : Value} (h : w.cell? a = some v) : ∃ b o, a = ⟨b, o, none⟩ ∧ b < w.heap.size := by
  obtain ⟨b, o, s⟩ := a
  unfold World.cell? at h
  split at h
  · rename_i hh
    have hb := (Array.getElem?_eq_some_iff.1 hh).1
    cases s with
    | none => exact ⟨b, o, rfl, hb⟩
    | some s => simp at h
  · cases h

theorem ops_of {H : Type} {enc : TypeId × Value → H} {W : World} {a : Option Addr} {len cap : Nat} {d : DataW H} {p : List MemPlace}
    (h : DataW.Trod enc Try.prog W 0 (fun _ => true) true 52 (.slice a len cap) d p) : Ops W (.slice a len cap) len := by
  obtain ⟨fuel, hf⟩ := h
  rcases open_slice Try.underlying52 hf with ⟨hcs, _⟩ | ⟨x, l, c, m, n, D, Pl, hcs, _, hl, hm, hmm, _, hx⟩
  · simp [Value.cells] at hcs
    obtain ⟨rfl, rfl, rfl⟩ := hcs
    exact ⟨by unfold maxLen; omega, none, 0, rfl, Or.inl rfl⟩
  · simp [Value.cells] at hcs
    obtain ⟨rfl, rfl, rfl⟩ := hcs
    simp only [if_true] at hmm
    subst hmm
    refine ⟨by omega, some x, m, rfl, ?_⟩
    by_cases h0 : len = 0
    · exact Or.inl h0
    · right
      rw [cells_op] at hx
      have key : ∀ k, k < len → ∃ kd i v, -9223372036854775808 ≤ i ∧ i ≤ 9223372036854775807 ∧ W.cell? ((x.add (k * 3)).add 0) = some (.int .i64 kd) ∧ W.cell? ((x.add (k * 3)).add 1) = some (.int .i64 i) ∧ W.cell? ((x.add (k * 3)).add 2) = some (.bool v) := by
        intro k hk
        obtain ⟨cs, h1, h2⟩ := hx k (by omega)
        obtain ⟨_, hlen, hcell⟩ := World.cells?_some h1
        obtain ⟨y0, y1, y2, nn, _, _, g0, g1, g2⟩ := trod_struct3 Try.underlying59 h2
        match cs, hlen with
        | [c0, c1, c2], _ =>
          rw [cells_int] at g0 g1
          rw [cells_bool] at g2
          obtain ⟨kd, e0, _, _⟩ := DataW.trod_int Try.underlying3 g0
          obtain ⟨i, e1, _, wi⟩ := DataW.trod_int Try.underlying3 g1
          obtain ⟨v, e2, _⟩ := DataW.trod_bool Try.underlying4 g2
          simp at e0 e1 e2
          subst e0 e1 e2
          have hb := bounds_i64 wi
          exact ⟨kd, i, v, hb.1, hb.2, hcell 0 (by omega), hcell 1 (by omega), hcell 2 (by omega)⟩
      obtain ⟨kd, i, v, _, _, h1, _, _⟩ := key 0 (by omega)
      have e0 : (x.add (0 * 3)).add 0 = x := by simp [Addr.add]
      rw [e0] at h1
      obtain ⟨b, o, rfl, hb⟩ := cell_spot h1
      refine ⟨b, o, rfl, hb, fun k hk => ?_⟩
      obtain ⟨kd, i, v, g1, g2, g3, g4, g5⟩ := key k hk
      rw [Addr.add_lit, Addr.add_lit] at g3 g4 g5
      exact ⟨kd, i, v, g1, g2, g3, g4, g5⟩
end Go.Proofs.Ytahdjaocfejjeaa
