import Derived.Test.YthglogiglimebaaGreatDee
/- Steps that came in. -/
namespace Go.Proofs.YthglogiglimebaaGreat
open Go.ChangeShapes Go.WideShapes Go.ChangeAt Go.RowKit Go.Deep
set_option linter.unusedVariables false

def StepAt (w : World) (bl o j : Nat) : Prop := ∃ (a b c d : Int) (p : Nat), N64 a ∧ N64 b ∧ N64 c ∧ N64 d ∧ p < 18446744073709551616 ∧ w.cell? ⟨bl, o + j * 5, none⟩ = some (.int .i64 a) ∧ w.cell? ⟨bl, o + j * 5 + 1, none⟩ = some (.int .i64 b) ∧ w.cell? ⟨bl, o + j * 5 + 2, none⟩ = some (.int .i64 c) ∧ w.cell? ⟨bl, o + j * 5 + 3, none⟩ = some (.int .i64 d) ∧ w.cell? ⟨bl, o + j * 5 + 4, none⟩ = some (.int .u64 (p : Int))
def StepsIn (w : World) (v : Value) (n : Nat) : Prop :=
  n ≤ 9223372036854775807 ∧ ∃ oa oc, v = .slice oa n oc ∧ (n = 0 ∨ ∃ bl o, oa = some ⟨bl, o, none⟩ ∧ bl < w.heap.size ∧ ∀ j, j < n → StepAt w bl o j)
theorem cells_step : Tryz.prog.cellsOf 31 = 5 := by kernel_rfl
set_option maxRecDepth 8000 in
theorem steps_of {H : Type} {enc : TypeId × Value → H} {W : World} {a : Option Addr} {len cap : Nat} {d : DataW H} {p : List MemPlace}
    (h : DataW.Trod enc Tryz.prog W 0 (fun _ => true) true 25 (.slice a len cap) d p) : StepsIn W (.slice a len cap) len := by
  obtain ⟨fuel, hf⟩ := h
  rcases open_slice Tryz.underlying25 hf with ⟨hcs, _⟩ | ⟨x, l, c, m, n, D, Pl, hcs, _, hl, hm, hmm, _, hx⟩
  · simp [Value.cells] at hcs
    obtain ⟨rfl, rfl, rfl⟩ := hcs
    exact ⟨by omega, none, 0, rfl, Or.inl rfl⟩
  · simp [Value.cells] at hcs
    obtain ⟨rfl, rfl, rfl⟩ := hcs
    simp only [if_true] at hmm
    subst hmm
    have hml : m ≤ 9223372036854775807 := by unfold maxLen at hm; omega
    refine ⟨by omega, some x, m, rfl, ?_⟩
    by_cases h0 : len = 0
    · exact Or.inl h0
    · right
      rw [cells_step] at hx
      have key : ∀ k, k < len → ∃ (a b c d : Int) (p : Nat), N64 a ∧ N64 b ∧ N64 c ∧ N64 d ∧ p < 18446744073709551616 ∧ W.cell? ((x.add (k * 5)).add 0) = some (.int .i64 a) ∧ W.cell? ((x.add (k * 5)).add 1) = some (.int .i64 b) ∧ W.cell? ((x.add (k * 5)).add 2) = some (.int .i64 c) ∧ W.cell? ((x.add (k * 5)).add 3) = some (.int .i64 d) ∧ W.cell? ((x.add (k * 5)).add 4) = some (.int .u64 (p : Int)) := by
        intro k hk
        obtain ⟨cs, h1, h2⟩ := hx k (by omega)
        obtain ⟨_, hlen, hcell⟩ := World.cells?_some h1
        obtain ⟨xs, nn, _, _, _, hxl, hfld⟩ := DataW.trod_struct Tryz.underlying31 h2
        match cs, hlen, xs, hxl with
        | [c0, c1, c2, c3, c4], _, [y0, y1, y2, y3, y4], _ =>
          have g0 := hfld 0 _ rfl
          have g1 := hfld 1 _ rfl
          have g2 := hfld 2 _ rfl
          have g3 := hfld 3 _ rfl
          have g4 := hfld 4 _ rfl
          obtain ⟨x0, e0, _, w0⟩ := DataW.trod_int Tryz.underlying3 g0
          obtain ⟨x1, e1, _, w1⟩ := DataW.trod_int Tryz.underlying3 g1
          obtain ⟨x2, e2, _, w2⟩ := DataW.trod_int Tryz.underlying3 g2
          obtain ⟨x3, e3, _, w3⟩ := DataW.trod_int Tryz.underlying3 g3
          obtain ⟨x4, e4, _, w4⟩ := DataW.trod_int Tryz.underlying22 g4
          simp [cells_int, cells_u64] at e0 e1 e2 e3 e4
          subst e0 e1 e2 e3 e4
          have b4 := bounds_u64 w4
          obtain ⟨p, rfl⟩ := Int.eq_ofNat_of_zero_le b4.1
          exact ⟨x0, x1, x2, x3, p, bounds_i64 w0, bounds_i64 w1, bounds_i64 w2, bounds_i64 w3, by omega, hcell 0 (by simp), hcell 1 (by simp), hcell 2 (by simp), hcell 3 (by simp), hcell 4 (by simp)⟩
      obtain ⟨a, b, c, d, p, _, _, _, _, _, g0, _⟩ := key 0 (by omega)
      have e0 : (x.add (0 * 5)).add 0 = x := by simp [Addr.add]
      rw [e0] at g0
      obtain ⟨bb, o, rfl, hb⟩ := at_spot g0
      refine ⟨bb, o, rfl, hb, fun k hk => ?_⟩
      obtain ⟨a, b, c, d, p, h1, h2, h3, h4, h5, g0, g1, g2, g3, g4⟩ := key k hk
      rw [Addr.add_lit, Addr.add_lit] at g0 g1 g2 g3 g4
      exact ⟨a, b, c, d, p, h1, h2, h3, h4, h5, g0, g1, g2, g3, g4⟩
end Go.Proofs.YthglogiglimebaaGreat
