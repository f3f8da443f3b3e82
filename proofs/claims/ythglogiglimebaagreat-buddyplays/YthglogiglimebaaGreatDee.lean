import Derived.Test.YthglogiglimebaaGreatKc
import Derived.ProofKit
import Derived.OpenShut
import Derived.Deep.Slices
import Derived.Deep.Strs
/- Deeds that came in. -/
namespace Go.Proofs.YthglogiglimebaaGreat
open Go.ChangeShapes Go.WideShapes Go.ChangeAt Go.RowKit Go.Deep
set_option linter.unusedVariables false

def N64 (z : Int) : Prop := -9223372036854775808 ≤ z ∧ z ≤ 9223372036854775807
def DeedAt (w : World) (bl o j : Nat) : Prop := ∃ (a b c : Int), N64 a ∧ N64 b ∧ N64 c ∧ w.cell? ⟨bl, o + j * 3, none⟩ = some (.int .i64 a) ∧ w.cell? ⟨bl, o + j * 3 + 1, none⟩ = some (.int .i64 b) ∧ w.cell? ⟨bl, o + j * 3 + 2, none⟩ = some (.int .i64 c)
def DeedsIn (w : World) (v : Value) (n : Nat) : Prop :=
  n ≤ 9223372036854775807 ∧ ∃ oa oc, v = .slice oa n oc ∧ (n = 0 ∨ ∃ bl o, oa = some ⟨bl, o, none⟩ ∧ bl < w.heap.size ∧ ∀ j, j < n → DeedAt w bl o j)
theorem cells_deed : Tryz.prog.cellsOf 58 = 3 := by kernel_rfl
theorem cells_u64 : Tryz.prog.cellsOf 22 = 1 := by kernel_rfl
theorem cells_int : Tryz.prog.cellsOf 3 = 1 := by kernel_rfl
theorem at_spot {w : World} {a : Addr} {v : Value} (h : w.cell? a = some v) : ∃ b o, a = ⟨b, o, none⟩ ∧ b < w.heap.size := by
  obtain ⟨b, o, s⟩ := a
  unfold World.cell? at h
  split at h
  · rename_i hh
    have hb := (Array.getElem?_eq_some_iff.1 hh).1
    cases s with
    | none => exact ⟨b, o, rfl, hb⟩
    | some s => simp at h
  · cases h
set_option maxRecDepth 8000 in
theorem deeds_of {H : Type} {enc : TypeId × Value → H} {W : World} {a : Option Addr} {len cap : Nat} {d : DataW H} {p : List MemPlace}
    (h : DataW.Trod enc Tryz.prog W 0 (fun _ => true) true 50 (.slice a len cap) d p) : DeedsIn W (.slice a len cap) len := by
  obtain ⟨fuel, hf⟩ := h
  rcases open_slice Tryz.underlying50 hf with ⟨hcs, _⟩ | ⟨x, l, c, m, n, D, Pl, hcs, _, hl, hm, hmm, _, hx⟩
  · simp [Value.cells] at hcs
    obtain ⟨rfl, rfl, rfl⟩ := hcs
    exact ⟨by omega, none, 0, rfl, Or.inl rfl⟩
  · simp [Value.cells] at hcs
    obtain ⟨rfl, rfl, rfl⟩ := hcs
    simp only [if_true] at hmm
    subst hmm
    have hml : m ≤ 9223372036854775807 := by unfold maxLen at hm; omega
    refine ⟨by omega, some x, m, rfl, ?_⟩
    by_cases h0 : len = 0
    · exact Or.inl h0
    · right
      rw [cells_deed] at hx
      have key : ∀ k, k < len → ∃ (a b c : Int), N64 a ∧ N64 b ∧ N64 c ∧ W.cell? ((x.add (k * 3)).add 0) = some (.int .i64 a) ∧ W.cell? ((x.add (k * 3)).add 1) = some (.int .i64 b) ∧ W.cell? ((x.add (k * 3)).add 2) = some (.int .i64 c) := by
        intro k hk
        obtain ⟨cs, h1, h2⟩ := hx k (by omega)
        obtain ⟨_, hlen, hcell⟩ := World.cells?_some h1
        obtain ⟨xs, nn, _, _, _, hxl, hfld⟩ := DataW.trod_struct Tryz.underlying58 h2
        match cs, hlen, xs, hxl with
        | [c0, c1, c2], _, [y0, y1, y2], _ =>
          have g0 := hfld 0 _ rfl
          have g1 := hfld 1 _ rfl
          have g2 := hfld 2 _ rfl
          obtain ⟨x0, e0, _, w0⟩ := DataW.trod_int Tryz.underlying3 g0
          obtain ⟨x1, e1, _, w1⟩ := DataW.trod_int Tryz.underlying3 g1
          obtain ⟨x2, e2, _, w2⟩ := DataW.trod_int Tryz.underlying3 g2
          simp [cells_int] at e0 e1 e2
          subst e0 e1 e2
          exact ⟨x0, x1, x2, bounds_i64 w0, bounds_i64 w1, bounds_i64 w2, hcell 0 (by simp), hcell 1 (by simp), hcell 2 (by simp)⟩
      obtain ⟨a, b, c, _, _, _, g0, _⟩ := key 0 (by omega)
      have e0 : (x.add (0 * 3)).add 0 = x := by simp [Addr.add]
      rw [e0] at g0
      obtain ⟨bb, o, rfl, hb⟩ := at_spot g0
      refine ⟨bb, o, rfl, hb, fun k hk => ?_⟩
      obtain ⟨a, b, c, h1, h2, h3, g0, g1, g2⟩ := key k hk
      rw [Addr.add_lit, Addr.add_lit] at g0 g1 g2
      exact ⟨a, b, c, h1, h2, h3, g0, g1, g2⟩
set_option maxRecDepth 8000 in
theorem cfg_of {H : Type} {enc : TypeId × Value → H} {W : World} {base : Nat} {v : Value} {d : DataW H} {p : List MemPlace} (hok : Value.okWide Tryz.prog W .any base 24 v)
    (h : DataW.Trod enc Tryz.prog W 0 (fun _ => true) true 24 v d p) :
    ∃ (b : Nat) (lim ord : Int), v = .agg #[.int .u64 (b : Int), .int .i64 lim, .int .i64 ord] ∧ b < 18446744073709551616 ∧ -9223372036854775808 ≤ lim ∧ lim ≤ 9223372036854775807 ∧ -9223372036854775808 ≤ ord ∧ ord ≤ 9223372036854775807 := by
  obtain ⟨cs, rfl, _⟩ := okWide_struct Tryz.underlying24 hok
  obtain ⟨fuel, hf⟩ := h
  obtain ⟨y0, y1, y2, nn, _, hlen, g0, g1, g2⟩ := trod_struct3 Tryz.underlying24 hf
  obtain ⟨l⟩ := cs
  simp only [Value.cells] at hlen g0 g1 g2
  have hl3 : l.length = 3 := hlen.trans (by kernel_rfl)
  match l, hl3 with
  | [c0, c1, c2], _ =>
    rw [cells_u64] at g0
    rw [cells_int] at g1 g2
    obtain ⟨x, e0, _, w0⟩ := DataW.trod_int Tryz.underlying22 g0
    obtain ⟨y, e1, _, w1⟩ := DataW.trod_int Tryz.underlying3 g1
    obtain ⟨z, e2, _, w2⟩ := DataW.trod_int Tryz.underlying3 g2
    simp at e0 e1 e2
    subst e0 e1 e2
    have b0 := bounds_u64 w0
    have b1 := bounds_i64 w1
    have b2 := bounds_i64 w2
    obtain ⟨b, rfl⟩ := Int.eq_ofNat_of_zero_le b0.1
    exact ⟨b, y, z, rfl, by omega, b1.1, b1.2, b2.1, b2.2⟩
end Go.Proofs.YthglogiglimebaaGreat
