/- MemPlays: the calls that came in. -/
import Derived.Test.YtanfdpangcgdhaaArg
import Derived.ProofKit
import Derived.OpenShut
import Derived.Deep.Slices
import Derived.Deep.Strs
namespace Go.Proofs.Ytanfdpangcgdhaa
open Go.ChangeShapes Go.WideShapes Go.ChangeAt Go.RowKit Go.Deep
set_option linter.unusedVariables false

/-- A call that came in, at place k of its row. -/
def OpAt (w : World) (bl o k : Nat) : Prop :=
  ∃ (kind : Int) (P Q N V : Nat) (a deny : Bool) (count : Int) (da : Option Addr) (dm dc : Nat) (gg : Nat → Nat), P < 18446744073709551616 ∧ Q < 18446744073709551616 ∧ N < 18446744073709551616 ∧ V < 18446744073709551616 ∧ -9223372036854775808 ≤ count ∧ count ≤ 9223372036854775807 ∧ dm ≤ 9223372036854775807 ∧ Bytes w (.slice da dm dc) dm gg ∧
    w.cell? ⟨bl, o + k * 9 + 0, none⟩ = some (.int .i64 kind) ∧ w.cell? ⟨bl, o + k * 9 + 1, none⟩ = some (.int .u64 (P : Int)) ∧ w.cell? ⟨bl, o + k * 9 + 2, none⟩ = some (.int .u64 (Q : Int)) ∧ w.cell? ⟨bl, o + k * 9 + 3, none⟩ = some (.int .u64 (N : Int)) ∧ w.cell? ⟨bl, o + k * 9 + 4, none⟩ = some (.bool a) ∧
    w.cell? ⟨bl, o + k * 9 + 5, none⟩ = some (.int .u64 (V : Int)) ∧ w.cell? ⟨bl, o + k * 9 + 6, none⟩ = some (.bool deny) ∧ w.cell? ⟨bl, o + k * 9 + 7, none⟩ = some (.int .i64 count) ∧ w.cell? ⟨bl, o + k * 9 + 8, none⟩ = some (.slice da dm dc)
/-- The calls that came in. -/
def Ops (w : World) (v : Value) (m : Nat) : Prop :=
  m ≤ 9223372036854775807 ∧ ∃ oa oc, v = .slice oa m oc ∧ (m = 0 ∨ ∃ bl o, oa = some ⟨bl, o, none⟩ ∧ bl < w.heap.size ∧ ∀ k, k < m → OpAt w bl o k)

theorem cells_op : Try.prog.cellsOf 55 = 9 := by kernel_rfl
theorem cells1_u64 : Try.prog.cellsOf 23 = 1 := by kernel_rfl
theorem cells1_int : Try.prog.cellsOf 3 = 1 := by kernel_rfl
theorem cells1_bool : Try.prog.cellsOf 4 = 1 := by kernel_rfl
theorem cells1_bytes : Try.prog.cellsOf 33 = 1 := by kernel_rfl

theorem cell_spot {w : World} {a : Addr} {v : Value} (h : w.cell? a = some v) : ∃ b o, a = ⟨b, o, none⟩ ∧ b < w.heap.size := by
  obtain ⟨b, o, s⟩ := a
  unfold World.cell? at h
  split at h
  · rename_i hh
    have hb := (Array.getElem?_eq_some_iff.1 hh).1
    cases s with
    | none => exact ⟨b, o, rfl, hb⟩
    | some s => simp at h
  · cases h

theorem ops_of {H : Type} {enc : TypeId × Value → H} {W : World} {a : Option Addr} {len cap : Nat} {d : DataW H} {p : List MemPlace}
    (h : DataW.Trod enc Try.prog W 0 (fun _ => true) true 48 (.slice a len cap) d p) : Ops W (.slice a len cap) len := by
  obtain ⟨fuel, hf⟩ := h
  rcases open_slice Try.underlying48 hf with ⟨hcs, _⟩ | ⟨x, l, c, m, n, D, Pl, hcs, _, hl, hm, hmm, _, hx⟩
  · simp [Value.cells] at hcs
    obtain ⟨rfl, rfl, rfl⟩ := hcs
    exact ⟨by omega, none, 0, rfl, Or.inl rfl⟩
  · simp [Value.cells] at hcs
    obtain ⟨rfl, rfl, rfl⟩ := hcs
    simp only [if_true] at hmm
    subst hmm
    have hml : m ≤ 9223372036854775807 := by unfold maxLen at hm; omega
    refine ⟨by omega, some x, m, rfl, ?_⟩
    by_cases h0 : len = 0
    · exact Or.inl h0
    · right
      rw [cells_op] at hx
      have key : ∀ k, k < len → ∃ (kind : Int) (P Q N V : Nat) (a deny : Bool) (count : Int) (da : Option Addr) (dm dc : Nat) (gg : Nat → Nat), P < 18446744073709551616 ∧ Q < 18446744073709551616 ∧ N < 18446744073709551616 ∧ V < 18446744073709551616 ∧ -9223372036854775808 ≤ count ∧ count ≤ 9223372036854775807 ∧ dm ≤ 9223372036854775807 ∧ Bytes W (.slice da dm dc) dm gg ∧
          W.cell? ((x.add (k * 9)).add 0) = some (.int .i64 kind) ∧ W.cell? ((x.add (k * 9)).add 1) = some (.int .u64 (P : Int)) ∧ W.cell? ((x.add (k * 9)).add 2) = some (.int .u64 (Q : Int)) ∧ W.cell? ((x.add (k * 9)).add 3) = some (.int .u64 (N : Int)) ∧ W.cell? ((x.add (k * 9)).add 4) = some (.bool a) ∧
          W.cell? ((x.add (k * 9)).add 5) = some (.int .u64 (V : Int)) ∧ W.cell? ((x.add (k * 9)).add 6) = some (.bool deny) ∧ W.cell? ((x.add (k * 9)).add 7) = some (.int .i64 count) ∧ W.cell? ((x.add (k * 9)).add 8) = some (.slice da dm dc) := by
        intro k hk
        obtain ⟨cs, h1, h2⟩ := hx k (by omega)
        obtain ⟨_, hlen, hcell⟩ := World.cells?_some h1
        obtain ⟨xs, nn, _, _, _, hxl, hfld⟩ := DataW.trod_struct Try.underlying55 h2
        match cs, hlen, xs, hxl with
        | [c0, c1, c2, c3, c4, c5, c6, c7, c8], _, [y0, y1, y2, y3, y4, y5, y6, y7, y8], _ =>
          have g0 := hfld 0 _ rfl
          have g1 := hfld 1 _ rfl
          have g2 := hfld 2 _ rfl
          have g3 := hfld 3 _ rfl
          have g4 := hfld 4 _ rfl
          have g5 := hfld 5 _ rfl
          have g6 := hfld 6 _ rfl
          have g7 := hfld 7 _ rfl
          have g8 := hfld 8 _ rfl
          obtain ⟨kd, e0, _, _⟩ := DataW.trod_int Try.underlying3 g0
          obtain ⟨x1, e1, _, w1⟩ := DataW.trod_int Try.underlying23 g1
          obtain ⟨x2, e2, _, w2⟩ := DataW.trod_int Try.underlying23 g2
          obtain ⟨x3, e3, _, w3⟩ := DataW.trod_int Try.underlying23 g3
          obtain ⟨x4, e4, _⟩ := DataW.trod_bool Try.underlying4 g4
          obtain ⟨x5, e5, _, w5⟩ := DataW.trod_int Try.underlying23 g5
          obtain ⟨x6, e6, _⟩ := DataW.trod_bool Try.underlying4 g6
          obtain ⟨x7, e7, _, w7⟩ := DataW.trod_int Try.underlying3 g7
          simp [cells1_u64, cells1_int, cells1_bool] at e0 e1 e2 e3 e4 e5 e6 e7
          subst e0 e1 e2 e3 e4 e5 e6 e7
          have b1 := bounds_u64 w1
          have b2 := bounds_u64 w2
          have b3 := bounds_u64 w3
          have b5 := bounds_u64 w5
          have b7 := bounds_i64 w7
          obtain ⟨P, rfl⟩ := Int.eq_ofNat_of_zero_le b1.1
          obtain ⟨Q, rfl⟩ := Int.eq_ofNat_of_zero_le b2.1
          obtain ⟨N, rfl⟩ := Int.eq_ofNat_of_zero_le b3.1
          obtain ⟨V, rfl⟩ := Int.eq_ofNat_of_zero_le b5.1
          have hrow : ∃ da dm dc gg, c8 = .slice da dm dc ∧ dm ≤ maxLen ∧ Bytes W (.slice da dm dc) dm gg := by
            rcases open_ints Try.underlying33 Try.underlying5 (by kernel_rfl) g8 with ⟨hcs, _⟩ | ⟨x, l, c, zs, hcs, _, hl, hm, hz, _, hcell, hwz⟩
            · simp [cells1_bytes] at hcs
              obtain ⟨gg, _, h2, h3⟩ := bytes_row (w := W) (a := none) (len := 0) (cap := 0) (z := []) (Or.inl ⟨rfl, rfl, rfl, rfl⟩)
              exact ⟨none, 0, 0, gg, hcs, h2, h3⟩
            · simp [cells1_bytes] at hcs
              obtain ⟨gg, _, h2, h3⟩ := bytes_row (w := W) (a := some x) (len := l) (cap := c) (z := zs) (Or.inr ⟨x, rfl, hl, hm, by simpa using hz, hcell, hwz⟩)
              exact ⟨some x, l, c, gg, hcs, h2, h3⟩
          obtain ⟨da, dm, dc, gg, rfl, hdm, hbt⟩ := hrow
          unfold maxLen at hdm
          exact ⟨kd, P, Q, N, V, x4, x6, x7, da, dm, dc, gg, by omega, by omega, by omega, by omega, b7.1, b7.2, by omega, hbt, hcell 0 (by simp), hcell 1 (by simp), hcell 2 (by simp), hcell 3 (by simp), hcell 4 (by simp), hcell 5 (by simp), hcell 6 (by simp), hcell 7 (by simp), hcell 8 (by simp)⟩
      obtain ⟨kind, P, Q, N, V, a, deny, count, da, dm, dc, gg, _, _, _, _, _, _, _, _, g0, _⟩ := key 0 (by omega)
      have e0 : (x.add (0 * 9)).add 0 = x := by simp [Addr.add]
      rw [e0] at g0
      obtain ⟨b, o, rfl, hb⟩ := cell_spot g0
      refine ⟨b, o, rfl, hb, fun k hk => ?_⟩
      obtain ⟨kind, P, Q, N, V, a, deny, count, da, dm, dc, gg, h1, h2, h3, h4, h5, h6, h7, h8, g0, g1, g2, g3, g4, g5, g6, g7, g8⟩ := key k hk
      rw [Addr.add_lit, Addr.add_lit] at g0 g1 g2 g3 g4 g5 g6 g7 g8
      exact ⟨kind, P, Q, N, V, a, deny, count, da, dm, dc, gg, h1, h2, h3, h4, h5, h6, h7, h8, g0, g1, g2, g3, g4, g5, g6, g7, g8⟩
end Go.Proofs.Ytanfdpangcgdhaa
