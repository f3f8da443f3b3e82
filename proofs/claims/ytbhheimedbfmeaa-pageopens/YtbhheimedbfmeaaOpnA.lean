/- PageOpens: data that came in. -/
import Derived.Test.YtbhheimedbfmeaaOps
namespace Go.Proofs.Ytbhheimedbfmeaa
open Go.ChangeShapes Go.WideShapes Go.ChangeAt Go.RowKit Go.Deep
set_option linter.unusedVariables false

/-- Page i of a slice of pages at ⟨bl, o⟩. -/
def PgC (w : World) (bl o i : Nat) (p : Pg) : Prop := w.cell? ⟨bl, o + i * 11, none⟩ = some (.int .i64 p.kd) ∧ w.cell? ⟨bl, o + i * 11 + 1, none⟩ = some (.int .i64 p.od) ∧ w.cell? ⟨bl, o + i * 11 + 2, none⟩ = some (.int .i64 p.cl) ∧ w.cell? ⟨bl, o + i * 11 + 3, none⟩ = some (.int .i64 p.lv) ∧ w.cell? ⟨bl, o + i * 11 + 4, none⟩ = some (.int .i64 p.nx) ∧ w.cell? ⟨bl, o + i * 11 + 5, none⟩ = some (.int .i64 p.pv) ∧ w.cell? ⟨bl, o + i * 11 + 6, none⟩ = some (.int .i64 p.fs) ∧ w.cell? ⟨bl, o + i * 11 + 7, none⟩ = some (.int .u64 (p.b0 : Int)) ∧ w.cell? ⟨bl, o + i * 11 + 8, none⟩ = some (.int .u64 (p.b1 : Int)) ∧ w.cell? ⟨bl, o + i * 11 + 9, none⟩ = some (.int .u64 (p.b2 : Int)) ∧ w.cell? ⟨bl, o + i * 11 + 10, none⟩ = some (.int .u64 (p.b3 : Int))
/-- What a page that came in may hold. -/
structure PgIn (p : Pg) : Prop where
  kd : N64 p.kd
  od : N64 p.od
  cl : N64 p.cl
  lv : N64 p.lv
  nx : N64 p.nx
  pv : N64 p.pv
  fs : N64 p.fs
  b0 : p.b0 < 18446744073709551616
  b1 : p.b1 < 18446744073709551616
  b2 : p.b2 < 18446744073709551616
  b3 : p.b3 < 18446744073709551616
/-- A slice of pages that came in. -/
def PagesIn (w : World) (v : Value) (n : Nat) (pg : Nat → Pg) : Prop :=
  n ≤ 9223372036854775807 ∧ ∃ oa oc, v = .slice oa n oc ∧ (n = 0 ∨ ∃ bl o, oa = some ⟨bl, o, none⟩ ∧ bl < w.heap.size ∧ ∀ i, i < n → PgIn (pg i) ∧ PgC w bl o i (pg i))
/-- A slice of slices of words that came in. -/
def PairsIn (w : World) (v : Value) (o : Nat) (ws : Nat → Value) (zs : Nat → List Nat) : Prop :=
  o ≤ 9223372036854775807 ∧ ∃ oa oc, v = .slice oa o oc ∧ (o = 0 ∨ ∃ bl f, oa = some ⟨bl, f, none⟩ ∧ bl < w.heap.size ∧ ∀ k, k < o → w.cell? ⟨bl, f + k, none⟩ = some (ws k) ∧ Src w (ws k) (zs k))
theorem PgC.kept {w w' : World} {bl o i : Nat} {p : Pg} (h : PgC w bl o i p) (k : Kept none' w w') : PgC w' bl o i p := by
  obtain ⟨d0, d1, d2, d3, d4, d5, d6, d7, d8, d9, d10⟩ := h
  exact ⟨k.cell (fun x => x) d0, k.cell (fun x => x) d1, k.cell (fun x => x) d2, k.cell (fun x => x) d3, k.cell (fun x => x) d4, k.cell (fun x => x) d5, k.cell (fun x => x) d6, k.cell (fun x => x) d7, k.cell (fun x => x) d8, k.cell (fun x => x) d9, k.cell (fun x => x) d10⟩
theorem cells_page : Try.prog.cellsOf 30 = 11 := by kernel_rfl
theorem cells_u64 : Try.prog.cellsOf 27 = 1 := by kernel_rfl
theorem cells_arr : Try.prog.cellsOf 28 = 4 := by kernel_rfl
set_option maxRecDepth 8000 in
theorem pages_of {H : Type} {enc : TypeId × Value → H} {W : World} {a : Option Addr} {len cap : Nat} {d : DataW H} {p : List MemPlace}
    (h : DataW.Trod enc Try.prog W 0 (fun _ => true) true 39 (.slice a len cap) d p) : ∃ pg, PagesIn W (.slice a len cap) len pg := by
  obtain ⟨fuel, hf⟩ := h
  rcases open_slice Try.underlying39 hf with ⟨hcs, _⟩ | ⟨x, l, c, m, n, D, Pl, hcs, _, hl, hm, hmm, _, hx⟩
  · simp [Value.cells] at hcs
    obtain ⟨rfl, rfl, rfl⟩ := hcs
    exact ⟨fun _ => zeroP, by omega, none, 0, rfl, Or.inl rfl⟩
  · simp [Value.cells] at hcs
    obtain ⟨rfl, rfl, rfl⟩ := hcs
    simp only [if_true] at hmm
    subst hmm
    have hml : m ≤ 9223372036854775807 := by unfold maxLen at hm; omega
    rw [cells_page] at hx
    have key : ∀ k, k < len → ∃ q : Pg, PgIn q ∧ ∀ j, j < 11 → W.cell? ((x.add (k * 11)).add j) = some (q.fld j) := by
      intro k hk
      obtain ⟨cs, h1, h2⟩ := hx k (by omega)
      obtain ⟨_, hlen, hcell⟩ := World.cells?_some h1
      obtain ⟨xs, nn, _, _, _, hxl, hfld⟩ := DataW.trod_struct Try.underlying30 h2
      match cs, hlen, xs, hxl with
      | [c0, c1, c2, c3, c4, c5, c6, c7, c8, c9, c10], _, [y0, y1, y2, y3, y4, y5, y6, y7], _ =>
        have g0 := hfld 0 _ rfl
        have g1 := hfld 1 _ rfl
        have g2 := hfld 2 _ rfl
        have g3 := hfld 3 _ rfl
        have g4 := hfld 4 _ rfl
        have g5 := hfld 5 _ rfl
        have g6 := hfld 6 _ rfl
        have g7 := hfld 7 _ rfl
        obtain ⟨x0, e0, _, w0⟩ := DataW.trod_int Try.underlying3 g0
        obtain ⟨x1, e1, _, w1⟩ := DataW.trod_int Try.underlying3 g1
        obtain ⟨x2, e2, _, w2⟩ := DataW.trod_int Try.underlying3 g2
        obtain ⟨x3, e3, _, w3⟩ := DataW.trod_int Try.underlying3 g3
        obtain ⟨x4, e4, _, w4⟩ := DataW.trod_int Try.underlying3 g4
        obtain ⟨x5, e5, _, w5⟩ := DataW.trod_int Try.underlying3 g5
        obtain ⟨x6, e6, _, w6⟩ := DataW.trod_int Try.underlying3 g6
        obtain ⟨ys, n2, _, _, _, hyl, harr⟩ := DataW.trod_array Try.underlying28 g7
        match ys, hyl with
        | [z0, z1, z2, z3], _ =>
          have a0 := harr 0 (by decide)
          have a1 := harr 1 (by decide)
          have a2 := harr 2 (by decide)
          have a3 := harr 3 (by decide)
          simp [cells_arr, cells_u64] at a0 a1 a2 a3
          obtain ⟨v7, e7, _, w7⟩ := DataW.trod_int Try.underlying27 a0
          obtain ⟨v8, e8, _, w8⟩ := DataW.trod_int Try.underlying27 a1
          obtain ⟨v9, e9, _, w9⟩ := DataW.trod_int Try.underlying27 a2
          obtain ⟨v10, e10, _, w10⟩ := DataW.trod_int Try.underlying27 a3
          simp [cells_int] at e0 e1 e2 e3 e4 e5 e6
          simp at e7 e8 e9 e10
          subst e0 e1 e2 e3 e4 e5 e6 e7 e8 e9 e10
          have b7 := bounds_u64 w7
          have b8 := bounds_u64 w8
          have b9 := bounds_u64 w9
          have b10 := bounds_u64 w10
          obtain ⟨n7, rfl⟩ := Int.eq_ofNat_of_zero_le b7.1
          obtain ⟨n8, rfl⟩ := Int.eq_ofNat_of_zero_le b8.1
          obtain ⟨n9, rfl⟩ := Int.eq_ofNat_of_zero_le b9.1
          obtain ⟨n10, rfl⟩ := Int.eq_ofNat_of_zero_le b10.1
          refine ⟨⟨x0, x1, x2, x3, x4, x5, x6, n7, n8, n9, n10⟩, ⟨bounds_i64 w0, bounds_i64 w1, bounds_i64 w2, bounds_i64 w3, bounds_i64 w4, bounds_i64 w5, bounds_i64 w6, by show n7 < _; omega, by show n8 < _; omega, by show n9 < _; omega, by show n10 < _; omega⟩, fun j hj => ?_⟩
          have := hcell j (by simpa using hj)
          rw [this]
          revert j
          apply lt11 <;> (intros; rfl)
    have hpg : ∃ pg : Nat → Pg, ∀ k, k < len → PgIn (pg k) ∧ ∀ j, j < 11 → W.cell? ((x.add (k * 11)).add j) = some ((pg k).fld j) :=
      ⟨fun k => if h : k < len then (key k h).choose else zeroP, fun k hk => by simp only [hk, dite_true]; exact (key k hk).choose_spec⟩
    obtain ⟨pg, hpg⟩ := hpg
    refine ⟨pg, by omega, some x, m, rfl, ?_⟩
    by_cases h0 : len = 0
    · exact Or.inl h0
    · right
      have g0 := (hpg 0 (by omega)).2 0 (by decide)
      have e0 : (x.add (0 * 11)).add 0 = x := by simp [Addr.add]
      rw [e0] at g0
      obtain ⟨bb, o, rfl, hb⟩ := at_spot g0
      refine ⟨bb, o, rfl, hb, fun k hk => ⟨(hpg k hk).1, ?_⟩⟩
      have g := (hpg k hk).2
      have e : ∀ j, (Addr.add (Addr.add ⟨bb, o, none⟩ (k * 11)) j) = ⟨bb, o + k * 11 + j, none⟩ := fun j => by rw [Addr.add_lit, Addr.add_lit]
      have g' : ∀ j, j < 11 → W.cell? ⟨bb, o + k * 11 + j, none⟩ = some ((pg k).fld j) := fun j hj => by rw [← e j]; exact g j hj
      exact ⟨g' 0 (by decide), g' 1 (by decide), g' 2 (by decide), g' 3 (by decide), g' 4 (by decide), g' 5 (by decide), g' 6 (by decide), g' 7 (by decide), g' 8 (by decide), g' 9 (by decide), g' 10 (by decide)⟩
theorem cells_wsl : Try.prog.cellsOf 43 = 1 := by kernel_rfl
/-- A slice of words, read. -/
theorem words_of {H : Type} {enc : TypeId × Value → H} {W : World} {fuel : Nat} {v : Value} {x : DataW H × List MemPlace}
    (h : DataW.trod enc Try.prog W 0 (fun _ => true) true fuel 43 [v] = some x) : ∃ zs, Src W v zs := by
  rcases open_slice1 Try.underlying43 cells_u64 h with ⟨hcs, _⟩ | ⟨a, len, cap, m, n, V, D, Pl, hcs, _, hl, hm, hmm, _, hx⟩
  · simp at hcs
    exact ⟨[], fun i => by simp, none, 0, hcs, Or.inl rfl⟩
  · simp at hcs
    subst hcs
    simp only [if_true] at hmm
    subst hmm
    have key : ∀ k, k < len → ∃ z : Nat, z < 2 ^ 64 ∧ W.cell? (a.add k) = some (.int .u64 (z : Int)) := fun k hk => by
      obtain ⟨h1, h2⟩ := hx k (by omega)
      obtain ⟨v7, e7, _, w7⟩ := DataW.trod_int Try.underlying27 h2
      simp at e7
      have b7 := bounds_u64 w7
      obtain ⟨n7, rfl⟩ := Int.eq_ofNat_of_zero_le b7.1
      exact ⟨n7, by omega, by rw [h1, e7]⟩
    have hz : ∃ zs : List Nat, zs.length = len ∧ ∀ k, k < len → zs.getD k 0 < 2 ^ 64 ∧ W.cell? (a.add k) = some (.int .u64 ((zs.getD k 0 : Nat) : Int)) :=
      ⟨(List.range len).map (fun k => if h : k < len then (key k h).choose else 0), by simp, fun k hk => by
        have : ((List.range len).map (fun k => if h : k < len then (key k h).choose else 0)).getD k 0 = (key k hk).choose := by simp [List.getD, hk]
        rw [this]
        exact (key k hk).choose_spec⟩
    obtain ⟨zs, hzl, hz⟩ := hz
    refine ⟨zs, fun i => ?_, some a, m, by rw [hzl], ?_⟩
    · by_cases e : i < len
      · exact (hz i e).1
      · have : zs.getD i 0 = 0 := by simp only [List.getD]; rw [List.getElem?_eq_none (by omega)]; rfl
        rw [this]; decide
    · by_cases h0 : len = 0
      · exact Or.inl (List.eq_nil_of_length_eq_zero (by omega))
      · right
        refine ⟨a, rfl, ?_, fun j hj => (hz j (by omega)).2⟩
        have := lt_of_cell (hz 0 (by omega)).2
        rwa [addr_add_block] at this
theorem pairs_of {H : Type} {enc : TypeId × Value → H} {W : World} {a : Option Addr} {len cap : Nat} {d : DataW H} {p : List MemPlace}
    (h : DataW.Trod enc Try.prog W 0 (fun _ => true) true 40 (.slice a len cap) d p) : ∃ ws zs, PairsIn W (.slice a len cap) len ws zs := by
  obtain ⟨fuel, hf⟩ := h
  rcases open_slice1 Try.underlying40 cells_wsl hf with ⟨hcs, _⟩ | ⟨x, l, c, m, n, V, D, Pl, hcs, _, hl, hm, hmm, _, hx⟩
  · simp [Value.cells] at hcs
    obtain ⟨rfl, rfl, rfl⟩ := hcs
    exact ⟨fun _ => .slice none 0 0, fun _ => [], by omega, none, 0, rfl, Or.inl rfl⟩
  · simp [Value.cells] at hcs
    obtain ⟨rfl, rfl, rfl⟩ := hcs
    simp only [if_true] at hmm
    subst hmm
    have hml : m ≤ 9223372036854775807 := by unfold maxLen at hm; omega
    have key : ∀ k, k < len → ∃ zs, Src W (V k) zs := fun k hk => words_of (hx k (by omega)).2
    refine ⟨V, fun k => if h : k < len then (key k h).choose else [], by omega, some x, m, rfl, ?_⟩
    by_cases h0 : len = 0
    · exact Or.inl h0
    · right
      have g0 := (hx 0 (by omega)).1
      have e0 : x.add 0 = x := by simp [Addr.add]
      rw [e0] at g0
      obtain ⟨bb, o, rfl, hb⟩ := at_spot g0
      refine ⟨bb, o, rfl, hb, fun k hk => ⟨?_, ?_⟩⟩
      · have := (hx k (by omega)).1
        rw [Addr.add_lit] at this
        exact this
      · simp only [hk, dite_true]
        exact (key k hk).choose_spec
end Go.Proofs.Ytbhheimedbfmeaa
