import Derived.Test.YtcgbefmjnhkdgaaXy
import Derived.ProofKit
import Derived.OpenShut
import Derived.Deep.Slices
import Derived.Deep.Strs
set_option maxRecDepth 1000000
set_option maxHeartbeats 80000000
/- croftlaw9: an image that came in. -/
namespace Go.Proofs.Ytcgbefmjnhkdgaa
open Go.ChangeShapes Go.WideShapes Go.ChangeAt Go.RowKit Go.Deep
set_option linter.unusedVariables false
theorem cells_page : Try.prog.cellsOf 39 = 11 := by kernel_rfl
theorem cells_u64 : Try.prog.cellsOf 22 = 1 := by kernel_rfl
theorem cells_u8 : Try.prog.cellsOf 5 = 1 := by kernel_rfl
theorem cells_int : Try.prog.cellsOf 3 = 1 := by kernel_rfl
theorem cells_arr : Try.prog.cellsOf 37 = 4 := by kernel_rfl
theorem cells_wsl : Try.prog.cellsOf 28 = 1 := by kernel_rfl
theorem cells_bsl : Try.prog.cellsOf 25 = 1 := by kernel_rfl
theorem cells_isl : Try.prog.cellsOf 29 = 1 := by kernel_rfl
theorem cells_psl : Try.prog.cellsOf 26 = 1 := by kernel_rfl
theorem cells_wws : Try.prog.cellsOf 27 = 1 := by kernel_rfl
theorem cells_cfg : Try.prog.cellsOf 24 = 3 := by kernel_rfl
theorem cells_img : Try.prog.cellsOf 31 = 9 := by kernel_rfl
theorem at_spot {w : World} {a : Addr} {v : Value} (h : w.cell? a = some v) : ∃ b o, a = ⟨b, o, none⟩ ∧ b < w.heap.size := by
  obtain ⟨b, o, s⟩ := a
  unfold World.cell? at h
  split at h
  · rename_i hh
    have hb := (Array.getElem?_eq_some_iff.1 hh).1
    cases s with
    | none => exact ⟨b, o, rfl, hb⟩
    | some s => simp at h
  · cases h
set_option maxRecDepth 8000 in
theorem pages_of {H : Type} {enc : TypeId × Value → H} {W : World} {fuel : Nat} {v : Value} {x : DataW H × List MemPlace}
    (hf : DataW.trod enc Try.prog W 0 (fun _ => true) true fuel 26 [v] = some x) : ∃ (n : Nat) (pg : Nat → Pg), SlIn W v n fun bl o i => PgIn (pg i) ∧ PgC W bl o i (pg i) := by
  rcases open_slice Try.underlying26 hf with ⟨hcs, _⟩ | ⟨x, len, cap, m, n, D, Pl, hcs, _, hl, hm, hmm, _, hx⟩
  · simp at hcs
    subst hcs
    exact ⟨0, fun _ => zeroP, by omega, none, 0, rfl, Or.inl rfl⟩
  · simp at hcs
    subst hcs
    simp only [if_true] at hmm
    subst hmm
    have hml : m ≤ 9223372036854775807 := by unfold maxLen at hm; omega
    rw [cells_page] at hx
    have key : ∀ k, k < len → ∃ q : Pg, PgIn q ∧ ∀ j, j < 11 → W.cell? ((x.add (k * 11)).add j) = some (q.fld j) := by
      intro k hk
      obtain ⟨cs, h1, h2⟩ := hx k (by omega)
      obtain ⟨_, hlen, hcell⟩ := World.cells?_some h1
      obtain ⟨xs, nn, _, _, _, hxl, hfld⟩ := DataW.trod_struct Try.underlying39 h2
      match cs, hlen, xs, hxl with
      | [c0, c1, c2, c3, c4, c5, c6, c7, c8, c9, c10], _, [y0, y1, y2, y3, y4, y5, y6, y7], _ =>
        have g0 := hfld 0 _ rfl
        have g1 := hfld 1 _ rfl
        have g2 := hfld 2 _ rfl
        have g3 := hfld 3 _ rfl
        have g4 := hfld 4 _ rfl
        have g5 := hfld 5 _ rfl
        have g6 := hfld 6 _ rfl
        have g7 := hfld 7 _ rfl
        obtain ⟨x0, e0, _, w0⟩ := DataW.trod_int Try.underlying3 g0
        obtain ⟨x1, e1, _, w1⟩ := DataW.trod_int Try.underlying3 g1
        obtain ⟨x2, e2, _, w2⟩ := DataW.trod_int Try.underlying3 g2
        obtain ⟨x3, e3, _, w3⟩ := DataW.trod_int Try.underlying3 g3
        obtain ⟨x4, e4, _, w4⟩ := DataW.trod_int Try.underlying3 g4
        obtain ⟨x5, e5, _, w5⟩ := DataW.trod_int Try.underlying3 g5
        obtain ⟨x6, e6, _, w6⟩ := DataW.trod_int Try.underlying3 g6
        obtain ⟨ys, n2, _, _, _, hyl, harr⟩ := DataW.trod_array Try.underlying37 g7
        match ys, hyl with
        | [z0, z1, z2, z3], _ =>
          have a0 := harr 0 (by decide)
          have a1 := harr 1 (by decide)
          have a2 := harr 2 (by decide)
          have a3 := harr 3 (by decide)
          simp [cells_arr, cells_u64] at a0 a1 a2 a3
          obtain ⟨v7, e7, _, w7⟩ := DataW.trod_int Try.underlying22 a0
          obtain ⟨v8, e8, _, w8⟩ := DataW.trod_int Try.underlying22 a1
          obtain ⟨v9, e9, _, w9⟩ := DataW.trod_int Try.underlying22 a2
          obtain ⟨v10, e10, _, w10⟩ := DataW.trod_int Try.underlying22 a3
          simp [cells_int] at e0 e1 e2 e3 e4 e5 e6
          simp at e7 e8 e9 e10
          subst e0 e1 e2 e3 e4 e5 e6 e7 e8 e9 e10
          have b7 := bounds_u64 w7
          have b8 := bounds_u64 w8
          have b9 := bounds_u64 w9
          have b10 := bounds_u64 w10
          obtain ⟨n7, rfl⟩ := Int.eq_ofNat_of_zero_le b7.1
          obtain ⟨n8, rfl⟩ := Int.eq_ofNat_of_zero_le b8.1
          obtain ⟨n9, rfl⟩ := Int.eq_ofNat_of_zero_le b9.1
          obtain ⟨n10, rfl⟩ := Int.eq_ofNat_of_zero_le b10.1
          refine ⟨⟨x0, x1, x2, x3, x4, x5, x6, n7, n8, n9, n10⟩, ⟨bounds_i64 w0, bounds_i64 w1, bounds_i64 w2, bounds_i64 w3, bounds_i64 w4, bounds_i64 w5, bounds_i64 w6, by show n7 < _; omega, by show n8 < _; omega, by show n9 < _; omega, by show n10 < _; omega⟩, fun j hj => ?_⟩
          have := hcell j (by simpa using hj)
          rw [this]
          revert j
          apply lt11 <;> (intros; rfl)
    have hpg : ∃ pg : Nat → Pg, ∀ k, k < len → PgIn (pg k) ∧ ∀ j, j < 11 → W.cell? ((x.add (k * 11)).add j) = some ((pg k).fld j) :=
      ⟨fun k => if h : k < len then (key k h).choose else zeroP, fun k hk => by simp only [hk, dite_true]; exact (key k hk).choose_spec⟩
    obtain ⟨pg, hpg⟩ := hpg
    refine ⟨len, pg, by omega, some x, m, rfl, ?_⟩
    by_cases h0 : len = 0
    · exact Or.inl h0
    · right
      have g0 := (hpg 0 (by omega)).2 0 (by decide)
      have e0 : (x.add (0 * 11)).add 0 = x := by simp [Addr.add]
      rw [e0] at g0
      obtain ⟨bb, o, rfl, hb⟩ := at_spot g0
      refine ⟨bb, o, rfl, hb, fun k hk => ⟨(hpg k hk).1, ?_⟩⟩
      have g := (hpg k hk).2
      have e : ∀ j, (Addr.add (Addr.add ⟨bb, o, none⟩ (k * 11)) j) = ⟨bb, o + k * 11 + j, none⟩ := fun j => by rw [Addr.add_lit, Addr.add_lit]
      exact fun j hj => by rw [← e j]; exact g j hj
/-- A slice of words, read. -/
theorem words_of {H : Type} {enc : TypeId × Value → H} {W : World} {fuel : Nat} {v : Value} {x : DataW H × List MemPlace}
    (h : DataW.trod enc Try.prog W 0 (fun _ => true) true fuel 28 [v] = some x) : ∃ zs, Src W v zs := by
  rcases open_slice1 Try.underlying28 cells_u64 h with ⟨hcs, _⟩ | ⟨a, len, cap, m, n, V, D, Pl, hcs, _, hl, hm, hmm, _, hx⟩
  · simp at hcs
    exact ⟨[], fun i => by simp, none, 0, hcs, Or.inl rfl⟩
  · simp at hcs
    subst hcs
    simp only [if_true] at hmm
    subst hmm
    have key : ∀ k, k < len → ∃ z : Nat, z < 2 ^ 64 ∧ W.cell? (a.add k) = some (.int .u64 (z : Int)) := fun k hk => by
      obtain ⟨h1, h2⟩ := hx k (by omega)
      obtain ⟨v7, e7, _, w7⟩ := DataW.trod_int Try.underlying22 h2
      simp at e7
      have b7 := bounds_u64 w7
      obtain ⟨n7, rfl⟩ := Int.eq_ofNat_of_zero_le b7.1
      exact ⟨n7, by omega, by rw [h1, e7]⟩
    have hz : ∃ zs : List Nat, zs.length = len ∧ ∀ k, k < len → zs.getD k 0 < 2 ^ 64 ∧ W.cell? (a.add k) = some (.int .u64 ((zs.getD k 0 : Nat) : Int)) :=
      ⟨(List.range len).map (fun k => if h : k < len then (key k h).choose else 0), by simp, fun k hk => by
        have : ((List.range len).map (fun k => if h : k < len then (key k h).choose else 0)).getD k 0 = (key k hk).choose := by simp [List.getD, hk]
        rw [this]
        exact (key k hk).choose_spec⟩
    obtain ⟨zs, hzl, hz⟩ := hz
    refine ⟨zs, fun i => ?_, some a, m, by rw [hzl], ?_⟩
    · by_cases e : i < len
      · exact (hz i e).1
      · have : zs.getD i 0 = 0 := by simp only [List.getD]; rw [List.getElem?_eq_none (by omega)]; rfl
        rw [this]; decide
    · by_cases h0 : len = 0
      · exact Or.inl (List.eq_nil_of_length_eq_zero (by omega))
      · right
        refine ⟨a, rfl, ?_, fun j hj => (hz j (by omega)).2⟩
        have := lt_of_cell (hz 0 (by omega)).2
        rwa [addr_add_block] at this
theorem bytes_of {H : Type} {enc : TypeId × Value → H} {W : World} {fuel : Nat} {v : Value} {x : DataW H × List MemPlace}
    (h : DataW.trod enc Try.prog W 0 (fun _ => true) true fuel 25 [v] = some x) : ∃ (n : Nat) (f : Nat → Nat), SlIn W v n (ByC W f) ∧ ∀ a n c, v = .slice a n c → n ≤ c := by
  rcases open_slice1 Try.underlying25 cells_u8 h with ⟨hcs, _⟩ | ⟨a, len, cap, m, n, V, D, Pl, hcs, _, hl, hm, hmm, _, hx⟩
  · simp at hcs
    subst hcs
    exact ⟨0, fun _ => 0, ⟨by omega, none, 0, rfl, Or.inl rfl⟩, fun a n c e => by cases e; exact Nat.le_refl _⟩
  · simp at hcs
    subst hcs
    simp only [if_true] at hmm
    subst hmm
    have hml : m ≤ 9223372036854775807 := by unfold maxLen at hm; omega
    have key : ∀ k, k < len → ∃ z : Nat, z < 256 ∧ W.cell? (a.add k) = some (.int .u8 (z : Int)) := fun k hk => by
      obtain ⟨h1, h2⟩ := hx k (by omega)
      obtain ⟨v7, e7, _, w7⟩ := DataW.trod_int Try.underlying5 h2
      simp at e7
      have b7 := bounds_u8 w7
      obtain ⟨n7, rfl⟩ := Int.eq_ofNat_of_zero_le b7.1
      exact ⟨n7, by omega, by rw [h1, e7]⟩
    have hz : ∃ g : Nat → Nat, ∀ k, k < len → g k < 256 ∧ W.cell? (a.add k) = some (.int .u8 (g k : Int)) :=
      ⟨fun k => if h : k < len then (key k h).choose else 0, fun k hk => by simp only [hk, dite_true]; exact (key k hk).choose_spec⟩
    obtain ⟨g, hz⟩ := hz
    have hs : len = 0 ∨ ∃ bl o, a = ⟨bl, o, none⟩ ∧ bl < W.heap.size ∧ ∀ i, i < len → g i < 256 ∧ W.cell? ⟨bl, o + i, none⟩ = some (.int .u8 (g i : Int)) := by
      by_cases h0 : len = 0
      · exact Or.inl h0
      · right
        have g0 := (hz 0 (by omega)).2
        have e0 : a.add 0 = a := by simp [Addr.add]
        rw [e0] at g0
        obtain ⟨bb, o, rfl, hb⟩ := at_spot g0
        refine ⟨bb, o, rfl, hb, fun k hk => ⟨(hz k hk).1, ?_⟩⟩
        have := (hz k hk).2
        rw [Addr.add_lit] at this
        exact this
    refine ⟨len, g, ⟨by omega, _, _, rfl, ?_⟩, fun a n c e => by cases e; exact hl⟩
    rcases hs with h0 | ⟨bl, o, rfl, hb, hc⟩
    · exact Or.inl h0
    · exact Or.inr ⟨bl, o, rfl, hb, hc⟩
theorem heads_of {H : Type} {enc : TypeId × Value → H} {W : World} {fuel : Nat} {v : Value} {x : DataW H × List MemPlace}
    (h : DataW.trod enc Try.prog W 0 (fun _ => true) true fuel 28 [v] = some x) : ∃ l, SlIn W v l.length (WdC W l) := by
  rcases open_slice1 Try.underlying28 cells_u64 h with ⟨hcs, _⟩ | ⟨a, len, cap, m, n, V, D, Pl, hcs, _, hl, hm, hmm, _, hx⟩
  · simp at hcs
    subst hcs
    exact ⟨[], by simp, none, 0, rfl, Or.inl rfl⟩
  · simp at hcs
    subst hcs
    simp only [if_true] at hmm
    subst hmm
    have hml : m ≤ 9223372036854775807 := by unfold maxLen at hm; omega
    have key : ∀ k, k < len → ∃ z : Nat, z < 18446744073709551616 ∧ W.cell? (a.add k) = some (.int .u64 (z : Int)) := fun k hk => by
      obtain ⟨h1, h2⟩ := hx k (by omega)
      obtain ⟨v7, e7, _, w7⟩ := DataW.trod_int Try.underlying22 h2
      simp at e7
      have b7 := bounds_u64 w7
      obtain ⟨n7, rfl⟩ := Int.eq_ofNat_of_zero_le b7.1
      exact ⟨n7, by omega, by rw [h1, e7]⟩
    have hz : ∃ g : Nat → Nat, ∀ k, k < len → g k < 18446744073709551616 ∧ W.cell? (a.add k) = some (.int .u64 (g k : Int)) :=
      ⟨fun k => if h : k < len then (key k h).choose else 0, fun k hk => by simp only [hk, dite_true]; exact (key k hk).choose_spec⟩
    obtain ⟨g, hz⟩ := hz
    have hs : len = 0 ∨ ∃ bl o, a = ⟨bl, o, none⟩ ∧ bl < W.heap.size ∧ ∀ i, i < len → g i < 18446744073709551616 ∧ W.cell? ⟨bl, o + i, none⟩ = some (.int .u64 (g i : Int)) := by
      by_cases h0 : len = 0
      · exact Or.inl h0
      · right
        have g0 := (hz 0 (by omega)).2
        have e0 : a.add 0 = a := by simp [Addr.add]
        rw [e0] at g0
        obtain ⟨bb, o, rfl, hb⟩ := at_spot g0
        refine ⟨bb, o, rfl, hb, fun k hk => ⟨(hz k hk).1, ?_⟩⟩
        have := (hz k hk).2
        rw [Addr.add_lit] at this
        exact this
    have hg : ∀ i, i < len → ((List.range len).map g).getD i 0 = g i := fun i hi => by simp [List.getD, hi]
    have hn : ((List.range len).map g).length = len := by simp
    refine ⟨(List.range len).map g, by rw [hn]; omega, some a, m, by rw [hn], ?_⟩
    rw [hn]
    rcases hs with h0 | ⟨bl, o, rfl, hb, hc⟩
    · exact Or.inl h0
    · exact Or.inr ⟨bl, o, rfl, hb, fun i hi => by unfold WdC; rw [hg i hi]; exact hc i hi⟩
theorem parts_of {H : Type} {enc : TypeId × Value → H} {W : World} {fuel : Nat} {v : Value} {x : DataW H × List MemPlace}
    (h : DataW.trod enc Try.prog W 0 (fun _ => true) true fuel 29 [v] = some x) : ∃ l, SlIn W v l.length (InC W l) := by
  rcases open_slice1 Try.underlying29 cells_int h with ⟨hcs, _⟩ | ⟨a, len, cap, m, n, V, D, Pl, hcs, _, hl, hm, hmm, _, hx⟩
  · simp at hcs
    subst hcs
    exact ⟨[], by simp, none, 0, rfl, Or.inl rfl⟩
  · simp at hcs
    subst hcs
    simp only [if_true] at hmm
    subst hmm
    have hml : m ≤ 9223372036854775807 := by unfold maxLen at hm; omega
    have key : ∀ k, k < len → ∃ z : Int, N64 z ∧ W.cell? (a.add k) = some (.int .i64 z) := fun k hk => by
      obtain ⟨h1, h2⟩ := hx k (by omega)
      obtain ⟨v7, e7, _, w7⟩ := DataW.trod_int Try.underlying3 h2
      simp at e7
      exact ⟨v7, bounds_i64 w7, by rw [h1, e7]⟩
    have hz : ∃ g : Nat → Int, ∀ k, k < len → N64 (g k) ∧ W.cell? (a.add k) = some (.int .i64 (g k)) :=
      ⟨fun k => if h : k < len then (key k h).choose else 0, fun k hk => by simp only [hk, dite_true]; exact (key k hk).choose_spec⟩
    obtain ⟨g, hz⟩ := hz
    have hs : len = 0 ∨ ∃ bl o, a = ⟨bl, o, none⟩ ∧ bl < W.heap.size ∧ ∀ i, i < len → N64 (g i) ∧ W.cell? ⟨bl, o + i, none⟩ = some (.int .i64 (g i)) := by
      by_cases h0 : len = 0
      · exact Or.inl h0
      · right
        have g0 := (hz 0 (by omega)).2
        have e0 : a.add 0 = a := by simp [Addr.add]
        rw [e0] at g0
        obtain ⟨bb, o, rfl, hb⟩ := at_spot g0
        refine ⟨bb, o, rfl, hb, fun k hk => ⟨(hz k hk).1, ?_⟩⟩
        have := (hz k hk).2
        rw [Addr.add_lit] at this
        exact this
    have hg : ∀ i, i < len → ((List.range len).map g).getD i 0 = g i := fun i hi => by simp [List.getD, hi]
    have hn : ((List.range len).map g).length = len := by simp
    refine ⟨(List.range len).map g, by rw [hn]; omega, some a, m, by rw [hn], ?_⟩
    rw [hn]
    rcases hs with h0 | ⟨bl, o, rfl, hb, hc⟩
    · exact Or.inl h0
    · exact Or.inr ⟨bl, o, rfl, hb, fun i hi => by unfold InC; rw [hg i hi]; exact hc i hi⟩
theorem pairs_of {H : Type} {enc : TypeId × Value → H} {W : World} {fuel : Nat} {v : Value} {x : DataW H × List MemPlace}
    (hf : DataW.trod enc Try.prog W 0 (fun _ => true) true fuel 27 [v] = some x) : ∃ (n : Nat) (zs : Nat → List Nat) (ws : Nat → Value), SlIn W v n fun bl o i => W.cell? ⟨bl, o + i, none⟩ = some (ws i) ∧ Src W (ws i) (zs i) := by
  rcases open_slice1 Try.underlying27 cells_wsl hf with ⟨hcs, _⟩ | ⟨x, len, cap, m, n, V, D, Pl, hcs, _, hl, hm, hmm, _, hx⟩
  · simp at hcs
    subst hcs
    exact ⟨0, fun _ => [], fun _ => .slice none 0 0, by omega, none, 0, rfl, Or.inl rfl⟩
  · simp at hcs
    subst hcs
    simp only [if_true] at hmm
    subst hmm
    have hml : m ≤ 9223372036854775807 := by unfold maxLen at hm; omega
    have key : ∀ k, k < len → ∃ zs, Src W (V k) zs := fun k hk => words_of (hx k (by omega)).2
    refine ⟨len, fun k => if h : k < len then (key k h).choose else [], V, by omega, some x, m, rfl, ?_⟩
    by_cases h0 : len = 0
    · exact Or.inl h0
    · right
      have g0 := (hx 0 (by omega)).1
      have e0 : x.add 0 = x := by simp [Addr.add]
      rw [e0] at g0
      obtain ⟨bb, o, rfl, hb⟩ := at_spot g0
      refine ⟨bb, o, rfl, hb, fun k hk => ⟨?_, ?_⟩⟩
      · have := (hx k (by omega)).1
        rw [Addr.add_lit] at this
        exact this
      · simp only [hk, dite_true]
        exact (key k hk).choose_spec
set_option maxRecDepth 8000 in
theorem image_of {H : Type} {enc : TypeId × Value → H} {W : World} {base : Nat} {v : Value} {d : DataW H} {p : List MemPlace} (hok : Value.okWide Try.prog W .any base 31 v)
    (h : DataW.Trod enc Try.prog W 0 (fun _ => true) true 31 v d p) : ∃ I V, v = imA I V ∧ ImD W I V := by
  obtain ⟨cs, rfl, _⟩ := okWide_struct Try.underlying31 hok
  obtain ⟨fuel, hf⟩ := h
  obtain ⟨xs, nn, _, _, hlen, hxl, hfld⟩ := DataW.trod_struct Try.underlying31 hf
  obtain ⟨l⟩ := cs
  simp only [Value.cells] at hlen hfld
  rw [cells_img] at hlen
  match l, hlen, xs, hxl with
  | [c0, c1, c2, c3, c4, c5, c6, c7, c8], _, [y0, y1, y2, y3, y4, y5, y6], _ =>
    have g0 := hfld 0 _ rfl
    have g1 := hfld 1 _ rfl
    have g2 := hfld 2 _ rfl
    have g3 := hfld 3 _ rfl
    have g4 := hfld 4 _ rfl
    have g5 := hfld 5 _ rfl
    have g6 := hfld 6 _ rfl
    simp [cells_cfg] at g0
    simp [cells_int] at g1
    simp [cells_bsl] at g2
    simp [cells_psl] at g3
    simp [cells_wws] at g4
    simp [cells_wsl] at g5
    simp [cells_isl] at g6
    obtain ⟨xs0, n0, _, _, _, hxl0, hf0⟩ := DataW.trod_struct Try.underlying24 g0
    match xs0, hxl0 with
    | [z0, z1, z2], _ =>
      have k0 := hf0 0 _ rfl
      have k1 := hf0 1 _ rfl
      have k2 := hf0 2 _ rfl
      simp [cells_u64] at k0
      simp [cells_int] at k1 k2
      obtain ⟨x0, e0, _, w0⟩ := DataW.trod_int Try.underlying22 k0
      obtain ⟨x1, e1, _, w1⟩ := DataW.trod_int Try.underlying3 k1
      obtain ⟨x2, e2, _, w2⟩ := DataW.trod_int Try.underlying3 k2
      obtain ⟨x3, e3, _, w3⟩ := DataW.trod_int Try.underlying3 g1
      simp at e0 e1 e2 e3
      subst e0 e1 e2 e3
      have b0 := bounds_u64 w0
      obtain ⟨b, rfl⟩ := Int.eq_ofNat_of_zero_le b0.1
      obtain ⟨nm, mem, hm, hmc⟩ := bytes_of g2
      obtain ⟨np, pg, hp⟩ := pages_of g3
      obtain ⟨no, pr, hr⟩ := pairs_of g4
      obtain ⟨hd, hh⟩ := heads_of g5
      obtain ⟨pt, ht⟩ := parts_of g6
      exact ⟨⟨b, x1, x2, x3, nm, mem, np, pg, no, pr, hd, pt⟩, ⟨c4, c5, c6, c7, c8⟩, rfl, ⟨by show b < _; omega, bounds_i64 w1, bounds_i64 w2, bounds_i64 w3, hm, hmc, hp, hr, hh, ht⟩⟩
end Go.Proofs.Ytcgbefmjnhkdgaa
/- The blocks of a sound image: they rise, apart. -/
namespace Go.Proofs.Ytcgbefmjnhkdgaa
open Go.RowKit
set_option linter.unusedVariables false
/-- What rule 4 says of a page. -/
def Gd9 (I : Img) (g : Nat) : Prop := ((I.pg g).kd = 1 ∨ (I.pg g).kd = 3) ∨ (hdOk (I.pg g) g = true ∧ ∀ i, i < 2 ^ (I.pg g).od.toNat - 1 → rsOk (I.pg g) (I.pg (g + 1 + i)) = true)
theorem rs_kd {p q : Pg} (h : rsOk p q = true) : q.kd = p.kd + 1 := by
  have : q = blankP (p.kd + 1) p.od := of_decide_eq_true h
  rw [this]
  rfl
theorem hd_kd {p : Pg} {a : Nat} (h : hdOk p a = true) : (p.kd = 4 ∧ p.od = 0) ∨ ((p.kd = 0 ∨ p.kd = 2) ∧ a % 2 ^ p.od.toNat = 0) := by
  unfold hdOk at h
  split at h
  · rename_i e
    exact .inl ⟨e, by simpa using h⟩
  · split at h
    · rename_i e
      simp only [Bool.and_eq_true, decide_eq_true_eq] at h
      exact .inr ⟨e, h.1⟩
    · cases h
theorem r4_good {I : Img} : ∀ n a, r4F I n a = none → I.np ≤ a + n → ∀ g, a ≤ g → g < I.np → Gd9 I g
  | 0, a, _, hn, g, h1, h2 => absurd h2 (by omega)
  | n + 1, a, h, hn, g, h1, h2 => by
    unfold r4F at h
    rw [if_neg (by omega)] at h
    by_cases hh : hdOk (I.pg a) a = false
    · rw [if_pos hh] at h; cases h
    rw [if_neg hh] at h
    have hh : hdOk (I.pg a) a = true := by simpa using hh
    cases e : fst1 (2 ^ (I.pg a).od.toNat - 1) (fun i => rsOk (I.pg a) (I.pg (a + 1 + i))) with
    | some i => rw [e] at h; cases h
    | none =>
      rw [e] at h
      have hr := fst1_none e
      have hp : 0 < 2 ^ (I.pg a).od.toNat := Nat.two_pow_pos _
      by_cases g1 : g = a
      · subst g1
        exact .inr ⟨hh, hr⟩
      · by_cases g2 : g < a + 2 ^ (I.pg a).od.toNat
        · left
          obtain ⟨i, rfl⟩ : ∃ i, g = a + 1 + i := ⟨g - (a + 1), by omega⟩
          have := rs_kd (hr i (by omega))
          rcases hd_kd hh with ⟨_, e0⟩ | ⟨e1 | e1, _⟩
          · exfalso
            have e2 : (I.pg a).od.toNat = 0 := by omega
            rw [e2] at g2
            omega
          · left; omega
          · right; omega
        · exact r4_good n _ h (by omega) g (by omega) h2
/-- One behind the other; of one size where they share a page. -/
def BRel (x y : Nat × Nat) : Prop := x.1 + x.2 ≤ y.1 ∧ (x.1 / 4096 = y.1 / 4096 → x.2 = y.2)
structure BOk (I : Img) (k : Nat) (x : Nat × Nat) : Prop where
  s16 : 16 ≤ x.2
  sR : x.2 ≤ 4096 * 2 ^ k
  pw : ∃ e, e ≤ 20 ∧ x.2 = 2 ^ e
  al : x.1 % x.2 = 0
  lo : I.base ≤ x.1
  hi : x.1 - I.base + x.2 ≤ I.nm
theorem ceB_mem {base g sz : Nat} {ws : List Nat} {x : Nat × Nat} : ∀ {j : Nat}, x ∈ ceB base g sz ws j → ∃ i, i < j ∧ x = (base + g * 4096 + i * sz, sz)
  | 0, h => by simp [ceB] at h
  | j + 1, h => by
    unfold ceB at h
    split at h
    · rcases List.mem_append.1 h with h | h
      · obtain ⟨i, h1, h2⟩ := ceB_mem h
        exact ⟨i, by omega, h2⟩
      · exact ⟨j, by omega, by simpa using h⟩
    · obtain ⟨i, h1, h2⟩ := ceB_mem h
      exact ⟨i, by omega, h2⟩
theorem ceB_pw {base g sz : Nat} {ws : List Nat} : ∀ j, (ceB base g sz ws j).Pairwise BRel
  | 0 => by simp [ceB]
  | j + 1 => by
    unfold ceB
    split
    · refine List.pairwise_append.2 ⟨ceB_pw j, by simp, fun x hx y hy => ?_⟩
      obtain ⟨i, h1, rfl⟩ := ceB_mem hx
      obtain rfl : y = (base + g * 4096 + j * sz, sz) := by simpa using hy
      refine ⟨?_, fun _ => rfl⟩
      have : (i + 1) * sz ≤ j * sz := Nat.mul_le_mul_right _ h1
      rw [Nat.add_mul, Nat.one_mul] at this
      show base + g * 4096 + i * sz + sz ≤ base + g * 4096 + j * sz
      omega
    · exact ceB_pw j
theorem cell_at {base g q c i : Nat} (hb : base = 4096 * q) (hc : c ≤ 7) (hi : i < celN9 c) : 16 ≤ 16 * 2 ^ c ∧ 16 * 2 ^ c ≤ 4096 ∧ 16 * 2 ^ c = 2 ^ (4 + c) ∧ (base + g * 4096 + i * (16 * 2 ^ c)) % (16 * 2 ^ c) = 0 ∧ i * (16 * 2 ^ c) + 16 * 2 ^ c ≤ 4096 := by
  subst hb
  unfold celN9 at hi
  have : c = 0 ∨ c = 1 ∨ c = 2 ∨ c = 3 ∨ c = 4 ∨ c = 5 ∨ c = 6 ∨ c = 7 := by omega
  rcases this with rfl | rfl | rfl | rfl | rfl | rfl | rfl | rfl <;> simp at hi ⊢ <;> omega
/-- The blocks that begin at a page. -/
theorem pgB_in {I : Img} {k r : Nat} (hS : Sn9 I k r) (h4 : r4 I = none) {g : Nat} (hg : g < I.np) {x : Nat × Nat} (hx : x ∈ pgB I g) :
    BOk I k x ∧ I.base + g * 4096 ≤ x.1 ∧ x.1 < I.base + (g + 1) * 4096 ∧ ((I.pg g).kd = 2 ∨ (I.pg g).kd = 4) ∧ ((I.pg g).kd = 4 → x.1 + x.2 ≤ I.base + (g + 1) * 4096) ∧ ((I.pg g).kd = 2 → x.1 + x.2 = I.base + g * 4096 + 4096 * 2 ^ (I.pg g).od.toNat) := by
  obtain ⟨kd, o, c, l, e1, e2, e3, e4, e5, e6, -⟩ := hS.pg g hg
  have hgd := r4_good _ _ h4 (by omega) g (by omega) hg
  have hbm := hS.bm
  unfold M.RS at hbm
  have hP : 0 < 2 ^ k := Nat.two_pow_pos k
  obtain ⟨q, hq⟩ : ∃ q, I.base = 4096 * q := by
    have : 4096 ∣ I.base := Nat.dvd_trans ⟨2 ^ k, rfl⟩ (Nat.dvd_of_mod_eq_zero hbm)
    exact this
  have hnm := hS.nm
  unfold pgB at hx
  split at hx
  · rename_i kd2
    have eo : (I.pg g).od.toNat = o := by omega
    rw [eo] at hx ⊢
    obtain rfl : x = (I.base + g * 4096, 4096 * 2 ^ o) := by simpa using hx
    rcases hgd with hgd | ⟨hh, _⟩
    · omega
    rcases hd_kd hh with ⟨h, _⟩ | ⟨_, hal⟩
    · omega
    rw [eo] at hal
    have ok : 2 ^ o ∣ 2 ^ k := Nat.pow_dvd_pow 2 e4
    have hPo : 0 < 2 ^ o := Nat.two_pow_pos o
    have db : 4096 * 2 ^ o ∣ I.base := Nat.dvd_trans (Nat.mul_dvd_mul_left _ ok) (Nat.dvd_of_mod_eq_zero hbm)
    have dg : 2 ^ o ∣ g := Nat.dvd_of_mod_eq_zero hal
    have dn : 2 ^ o ∣ I.np := by rw [hS.np]; exact Nat.dvd_trans ok ⟨r, Nat.mul_comm _ _⟩
    have fit : g + 2 ^ o ≤ I.np := by
      obtain ⟨u, hu⟩ := dg
      obtain ⟨v, hv⟩ := dn
      have huv : u < v := by
        refine Nat.lt_of_mul_lt_mul_left (a := 2 ^ o) ?_
        rw [← hu, ← hv]; exact hg
      have := Nat.mul_le_mul_left (2 ^ o) (Nat.succ_le_of_lt huv)
      rw [Nat.mul_succ] at this
      omega
    have le : 2 ^ o ≤ 2 ^ k := Nat.le_of_dvd hP ok
    refine ⟨⟨by show 16 ≤ 4096 * 2 ^ o; omega, by show 4096 * 2 ^ o ≤ _; omega, ⟨12 + o, by have := hS.k8; omega, by show 4096 * 2 ^ o = _; rw [Nat.pow_add]⟩, ?_, by show I.base ≤ I.base + g * 4096; omega, by show I.base + g * 4096 - I.base + 4096 * 2 ^ o ≤ I.nm; omega⟩, by show _ ≤ I.base + g * 4096; omega, by show I.base + g * 4096 < _; omega, .inl kd2, fun h => by omega, fun _ => rfl⟩
    refine Nat.mod_eq_zero_of_dvd (Nat.dvd_add db ?_)
    rw [Nat.mul_comm g]
    exact Nat.mul_dvd_mul_left _ dg
  · rename_i kd2
    split at hx
    · rename_i kd4
      have ec : (I.pg g).cl.toNat = c := by omega
      rw [ec] at hx
      obtain ⟨i, hi, rfl⟩ := ceB_mem hx
      obtain ⟨f1, f2, f3, f4, f5⟩ := cell_at (g := g) hq e6 hi
      generalize hz : 16 * 2 ^ c = sz at *
      have hk1 : 4096 ≤ 4096 * 2 ^ k := Nat.le_mul_of_pos_right _ hP
      refine ⟨⟨f1, by show sz ≤ _; omega, ⟨4 + c, by omega, f3⟩, f4, by show I.base ≤ I.base + g * 4096 + i * sz; omega, ?_⟩, by show _ ≤ I.base + g * 4096 + i * sz; omega, by show I.base + g * 4096 + i * sz < _; omega, .inr kd4, fun _ => by show I.base + g * 4096 + i * sz + sz ≤ _; omega, fun h => absurd h kd2⟩
      show I.base + g * 4096 + i * sz - I.base + sz ≤ I.nm
      omega
    · simp at hx
theorem pgB_two {I : Img} {k r : Nat} (hS : Sn9 I k r) (h4 : r4 I = none) {g g' : Nat} (hgg : g < g') (hg : g' < I.np) {x y : Nat × Nat} (hx : x ∈ pgB I g) (hy : y ∈ pgB I g') : BRel x y := by
  obtain ⟨_, x1, x2, x3, x4, x5⟩ := pgB_in hS h4 (by omega) hx
  obtain ⟨_, y1, y2, y3, _, _⟩ := pgB_in hS h4 hg hy
  have hbm := hS.bm
  unfold M.RS at hbm
  obtain ⟨q, hq⟩ : ∃ q, I.base = 4096 * q := by
    have : 4096 ∣ I.base := Nat.dvd_trans ⟨2 ^ k, rfl⟩ (Nat.dvd_of_mod_eq_zero hbm)
    exact this
  refine ⟨?_, fun e => by exfalso; omega⟩
  rcases x3 with k2 | k4
  · have := x5 k2
    rcases Nat.lt_or_ge g' (g + 2 ^ (I.pg g).od.toNat) with hlt | hge
    · exfalso
      rcases r4_good _ _ h4 (by omega) g (by omega) (by omega) with h | ⟨hh, hr⟩
      · omega
      · have := rs_kd (hr (g' - (g + 1)) (by omega))
        rw [show g + 1 + (g' - (g + 1)) = g' by omega] at this
        omega
    · omega
  · have := x4 k4
    omega
theorem bkL_mem {I : Img} {x : Nat × Nat} : ∀ {j : Nat}, x ∈ bkL I j → ∃ g, g < j ∧ x ∈ pgB I g
  | 0, h => by simp [bkL] at h
  | j + 1, h => by
    rcases List.mem_append.1 h with h | h
    · obtain ⟨g, h1, h2⟩ := bkL_mem h
      exact ⟨g, by omega, h2⟩
    · exact ⟨j, by omega, h⟩
theorem pgB_pw {I : Img} (g : Nat) : (pgB I g).Pairwise BRel := by
  unfold pgB
  split
  · simp
  · split
    · exact ceB_pw _
    · simp
theorem bkL_pw {I : Img} {k r : Nat} (hS : Sn9 I k r) (h4 : r4 I = none) : ∀ j, j ≤ I.np → (bkL I j).Pairwise BRel
  | 0, _ => by simp [bkL]
  | j + 1, hj => by
    refine List.pairwise_append.2 ⟨bkL_pw hS h4 j (by omega), pgB_pw j, fun x hx y hy => ?_⟩
    obtain ⟨g, h1, h2⟩ := bkL_mem hx
    exact pgB_two hS h4 h1 (by omega) h2 hy
theorem blks_ok {I : Img} {x : Nat × Nat} (hx : x ∈ blks I) : (∃ r, Sn9 I I.ord.toNat r) ∧ BOk I I.ord.toNat x := by
  unfold blks at hx
  split at hx
  · rename_i h
    obtain ⟨r, hS⟩ := sn9_chk h
    obtain ⟨g, h1, h2⟩ := bkL_mem hx
    exact ⟨⟨r, hS⟩, (pgB_in hS (chk_zero h 3 (by decide)) h1 h2).1⟩
  · simp at hx
theorem blks_pw (I : Img) : (blks I).Pairwise BRel := by
  unfold blks
  split
  · rename_i h
    obtain ⟨r, hS⟩ := sn9_chk h
    exact bkL_pw hS (chk_zero h 3 (by decide)) _ (Nat.le_refl _)
  · simp
end Go.Proofs.Ytcgbefmjnhkdgaa
