import Derived.Test.YthjokkihlodapaaGreatXo
import Derived.ProofKit
import Derived.OpenShut
import Derived.Deep.Slices
import Derived.Deep.Strs
import Derived.Test.YthjokkihlodapaaGreatXx
set_option maxRecDepth 1000000
set_option maxHeartbeats 80000000
/- croftlaw9: an image that came in. -/
namespace Go.Proofs.YthjokkihlodapaaGreat
open Go.ChangeShapes Go.WideShapes Go.ChangeAt Go.RowKit Go.Deep
set_option linter.unusedVariables false
theorem cells_page : Tryz.prog.cellsOf 52 = 11 := by kernel_rfl
theorem cells_u64 : Tryz.prog.cellsOf 22 = 1 := by kernel_rfl
theorem cells_u8 : Tryz.prog.cellsOf 5 = 1 := by kernel_rfl
theorem cells_int : Tryz.prog.cellsOf 3 = 1 := by kernel_rfl
theorem cells_arr : Tryz.prog.cellsOf 50 = 4 := by kernel_rfl
theorem cells_wsl : Tryz.prog.cellsOf 28 = 1 := by kernel_rfl
theorem cells_bsl : Tryz.prog.cellsOf 25 = 1 := by kernel_rfl
theorem cells_isl : Tryz.prog.cellsOf 29 = 1 := by kernel_rfl
theorem cells_psl : Tryz.prog.cellsOf 26 = 1 := by kernel_rfl
theorem cells_wws : Tryz.prog.cellsOf 27 = 1 := by kernel_rfl
theorem cells_cfg : Tryz.prog.cellsOf 24 = 3 := by kernel_rfl
theorem cells_img : Tryz.prog.cellsOf 31 = 9 := by kernel_rfl
theorem at_spot {w : World} {a : Addr} {v : Value} (h : w.cell? a = some v) : ∃ b o, a = ⟨b, o, none⟩ ∧ b < w.heap.size := by
  obtain ⟨b, o, s⟩ := a
  unfold World.cell? at h
  split at h
  · rename_i hh
    have hb := (Array.getElem?_eq_some_iff.1 hh).1
    cases s with
    | none => exact ⟨b, o, rfl, hb⟩
    | some s => simp at h
  · cases h
set_option maxRecDepth 8000 in
theorem pages_of {H : Type} {enc : TypeId × Value → H} {W : World} {fuel : Nat} {v : Value} {x : DataW H × List MemPlace}
    (hf : DataW.trod enc Tryz.prog W 0 (fun _ => true) true fuel 26 [v] = some x) : ∃ (n : Nat) (pg : Nat → Pg), SlIn W v n fun bl o i => PgIn (pg i) ∧ PgC W bl o i (pg i) := by
  rcases open_slice Tryz.underlying26 hf with ⟨hcs, _⟩ | ⟨x, len, cap, m, n, D, Pl, hcs, _, hl, hm, hmm, _, hx⟩
  · simp at hcs
    subst hcs
    exact ⟨0, fun _ => zeroP, by omega, none, 0, rfl, Or.inl rfl⟩
  · simp at hcs
    subst hcs
    simp only [if_true] at hmm
    subst hmm
    have hml : m ≤ 9223372036854775807 := by unfold maxLen at hm; omega
    rw [cells_page] at hx
    have key : ∀ k, k < len → ∃ q : Pg, PgIn q ∧ ∀ j, j < 11 → W.cell? ((x.add (k * 11)).add j) = some (q.fld j) := by
      intro k hk
      obtain ⟨cs, h1, h2⟩ := hx k (by omega)
      obtain ⟨_, hlen, hcell⟩ := World.cells?_some h1
      obtain ⟨xs, nn, _, _, _, hxl, hfld⟩ := DataW.trod_struct Tryz.underlying52 h2
      match cs, hlen, xs, hxl with
      | [c0, c1, c2, c3, c4, c5, c6, c7, c8, c9, c10], _, [y0, y1, y2, y3, y4, y5, y6, y7], _ =>
        have g0 := hfld 0 _ rfl
        have g1 := hfld 1 _ rfl
        have g2 := hfld 2 _ rfl
        have g3 := hfld 3 _ rfl
        have g4 := hfld 4 _ rfl
        have g5 := hfld 5 _ rfl
        have g6 := hfld 6 _ rfl
        have g7 := hfld 7 _ rfl
        obtain ⟨x0, e0, _, w0⟩ := DataW.trod_int Tryz.underlying3 g0
        obtain ⟨x1, e1, _, w1⟩ := DataW.trod_int Tryz.underlying3 g1
        obtain ⟨x2, e2, _, w2⟩ := DataW.trod_int Tryz.underlying3 g2
        obtain ⟨x3, e3, _, w3⟩ := DataW.trod_int Tryz.underlying3 g3
        obtain ⟨x4, e4, _, w4⟩ := DataW.trod_int Tryz.underlying3 g4
        obtain ⟨x5, e5, _, w5⟩ := DataW.trod_int Tryz.underlying3 g5
        obtain ⟨x6, e6, _, w6⟩ := DataW.trod_int Tryz.underlying3 g6
        obtain ⟨ys, n2, _, _, _, hyl, harr⟩ := DataW.trod_array Tryz.underlying50 g7
        match ys, hyl with
        | [z0, z1, z2, z3], _ =>
          have a0 := harr 0 (by decide)
          have a1 := harr 1 (by decide)
          have a2 := harr 2 (by decide)
          have a3 := harr 3 (by decide)
          simp [cells_arr, cells_u64] at a0 a1 a2 a3
          obtain ⟨v7, e7, _, w7⟩ := DataW.trod_int Tryz.underlying22 a0
          obtain ⟨v8, e8, _, w8⟩ := DataW.trod_int Tryz.underlying22 a1
          obtain ⟨v9, e9, _, w9⟩ := DataW.trod_int Tryz.underlying22 a2
          obtain ⟨v10, e10, _, w10⟩ := DataW.trod_int Tryz.underlying22 a3
          simp [cells_int] at e0 e1 e2 e3 e4 e5 e6
          simp at e7 e8 e9 e10
          subst e0 e1 e2 e3 e4 e5 e6 e7 e8 e9 e10
          have b7 := bounds_u64 w7
          have b8 := bounds_u64 w8
          have b9 := bounds_u64 w9
          have b10 := bounds_u64 w10
          obtain ⟨n7, rfl⟩ := Int.eq_ofNat_of_zero_le b7.1
          obtain ⟨n8, rfl⟩ := Int.eq_ofNat_of_zero_le b8.1
          obtain ⟨n9, rfl⟩ := Int.eq_ofNat_of_zero_le b9.1
          obtain ⟨n10, rfl⟩ := Int.eq_ofNat_of_zero_le b10.1
          refine ⟨⟨x0, x1, x2, x3, x4, x5, x6, n7, n8, n9, n10⟩, ⟨bounds_i64 w0, bounds_i64 w1, bounds_i64 w2, bounds_i64 w3, bounds_i64 w4, bounds_i64 w5, bounds_i64 w6, by show n7 < _; omega, by show n8 < _; omega, by show n9 < _; omega, by show n10 < _; omega⟩, fun j hj => ?_⟩
          have := hcell j (by simpa using hj)
          rw [this]
          revert j
          apply lt11 <;> (intros; rfl)
    have hpg : ∃ pg : Nat → Pg, ∀ k, k < len → PgIn (pg k) ∧ ∀ j, j < 11 → W.cell? ((x.add (k * 11)).add j) = some ((pg k).fld j) :=
      ⟨fun k => if h : k < len then (key k h).choose else zeroP, fun k hk => by simp only [hk, dite_true]; exact (key k hk).choose_spec⟩
    obtain ⟨pg, hpg⟩ := hpg
    refine ⟨len, pg, by omega, some x, m, rfl, ?_⟩
    by_cases h0 : len = 0
    · exact Or.inl h0
    · right
      have g0 := (hpg 0 (by omega)).2 0 (by decide)
      have e0 : (x.add (0 * 11)).add 0 = x := by simp [Addr.add]
      rw [e0] at g0
      obtain ⟨bb, o, rfl, hb⟩ := at_spot g0
      refine ⟨bb, o, rfl, hb, fun k hk => ⟨(hpg k hk).1, ?_⟩⟩
      have g := (hpg k hk).2
      have e : ∀ j, (Addr.add (Addr.add ⟨bb, o, none⟩ (k * 11)) j) = ⟨bb, o + k * 11 + j, none⟩ := fun j => by rw [Addr.add_lit, Addr.add_lit]
      exact fun j hj => by rw [← e j]; exact g j hj
/-- A slice of words, read. -/
theorem words_of {H : Type} {enc : TypeId × Value → H} {W : World} {fuel : Nat} {v : Value} {x : DataW H × List MemPlace}
    (h : DataW.trod enc Tryz.prog W 0 (fun _ => true) true fuel 28 [v] = some x) : ∃ zs, Src W v zs := by
  rcases open_slice1 Tryz.underlying28 cells_u64 h with ⟨hcs, _⟩ | ⟨a, len, cap, m, n, V, D, Pl, hcs, _, hl, hm, hmm, _, hx⟩
  · simp at hcs
    exact ⟨[], fun i => by simp, none, 0, hcs, Or.inl rfl⟩
  · simp at hcs
    subst hcs
    simp only [if_true] at hmm
    subst hmm
    have key : ∀ k, k < len → ∃ z : Nat, z < 2 ^ 64 ∧ W.cell? (a.add k) = some (.int .u64 (z : Int)) := fun k hk => by
      obtain ⟨h1, h2⟩ := hx k (by omega)
      obtain ⟨v7, e7, _, w7⟩ := DataW.trod_int Tryz.underlying22 h2
      simp at e7
      have b7 := bounds_u64 w7
      obtain ⟨n7, rfl⟩ := Int.eq_ofNat_of_zero_le b7.1
      exact ⟨n7, by omega, by rw [h1, e7]⟩
    have hz : ∃ zs : List Nat, zs.length = len ∧ ∀ k, k < len → zs.getD k 0 < 2 ^ 64 ∧ W.cell? (a.add k) = some (.int .u64 ((zs.getD k 0 : Nat) : Int)) :=
      ⟨(List.range len).map (fun k => if h : k < len then (key k h).choose else 0), by simp, fun k hk => by
        have : ((List.range len).map (fun k => if h : k < len then (key k h).choose else 0)).getD k 0 = (key k hk).choose := by simp [List.getD, hk]
        rw [this]
        exact (key k hk).choose_spec⟩
    obtain ⟨zs, hzl, hz⟩ := hz
    refine ⟨zs, fun i => ?_, some a, m, by rw [hzl], ?_⟩
    · by_cases e : i < len
      · exact (hz i e).1
      · have : zs.getD i 0 = 0 := by simp only [List.getD]; rw [List.getElem?_eq_none (by omega)]; rfl
        rw [this]; decide
    · by_cases h0 : len = 0
      · exact Or.inl (List.eq_nil_of_length_eq_zero (by omega))
      · right
        refine ⟨a, rfl, ?_, fun j hj => (hz j (by omega)).2⟩
        have := lt_of_cell (hz 0 (by omega)).2
        rwa [addr_add_block] at this
theorem bytes_of {H : Type} {enc : TypeId × Value → H} {W : World} {fuel : Nat} {v : Value} {x : DataW H × List MemPlace}
    (h : DataW.trod enc Tryz.prog W 0 (fun _ => true) true fuel 25 [v] = some x) : ∃ (n : Nat) (f : Nat → Nat), SlIn W v n (ByC W f) ∧ ∀ a n c, v = .slice a n c → n ≤ c := by
  rcases open_slice1 Tryz.underlying25 cells_u8 h with ⟨hcs, _⟩ | ⟨a, len, cap, m, n, V, D, Pl, hcs, _, hl, hm, hmm, _, hx⟩
  · simp at hcs
    subst hcs
    exact ⟨0, fun _ => 0, ⟨by omega, none, 0, rfl, Or.inl rfl⟩, fun a n c e => by cases e; exact Nat.le_refl _⟩
  · simp at hcs
    subst hcs
    simp only [if_true] at hmm
    subst hmm
    have hml : m ≤ 9223372036854775807 := by unfold maxLen at hm; omega
    have key : ∀ k, k < len → ∃ z : Nat, z < 256 ∧ W.cell? (a.add k) = some (.int .u8 (z : Int)) := fun k hk => by
      obtain ⟨h1, h2⟩ := hx k (by omega)
      obtain ⟨v7, e7, _, w7⟩ := DataW.trod_int Tryz.underlying5 h2
      simp at e7
      have b7 := bounds_u8 w7
      obtain ⟨n7, rfl⟩ := Int.eq_ofNat_of_zero_le b7.1
      exact ⟨n7, by omega, by rw [h1, e7]⟩
    have hz : ∃ g : Nat → Nat, ∀ k, k < len → g k < 256 ∧ W.cell? (a.add k) = some (.int .u8 (g k : Int)) :=
      ⟨fun k => if h : k < len then (key k h).choose else 0, fun k hk => by simp only [hk, dite_true]; exact (key k hk).choose_spec⟩
    obtain ⟨g, hz⟩ := hz
    have hs : len = 0 ∨ ∃ bl o, a = ⟨bl, o, none⟩ ∧ bl < W.heap.size ∧ ∀ i, i < len → g i < 256 ∧ W.cell? ⟨bl, o + i, none⟩ = some (.int .u8 (g i : Int)) := by
      by_cases h0 : len = 0
      · exact Or.inl h0
      · right
        have g0 := (hz 0 (by omega)).2
        have e0 : a.add 0 = a := by simp [Addr.add]
        rw [e0] at g0
        obtain ⟨bb, o, rfl, hb⟩ := at_spot g0
        refine ⟨bb, o, rfl, hb, fun k hk => ⟨(hz k hk).1, ?_⟩⟩
        have := (hz k hk).2
        rw [Addr.add_lit] at this
        exact this
    refine ⟨len, g, ⟨by omega, _, _, rfl, ?_⟩, fun a n c e => by cases e; exact hl⟩
    rcases hs with h0 | ⟨bl, o, rfl, hb, hc⟩
    · exact Or.inl h0
    · exact Or.inr ⟨bl, o, rfl, hb, hc⟩
theorem heads_of {H : Type} {enc : TypeId × Value → H} {W : World} {fuel : Nat} {v : Value} {x : DataW H × List MemPlace}
    (h : DataW.trod enc Tryz.prog W 0 (fun _ => true) true fuel 28 [v] = some x) : ∃ l, SlIn W v l.length (WdC W l) := by
  rcases open_slice1 Tryz.underlying28 cells_u64 h with ⟨hcs, _⟩ | ⟨a, len, cap, m, n, V, D, Pl, hcs, _, hl, hm, hmm, _, hx⟩
  · simp at hcs
    subst hcs
    exact ⟨[], by simp, none, 0, rfl, Or.inl rfl⟩
  · simp at hcs
    subst hcs
    simp only [if_true] at hmm
    subst hmm
    have hml : m ≤ 9223372036854775807 := by unfold maxLen at hm; omega
    have key : ∀ k, k < len → ∃ z : Nat, z < 18446744073709551616 ∧ W.cell? (a.add k) = some (.int .u64 (z : Int)) := fun k hk => by
      obtain ⟨h1, h2⟩ := hx k (by omega)
      obtain ⟨v7, e7, _, w7⟩ := DataW.trod_int Tryz.underlying22 h2
      simp at e7
      have b7 := bounds_u64 w7
      obtain ⟨n7, rfl⟩ := Int.eq_ofNat_of_zero_le b7.1
      exact ⟨n7, by omega, by rw [h1, e7]⟩
    have hz : ∃ g : Nat → Nat, ∀ k, k < len → g k < 18446744073709551616 ∧ W.cell? (a.add k) = some (.int .u64 (g k : Int)) :=
      ⟨fun k => if h : k < len then (key k h).choose else 0, fun k hk => by simp only [hk, dite_true]; exact (key k hk).choose_spec⟩
    obtain ⟨g, hz⟩ := hz
    have hs : len = 0 ∨ ∃ bl o, a = ⟨bl, o, none⟩ ∧ bl < W.heap.size ∧ ∀ i, i < len → g i < 18446744073709551616 ∧ W.cell? ⟨bl, o + i, none⟩ = some (.int .u64 (g i : Int)) := by
      by_cases h0 : len = 0
      · exact Or.inl h0
      · right
        have g0 := (hz 0 (by omega)).2
        have e0 : a.add 0 = a := by simp [Addr.add]
        rw [e0] at g0
        obtain ⟨bb, o, rfl, hb⟩ := at_spot g0
        refine ⟨bb, o, rfl, hb, fun k hk => ⟨(hz k hk).1, ?_⟩⟩
        have := (hz k hk).2
        rw [Addr.add_lit] at this
        exact this
    have hg : ∀ i, i < len → ((List.range len).map g).getD i 0 = g i := fun i hi => by simp [List.getD, hi]
    have hn : ((List.range len).map g).length = len := by simp
    refine ⟨(List.range len).map g, by rw [hn]; omega, some a, m, by rw [hn], ?_⟩
    rw [hn]
    rcases hs with h0 | ⟨bl, o, rfl, hb, hc⟩
    · exact Or.inl h0
    · exact Or.inr ⟨bl, o, rfl, hb, fun i hi => by unfold WdC; rw [hg i hi]; exact hc i hi⟩
theorem parts_of {H : Type} {enc : TypeId × Value → H} {W : World} {fuel : Nat} {v : Value} {x : DataW H × List MemPlace}
    (h : DataW.trod enc Tryz.prog W 0 (fun _ => true) true fuel 29 [v] = some x) : ∃ l, SlIn W v l.length (InC W l) := by
  rcases open_slice1 Tryz.underlying29 cells_int h with ⟨hcs, _⟩ | ⟨a, len, cap, m, n, V, D, Pl, hcs, _, hl, hm, hmm, _, hx⟩
  · simp at hcs
    subst hcs
    exact ⟨[], by simp, none, 0, rfl, Or.inl rfl⟩
  · simp at hcs
    subst hcs
    simp only [if_true] at hmm
    subst hmm
    have hml : m ≤ 9223372036854775807 := by unfold maxLen at hm; omega
    have key : ∀ k, k < len → ∃ z : Int, N64 z ∧ W.cell? (a.add k) = some (.int .i64 z) := fun k hk => by
      obtain ⟨h1, h2⟩ := hx k (by omega)
      obtain ⟨v7, e7, _, w7⟩ := DataW.trod_int Tryz.underlying3 h2
      simp at e7
      exact ⟨v7, bounds_i64 w7, by rw [h1, e7]⟩
    have hz : ∃ g : Nat → Int, ∀ k, k < len → N64 (g k) ∧ W.cell? (a.add k) = some (.int .i64 (g k)) :=
      ⟨fun k => if h : k < len then (key k h).choose else 0, fun k hk => by simp only [hk, dite_true]; exact (key k hk).choose_spec⟩
    obtain ⟨g, hz⟩ := hz
    have hs : len = 0 ∨ ∃ bl o, a = ⟨bl, o, none⟩ ∧ bl < W.heap.size ∧ ∀ i, i < len → N64 (g i) ∧ W.cell? ⟨bl, o + i, none⟩ = some (.int .i64 (g i)) := by
      by_cases h0 : len = 0
      · exact Or.inl h0
      · right
        have g0 := (hz 0 (by omega)).2
        have e0 : a.add 0 = a := by simp [Addr.add]
        rw [e0] at g0
        obtain ⟨bb, o, rfl, hb⟩ := at_spot g0
        refine ⟨bb, o, rfl, hb, fun k hk => ⟨(hz k hk).1, ?_⟩⟩
        have := (hz k hk).2
        rw [Addr.add_lit] at this
        exact this
    have hg : ∀ i, i < len → ((List.range len).map g).getD i 0 = g i := fun i hi => by simp [List.getD, hi]
    have hn : ((List.range len).map g).length = len := by simp
    refine ⟨(List.range len).map g, by rw [hn]; omega, some a, m, by rw [hn], ?_⟩
    rw [hn]
    rcases hs with h0 | ⟨bl, o, rfl, hb, hc⟩
    · exact Or.inl h0
    · exact Or.inr ⟨bl, o, rfl, hb, fun i hi => by unfold InC; rw [hg i hi]; exact hc i hi⟩
theorem pairs_of {H : Type} {enc : TypeId × Value → H} {W : World} {fuel : Nat} {v : Value} {x : DataW H × List MemPlace}
    (hf : DataW.trod enc Tryz.prog W 0 (fun _ => true) true fuel 27 [v] = some x) : ∃ (n : Nat) (zs : Nat → List Nat) (ws : Nat → Value), SlIn W v n fun bl o i => W.cell? ⟨bl, o + i, none⟩ = some (ws i) ∧ Src W (ws i) (zs i) := by
  rcases open_slice1 Tryz.underlying27 cells_wsl hf with ⟨hcs, _⟩ | ⟨x, len, cap, m, n, V, D, Pl, hcs, _, hl, hm, hmm, _, hx⟩
  · simp at hcs
    subst hcs
    exact ⟨0, fun _ => [], fun _ => .slice none 0 0, by omega, none, 0, rfl, Or.inl rfl⟩
  · simp at hcs
    subst hcs
    simp only [if_true] at hmm
    subst hmm
    have hml : m ≤ 9223372036854775807 := by unfold maxLen at hm; omega
    have key : ∀ k, k < len → ∃ zs, Src W (V k) zs := fun k hk => words_of (hx k (by omega)).2
    refine ⟨len, fun k => if h : k < len then (key k h).choose else [], V, by omega, some x, m, rfl, ?_⟩
    by_cases h0 : len = 0
    · exact Or.inl h0
    · right
      have g0 := (hx 0 (by omega)).1
      have e0 : x.add 0 = x := by simp [Addr.add]
      rw [e0] at g0
      obtain ⟨bb, o, rfl, hb⟩ := at_spot g0
      refine ⟨bb, o, rfl, hb, fun k hk => ⟨?_, ?_⟩⟩
      · have := (hx k (by omega)).1
        rw [Addr.add_lit] at this
        exact this
      · simp only [hk, dite_true]
        exact (key k hk).choose_spec
set_option maxRecDepth 8000 in
theorem image_of {H : Type} {enc : TypeId × Value → H} {W : World} {base : Nat} {v : Value} {d : DataW H} {p : List MemPlace} (hok : Value.okWide Tryz.prog W .any base 31 v)
    (h : DataW.Trod enc Tryz.prog W 0 (fun _ => true) true 31 v d p) : ∃ I V, v = imA I V ∧ ImD W I V := by
  obtain ⟨cs, rfl, _⟩ := okWide_struct Tryz.underlying31 hok
  obtain ⟨fuel, hf⟩ := h
  obtain ⟨xs, nn, _, _, hlen, hxl, hfld⟩ := DataW.trod_struct Tryz.underlying31 hf
  obtain ⟨l⟩ := cs
  simp only [Value.cells] at hlen hfld
  rw [cells_img] at hlen
  match l, hlen, xs, hxl with
  | [c0, c1, c2, c3, c4, c5, c6, c7, c8], _, [y0, y1, y2, y3, y4, y5, y6], _ =>
    have g0 := hfld 0 _ rfl
    have g1 := hfld 1 _ rfl
    have g2 := hfld 2 _ rfl
    have g3 := hfld 3 _ rfl
    have g4 := hfld 4 _ rfl
    have g5 := hfld 5 _ rfl
    have g6 := hfld 6 _ rfl
    simp [cells_cfg] at g0
    simp [cells_int] at g1
    simp [cells_bsl] at g2
    simp [cells_psl] at g3
    simp [cells_wws] at g4
    simp [cells_wsl] at g5
    simp [cells_isl] at g6
    obtain ⟨xs0, n0, _, _, _, hxl0, hf0⟩ := DataW.trod_struct Tryz.underlying24 g0
    match xs0, hxl0 with
    | [z0, z1, z2], _ =>
      have k0 := hf0 0 _ rfl
      have k1 := hf0 1 _ rfl
      have k2 := hf0 2 _ rfl
      simp [cells_u64] at k0
      simp [cells_int] at k1 k2
      obtain ⟨x0, e0, _, w0⟩ := DataW.trod_int Tryz.underlying22 k0
      obtain ⟨x1, e1, _, w1⟩ := DataW.trod_int Tryz.underlying3 k1
      obtain ⟨x2, e2, _, w2⟩ := DataW.trod_int Tryz.underlying3 k2
      obtain ⟨x3, e3, _, w3⟩ := DataW.trod_int Tryz.underlying3 g1
      simp at e0 e1 e2 e3
      subst e0 e1 e2 e3
      have b0 := bounds_u64 w0
      obtain ⟨b, rfl⟩ := Int.eq_ofNat_of_zero_le b0.1
      obtain ⟨nm, mem, hm, hmc⟩ := bytes_of g2
      obtain ⟨np, pg, hp⟩ := pages_of g3
      obtain ⟨no, pr, hr⟩ := pairs_of g4
      obtain ⟨hd, hh⟩ := heads_of g5
      obtain ⟨pt, ht⟩ := parts_of g6
      exact ⟨⟨b, x1, x2, x3, nm, mem, np, pg, no, pr, hd, pt⟩, ⟨c4, c5, c6, c7, c8⟩, rfl, ⟨by show b < _; omega, bounds_i64 w1, bounds_i64 w2, bounds_i64 w3, hm, hmc, hp, hr, hh, ht⟩⟩
end Go.Proofs.YthjokkihlodapaaGreat
/- slab.Open, malloc.New, malloc.Open: that they answer. -/
namespace Go.Proofs.YthjokkihlodapaaGreat.H
open Go.RowKit
set_option linter.unusedVariables false
set_option maxHeartbeats 4000000
set_option maxRecDepth 4000

theorem info_num7 : (Tryz.prog.info? 3).map (fun i => i.size) = some 1 := by kernel_rfl
def hdVs (h : Nat → Int) : List Value := [.int .i64 (h 0), .int .i64 (h 1), .int .i64 (h 2), .int .i64 (h 3), .int .i64 (h 4), .int .i64 (h 5), .int .i64 (h 6), .int .i64 (h 7)]
theorem hdVs_get (h : Nat → Int) (j : Nat) (u : Value) (e : (hdVs h)[j]? = some u) : j < 8 ∧ u = .int .i64 (h j) := by
  unfold hdVs at e
  rcases j with _ | _ | _ | _ | _ | _ | _ | _ | j <;> simp at e <;> (subst e; exact ⟨by omega, rfl⟩)
/-- Eight numbers in memory. -/
def Hd8 (W : World) (a : Addr) (h : Nat → Int) : Prop := ∀ j, j < 8 → W.cell? (a.add j) = some (.int .i64 (h j))
theorem Hd8.keep {W W' : World} {a : Addr} {h : Nat → Int} (s : Hd8 W a h) (k : Kept none' W W') : Hd8 W' a h := fun j hj => k.cell (fun e => e) (s j hj)

theorem slabOpen9 {W : World} {lw s m b : Nat} {ao : Option Nat} {base R lim n : Nat} {f : Nat → Nat} {B : Bs} {mp : Mp} (hP : PoW W lw s m b ao base R lim n f B mp) (hn : mp.n * 4096 = n) (hb : base + n ≤ 9223372036854775808) (hm : mp.n ≤ 1024) (a : Addr) (cap : Nat) (h : Nat → Int) (hh : Hd8 W a h) :
    Calls Tryz.prog 26 #[.pointer (some ⟨lw, 0, none⟩), .slice (some a) 8 cap] W fun e w' => ∃ sb, e = .returned (.tuple #[.pointer (some ⟨sb, 0, none⟩), .int .i64 0]) ∧ Kept none' W w' := by
  have OV := hid (over9 hP hn hb hm)
  have HH := hid hh
  clear hP hn hb hm hh
  go_enter Tryz.func26, Tryz.ntmps26
  go_wp2_with fail
  refine OV.out.mono ?_
  rintro e w1 ⟨sb, b0, rfl, hs, hk, hz⟩
  obtain ⟨w2, hw2⟩ : ∃ w2, w2 = w1.setRow sb #[.pointer (some ⟨lw, 0, none⟩), .int .u64 (b0 : Int), .int .i64 (h 0), .int .i64 (h 1), .int .i64 (h 2), .int .i64 (h 3), .int .i64 (h 4), .int .i64 (h 5), .int .i64 (h 6), .int .i64 (h 7)] := ⟨_, rfl⟩
  have CP := hid (show ∀ ty, (Builtin.copy_ #[29, 29] ty #[.slice (some ⟨sb, 2, none⟩) 8 8, .slice (some a) 8 cap]).run Tryz.prog w1 = .ok (goInt 8) w2 from fun ty => by
    have := run_copy_row (P := Tryz.prog) w1 29 29 ty 3 sb 2 8 8 a 8 cap _ 100 (hdVs h) Tryz.underlying29 info_num7 hs rfl (fun j u e => by
      obtain ⟨h1, rfl⟩ := hdVs_get h j u e
      exact (HH.out.keep hk) j h1) (Nat.le_refl 10) (fun u hu => by
      simp [hdVs] at hu
      rcases hu with rfl | rfl | rfl | rfl | rfl | rfl | rfl | rfl <;> rfl)
    rw [this, hw2]
    rfl)
  have kp : Kept (fun y => y = sb) w1 w2 := by
    rw [hw2]
    exact ⟨rfl, rfl, rfl, by simp [World.setRow], fun i hi hn => setRow_other w1 sb i _ hn⟩
  have D := hid (show Kept none' W w2 from hk.trans kp (fun _ _ e => e) (fun y hy e => absurd (show y < sb by omega) (by rw [show y = sb from e]; exact Nat.lt_irrefl _)))
  clear hw2 kp hs hk hz OV
  have hcp := CP.out
  clear CP
  go_wp2_with fail
  exact ⟨rfl, .tuple #[.pointer (some ⟨sb, 0, none⟩), .int .i64 0], by simp [results, Tryz.results26, go_sem], sb, rfl, D.out⟩
/-- A call answers an object and no error. -/
def OkP (w : World) (e : Ending) (w' : World) : Prop := ∃ hb, e = .returned (.tuple #[.pointer (some ⟨hb, 0, none⟩), .int .i64 0]) ∧ Kept none' w w'
theorem mallocNew9 (base lim o : Nat) (hb64 : base < 18446744073709551616) (hl : lim ≤ 64) (ho : o ≤ 8) (hm : M.mayB base (lim : Int) (o : Int) = true) (hbe : base ≤ 9223372036854775808) (w : World) :
    Calls Tryz.prog 12 #[cfgV base (lim : Int) (o : Int)] w (OkP w) := by
  have RN := hid (fun W => regionNew9 base lim o hb64 hl ho hm W)
  have K0 := hid ((Kept.refl none' w).alloc (cfgO base (lim : Int) (o : Int)))
  have X0 := hid (heap_new w (cfgO base (lim : Int) (o : Int)))
  clear hm
  go_enter Tryz.func12, Tryz.ntmps12
  obtain ⟨x0, x1, x2⟩ := cfg3 X0.out
  go_wp2_with fail
  generalize w.alloc (cfgO base (lim : Int) (o : Int)) = W0 at *
  generalize w.heap.size = cb at *
  refine (RN.out W0).mono ?_
  rintro e w1 ⟨lw, s, m, b, B, f, rfl, hP, hk1⟩
  have P1 := hid hP
  have K1 := hid (none_trans K0.out hk1)
  have X1 := hid ((hk1.block _ (heap_lt X0.out) (fun x => x)).trans X0.out)
  clear hP hk1 x0 x1 x2
  go_wp2_with fail
  have KD := hid (show Kept none' w1 w1.drew from (Kept.refl none' w1).drew)
  have SN := hid (slabNew9 (P1.out.keep KD.out) (show (newM o).n * 4096 = 0 from Nat.zero_mul _) (by omega) (show (newM o).n ≤ 1024 from Nat.zero_le _))
  obtain ⟨x0, x1, x2⟩ := cfg3 ((KD.out.block _ (heap_lt X1.out) (fun x => x)).trans X1.out)
  go_cut [2, 3] (fun v u W => ∃ hb : Nat, v = .pointer (some ⟨hb, 0, none⟩) ∧ u = .int .i64 0 ∧ Hid (Kept none' w1 W))
  case first =>
    go_region_held3 (fun w' => w'.cell? ⟨cb, 0, none⟩ = some (.int .u64 (base : Int)) ∧ w'.cell? ⟨cb, 1, none⟩ = some (.int .i64 (lim : Int)) ∧ w'.cell? ⟨cb, 2, none⟩ = some (.int .i64 (o : Int))) (first | with_reducible exact ⟨x0, x1, x2⟩ | with_reducible exact Z2 | with_reducible exact Z3 _) (first | (go_at_call 24; with_reducible refine SN.out.mono ?_; rintro e w2 ⟨sb, rfl, hk2⟩; have K2 := hid (none_trans KD.out hk2); have X2 := hid ((K2.out.block _ (heap_lt X1.out) (fun x => x)).trans X1.out); have Z2 := cfg3 X2.out; have Z3 := fun ob => cfg3 ((((Kept.refl none' w2).alloc ob).block _ (heap_lt X2.out) (fun x => x)).trans X2.out); clear hk2) | fail)
    all_goals
      have KF := hid (fun ob => K2.out.alloc ob)
      go_wp2_with fail
      go_meet
      exact ⟨_, rfl, rfl, KF.out _⟩
  case rest =>
  obtain ⟨hb, rfl, rfl, hH⟩ := hcut
  have KF := hid (none_trans K1.out hH.out)
  go_wp2_with fail
  exact ⟨rfl, .tuple #[.pointer (some ⟨hb, 0, none⟩), .int .i64 0], by simp [results, Tryz.results12, go_sem], hb, rfl, KF.out⟩
end Go.Proofs.YthjokkihlodapaaGreat.H
/- malloc.Open: that it answers. -/
namespace Go.Proofs.YthjokkihlodapaaGreat.H
open Go.RowKit
set_option linter.unusedVariables false
set_option maxHeartbeats 4000000
set_option maxRecDepth 4000

theorem mallocOpen9 (base lim o : Nat) (hb64 : base < 18446744073709551616) (hl : lim ≤ 64) (ho : o ≤ 8) (hm : M.mayB base (lim : Int) (o : Int) = true) (r nb np : Nat) (hr : r ≤ lim) (hnp : np = r * 2 ^ o) (hnb : nb = np * 4096) (hb0 : 0 < nb) (hbe : base + nb ≤ 9223372036854775808) (ba pa qa : Option Addr) (bc pc qc nq : Nat) (gg : Nat → Nat) (g0 cp0 : Nat) (hd : List Nat) (hd64 : ∀ i, hd.getD i 0 < 18446744073709551616) (hN : hd.length = o + 1) (mp : Mp) (hmo : mp.o = o) (hmn : mp.n = np) (hm1 : np ≤ 1024) (w : World) (hbv : M.Bytes w (.slice ba nb bc) nb gg) (hh : w.heap[g0]? = some (.cells (wcells hd) 22 (0, 0)))
    (hpm : ∀ W, Kept none' w W → Calls Tryz.prog 48 #[.int .i64 (o : Int), .slice pa np pc, .slice qa nq qc] W fun e w' => ∃ b, e = .returned (.tuple #[.pointer (some ⟨b, 0, none⟩), .int .i64 0]) ∧ Hid (∃ B', MapAt w' b B' mp ∧ (∀ x, mown b B' o x → W.heap.size ≤ x) ∧ Kept none' W w')) (a : Addr) (cap : Nat) (h : Nat → Int) (hh8 : Hd8 w a h) :
    Calls Tryz.prog 13 #[.agg #[.int .u64 (base : Int), .int .i64 (lim : Int), .int .i64 (o : Int), .int .i64 (r : Int), .slice ba nb bc, .slice pa np pc, .slice qa nq qc, .slice (some ⟨g0, 0, none⟩) (o + 1) cp0, .slice (some a) 8 cap]] w (OkP w) := by
  obtain ⟨imo, himo⟩ : ∃ ob, ob = Obj.cells #[.int .u64 (base : Int), .int .i64 (lim : Int), .int .i64 (o : Int), .int .i64 (r : Int), .slice ba nb bc, .slice pa np pc, .slice qa nq qc, .slice (some ⟨g0, 0, none⟩) (o + 1) cp0, .slice (some a) 8 cap] 31 (0, 0) := ⟨_, rfl⟩
  have K0 := hid ((Kept.refl none' w).alloc imo)
  have X0 := hid (heap_new w imo)
  have RO := hid (regionOpen9 base lim o hb64 hl ho hm r nb np hr hnp hnb hb0 ba pa qa bc pc qc nq gg g0 cp0 hd hd64 hN mp hmo (w.alloc imo) (hbv.kept (ofK K0.out) (fun _ _ e => e)) ((K0.out.block _ (heap_lt hh) (fun e => e)).trans hh) (fun W hW => hpm W (none_trans K0.out hW)))
  have HH8 := hid (hh8.keep K0.out)
  have SO := hid (fun lw s m b a2 B f W (hP : PoW W lw s m b a2 base (M.RS o) lim nb f B mp) (h8 : Hd8 W a h) => slabOpen9 hP (by rw [hmn, hnb]) hbe (by rw [hmn]; exact hm1) a cap h h8)
  have XC := hid (show ∀ W, Kept none' (w.alloc imo) W → W.heap[w.heap.size]? = some (Obj.cells #[.int .u64 (base : Int), .int .i64 (lim : Int), .int .i64 (o : Int), .int .i64 (r : Int), .slice ba nb bc, .slice pa np pc, .slice qa nq qc, .slice (some ⟨g0, 0, none⟩) (o + 1) cp0, .slice (some a) 8 cap] 31 (0, 0)) from fun W hW => by rw [← himo]; exact (hW.block _ (heap_lt X0.out) (fun x => x)).trans X0.out)
  clear hm hpm hbv hh hN hd64 hnp hnb hmo hb0 hh8 hmn hm1 hr X0
  subst himo
  go_enter Tryz.func13, Tryz.ntmps13
  go_wp2_with fail
  refine RO.out.mono ?_
  rintro e w1 ⟨lw, s, m, b, a2, B, f, rfl, hP, hk1⟩
  have P1 := hid hP
  have K1 := hid hk1
  have SO1 := hid (SO.out _ _ _ _ _ _ _ w1 hP (HH8.out.keep hk1))
  have X1 := hid (XC.out w1 hk1)
  clear hP hk1 SO RO
  generalize w.heap.size = cb at *
  have c8 : w1.cell? ⟨cb, 8, none⟩ = some (.slice (some a) 8 cap) := by simp [World.cell?, X1.out]
  go_wp2_with fail
  refine SO1.out.mono ?_
  rintro e w2 ⟨sb, rfl, hk2⟩
  have K2 := hid (none_trans (none_trans K0.out K1.out) hk2)
  have X2 := hid (XC.out w2 (none_trans K1.out hk2))
  have d0 : w2.cell? ⟨cb, 0, none⟩ = some (.int .u64 (base : Int)) := by simp [World.cell?, X2.out]
  have d1 : w2.cell? ⟨cb, 1, none⟩ = some (.int .i64 (lim : Int)) := by simp [World.cell?, X2.out]
  have d2 : w2.cell? ⟨cb, 2, none⟩ = some (.int .i64 (o : Int)) := by simp [World.cell?, X2.out]
  clear hk2 c8
  have KF := hid (fun ob => K2.out.alloc ob)
  go_wp2_with fail
  exact ⟨rfl, .tuple #[.pointer (some ⟨w2.heap.size, 0, none⟩), .int .i64 0], by simp [results, Tryz.results13, go_sem], w2.heap.size, rfl, KF.out _⟩
end Go.Proofs.YthjokkihlodapaaGreat.H
