import Derived.Test.YthomkkboeldgnaaGreatRgD
/- RegionGone: a pool without a live block; rows beside it. -/
namespace Go.Proofs.YthomkkboeldgnaaGreat
open Go.RowKit
set_option linter.unusedVariables false

theorem len_all : ∀ (r : Nat) (l : List Nat), (∀ i, i < r → i ∈ l) → r ≤ l.length
  | 0, _, _ => Nat.zero_le _
  | r + 1, l, h => by
    have h1 := h r (Nat.lt_succ_self _)
    have h2 := len_all r (l.erase r) (fun i hi => (List.mem_erase_of_ne (by omega)).2 (h i (by omega)))
    rw [List.length_erase_of_mem h1] at h2
    have := List.length_pos_of_mem h1
    omega
/-- All is free: each region is one free block. -/
theorem Sf.whole {x t fr} (s0 : Sf x t fr []) {r : Nat} (hr : t.m.n = r * 2 ^ x.o) : (∀ i, i < r → i * 2 ^ x.o ∈ fr x.o) ∧ (∀ k, k < x.o → fr k = []) ∧ (fr x.o).length = r := by
  have hnd := s0.nd (Nat.le_refl x.o)
  obtain ⟨B, s, hN, hL⟩ := s0
  have hz : 0 < 2 ^ x.o := Nat.pow_pos (by decide)
  have h1 : ∀ i, i < r → i * 2 ^ x.o ∈ fr x.o := fun i hi => by
    have h2 : i * 2 ^ x.o + 2 ^ x.o ≤ t.m.n := by
      rw [hr, ← Nat.succ_mul]
      exact Nat.mul_le_mul_right _ hi
    obtain ⟨q, j, h0, hb, h3, h4⟩ := s.stretch hN (Nat.le_refl _) (Nat.mul_mod_left _ _) h2 (fun p j h => by
      have := (hL p j).1 h
      cases this)
    obtain ⟨hj, hq⟩ := (s.fi q j).1 hb
    obtain ⟨a1, a2, a3⟩ := s.al _ _ _ hb
    obtain rfl : j = x.o := by omega
    have e : q = i * 2 ^ x.o := by omega
    rw [← e]
    exact hq
  refine ⟨h1, fun k hk => ?_, ?_⟩
  · cases hf : fr k with
    | nil => rfl
    | cons p l =>
      exfalso
      have hp : p ∈ fr k := by rw [hf]; exact List.mem_cons_self
      have hb := (s.fi p k).2 ⟨Nat.le_of_lt hk, hp⟩
      obtain ⟨a1, a2, a3⟩ := s.al _ _ _ hb
      have hzk : 0 < 2 ^ k := Nat.pow_pos (by decide)
      have hpn : p < r * 2 ^ x.o := by omega
      have hi : p / 2 ^ x.o < r := Nat.div_lt_of_lt_mul (by rw [Nat.mul_comm]; exact hpn)
      have h2 := (s.fi _ x.o).2 ⟨Nat.le_refl _, h1 _ hi⟩
      have h3 := Nat.div_add_mod p (2 ^ x.o)
      have h4 := Nat.mod_lt p hz
      rw [Nat.mul_comm] at h3
      rcases s.ds _ _ _ _ _ _ hb h2 with ⟨_, _, e⟩ | e | e <;> omega
  · have h2 := len_all r ((fr x.o).map (· / 2 ^ x.o)) (fun i hi => List.mem_map.2 ⟨_, h1 i hi, Nat.mul_div_cancel _ hz⟩)
    have hel : ∀ q ∈ fr x.o, q % 2 ^ x.o = 0 ∧ q / 2 ^ x.o < r := fun q hq => by
      obtain ⟨a1, a2, a3⟩ := s.al _ _ _ ((s.fi q x.o).2 ⟨Nat.le_refl _, hq⟩)
      exact ⟨a2, Nat.div_lt_of_lt_mul (by rw [Nat.mul_comm]; omega)⟩
    have h3 : ((fr x.o).map (· / 2 ^ x.o)).Nodup := by
      rw [List.nodup_iff_pairwise_ne, List.pairwise_map]
      rw [List.nodup_iff_pairwise_ne] at hnd
      refine hnd.imp_of_mem fun {a b} ha hb h e => h ?_
      have e1 := Nat.div_add_mod a (2 ^ x.o)
      have e2 := Nat.div_add_mod b (2 ^ x.o)
      rw [(hel a ha).1] at e1
      rw [(hel b hb).1] at e2
      have e : a / 2 ^ x.o = b / 2 ^ x.o := e
      rw [e] at e1
      omega
    have h4 := M.nodup_len r _ h3 (fun q hq => by
      obtain ⟨a, ha, rfl⟩ := List.mem_map.1 hq
      exact (hel a ha).2)
    rw [List.length_map] at h2 h4
    omega
theorem trF_all (o : Nat) : ∀ (r : Nat) (fr : Nat → List Nat), (∀ i, i < r → i * 2 ^ o ∈ fr o) → (trF o r fr).1 = r
  | 0, _, _ => rfl
  | r + 1, fr, h => by
    rw [trF_yes (h r (Nat.lt_succ_self _))]
    show (trF o r _).1 + 1 = r + 1
    rw [trF_all o r _ (fun i hi => ?_)]
    show i * 2 ^ o ∈ frU fr o _ o
    unfold frU
    rw [if_pos rfl]
    have hz : 0 < 2 ^ o := Nat.pow_pos (by decide)
    refine List.mem_filter.2 ⟨h i (by omega), ?_⟩
    have hne : i * 2 ^ o ≠ r * 2 ^ o := fun e => by
      have := Nat.eq_of_mul_eq_mul_right hz e
      omega
    simpa using hne
/-- Rows that lie beside a pool. -/
structure PE (E : Nat → Prop) (w W : World) (lw : Nat) (x : Bx) (t : Bt) (fr : Nat → List Nat) (ls : List (Nat × Nat)) : Prop where
  po : PO w W lw x t fr ls
  ex : ∀ y, E y → y < W.heap.size ∧ ¬ (bown x y ∨ y = x.b ∨ y = x.l ∨ y = lw)
theorem PE.keep {E w W W' lw x t fr ls} (h : PE E w W lw x t fr ls) (k : Kept none' W W') : PE E w W' lw x t fr ls := ⟨h.po.keep k, fun y e => ⟨Nat.lt_of_lt_of_le (h.ex y e).1 k.size, (h.ex y e).2⟩⟩
theorem PE.re {E E' w W lw x t fr ls} (h : PE E w W lw x t fr ls) (he : ∀ y, E' y → y < W.heap.size ∧ ¬ (bown x y ∨ y = x.b ∨ y = x.l ∨ y = lw)) : PE E' w W lw x t fr ls := ⟨h.po, he⟩
/-- The pool is called: the rows are as they were. -/
theorem PE.call {E w W W' lw x x' t t' fr fr' ls ls'} (h : PE E w W lw x t fr ls) (hp : PO w W' lw x' t' fr' ls') (hs : Sm x x') (k : Kept (bown x) W W') (nb : Nb W x x') : PE E w W' lw x' t' fr' ls' ∧ ∀ y, E y → W'.heap[y]? = W.heap[y]? := by
  refine ⟨⟨hp, fun y e => ⟨Nat.lt_of_lt_of_le (h.ex y e).1 k.size, ?_⟩⟩, fun y e => k.block y (h.ex y e).1 (fun e2 => (h.ex y e).2 (.inl e2))⟩
  obtain ⟨h1, h2⟩ := h.ex y e
  rw [hs.b, hs.l]
  rintro (e2 | e2)
  · rcases nb y e2 with e3 | e3
    · exact h2 (.inl e3)
    · omega
  · exact h2 (.inr e2)
/-- A row beside it is written. -/
theorem PE.set {E w W W' lw x t fr ls} {S : Nat → Prop} (h : PE E w W lw x t fr ls) (k : Kept S W W') (hS : ∀ y, S y → E y) (h0 : ∀ y, S y → w.heap.size ≤ y) : PE E w W' lw x t fr ls := by
  have no : ∀ y, bown x y ∨ y = x.b ∨ y = x.l ∨ y = lw → ¬ S y := fun y hy e => (h.ex y (hS y e)).2 hy
  refine ⟨⟨⟨(k.block _ (heap_lt h.po.pl.box) (no _ (.inr (.inr (.inr rfl))))).trans h.po.pl.box, h.po.pl.bd.kept k (fun y hy => no y (hy.elim .inl (fun e => e.elim (fun e => .inr (.inl e)) (fun e => .inr (.inr (.inl e)))))), h.po.pl.nw, h.po.pl.kp.trans k (fun _ _ e => e) (fun y hy e => absurd (h0 y e) (by omega))⟩, h.po.sf, h.po.st, h.po.bm⟩, fun y e => ⟨Nat.lt_of_lt_of_le (h.ex y e).1 k.size, (h.ex y e).2⟩⟩
end Go.Proofs.YthomkkboeldgnaaGreat
