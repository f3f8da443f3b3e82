import Derived.Test.YtgjapopddblpoaaGreatDoorRgD
import Derived.Test.YtgjapopddblpoaaGreatDoorRj
import Derived.Test.YtgjapopddblpoaaGreatDoorHpK3
import Derived.Test.YtgjapopddblpoaaGreatDoorHpJ2
import Derived.Test.YtgjapopddblpoaaGreatDoorHpM
/- RegionGone: a pool without a live block; rows beside it. -/
namespace Go.Proofs.YtgjapopddblpoaaGreatDoor
open Go.RowKit
set_option linter.unusedVariables false

theorem len_all : ∀ (r : Nat) (l : List Nat), (∀ i, i < r → i ∈ l) → r ≤ l.length
  | 0, _, _ => Nat.zero_le _
  | r + 1, l, h => by
    have h1 := h r (Nat.lt_succ_self _)
    have h2 := len_all r (l.erase r) (fun i hi => (List.mem_erase_of_ne (by omega)).2 (h i (by omega)))
    rw [List.length_erase_of_mem h1] at h2
    have := List.length_pos_of_mem h1
    omega
/-- All is free: each region is one free block. -/
theorem Sf.whole {x t fr} (s0 : Sf x t fr []) {r : Nat} (hr : t.m.n = r * 2 ^ x.o) : (∀ i, i < r → i * 2 ^ x.o ∈ fr x.o) ∧ (∀ k, k < x.o → fr k = []) ∧ (fr x.o).length = r := by
  have hnd := s0.nd (Nat.le_refl x.o)
  obtain ⟨B, s, hN, hL⟩ := s0
  have hz : 0 < 2 ^ x.o := Nat.pow_pos (by decide)
  have h1 : ∀ i, i < r → i * 2 ^ x.o ∈ fr x.o := fun i hi => by
    have h2 : i * 2 ^ x.o + 2 ^ x.o ≤ t.m.n := by
      rw [hr, ← Nat.succ_mul]
      exact Nat.mul_le_mul_right _ hi
    obtain ⟨q, j, h0, hb, h3, h4⟩ := s.stretch hN (Nat.le_refl _) (Nat.mul_mod_left _ _) h2 (fun p j h => by
      have := (hL p j).1 h
      cases this)
    obtain ⟨hj, hq⟩ := (s.fi q j).1 hb
    obtain ⟨a1, a2, a3⟩ := s.al _ _ _ hb
    obtain rfl : j = x.o := by omega
    have e : q = i * 2 ^ x.o := by omega
    rw [← e]
    exact hq
  refine ⟨h1, fun k hk => ?_, ?_⟩
  · cases hf : fr k with
    | nil => rfl
    | cons p l =>
      exfalso
      have hp : p ∈ fr k := by rw [hf]; exact List.mem_cons_self
      have hb := (s.fi p k).2 ⟨Nat.le_of_lt hk, hp⟩
      obtain ⟨a1, a2, a3⟩ := s.al _ _ _ hb
      have hzk : 0 < 2 ^ k := Nat.pow_pos (by decide)
      have hpn : p < r * 2 ^ x.o := by omega
      have hi : p / 2 ^ x.o < r := Nat.div_lt_of_lt_mul (by rw [Nat.mul_comm]; exact hpn)
      have h2 := (s.fi _ x.o).2 ⟨Nat.le_refl _, h1 _ hi⟩
      have h3 := Nat.div_add_mod p (2 ^ x.o)
      have h4 := Nat.mod_lt p hz
      rw [Nat.mul_comm] at h3
      rcases s.ds _ _ _ _ _ _ hb h2 with ⟨_, _, e⟩ | e | e <;> omega
  · have h2 := len_all r ((fr x.o).map (· / 2 ^ x.o)) (fun i hi => List.mem_map.2 ⟨_, h1 i hi, Nat.mul_div_cancel _ hz⟩)
    have hel : ∀ q ∈ fr x.o, q % 2 ^ x.o = 0 ∧ q / 2 ^ x.o < r := fun q hq => by
      obtain ⟨a1, a2, a3⟩ := s.al _ _ _ ((s.fi q x.o).2 ⟨Nat.le_refl _, hq⟩)
      exact ⟨a2, Nat.div_lt_of_lt_mul (by rw [Nat.mul_comm]; omega)⟩
    have h3 : ((fr x.o).map (· / 2 ^ x.o)).Nodup := by
      rw [List.nodup_iff_pairwise_ne, List.pairwise_map]
      rw [List.nodup_iff_pairwise_ne] at hnd
      refine hnd.imp_of_mem fun {a b} ha hb h e => h ?_
      have e1 := Nat.div_add_mod a (2 ^ x.o)
      have e2 := Nat.div_add_mod b (2 ^ x.o)
      rw [(hel a ha).1] at e1
      rw [(hel b hb).1] at e2
      have e : a / 2 ^ x.o = b / 2 ^ x.o := e
      rw [e] at e1
      omega
    have h4 := M.nodup_len r _ h3 (fun q hq => by
      obtain ⟨a, ha, rfl⟩ := List.mem_map.1 hq
      exact (hel a ha).2)
    rw [List.length_map] at h2 h4
    omega
theorem trF_all (o : Nat) : ∀ (r : Nat) (fr : Nat → List Nat), (∀ i, i < r → i * 2 ^ o ∈ fr o) → (trF o r fr).1 = r
  | 0, _, _ => rfl
  | r + 1, fr, h => by
    rw [trF_yes (h r (Nat.lt_succ_self _))]
    show (trF o r _).1 + 1 = r + 1
    rw [trF_all o r _ (fun i hi => ?_)]
    show i * 2 ^ o ∈ frU fr o _ o
    unfold frU
    rw [if_pos rfl]
    have hz : 0 < 2 ^ o := Nat.pow_pos (by decide)
    refine List.mem_filter.2 ⟨h i (by omega), ?_⟩
    have hne : i * 2 ^ o ≠ r * 2 ^ o := fun e => by
      have := Nat.eq_of_mul_eq_mul_right hz e
      omega
    simpa using hne
/-- Rows that lie beside a pool. -/
structure PE (E : Nat → Prop) (w W : World) (lw : Nat) (x : Bx) (t : Bt) (fr : Nat → List Nat) (ls : List (Nat × Nat)) : Prop where
  po : PO w W lw x t fr ls
  ex : ∀ y, E y → y < W.heap.size ∧ ¬ (bown x y ∨ y = x.b ∨ y = x.l ∨ y = lw)
theorem PE.keep {E w W W' lw x t fr ls} (h : PE E w W lw x t fr ls) (k : Kept none' W W') : PE E w W' lw x t fr ls := ⟨h.po.keep k, fun y e => ⟨Nat.lt_of_lt_of_le (h.ex y e).1 k.size, (h.ex y e).2⟩⟩
theorem PE.re {E E' w W lw x t fr ls} (h : PE E w W lw x t fr ls) (he : ∀ y, E' y → y < W.heap.size ∧ ¬ (bown x y ∨ y = x.b ∨ y = x.l ∨ y = lw)) : PE E' w W lw x t fr ls := ⟨h.po, he⟩
/-- The pool is called: the rows are as they were. -/
theorem PE.call {E w W W' lw x x' t t' fr fr' ls ls'} (h : PE E w W lw x t fr ls) (hp : PO w W' lw x' t' fr' ls') (hs : Sm x x') (k : Kept (bown x) W W') (nb : Nb W x x') : PE E w W' lw x' t' fr' ls' ∧ ∀ y, E y → W'.heap[y]? = W.heap[y]? := by
  refine ⟨⟨hp, fun y e => ⟨Nat.lt_of_lt_of_le (h.ex y e).1 k.size, ?_⟩⟩, fun y e => k.block y (h.ex y e).1 (fun e2 => (h.ex y e).2 (.inl e2))⟩
  obtain ⟨h1, h2⟩ := h.ex y e
  rw [hs.b, hs.l]
  rintro (e2 | e2)
  · rcases nb y e2 with e3 | e3
    · exact h2 (.inl e3)
    · omega
  · exact h2 (.inr e2)
/-- A row beside it is written. -/
theorem PE.set {E w W W' lw x t fr ls} {S : Nat → Prop} (h : PE E w W lw x t fr ls) (k : Kept S W W') (hS : ∀ y, S y → E y) (h0 : ∀ y, S y → w.heap.size ≤ y) : PE E w W' lw x t fr ls := by
  have no : ∀ y, bown x y ∨ y = x.b ∨ y = x.l ∨ y = lw → ¬ S y := fun y hy e => (h.ex y (hS y e)).2 hy
  refine ⟨⟨⟨(k.block _ (heap_lt h.po.pl.box) (no _ (.inr (.inr (.inr rfl))))).trans h.po.pl.box, h.po.pl.bd.kept k (fun y hy => no y (hy.elim .inl (fun e => e.elim (fun e => .inr (.inl e)) (fun e => .inr (.inr (.inl e)))))), h.po.pl.nw, h.po.pl.kp.trans k (fun _ _ e => e) (fun y hy e => absurd (h0 y e) (by omega))⟩, h.po.sf, h.po.st, h.po.bm⟩, fun y e => ⟨Nat.lt_of_lt_of_le (h.ex y e).1 k.size, (h.ex y e).2⟩⟩
end Go.Proofs.YtgjapopddblpoaaGreatDoor
/- HeapEmpty: what Live tells; a heap without a live block. -/
namespace Go.Proofs.YtgjapopddblpoaaGreatDoor
open Go.RowKit
open Go.MuLone
set_option linter.unusedVariables false

theorem mem_ceL {x : Bx} {S : Sb} {g k : Nat} {a z : Nat} : ∀ j, (a, z) ∈ ceL x S g k j ↔ ∃ i, i < j ∧ i ∉ S.fl g ∧ a = caN x g k i ∧ z = szC k
  | 0 => by
    unfold ceL
    simp
  | j + 1 => by
    have ih := mem_ceL (x := x) (S := S) (g := g) (k := k) (a := a) (z := z) j
    unfold ceL
    split
    · rename_i hf
      rw [ih]
      constructor
      · rintro ⟨i, h1, h2⟩
        exact ⟨i, by omega, h2⟩
      · rintro ⟨i, h1, h2, h3⟩
        refine ⟨i, ?_, h2, h3⟩
        rcases Nat.lt_or_ge i j with h | h
        · exact h
        · obtain rfl : i = j := by omega
          exact absurd hf h2
    · rename_i hf
      rw [List.mem_append, ih, List.mem_singleton]
      constructor
      · rintro (⟨i, h1, h2⟩ | e)
        · exact ⟨i, by omega, h2⟩
        · injection e with e1 e2
          exact ⟨j, Nat.lt_succ_self _, hf, e1, e2⟩
      · rintro ⟨i, h1, h2, h3, h4⟩
        rcases Nat.lt_or_ge i j with h | h
        · exact .inl ⟨i, h, h2, h3, h4⟩
        · obtain rfl : i = j := by omega
          exact .inr (by rw [h3, h4])
theorem mem_lvL {x : Bx} {t : Bt} {S : Sb} {b : Nat × Nat} : ∀ i, b ∈ lvL x t S i ↔ ∃ g, g < i ∧ b ∈ pgL x t S g
  | 0 => by
    unfold lvL
    simp
  | i + 1 => by
    have ih := mem_lvL (x := x) (t := t) (S := S) (b := b) i
    unfold lvL
    rw [List.mem_append, ih]
    constructor
    · rintro (⟨g, h1, h2⟩ | h)
      · exact ⟨g, by omega, h2⟩
      · exact ⟨i, Nat.lt_succ_self _, h⟩
    · rintro ⟨g, h1, h2⟩
      rcases Nat.lt_or_ge g i with h | h
      · exact .inl ⟨g, h, h2⟩
      · obtain rfl : g = i := by omega
        exact .inr h2
theorem ceL_rise {x : Bx} {S : Sb} {g k : Nat} (hk : k < 8) : ∀ j, (ceL x S g k j).Pairwise (fun b c => b.1 < c.1)
  | 0 => List.Pairwise.nil
  | j + 1 => by
    have ih := ceL_rise (x := x) (S := S) (g := g) hk j
    unfold ceL
    split
    · exact ih
    · rw [List.pairwise_append]
      refine ⟨ih, List.pairwise_singleton _ _, fun b hb c hc => ?_⟩
      rw [List.mem_singleton] at hc
      subst hc
      obtain ⟨a, z⟩ := b
      obtain ⟨i, h1, _, h3, _⟩ := (mem_ceL j).1 hb
      show a < caN x g k j
      rw [h3]
      unfold caN
      have hz := (szC_le hk).1
      have : (i + 1) * szC k ≤ j * szC k := Nat.mul_le_mul_right _ h1
      rw [Nat.add_mul, Nat.one_mul] at this
      omega
section
variable {w W W' : World} {hb sb lw : Nat} {x : Bx} {t : Bt} {fr : Nat → List Nat} {ls : List (Nat × Nat)} {S : Sb} {s : Int}
theorem HW.pg_in (H : HW w W hb sb lw x t fr ls S s) {g : Nat} (hg : g < t.m.n) {a z : Nat} (h : (a, z) ∈ pgL x t S g) : Lth x ls S a z ∧ x.base + 4096 * g ≤ a ∧ a < x.base + 4096 * (g + 1) := by
  obtain ⟨hh, o⟩ := H.so
  cases H.lk hg with
  | none hq h1 => rw [h1] at h; cases h
  | head k hk hq ho h1 =>
    rw [h1, List.mem_singleton] at h
    injection h with e1 e2
    subst e1 e2
    refine ⟨?_, Nat.le_refl _, by omega⟩
    cases o.kind hg with
    | slab k' hc =>
      obtain ⟨_, sp⟩ := o.si.pg g k' hc
      rw [sp.kd] at hq
      exact absurd hq (by decide)
    | big q k' hm hc hgn a1 a2 hp =>
      have : g = q := by
        refine Decidable.byContradiction fun e => ?_
        rw [if_neg e] at hp
        rw [hp] at hq
        exact absurd hq (by show ¬ (3 : Int) = 2; decide)
      subst this
      rw [hp] at ho
      have : (k' : Int) = (k : Int) := ho
      obtain rfl : k' = k := by omega
      exact .inr ⟨g, k', hm, hgn, rfl, rfl⟩
    | free q j hm hj hgn a1 a2 hp =>
      rw [hp] at hq
      have : (if g = q then (0 : Int) else 1) = 2 := hq
      split at this <;> exact absurd this (by decide)
  | slab k hq hc hl h1 =>
    rw [h1] at h
    obtain ⟨i, i1, i2, i3, i4⟩ := (mem_ceL _).1 h
    have hk := (o.si.pg g k hc).1
    have hme := o.mem hc
    have n4 := o.po.nums.2.2.2.1
    have hof := off_cell (x := x) (p := g) hk i1 (by omega)
    have hz := (szC_le hk).1
    have e : caN x g k i = x.base + 4096 * g + i * szC k := rfl
    exact ⟨.inl ⟨g, k, i, ⟨hc, i1, i2, i3⟩, i4⟩, by omega, by omega⟩
theorem HW.live_iff (H : HW w W hb sb lw x t fr ls S s) {a z : Nat} : (a, z) ∈ lvL x t S t.m.n ↔ Lth x ls S a z := by
  rw [mem_lvL]
  constructor
  · rintro ⟨g, hg, h⟩
    exact (H.pg_in hg h).1
  · obtain ⟨hh, o⟩ := H.so
    rintro (⟨g, k, i, ⟨hc, i1, i2, i3⟩, i4⟩ | ⟨q, k, hm, hc, ha, hz⟩)
    · refine ⟨g, (o.mem hc).2.1, ?_⟩
      unfold pgL
      rw [hc]
      exact (mem_ceL _).2 ⟨i, i1, i2, i3, i4⟩
    · obtain ⟨a1, a2, a3⟩ := o.al hm
      have hz0 : 0 < 2 ^ k := Nat.pow_pos (by decide)
      have hq : q < t.m.n := by omega
      refine ⟨q, hq, ?_⟩
      cases o.kind hq with
      | slab k' hc' => rw [hc] at hc'; cases hc'
      | big q' k' hm' hc' hgn b1 b2 hp =>
        rcases o.apart hm hm' with ⟨e1, e2⟩ | e | e
        · subst e1 e2
          unfold pgL
          rw [hc, hp, if_pos rfl]
          show (a, z) ∈ [(x.base + 4096 * q, 4096 * 2 ^ (k : Int).toNat)]
          rw [List.mem_singleton, ha, hz, Int.toNat_natCast]
          rfl
        · omega
        · omega
      | free q' j hm' hj hgn b1 b2 hp =>
        exfalso
        have hd := o.sf
        obtain ⟨B, s', hN, hL⟩ := hd
        have hb1 := (s'.fi q' j).2 ⟨hj, hm'⟩
        have hb2 := (hL q k).2 hm
        rcases s'.ds _ _ _ _ _ _ hb1 hb2 with ⟨e, _⟩ | e | e
        · cases e
        · omega
        · omega
theorem HW.rise (H : HW w W hb sb lw x t fr ls S s) : ∀ i, i ≤ t.m.n → (lvL x t S i).Pairwise (fun b c => b.1 < c.1)
  | 0, _ => List.Pairwise.nil
  | i + 1, hi => by
    have ih := H.rise i (by omega)
    unfold lvL
    rw [List.pairwise_append]
    refine ⟨ih, ?_, fun b hb c hc => ?_⟩
    · cases H.lk (i := i) (by omega) with
      | none hq h1 => rw [h1]; exact List.Pairwise.nil
      | head k hk hq ho h1 => rw [h1]; exact List.pairwise_singleton _ _
      | slab k hq hc hl h1 =>
        obtain ⟨hh, o⟩ := H.so
        rw [h1]
        exact ceL_rise (o.si.pg i k hc).1 _
    · obtain ⟨g, hg, hbg⟩ := (mem_lvL _).1 hb
      obtain ⟨a, z⟩ := b
      obtain ⟨a', z'⟩ := c
      have h1 := (H.pg_in (by omega) hbg).2.2
      have h2 := (H.pg_in (by omega) hc).2.1
      show a < a'
      omega
/-- No live block. -/
theorem HW.gone (H : HW w W hb sb lw x t fr ls S s) (h0 : ∀ a c, ¬ Lth x ls S a c) : ls = [] ∧ ∀ g, S.c g = none := by
  have hc : ∀ g, S.c g = none := fun g => by
    cases e : S.c g with
    | none => rfl
    | some k =>
      obtain ⟨i, i1, i2⟩ := pigeon (ncl k) (S.fl g) (H.lv g k e)
      exact absurd (.inl ⟨g, k, i, ⟨e, i1, i2, rfl⟩, rfl⟩) (h0 (caN x g k i) (szC k))
  refine ⟨?_, hc⟩
  cases hl : ls with
  | nil => rfl
  | cons b l =>
    obtain ⟨q, k⟩ := b
    exact absurd (.inr ⟨q, k, by rw [hl]; exact List.mem_cons_self, hc q, rfl, rfl⟩) (h0 (ad x q) (4096 * 2 ^ k))
theorem HW.gone_st (H : HW w W hb sb lw x t fr ls S s) (h0 : ∀ a c, ¬ Lth x ls S a c) : ∀ i, i ≤ t.m.n → stS plL t.m i = 0 ∧ stS plB t.m i = 0 ∧ stS plF t.m i = i
  | 0, _ => ⟨rfl, rfl, rfl⟩
  | i + 1, hi => by
    obtain ⟨h1, h2, h3⟩ := H.gone_st h0 i (by omega)
    obtain ⟨hls, hcn⟩ := H.gone h0
    obtain ⟨hh, o⟩ := H.so
    have key : plL (t.m.pg i) = 0 ∧ plB (t.m.pg i) = 0 ∧ plF (t.m.pg i) = 1 := by
      cases o.kind (g := i) (by omega) with
      | slab k hc => rw [hcn] at hc; cases hc
      | big q k hm hc hgn a1 a2 hp => rw [hls] at hm; cases hm
      | free q j hm hj hgn a1 a2 hp =>
        rw [hp]
        by_cases e : i = q
        · rw [if_pos e]; exact ⟨rfl, rfl, rfl⟩
        · rw [if_neg e]; exact ⟨rfl, rfl, rfl⟩
    unfold stS
    omega
/-- Each region is one free block. -/
theorem HW.gone_fr (H : HW w W hb sb lw x t fr ls S s) (h0 : ∀ a c, ¬ Lth x ls S a c) {r : Nat} (hr : t.m.n = r * 2 ^ x.o) : (∀ i, i < r → i * 2 ^ x.o ∈ fr x.o) ∧ (trF x.o r fr).1 = r ∧ (r = 0 → ∀ k, k ≤ x.o → fr k = []) := by
  obtain ⟨hls, hcn⟩ := H.gone h0
  obtain ⟨hh, o⟩ := H.so
  have hsf := o.sf
  rw [hls] at hsf
  obtain ⟨h1, h2, h3⟩ := Sf.whole hsf hr
  refine ⟨h1, trF_all x.o r fr h1, fun e k hk => ?_⟩
  rcases Nat.lt_or_ge k x.o with h | h
  · exact h2 k h
  · obtain rfl : k = x.o := by omega
    exact List.eq_nil_of_length_eq_zero (by rw [h3, e])
end
end Go.Proofs.YtgjapopddblpoaaGreatDoor
/- HeapKnown: a heap of {65536, 2, 1}, call by call. -/
namespace Go.Proofs.YtgjapopddblpoaaGreatDoor
open Go.RowKit
set_option linter.unusedVariables false

/-- A heap of {65536, 2, 1}: its bytes, its lists, its live blocks, its cells; v: byte 8 is 5. -/
def KH (w W : World) (hb n : Nat) (f0 f1 : List Nat) (ls : List (Nat × Nat)) (S : Sb) (v : Bool) : Prop := ∃ sb lw x t fr, HW w W hb sb lw x t fr ls S 0 ∧ x.base = 65536 ∧ x.lim = 2 ∧ x.o = 1 ∧ x.R = 8192 ∧ x.n = n ∧ fr 0 = f0 ∧ fr 1 = f1 ∧ (v = true → t.f 8 = 5)
abbrev tE (p e : Int) : Ending := .returned (.tuple #[.int .u64 p, .int .i64 e])
theorem cl_pow {m k : Nat} (h1 : m ≤ 2 ^ k) (h2 : k = 0 ∨ 2 ^ (k - 1) < m) : cl m = k := by
  have a := (cl_spec m k).1 h1
  rcases h2 with rfl | h2
  · omega
  · rcases Nat.lt_or_ge (cl m) k with e | e
    · have b := (cl_spec m (k - 1)).2 (by omega)
      omega
    · omega
section
variable {w W W' : World} {hb n : Nat} {f0 f1 : List Nat} {ls : List (Nat × Nat)} {S : Sb} {v : Bool}
theorem KH.keep (s : KH w W hb n f0 f1 ls S v) (k : Kept none' W W') : KH w W' hb n f0 f1 ls S v := by
  obtain ⟨sb, lw, x, t, fr, H, r⟩ := s
  exact ⟨sb, lw, x, t, fr, H.keep k, r⟩
theorem KH.kp (s : KH w W hb n f0 f1 ls S v) : Kept none' w W := by
  obtain ⟨sb, lw, x, t, fr, H, r⟩ := s
  exact H.po.pl.kp
theorem lists1 {fr : Nat → List Nat} (h0 : fr 0 = []) (h1 : fr 1 = []) (k : Nat) : ∀ a, k ≤ a → a ≤ 1 → fr a = [] := fun a _ ha => by
  rcases (show a = 0 ∨ a = 1 by omega) with rfl | rfl
  · exact h0
  · exact h1
/-- A request too great. -/
theorem KH.big (s : KH w W hb n f0 f1 ls S v) (sz : Nat) (hs : sz < 18446744073709551616) (d : Bool) (h : 8192 < sz) :
    Calls Tryz.prog 10 #[.pointer (some ⟨hb, 0, none⟩), .int .u64 (sz : Int), .bool d] W fun e w' => e = tE 0 3 ∧ KH w w' hb n f0 f1 ls S v := by
  have s0 := s
  obtain ⟨sb, lw, x, t, fr, H, hb0, hl, ho, r⟩ := s
  refine (Malloc_h H sz hs d sz (by omega)).mono ?_
  rintro e w' ⟨p, er, rfl, hR⟩
  cases hR with
  | big h1 hp he kp => subst hp he; exact ⟨rfl, s0.keep kp⟩
  | ok h1 hT =>
    exfalso
    have h2 := of_decide_eq_true h1
    rw [ho] at h2
    have := (cl_spec sz 13).2 (by omega)
    omega
/-- What Malloc of a size that may be does. -/
theorem KH.mal {x : Bx} {t : Bt} {fr : Nat → List Nat} {sb lw : Nat} (H : HW w W hb sb lw x t fr ls S 0) (ho : x.o = 1) (sz : Nat) (hs : sz ≤ 8192) (d : Bool) (c : Nat) (hc : max sz 16 ≤ 2 ^ c) (hc2 : 2 ^ (c - 1) < max sz 16) :
    Calls Tryz.prog 10 #[.pointer (some ⟨hb, 0, none⟩), .int .u64 (sz : Int), .bool d] W fun e w' => ∃ p er, e = .returned (.tuple #[.int .u64 ((p : Nat) : Int), .int .i64 er]) ∧ Tq w W hb sb lw x t fr ls S 0 (2 ^ c) d p er w' := by
  have hcl : cl (max sz 16) = c := cl_pow hc (.inr hc2)
  refine (Malloc_h H sz (by omega) d _ rfl).mono ?_
  rintro e w' ⟨p, er, rfl, hR⟩
  cases hR with
  | ok h1 hT => rw [hcl] at hT; exact ⟨p, er, rfl, hT⟩
  | big h1 hp he kp =>
    exfalso
    have h2 := of_decide_eq_false h1
    rw [ho] at h2
    have := (cl_spec (max sz 16) 13).1 (by omega)
    omega
/-- No place. -/
theorem KH.mal_stuck (s : KH w W hb n [] [] ls S v) (sz : Nat) (hs : sz ≤ 8192) (d : Bool) (c : Nat) (hc : max sz 16 ≤ 2 ^ c) (hc2 : 2 ^ (c - 1) < max sz 16) (hd : d = true ∨ n = 16384) (hk : (∃ k, k < 8 ∧ 2 ^ c = szC k ∧ S.pl k = []) ∨ (∃ k, k ≤ 1 ∧ 2 ^ c = 4096 * 2 ^ k)) :
    Calls Tryz.prog 10 #[.pointer (some ⟨hb, 0, none⟩), .int .u64 (sz : Int), .bool d] W fun e w' => e = tE 0 2 ∧ KH w w' hb n [] [] ls S v := by
  have s0 := s
  obtain ⟨sb, lw, x, t, fr, H, hb0, hl, ho, hR, hn, h0, h1, hv⟩ := s
  refine (KH.mal H ho sz hs d c hc hc2).mono ?_
  rintro e w' ⟨p, er, rfl, hT⟩
  have hnf : NF x fr S (2 ^ c) := by
    rcases hk with ⟨k, k1, k2, k3⟩ | ⟨k, k1, k2⟩
    · exact .inl ⟨k, k1, k2, k3, fun a ha => lists1 h0 h1 0 a (Nat.zero_le _) (by omega)⟩
    · exact .inr ⟨k, by omega, k2, fun a h2 ha => lists1 h0 h1 k a h2 (by omega)⟩
  cases hT with
  | no hp he nf hd2 kp => subst hp he; exact ⟨rfl, s0.keep kp⟩
  | yes x' t' fr' ls' S' b he td nx hL hN hn2 hm hb1 hb2 =>
    exfalso
    cases b with
    | false => exact hb2 rfl hnf
    | true =>
      obtain ⟨_, e1, e2⟩ := hb1 rfl
      rcases hd with hd | hd
      · rw [hd] at e1; cases e1
      · rw [hn, hR, hl, hd] at e2
        omega
theorem KH.nx {x x' : Bx} {t t' : Bt} {fr' : Nat → List Nat} {sb lw : Nat} {ls' : List (Nat × Nat)} {S' : Sb} {n' : Nat} {f0' f1' : List Nat} (hb0 : x.base = 65536) (hl : x.lim = 2) (ho : x.o = 1) (hR : x.R = 8192) (nx : Nx w W W' hb sb lw x t ls S 0 x' t' fr' ls' S') (hn : x'.n = n') (h0 : fr' 0 = f0') (h1 : fr' 1 = f1') : KH w W' hb n' f0' f1' ls' S' false :=
  ⟨sb, lw, x', t', fr', nx.H, nx.ch.base.trans hb0, nx.ch.lim.trans hl, nx.ch.o.trans ho, nx.ch.R.trans hR, hn, h0, h1, fun e => by cases e⟩
theorem KH.nx5 {x x' : Bx} {t t' : Bt} {fr' : Nat → List Nat} {sb lw : Nat} {ls' : List (Nat × Nat)} {S' : Sb} {n' : Nat} {f0' f1' : List Nat} (hb0 : x.base = 65536) (hl : x.lim = 2) (ho : x.o = 1) (hR : x.R = 8192) (hv : t.f 8 = 5) (nx : Nx w W W' hb sb lw x t ls S 0 x' t' fr' ls' S') (hn : x'.n = n') (h0 : fr' 0 = f0') (h1 : fr' 1 = f1') (hL : Lth x ls S 65536 16) (hL' : Lth x' ls' S' 65536 16) : KH w W' hb n' f0' f1' ls' S' true :=
  ⟨sb, lw, x', t', fr', nx.H, nx.ch.base.trans hb0, nx.ch.lim.trans hl, nx.ch.o.trans ho, nx.ch.R.trans hR, hn, h0, h1, fun _ => (nx.ch.kb 8 ⟨65536, 16, hL, by omega, by omega⟩ ⟨65536, 16, hL', by rw [nx.ch.base]; omega, by rw [nx.ch.base]; omega⟩).trans hv⟩
theorem KH.pages {x : Bx} {t : Bt} {fr : Nat → List Nat} {sb lw : Nat} (H : HW w W hb sb lw x t fr ls S 0) (hn : x.n = n) : t.m.n * 4096 = n := by
  obtain ⟨h', o⟩ := H.so
  rw [← hn]
  exact o.st
/-- A cell of a page that comes with a region. -/
theorem KH.mal_grow (s : KH w W hb n [] [] ls S v) (g : Nat) (hg : g * 4096 = n) (sz : Nat) (hs : sz ≤ 8192) (c : Nat) (hc : max sz 16 ≤ 2 ^ c) (hc2 : 2 ^ (c - 1) < max sz 16) (k : Nat) (hk : k < 8) (hck : 2 ^ c = szC k) (hl : S.pl k = []) (hn : n + 8192 ≤ 16384) :
    Calls Tryz.prog 10 #[.pointer (some ⟨hb, 0, none⟩), .int .u64 (sz : Int), .bool false] W fun e w' => e = tE ((65536 + 4096 * g : Nat) : Int) 0 ∧ KH w w' hb (n + 8192) [g + 1] [] (ls ++ [(g, 0)]) (takS (freS S g k) g k (List.range' 1 (ncl k - 1))) false := by
  obtain ⟨sb, lw, x, t, fr, H, hb0, hli, ho, hR, hxn, h0, h1, hv⟩ := s
  have hpg := KH.pages H hxn
  refine (KH.mal H ho sz hs false c hc hc2).mono ?_
  rintro e w' ⟨p, er, rfl, hT⟩
  rw [hck] at hT
  have hz : ∀ a, a ≤ x.o → fr a = [] := fun a ha => lists1 h0 h1 0 a (Nat.zero_le _) (by omega)
  cases hT with
  | no hp he nf hd2 kp =>
    exfalso
    rcases hd2 with e | e
    · cases e
    · rw [hxn, hli, hR] at e
      omega
  | yes x' t' fr' ls' S' b he td nx hL hN hn2 hm hb1 hb2 =>
    subst he
    cases td with
    | old k2 g2 i l rr hk2 hr hl2 =>
      obtain rfl := szC_inj8 hr
      rw [hl] at hl2
      cases hl2
    | here k2 g2 j l hk2 hr => exact absurd hr (szC_pg hk)
    | grew k2 hk2 hr => exact absurd hr (szC_pg hk)
    | new k2 g2 hk2 hr hl2 hp nd e2 e3 =>
      obtain rfl := szC_inj8 hr
      cases nd with
      | here j l hj hz2 hp2 => rw [hz j hj] at hp2; cases hp2
      | grew hz2 hd2 hle hbt hp2 hfr =>
        obtain rfl : g2 = g := by omega
        subst hbt e2 e3
        rw [if_pos rfl] at hn2
        refine ⟨?_, KH.nx hb0 hli ho hR nx (by rw [hn2, hxn, hR]) ?_ ?_⟩
        · rw [hp]
          unfold caN
          rw [hb0, Nat.zero_mul, Nat.add_zero]
        · rw [hfr, ← hp2, ho]
          unfold cutF
          rw [if_pos (by omega), h0]
        · rw [hfr, ho]
          unfold cutF
          rw [if_neg (by omega), h1]
/-- A cell of a page that lies free. -/
theorem KH.mal_here {g : Nat} {l : List Nat} (s : KH w W hb n (g :: l) f1 ls S v) (sz : Nat) (hs : sz ≤ 8192) (d : Bool) (c : Nat) (hc : max sz 16 ≤ 2 ^ c) (hc2 : 2 ^ (c - 1) < max sz 16) (k : Nat) (hk : k < 8) (hck : 2 ^ c = szC k) (hl : S.pl k = []) :
    Calls Tryz.prog 10 #[.pointer (some ⟨hb, 0, none⟩), .int .u64 (sz : Int), .bool d] W fun e w' => e = tE ((65536 + 4096 * g : Nat) : Int) 0 ∧ KH w w' hb n (M.dropL (g :: l) g) f1 (ls ++ [(g, 0)]) (takS (freS S g k) g k (List.range' 1 (ncl k - 1))) false := by
  obtain ⟨sb, lw, x, t, fr, H, hb0, hli, ho, hR, hxn, h0, h1, hv⟩ := s
  refine (KH.mal H ho sz hs d c hc hc2).mono ?_
  rintro e w' ⟨p, er, rfl, hT⟩
  rw [hck] at hT
  have hnf : ¬ NF x fr S (szC k) := fun e => by
    have := ((NF.cell hk).1 e).2 0 (Nat.zero_le _)
    rw [h0] at this
    cases this
  cases hT with
  | no hp he nf hd2 kp => exact absurd nf hnf
  | yes x' t' fr' ls' S' b he td nx hL hN hn2 hm hb1 hb2 =>
    subst he
    cases td with
    | old k2 g2 i l2 rr hk2 hr hl2 =>
      obtain rfl := szC_inj8 hr
      rw [hl] at hl2
      cases hl2
    | here k2 g2 j l hk2 hr => exact absurd hr (szC_pg hk)
    | grew k2 hk2 hr => exact absurd hr (szC_pg hk)
    | new k2 g2 hk2 hr hl2 hp nd e2 e3 =>
      obtain rfl := szC_inj8 hr
      cases nd with
      | grew hz2 hd2 hle hbt hp2 hfr =>
        have := hz2 0 (Nat.zero_le _)
        rw [h0] at this
        cases this
      | here j l2 hj hz2 hp2 hbt hfr =>
        have hj0 : j = 0 := by
          rcases Nat.eq_zero_or_pos j with e | e
          · exact e
          · have := hz2 0 e
            rw [h0] at this
            cases this
        subst hj0 hbt e2 e3
        rw [h0] at hp2
        injection hp2 with hp2 hp3
        subst hp2
        rw [if_neg (by decide)] at hn2
        refine ⟨?_, KH.nx hb0 hli ho hR nx (hn2.trans hxn) ?_ ?_⟩
        · rw [hp]
          unfold caN
          rw [hb0, Nat.zero_mul, Nat.add_zero]
        · rw [hfr]
          unfold cutF frU
          rw [if_neg (by omega), if_pos rfl, h0]
        · rw [hfr]
          unfold cutF frU
          rw [if_neg (by omega), if_neg (by decide)]
          exact h1
theorem KH.tq_old {x : Bx} {t : Bt} {fr : Nat → List Nat} {sb lw k g i : Nat} {l rr : List Nat} {d : Bool} {p : Nat} {er : Int} (hk : k < 8) (hl : S.pl k = g :: l) (hf : S.fl g = i :: rr) (hT : Tq w W hb sb lw x t fr ls S 0 (szC k) d p er W') : er = 0 ∧ p = caN x g k i ∧ ∃ x' t', Nx w W W' hb sb lw x t ls S 0 x' t' fr ls (takS S g k rr) ∧ x'.n = x.n := by
  cases hT with
  | no hp he nf hd2 kp =>
    have := ((NF.cell hk).1 nf).1
    rw [hl] at this
    cases this
  | yes x' t' fr' ls' S' b he td nx hL hN hn2 hm hb1 hb2 =>
    cases td with
    | here k2 g2 j l hk2 hr => exact absurd hr (szC_pg hk)
    | grew k2 hk2 hr => exact absurd hr (szC_pg hk)
    | new k2 g2 hk2 hr hl2 =>
      obtain rfl := szC_inj8 hr
      rw [hl] at hl2
      cases hl2
    | old k2 g2 i2 l2 rr2 hk2 hr hl2 hf2 hp hbt e1 e2 e3 =>
      obtain rfl := szC_inj8 hr
      rw [hl] at hl2
      injection hl2 with a1 a2
      subst a1
      rw [hf] at hf2
      injection hf2 with a3 a4
      subst a3 a4 e1 e2 e3 hbt
      rw [if_neg (by decide)] at hn2
      exact ⟨he, hp, x', t', nx, hn2⟩
/-- A cell that lies free. -/
theorem KH.mal_old (s : KH w W hb n f0 f1 ls S v) (sz : Nat) (hs : sz ≤ 8192) (d : Bool) (c : Nat) (hc : max sz 16 ≤ 2 ^ c) (hc2 : 2 ^ (c - 1) < max sz 16) (k : Nat) (hk : k < 8) (hck : 2 ^ c = szC k) {g i : Nat} {l rr : List Nat} (hl : S.pl k = g :: l) (hf : S.fl g = i :: rr) :
    Calls Tryz.prog 10 #[.pointer (some ⟨hb, 0, none⟩), .int .u64 (sz : Int), .bool d] W fun e w' => e = tE ((65536 + 4096 * g + i * szC k : Nat) : Int) 0 ∧ KH w w' hb n f0 f1 ls (takS S g k rr) false := by
  obtain ⟨sb, lw, x, t, fr, H, hb0, hli, ho, hR, hxn, h0, h1, hv⟩ := s
  refine (KH.mal H ho sz hs d c hc hc2).mono ?_
  rintro e w' ⟨p, er, rfl, hT⟩
  rw [hck] at hT
  obtain ⟨he, hp, x', t', nx, hn2⟩ := KH.tq_old hk hl hf hT
  subst he
  refine ⟨?_, KH.nx hb0 hli ho hR nx (hn2.trans hxn) h0 h1⟩
  rw [hp]
  unfold caN
  rw [hb0]
/-- Two pages that come with a region. -/
theorem KH.pg_grow (s : KH w W hb n f0 [] ls S v) (g : Nat) (hg : g * 4096 = n) (sz : Nat) (h1s : 4096 < sz) (hs : sz ≤ 8192) (hn : n + 8192 ≤ 16384) :
    Calls Tryz.prog 10 #[.pointer (some ⟨hb, 0, none⟩), .int .u64 (sz : Int), .bool false] W fun e w' => e = tE ((65536 + 4096 * g : Nat) : Int) 0 ∧ KH w w' hb (n + 8192) f0 [] (ls ++ [(g, 1)]) S false := by
  obtain ⟨sb, lw, x, t, fr, H, hb0, hli, ho, hR, hxn, h0, h1, hv⟩ := s
  have hpg := KH.pages H hxn
  refine (KH.mal H ho sz hs false 13 (by omega) (by omega)).mono ?_
  rintro e w' ⟨p, er, rfl, hT⟩
  rw [show (2 : Nat) ^ 13 = 4096 * 2 ^ 1 from rfl] at hT
  cases hT with
  | no hp he nf hd2 kp =>
    exfalso
    rcases hd2 with e | e
    · cases e
    · rw [hxn, hli, hR] at e
      omega
  | yes x' t' fr' ls' S' b he td nx hL hN hn2 hm hb1 hb2 =>
    subst he
    cases td with
    | old k2 g2 i l rr hk2 hr hl2 => exact absurd hr.symm (szC_pg hk2)
    | new k2 g2 hk2 hr => exact absurd hr.symm (szC_pg hk2)
    | here k2 g2 j l hk2 hr hkj hj hz hl =>
      obtain rfl := pg_inj8 hr
      obtain rfl : j = 1 := by omega
      rw [h1] at hl
      cases hl
    | grew k2 hk2 hr hz hp hbt e1 e2 e3 =>
      obtain rfl := pg_inj8 hr
      obtain rfl : t.m.n = g := by omega
      subst hbt e1 e2 e3
      rw [if_pos rfl] at hn2
      refine ⟨?_, KH.nx hb0 hli ho hR nx (by rw [hn2, hxn, hR]) ?_ ?_⟩
      · rw [hp]
        unfold ad
        rw [hb0]
      · rw [ho]
        unfold cutF
        rw [if_neg (by omega), h0]
      · rw [ho]
        unfold cutF
        rw [if_neg (by omega), h1]
/-- A page that lies free. -/
theorem KH.pg_here {g : Nat} {l : List Nat} (s : KH w W hb n (g :: l) f1 ls S v) (sz : Nat) (h1s : 2048 < sz) (hs : sz ≤ 4096) (d : Bool) :
    Calls Tryz.prog 10 #[.pointer (some ⟨hb, 0, none⟩), .int .u64 (sz : Int), .bool d] W fun e w' => e = tE ((65536 + 4096 * g : Nat) : Int) 0 ∧ KH w w' hb n (M.dropL (g :: l) g) f1 (ls ++ [(g, 0)]) S false := by
  obtain ⟨sb, lw, x, t, fr, H, hb0, hli, ho, hR, hxn, h0, h1, hv⟩ := s
  refine (KH.mal H ho sz (by omega) d 12 (by omega) (by omega)).mono ?_
  rintro e w' ⟨p, er, rfl, hT⟩
  rw [show (2 : Nat) ^ 12 = 4096 * 2 ^ 0 from rfl] at hT
  have hnf : ¬ NF x fr S (4096 * 2 ^ 0) := fun e => by
    have := (NF.page (Nat.zero_le _)).1 e 0 (Nat.zero_le _) (Nat.zero_le _)
    rw [h0] at this
    cases this
  cases hT with
  | no hp he nf hd2 kp => exact absurd nf hnf
  | yes x' t' fr' ls' S' b he td nx hL hN hn2 hm hb1 hb2 =>
    subst he
    cases td with
    | old k2 g2 i l rr hk2 hr hl2 => exact absurd hr.symm (szC_pg hk2)
    | new k2 g2 hk2 hr => exact absurd hr.symm (szC_pg hk2)
    | grew k2 hk2 hr hz =>
      obtain rfl := pg_inj8 hr
      have := hz 0 (Nat.zero_le _) (Nat.zero_le _)
      rw [h0] at this
      cases this
    | here k2 g2 j l2 hk2 hr hkj hj hz hl hp hbt e1 e2 e3 =>
      obtain rfl := pg_inj8 hr
      have hj0 : j = 0 := by
        rcases Nat.eq_zero_or_pos j with e | e
        · exact e
        · have := hz 0 (Nat.zero_le _) e
          rw [h0] at this
          cases this
      subst hj0 hbt e1 e2 e3
      rw [h0] at hl
      injection hl with a1 a2
      subst a1
      rw [if_neg (by decide)] at hn2
      refine ⟨?_, KH.nx hb0 hli ho hR nx (hn2.trans hxn) ?_ ?_⟩
      · rw [hp]
        unfold ad
        rw [hb0]
      · unfold cutF frU
        rw [if_neg (by omega), if_pos rfl, h0]
      · unfold cutF frU
        rw [if_neg (by omega), if_neg (by decide)]
        exact h1
end
end Go.Proofs.YtgjapopddblpoaaGreatDoor
/- HeapEmpty: the row of what was told grows; blocks are freed; a heap without a live block. -/
namespace Go.Proofs.YtgjapopddblpoaaGreatDoor
open Go.RowKit
open Go.MuLone
set_option linter.unusedVariables false

theorem push_n8 {w0 W : World} {v : Value} {n : Nat} {xs : List Value} (h : GS w0 W 27 1 v n xs) (y : Int) (hn : n ≤ 5000) :
    ∃ g cap w', (∀ t, (Builtin.append_ #[59, 59] t #[v, .slice (some ⟨W.heap.size, 0, none⟩) 1 1]).run Tryz.prog (W.alloc (.cells #[.int .u64 y] 27)) = .ok (.slice (some ⟨g, 0, none⟩) (n + 1) cap) w') ∧ GS w0 w' 27 1 (.slice (some ⟨g, 0, none⟩) (n + 1) cap) (n + 1) (xs ++ [.int .u64 y]) ∧ w0.heap.size ≤ g ∧ g < w'.heap.size ∧ Kept (fun b => v.ownBlock = some b) W w' ∧ (v.ownBlock = some g ∨ W.heap.size ≤ g) := by
  obtain ⟨i, hi, hzz⟩ := Option.map_eq_some_iff.1 info_w64
  simp only [Prod.mk.injEq] at hzz
  have ka := (Kept.refl none' W).alloc (.cells #[.int .u64 y] 27)
  obtain ⟨g, cap, w', h1, h2, h5, h6, h7⟩ := (h.keep ka).pushM 59 i (.int .u64 0) 8 Tryz.underlying59 hi hzz.1 hzz.2.1 hzz.2.2 rfl (by decide) ⟨W.heap.size, 0, none⟩ 1 1 (by decide) [.int .u64 y] rfl (fun j u hj => cells_new (cs := #[.int .u64 y]) j u hj) (by simp [Value.oneCell']) (by simp only [maxLen]; omega) (by omega)
  obtain ⟨cs, hc⟩ := own_ty h2.own (y := g) (by simp [Value.ownBlock])
  refine ⟨g, cap, w', h1, h2, h5, heap_lt hc, ka.trans h6 (fun _ _ e => e.elim) (fun _ _ e => e), h7.imp (fun e => e) (fun e => Nat.le_trans ka.size e)⟩
/-- A row of numbers beside a heap is written. -/
theorem HW.apart8 {w W W' : World} {hb sb lw : Nat} {x : Bx} {t : Bt} {fr : Nat → List Nat} {ls : List (Nat × Nat)} {S : Sb} {s : Int} (H : HW w W hb sb lw x t fr ls S s) {y0 : Nat} {cs : Array Value} {z : Nat × Nat} (hy : W.heap[y0]? = some (.cells cs 27 z)) (h1 : ¬ sown x sb y0) (k : Kept (fun y => y = y0) W W') (kp : Kept none' w W') : HW w W' hb sb lw x t fr ls S s := by
  obtain ⟨h, o⟩ := H.so
  have hpty : ∀ y, (bown x y ∨ y = x.b ∨ y = x.l ∨ y = lw) → y ≠ y0 := by
    rintro y (hy2 | rfl | rfl | rfl) e
    · exact h1 (.inl (e ▸ hy2))
    · exact absurd (ty_ne' (e ▸ o.sw.pl.bd.bs) hy) (by decide)
    · obtain ⟨cs', hl, _⟩ := o.sw.pl.bd.lr
      exact absurd (ty_ne' (e ▸ hl) hy) (by decide)
    · exact absurd (ty_ne' (e ▸ o.sw.pl.box) hy) (by decide)
  have hsb : sb ≠ y0 := fun e => h1 (.inr e.symm)
  have hhb : hb ≠ y0 := fun e => absurd (ty_ne' (e ▸ H.bx) hy) (by decide)
  refine ⟨⟨h, ⟨⟨⟨(k.block _ (heap_lt o.sw.pl.box) (hpty _ (.inr (.inr (.inr rfl))))).trans o.sw.pl.box, o.sw.pl.bd.kept k (fun y hy2 => hpty y ?_), o.sw.pl.nw, kp⟩, (k.block _ (heap_lt o.sw.bx) hsb).trans o.sw.bx, o.sw.nw, o.sw.tb⟩, o.sf, o.st, o.bm, o.si, o.hd⟩⟩, H.lv, (k.block _ (heap_lt H.bx) hhb).trans H.bx, H.nw, H.br⟩
  rcases hy2 with hy2 | hy2 | hy2
  · exact .inl hy2
  · exact .inr (.inl hy2)
  · exact .inr (.inr (.inl hy2))
section
variable {w1 W W' : World} {hb base lim o R : Nat} {lr : List Nat} {v : Value}
theorem EI.push (p : Nat) (T : EI w1 W hb base lim o R lr v) (hl : lr.length ≤ 5000) : ∃ g cap w', (∀ t, (Builtin.append_ #[59, 59] t #[v, .slice (some ⟨W.heap.size, 0, none⟩) 1 1]).run Tryz.prog (W.alloc (.cells #[.int .u64 (p : Int)] 27)) = .ok (.slice (some ⟨g, 0, none⟩) (lr.length + 1) cap) w') ∧ EI w1 w' hb base lim o R (lr ++ [p]) (.slice (some ⟨g, 0, none⟩) (lr.length + 1) cap) := by
  obtain ⟨⟨sb, lw, x, t, fr, ls, S, H, e1, e2, e3, e4, e6⟩, G⟩ := T
  obtain ⟨g, cap, w', h1, h2, h3, h4, h5, h6⟩ := push_n8 G (p : Int) hl
  have hsz : ∀ y, (bown x y ∨ y = x.b ∨ y = x.l ∨ y = lw) → y < W.heap.size := H.po.pl.lt8
  obtain ⟨h', o'⟩ := H.so
  have hown : ∀ y, sown x sb y → y < W.heap.size := fun y hy => hy.elim (fun e => hsz y (.inl e)) (fun e => by rw [e]; exact heap_lt o'.sw.bx)
  have hH : HW w1 w' hb sb lw x t fr ls S 0 := by
    cases hvb : v.ownBlock with
    | none => exact H.keep ⟨h5.os, h5.tape, h5.output, h5.size, fun i hi _ => h5.block i hi (by rw [hvb]; intro e; cases e)⟩
    | some y0 =>
      have k0 : Kept (fun y => y = y0) W w' := h5.mono (fun y _ e => by rw [hvb] at e; injection e with e; exact e.symm)
      obtain ⟨cs, hcs⟩ := own_ty G.own hvb
      exact H.apart8 hcs (e6 y0 hvb).2.1 k0 h2.kp
  refine ⟨g, cap, w', h1, ⟨⟨sb, lw, x, t, fr, ls, S, hH, e1, e2, e3, e4, fun g' hg => ?_⟩, ?_⟩⟩
  · have : g' = g := by
      simp [Value.ownBlock] at hg
      exact hg.symm
    subst this
    refine ⟨h4, ?_, ?_⟩
    · rcases h6 with e | e
      · exact (e6 _ e).2.1
      · exact fun e2 => absurd (hown _ e2) (Nat.not_lt.2 e)
    · rcases h6 with e | e
      · exact (e6 _ e).2.2
      · intro e2
        have := heap_lt H.bx
        omega
  · have : (lr ++ [p]).length = lr.length + 1 := by simp
    rw [this]
    have e : nm8 (lr ++ [p]) = nm8 lr ++ [.int .u64 (p : Int)] := by unfold nm8; simp
    rw [e]
    exact h2
/-- A heap whose live blocks are told by a list. -/
structure FI (w1 W : World) (hb base lim o R nn : Nat) (Q : Nat → Nat → Prop) : Prop where
  ex : ∃ sb lw x t fr ls S, HW w1 W hb sb lw x t fr ls S 0 ∧ x.base = base ∧ x.lim = lim ∧ x.o = o ∧ x.R = R ∧ x.n = nn ∧ ∀ a z, Lth x ls S a z ↔ Q a z
theorem FI.keep {nn : Nat} {Q : Nat → Nat → Prop} (T : FI w1 W hb base lim o R nn Q) (k : Kept none' W W') : FI w1 W' hb base lim o R nn Q := by
  obtain ⟨sb, lw, x, t, fr, ls, S, H, e1, e2, e3, e4, e6⟩ := T
  exact ⟨sb, lw, x, t, fr, ls, S, H.keep k, e1, e2, e3, e4, e6⟩
theorem FI.kp {nn : Nat} {Q : Nat → Nat → Prop} (T : FI w1 W hb base lim o R nn Q) : Kept none' w1 W := by
  obtain ⟨sb, lw, x, t, fr, ls, S, H, _⟩ := T
  exact H.po.pl.kp
theorem EI.live (T : EI w1 W hb base lim o R lr v) :
    Calls Tryz.prog 31 #[.pointer (some ⟨hb, 0, none⟩)] W fun e w' => ∃ u l, e = .returned u ∧ w'.ownsRow 0 74 2 u l.length (blV l) ∧ l.length ≤ 262144 ∧ l.Pairwise (fun b c => b.1 < c.1) ∧ (∀ b ∈ l, b.1 < 18446744073709551616 ∧ base ≤ b.1) ∧ ∃ nn, FI w1 w' hb base lim o R nn (fun a z => (a, z) ∈ l) := by
  obtain ⟨⟨sb, lw, x, t, fr, ls, S, H, e1, e2, e3, e4, e6⟩, G⟩ := T
  refine (Live_h H).mono ?_
  rintro e w' ⟨u, rfl, hG⟩
  have n2 := H.po.nums.2.1
  have n4 := H.po.nums.2.2.2.1
  obtain ⟨h', o'⟩ := H.so
  refine ⟨u, _, rfl, hG.own, by have := H.lvb t.m.n (Nat.le_refl _); omega, H.rise _ (Nat.le_refl _), fun b hb => ?_, x.n, ⟨sb, lw, x, t, fr, ls, S, H.keep hG.kp, e1, e2, e3, e4, rfl, fun a z => H.live_iff.symm⟩⟩
  obtain ⟨a, z⟩ := b
  have := o'.inside (H.live_iff.1 hb)
  show a < 18446744073709551616 ∧ base ≤ a
  omega
theorem rise_drop {l : List (Nat × Nat)} (h : l.Pairwise (fun b c => b.1 < c.1)) {i : Nat} {b : Nat × Nat} (hi : l[i]? = some b) (c : Nat × Nat) : (c ∈ l.drop i ∧ c.1 ≠ b.1) ↔ c ∈ l.drop (i + 1) := by
  have hlt : i < l.length := (List.getElem?_eq_some_iff.1 hi).1
  have hb : l[i] = b := (List.getElem?_eq_some_iff.1 hi).2
  have hd := List.drop_eq_getElem_cons hlt
  rw [hb] at hd
  have hp : (l.drop i).Pairwise (fun b c => b.1 < c.1) := h.sublist (List.drop_sublist _ _)
  rw [hd, List.pairwise_cons] at hp
  rw [hd, List.mem_cons]
  constructor
  · rintro ⟨rfl | h1, h2⟩
    · exact absurd rfl h2
    · exact h1
  · intro h1
    exact ⟨.inr h1, by have := hp.1 c h1; omega⟩
/-- A live block is freed. -/
theorem FI.free {nn : Nat} {Q Q' : Nat → Nat → Prop} {a z : Nat} (T : FI w1 W hb base lim o R nn Q) (ha : Q a z) (ha64 : a < 18446744073709551616) (h0 : a ≠ 0) (hQ : ∀ b c, (Q b c ∧ b ≠ a) ↔ Q' b c) {u : Value} {l : List (Nat × Nat)} (hu : W.ownsRow 0 74 2 u l.length (blV l)) :
    Calls Tryz.prog 14 #[.pointer (some ⟨hb, 0, none⟩), .int .u64 (a : Int)] W fun e w' => e = .returned (.int .i64 0) ∧ FI w1 w' hb base lim o R nn Q' ∧ w'.ownsRow 0 74 2 u l.length (blV l) := by
  obtain ⟨sb, lw, x, t, fr, ls, S, H, e1, e2, e3, e4, e5, e6⟩ := T
  refine (Free_h H a ha64).mono ?_
  rintro e w' ⟨er, rfl, hF⟩
  cases hF with
  | nil hp => exact absurd hp h0
  | bad hp hl => exact absurd ((e6 _ _).2 ha) (hl z)
  | ok z hp hl he hG =>
    subst he
    obtain ⟨x', t', fr', ls', S', gd, nx, hL, hn⟩ := hG
    refine ⟨rfl, ⟨sb, lw, x', t', fr', ls', S', nx.H, nx.ch.base.trans e1, nx.ch.lim.trans e2, nx.ch.o.trans e3, nx.ch.R.trans e4, hn.trans e5, fun b c => by rw [hL, e6, hQ]⟩, own_kept hu nx.kp (fun y hy => ?_)⟩
    obtain ⟨cs, hcs⟩ := own_ty hu hy
    obtain ⟨h', o'⟩ := H.so
    rintro (e | e)
    · exact absurd (o'.sw.pl.pty hcs (.inl e)) (by unfold Go.Proofs.YtgjapopddblpoaaGreatDoor.pty; decide)
    · subst e
      exact absurd (ty_ne' hcs o'.sw.bx) (by decide)
/-- A heap of rg regions, without a live block. -/
structure GI (w1 W : World) (hb base lim o R rg : Nat) : Prop where
  ex : ∃ sb lw x t fr ls S, HW w1 W hb sb lw x t fr ls S 0 ∧ x.base = base ∧ x.lim = lim ∧ x.o = o ∧ x.R = R ∧ (∀ a z, ¬ Lth x ls S a z) ∧ x.n = rg * R ∧ t.m.n = rg * 2 ^ o ∧ rg ≤ lim
theorem FI.gi {nn : Nat} {Q : Nat → Nat → Prop} (T : FI w1 W hb base lim o R nn Q) (hQ : ∀ a z, ¬ Q a z) : ∃ rg, rg ≤ lim ∧ nn = rg * R ∧ GI w1 W hb base lim o R rg := by
  obtain ⟨sb, lw, x, t, fr, ls, S, H, e1, e2, e3, e4, e5, e6⟩ := T
  obtain ⟨r, h1, h2, h3⟩ := H.rg
  rw [e2] at h2
  rw [e3] at h1
  rw [e4] at h3
  exact ⟨r, h2, e5.symm.trans h3, ⟨sb, lw, x, t, fr, ls, S, H, e1, e2, e3, e4, fun a z h => hQ a z ((e6 a z).1 h), h3, h1, h2⟩⟩
theorem GI.keep {rg : Nat} (T : GI w1 W hb base lim o R rg) (k : Kept none' W W') : GI w1 W' hb base lim o R rg := by
  obtain ⟨sb, lw, x, t, fr, ls, S, H, e⟩ := T
  exact ⟨sb, lw, x, t, fr, ls, S, H.keep k, e⟩
theorem GI.kp {rg : Nat} (T : GI w1 W hb base lim o R rg) : Kept none' w1 W := by
  obtain ⟨sb, lw, x, t, fr, ls, S, H, _⟩ := T
  exact H.po.pl.kp
theorem GI.stats {rg : Nat} (T : GI w1 W hb base lim o R rg) :
    Calls Tryz.prog 13 #[.pointer (some ⟨hb, 0, none⟩)] W fun e w' => e = .returned (stV (rg * R) 0 0 (rg * 2 ^ o)) ∧ Kept none' W w' := by
  obtain ⟨sb, lw, x, t, fr, ls, S, H, e1, e2, e3, e4, h0, h1, h2, h3⟩ := T
  have := Stats_h H
  obtain ⟨s1, s2, s3⟩ := H.gone_st h0 t.m.n (Nat.le_refl _)
  rw [s1, s2, s3, h1, h2] at this
  exact this
theorem GI.trim {rg : Nat} (T : GI w1 W hb base lim o R rg) :
    Calls Tryz.prog 19 #[.pointer (some ⟨hb, 0, none⟩)] W fun e w' => e = .returned (.int .i64 (rg : Int)) ∧ GI w1 w' hb base lim o R 0 := by
  obtain ⟨sb, lw, x, t, fr, ls, S, H, e1, e2, e3, e4, h0, h1, h2, h3⟩ := T
  have hr : t.m.n = rg * 2 ^ x.o := by rw [e3]; exact h2
  obtain ⟨f1, f2, f3⟩ := H.gone_fr h0 hr
  refine (Trim_h H hr).mono ?_
  rintro e w' ⟨rfl, x', t', nx, hn⟩
  rw [f2] at hn ⊢
  rw [Nat.sub_self, Nat.zero_mul] at hn
  obtain ⟨h', o'⟩ := nx.H.so
  obtain ⟨ls0, hcn⟩ := H.gone h0
  refine ⟨rfl, ⟨sb, lw, x', t', _, ls, S, nx.H, nx.ch.base.trans e1, nx.ch.lim.trans e2, nx.ch.o.trans e3, nx.ch.R.trans e4, ?_, ?_, by rw [hn, Nat.zero_mul], Nat.zero_le _⟩⟩
  · rintro a z (⟨g, k, i, ⟨hc, _⟩, _⟩ | ⟨q, k, hm, _⟩)
    · rw [hcn] at hc; cases hc
    · rw [ls0] at hm; cases hm
  · have := o'.st
    rw [hn, Nat.zero_mul] at this
    rw [Nat.zero_mul]
    exact this.symm
theorem GI.live0 (T : GI w1 W hb base lim o R 0) :
    Calls Tryz.prog 31 #[.pointer (some ⟨hb, 0, none⟩)] W fun e w' => (∃ va vc, e = .returned (.slice va 0 vc)) ∧ Kept none' W w' := by
  obtain ⟨sb, lw, x, t, fr, ls, S, H, e1, e2, e3, e4, h0, h1, h2, h3⟩ := T
  refine (Live_h H).mono ?_
  rintro e w' ⟨u, rfl, hG⟩
  rw [h2, Nat.zero_mul] at hG
  obtain ⟨va, vc, rfl⟩ := own_val hG.own
  exact ⟨⟨va, vc, rfl⟩, hG.kp⟩
theorem GI.mal {rg : Nat} (T : GI w1 W hb base lim o R rg) (hR : R = 4096 * 2 ^ o) (ho : o ≤ 8) (hb0 : base ≠ 0) :
    Calls Tryz.prog 10 #[.pointer (some ⟨hb, 0, none⟩), .int .u64 (R : Int), .bool true] W fun e w' => ∃ p er, e = .returned (.tuple #[.int .u64 ((p : Nat) : Int), .int .i64 er]) ∧ ((rg = 0 ∧ p = 0 ∧ er = 2 ∧ GI w1 w' hb base lim o R rg) ∨ (0 < rg ∧ er = 0 ∧ p ≠ 0 ∧ p < 18446744073709551616 ∧ FI w1 w' hb base lim o R (rg * R) (fun a z => a = p ∧ z = R))) := by
  obtain ⟨sb, lw, x, t, fr, ls, S, H, e1, e2, e3, e4, h0, h1, h2, h3⟩ := T
  have hP8 : 2 ^ o ≤ 2 ^ 8 := Nat.pow_le_pow_right (by decide) ho
  have hP0 : 0 < 2 ^ o := Nat.pow_pos (by decide)
  have hr : t.m.n = rg * 2 ^ x.o := by rw [e3]; exact h2
  obtain ⟨f1, f2, f3⟩ := H.gone_fr h0 hr
  have hcl : cl R = 12 + o := by
    rw [hR, show (4096 : Nat) = 2 ^ 12 from rfl, ← Nat.pow_add]
    exact cl_pow (Nat.le_refl _) (.inr (Nat.pow_lt_pow_right (by decide) (by omega)))
  have hp2 : 2 ^ cl R = R := by
    rw [hcl, Nat.pow_add]
    exact hR.symm
  refine (Malloc_h H R (by omega) true R (by omega)).mono ?_
  rintro e w' ⟨p, er, rfl, hQ⟩
  refine ⟨p, er, rfl, ?_⟩
  have nf : NF x fr S (4096 * 2 ^ o) ↔ ∀ a, o ≤ a → a ≤ x.o → fr a = [] := NF.page (by omega)
  cases hQ with
  | big ho => exact absurd (decide_eq_true (show cl R ≤ 12 + x.o by omega)) (by rw [show decide (cl R ≤ 12 + x.o) = szOk x.o R from rfl, ho]; decide)
  | ok ho hT =>
    rw [hp2] at hT
    cases hT with
    | no hp he hnf hd kp =>
      rw [hR] at hnf
      have h9 := (nf.1 hnf) o (Nat.le_refl _) (by omega)
      have hrg : rg = 0 := by
        refine Nat.eq_zero_of_not_pos fun hpos => ?_
        have := f1 0 hpos
        rw [e3, h9] at this
        cases this
      exact .inl ⟨hrg, hp, he, ⟨sb, lw, x, t, fr, ls, S, H.keep kp, e1, e2, e3, e4, h0, h1, h2, h3⟩⟩
    | yes x' t' fr' ls' S' b he td nx hL hNN hn hmm hb1 hb2 =>
      have hbf : b = false := by
        cases b with
        | false => rfl
        | true => exact absurd (hb1 rfl).2.1 (by decide)
      have hnn := hb2 hbf
      have hrg : 0 < rg := by
        refine Nat.pos_of_ne_zero fun e => hnn ?_
        rw [hR]
        exact nf.2 (fun a _ ha => f3 e a ha)
      have hl' : Lth x' ls' S' p R := (hL _ _).2 (.inr ⟨rfl, rfl⟩)
      obtain ⟨h2', so'⟩ := nx.H.so
      have hin := so'.inside hl'
      have n4 := so'.po.nums.2.2.2.1
      have hbb := nx.ch.base.trans e1
      refine .inr ⟨hrg, he, by omega, by omega, ⟨sb, lw, x', t', fr', ls', S', nx.H, nx.ch.base.trans e1, nx.ch.lim.trans e2, nx.ch.o.trans e3, nx.ch.R.trans e4, by rw [hn, hbf]; exact h1, fun a z => ?_⟩⟩
      rw [hL]
      constructor
      · rintro (h | h)
        · exact absurd h (h0 a z)
        · exact h
      · exact .inr
end
end Go.Proofs.YtgjapopddblpoaaGreatDoor
