import Derived.Test.YtgjapopddblpoaaGreatDoorRgL
import Derived.Test.YtgjapopddblpoaaGreatDoorRgD
import Derived.Test.YtgjapopddblpoaaGreatDoorSlX
/- What the live blocks say of the pool's lists; rows. (Written by mken.py.) -/
namespace Go.Proofs.YtgjapopddblpoaaGreatDoor
open Go.RowKit
set_option linter.unusedVariables false

/-- Does a stretch of pages meet a live block? -/
def mtL (ls : List (Nat × Nat)) (q j : Nat) : Bool := ls.any fun r => decide (q < r.1 + 2 ^ r.2) && decide (r.1 < q + 2 ^ j)
theorem mtL_iff {ls : List (Nat × Nat)} {q j : Nat} : mtL ls q j = true ↔ ∃ p k, (p, k) ∈ ls ∧ q < p + 2 ^ k ∧ p < q + 2 ^ j := by
  unfold mtL
  rw [List.any_eq_true]
  constructor
  · rintro ⟨⟨p, k⟩, h1, h2⟩
    rw [Bool.and_eq_true, decide_eq_true_iff, decide_eq_true_iff] at h2
    exact ⟨p, k, h1, h2⟩
  · rintro ⟨p, k, h1, h2⟩
    exact ⟨(p, k), h1, by rw [Bool.and_eq_true, decide_eq_true_iff, decide_eq_true_iff]; exact h2⟩
set_option linter.unusedVariables false

/-- Does each stretch of an order meet a live block? -/
def fullT (ls : List (Nat × Nat)) (j : Nat) : Nat → Bool
  | 0 => true
  | i + 1 => fullT ls j i && mtL ls (i * 2 ^ j) j
theorem fullT_iff (ls : List (Nat × Nat)) (j : Nat) : ∀ m, fullT ls j m = true ↔ ∀ i, i < m → mtL ls (i * 2 ^ j) j = true
  | 0 => ⟨fun _ i hi => by omega, fun _ => rfl⟩
  | m + 1 => by
    rw [fullT, Bool.and_eq_true, fullT_iff ls j m]
    constructor
    · rintro ⟨h1, h2⟩ i hi
      by_cases e : i = m
      · rw [e]; exact h2
      · exact h1 i (by omega)
    · intro h
      exact ⟨fun i hi => h i (by omega), h m (by omega)⟩
/-- A stretch meets no live block just if it lies in a free one. -/
theorem Sf.free_iff {x t fr ls} (s0 : Sf x t fr ls) {a j : Nat} (hj : j ≤ x.o) (ha : a % 2 ^ j = 0) (han : a + 2 ^ j ≤ t.m.n) : mtL ls a j = false ↔ ∃ q k, k ≤ x.o ∧ q ∈ fr k ∧ q ≤ a ∧ a + 2 ^ j ≤ q + 2 ^ k := by
  obtain ⟨B, s, hN, hL⟩ := s0
  constructor
  · intro h
    have h' : ¬ ∃ p k, (p, k) ∈ ls ∧ a < p + 2 ^ k ∧ p < a + 2 ^ j := by
      rw [← mtL_iff, h]
      decide
    obtain ⟨q, k, _, h1, h2, h3⟩ := s.stretch hN hj ha han (fun p k hb => by
      rcases Nat.lt_or_ge a (p + 2 ^ k) with e1 | e1
      · rcases Nat.lt_or_ge p (a + 2 ^ j) with e2 | e2
        · exact absurd ⟨p, k, (hL p k).1 hb, e1, e2⟩ h'
        · exact .inr e2
      · exact .inl e1)
    obtain ⟨h4, h5⟩ := (s.fi q k).1 h1
    exact ⟨q, k, h4, h5, h2, h3⟩
  · rintro ⟨q, k, h1, h2, h3, h4⟩
    cases h : mtL ls a j with
    | false => rfl
    | true =>
      exfalso
      obtain ⟨p, i, h5, h6, h7⟩ := mtL_iff.1 h
      rcases s.ds _ _ _ _ _ _ ((s.fi q k).2 ⟨h1, h2⟩) ((hL p i).2 h5) with ⟨e, _⟩ | e | e
      · exact absurd e (by decide)
      · omega
      · omega
/-- Each stretch of an order meets a live block just if no list from that order on holds one. -/
theorem Sf.full_iff {x t fr ls} (s0 : Sf x t fr ls) {j m : Nat} (hj : j ≤ x.o) (hm : t.m.n = m * 2 ^ j) : fullT ls j m = true ↔ ∀ a, j ≤ a → a ≤ x.o → fr a = [] := by
  have hz : 0 < 2 ^ j := Nat.pow_pos (by decide)
  rw [fullT_iff]
  constructor
  · intro h a h1 h2
    cases hf : fr a with
    | nil => rfl
    | cons p l =>
      exfalso
      have hp : p ∈ fr a := by rw [hf]; exact List.mem_cons_self ..
      have hal : p % 2 ^ a = 0 ∧ p + 2 ^ a ≤ t.m.n := by
        obtain ⟨B, s, hN, hL⟩ := s0
        obtain ⟨_, h3, h4⟩ := s.al _ _ _ ((s.fi p a).2 ⟨h2, hp⟩)
        exact ⟨h3, h4⟩
      have hpow : 2 ^ j ≤ 2 ^ a := Nat.pow_le_pow_right (by decide) h1
      have hdv : 2 ^ j ∣ p := Nat.dvd_trans (Nat.pow_dvd_pow 2 h1) (Nat.dvd_of_mod_eq_zero hal.1)
      obtain ⟨i, hi⟩ := hdv
      rw [Nat.mul_comm] at hi
      have him : i < m := by
        have h5 : i * 2 ^ j < m * 2 ^ j := by rw [← hi, ← hm]; omega
        exact Nat.lt_of_mul_lt_mul_right h5
      have h6 := h i him
      rw [← hi] at h6
      have h7 := (s0.free_iff hj (a := p) (by rw [hi]; exact Nat.mul_mod_left _ _) (by omega)).2 ⟨p, a, h2, hp, Nat.le_refl _, by omega⟩
      rw [h7] at h6
      cases h6
  · intro h i hi
    cases hmt : mtL ls (i * 2 ^ j) j with
    | true => rfl
    | false =>
      exfalso
      have h1 : (i + 1) * 2 ^ j ≤ m * 2 ^ j := Nat.mul_le_mul_right _ hi
      rw [Nat.add_mul, Nat.one_mul] at h1
      obtain ⟨q, k, h2, h3, h4, h5⟩ := (s0.free_iff hj (a := i * 2 ^ j) (Nat.mul_mod_left _ _) (by rw [hm]; exact h1)).1 hmt
      have hjk : j ≤ k := by
        rcases Nat.lt_or_ge k j with e | e
        · have : 2 ^ k < 2 ^ j := Nat.pow_lt_pow_right (by decide) e
          omega
        · exact e
      rw [h k hjk h2] at h3
      cases h3
/-- How many regions are left: those up to the topmost that a live block meets. -/
def leftL (ls : List (Nat × Nat)) (o : Nat) : Nat → Nat
  | 0 => 0
  | r + 1 => if mtL ls (r * 2 ^ o) o = true then r + 1 else leftL ls o r
theorem leftL_le (ls : List (Nat × Nat)) (o : Nat) : ∀ r, leftL ls o r ≤ r
  | 0 => Nat.le_refl _
  | r + 1 => by
    unfold leftL
    split
    · exact Nat.le_refl _
    · exact Nat.le_succ_of_le (leftL_le ls o r)
theorem trF_left (ls : List (Nat × Nat)) (o : Nat) : ∀ (r : Nat) (fr : Nat → List Nat), (∀ i, i < r → (i * 2 ^ o ∈ fr o ↔ mtL ls (i * 2 ^ o) o = false)) → (trF o r fr).1 + leftL ls o r = r
  | 0, fr, h => rfl
  | r + 1, fr, h => by
    have hz : 0 < 2 ^ o := Nat.pow_pos (by decide)
    have hr := h r (by omega)
    cases hm : mtL ls (r * 2 ^ o) o with
    | true =>
      rw [trF_no (fun e => by rw [hr.1 e] at hm; cases hm), leftL, if_pos hm, Nat.zero_add]
    | false =>
      rw [trF_yes (hr.2 hm), leftL, if_neg (by rw [hm]; decide)]
      have := trF_left ls o r (frU fr o (M.dropL (fr o) (r * 2 ^ o))) (fun i hi => by
        rw [← h i (by omega)]
        have hne : i * 2 ^ o ≠ r * 2 ^ o := fun e => by
          have := Nat.eq_of_mul_eq_mul_right hz e
          omega
        unfold frU
        rw [if_pos rfl]
        unfold M.dropL
        simp [hne])
      show (trF o r _).1 + 1 + leftL ls o r = r + 1
      omega
theorem Sf.tops {x t fr ls} (s0 : Sf x t fr ls) {r : Nat} (hr : t.m.n = r * 2 ^ x.o) : ∀ i, i < r → (i * 2 ^ x.o ∈ fr x.o ↔ mtL ls (i * 2 ^ x.o) x.o = false) := fun i hi => by
  have hz : 0 < 2 ^ x.o := Nat.pow_pos (by decide)
  have h1 : (i + 1) * 2 ^ x.o ≤ r * 2 ^ x.o := Nat.mul_le_mul_right _ hi
  rw [Nat.add_mul, Nat.one_mul] at h1
  rw [s0.free_iff (Nat.le_refl _) (Nat.mul_mod_left _ _) (by rw [hr]; exact h1)]
  constructor
  · intro h
    exact ⟨_, x.o, Nat.le_refl _, h, Nat.le_refl _, Nat.le_refl _⟩
  · rintro ⟨q, k, h2, h3, h4, h5⟩
    have hk : k = x.o := by
      rcases Nat.lt_or_ge k x.o with e | e
      · have : 2 ^ k < 2 ^ x.o := Nat.pow_lt_pow_right (by decide) e
        omega
      · omega
    subst hk
    have : q = i * 2 ^ x.o := by omega
    rw [← this]
    exact h3
theorem add0 (g j : Nat) : (⟨g, 0, none⟩ : Addr).add j = ⟨g, j, none⟩ := by
  cases j <;> simp [Addr.add]
theorem own_val {W : World} {b : Nat} {e : TypeId} {size : Nat} {v : Value} {n : Nat} {xs : List Value} (h : W.ownsRow b e size v n xs) : ∃ va vc, v = .slice va n vc := by
  rcases h.2 with ⟨h0, h1⟩ | ⟨g, cap, cur, h0, _⟩
  · exact ⟨none, 0, by rw [h0, h1]⟩
  · exact ⟨_, _, h0⟩
theorem own_get {W : World} {b : Nat} {e : TypeId} {size : Nat} {va : Option Addr} {n vc : Nat} {xs : List Value} (h : W.ownsRow b e size (.slice va n vc) n xs) {i : Nat} {u : Value} (hi : xs[i]? = some u) : ∃ g, va = some ⟨g, 0, none⟩ ∧ W.cell? ⟨g, i, none⟩ = some u := by
  rcases h.2 with ⟨_, h1⟩ | ⟨g, cap, cur, h0, _⟩
  · have := h.1
    rw [h1, Nat.zero_mul] at this
    rw [List.eq_nil_of_length_eq_zero this] at hi
    simp at hi
  · injection h0 with h0
    refine ⟨g, h0, ?_⟩
    have := World.ownsRow.cells h (g := g) (by rw [h0]; rfl) _ _ hi
    rw [add0] at this
    exact this
theorem own_kept {W W' : World} {b : Nat} {e : TypeId} {size : Nat} {v : Value} {n : Nat} {xs : List Value} {S : Nat → Prop} (h : W.ownsRow b e size v n xs) (k : Kept S W W') (hS : ∀ x, v.ownBlock = some x → ¬ S x) : W'.ownsRow b e size v n xs := by
  refine ⟨h.1, ?_⟩
  rcases h.2 with h0 | ⟨g, cap, cur, h0, hb, hg, h3⟩
  · exact .inl h0
  · refine .inr ⟨g, cap, cur, h0, hb, (k.block _ (heap_lt hg) (hS g (by rw [h0]; rfl))).trans hg, h3⟩
theorem own_ty {W : World} {b : Nat} {e : TypeId} {size : Nat} {v : Value} {n : Nat} {xs : List Value} (h : W.ownsRow b e size v n xs) {y : Nat} (hy : v.ownBlock = some y) : ∃ cs, W.heap[y]? = some (.cells cs e (0, 0)) := by
  rcases h.2 with ⟨h0, _⟩ | ⟨g, cap, cur, h0, hb, hg, h3⟩
  · rw [h0] at hy; simp [Value.ownBlock] at hy
  · rw [h0] at hy; simp [Value.ownBlock] at hy
    subst hy
    exact ⟨_, hg⟩
end Go.Proofs.YtgjapopddblpoaaGreatDoor
/- The book as a function. (Written by mk8e.py off EnB, EnC.) -/
namespace Go.Proofs.YtgjapopddblpoaaGreatDoor
open Go.RowKit
set_option linter.unusedVariables false

/-- A block of the book. -/
structure Bk where
  p : Nat
  s : Nat
  mark : Nat
/-- Does one of the first n meet a stretch? -/
def mtB (R : Nat → Bk) (p z : Nat) : Nat → Bool
  | 0 => false
  | n + 1 => mtB R p z n || (decide ((R n).p < p + z) && decide (p < (R n).p + (R n).s))
theorem mtB_iff (R : Nat → Bk) (p z : Nat) : ∀ n, mtB R p z n = true ↔ ∃ i, i < n ∧ (R i).p < p + z ∧ p < (R i).p + (R i).s
  | 0 => by simp [mtB]
  | n + 1 => by
    rw [mtB, Bool.or_eq_true, mtB_iff R p z n, Bool.and_eq_true, decide_eq_true_iff, decide_eq_true_iff]
    constructor
    · rintro (⟨i, h1, h2⟩ | ⟨h1, h2⟩)
      · exact ⟨i, by omega, h2⟩
      · exact ⟨n, by omega, h1, h2⟩
    · rintro ⟨i, h1, h2⟩
      by_cases e : i = n
      · subst e; exact .inr h2
      · exact .inl ⟨i, by omega, h2⟩
/-- How many of the first n are of a size and begin on a page? -/
def cnB (R : Nat → Bk) (g z : Nat) : Nat → Nat
  | 0 => 0
  | n + 1 => cnB R g z n + (if (R n).s = z ∧ g ≤ (R n).p ∧ (R n).p < g + 4096 then 1 else 0)
theorem cnB_le (R : Nat → Bk) (g z : Nat) : ∀ n, cnB R g z n ≤ n
  | 0 => Nat.le_refl _
  | n + 1 => by
    have := cnB_le R g z n
    rw [cnB]
    split <;> omega
theorem cnB_len (R : Nat → Bk) (g z : Nat) : ∀ n, cnB R g z n = ((List.range n).filter fun i => decide ((R i).s = z ∧ g ≤ (R i).p ∧ (R i).p < g + 4096)).length
  | 0 => rfl
  | n + 1 => by
    rw [List.range_succ, List.filter_append, List.length_append, cnB, cnB_len R g z n]
    congr 1
    by_cases e : (R n).s = z ∧ g ≤ (R n).p ∧ (R n).p < g + 4096
    · rw [if_pos e]; simp [e]
    · rw [if_neg e]; simp [e]
/-- What the book's blocks may be. -/
def Bnd (R : Nat → Bk) (n : Nat) : Prop := ∀ i, i < n → (R i).p ≤ 9223372036854775808 ∧ (R i).s ≤ 1048576
def wo (R : Nat → Bk) (d : Nat) : Nat → Bk := fun j => if j < d then R j else R (j + 1)
end Go.Proofs.YtgjapopddblpoaaGreatDoor
/- Each slab page has a live cell: between calls. -/
namespace Go.Proofs.YtgjapopddblpoaaGreatDoor
open Go.RowKit
set_option linter.unusedVariables false

theorem Lve.tak {S : Sb} {p k i : Nat} {r : List Nat} (h : ∀ a c, a ≠ p → S.c a = some c → (S.fl a).length < ncl c) (hc : S.c p = some k) (hf : S.fl p = i :: r) (hl : (S.fl p).length ≤ ncl k) : Lve (takS S p k r) := by
  intro a c ha
  replace ha : S.c a = some c := ha
  show (updF S.fl p r a).length < ncl c
  by_cases e : a = p
  · subst e
    rw [hc] at ha
    cases ha
    rw [updF_self]
    rw [hf, List.length_cons] at hl
    omega
  · rw [updF_ne _ _ e]
    exact h a c e ha
/-- Behind a Take. -/
theorem Lve.old {w W sb lw x t fr ls S h} (o : SO w W sb lw x t fr ls S h) (v : Lve S) {p k i : Nat} {l r : List Nat} (hk : k < 8) (hl : S.pl k = p :: l) (hf : S.fl p = i :: r) : Lve (takS S p k r) := by
  have hc := ((o.si.pm k hk p).1 (by rw [hl]; exact List.mem_cons_self)).1
  exact Lve.tak (fun a c _ ha => v a c ha) hc hf (o.si.lv p k hc)
theorem Lve.new {S : Sb} (v : Lve S) {p k : Nat} (hk : k < 8) : Lve (takS (freS S p k) p k (List.range' 1 (ncl k - 1))) := by
  have hnl := ncl_b hk
  have e : (freS S p k).fl p = List.range' 0 (ncl k) := updF_self _ _ _
  refine Lve.tak (i := 0) (fun a c ha hc => ?_) (updF_self _ _ _) ?_ ?_
  · rw [show (freS S p k).c a = S.c a from updF_ne _ _ ha] at hc
    rw [show (freS S p k).fl a = S.fl a from updF_ne _ _ ha]
    exact v a c hc
  · rw [e]
    obtain ⟨m, hm⟩ : ∃ m, ncl k = m + 1 := ⟨ncl k - 1, by omega⟩
    rw [hm]
    rfl
  · rw [e, List.length_range']
    exact Nat.le_refl _
/-- Behind a Give. -/
theorem Lve.back {S : Sb} (v : Lve S) {p k i : Nat} (hc : S.c p = some k) (hl : (S.fl p).length + 1 < ncl k) : Lve (givS S p k i) := by
  intro a c ha
  replace ha : S.c a = some c := ha
  show (updF S.fl p (i :: S.fl p) a).length < ncl c
  by_cases e : a = p
  · subst e
    rw [hc] at ha
    cases ha
    rw [updF_self, List.length_cons]
    exact hl
  · rw [updF_ne _ _ e]
    exact v a c ha
theorem Lve.rel {S : Sb} (v : Lve S) (p k : Nat) : Lve (relS S p k) := by
  intro a c ha
  replace ha : updF S.c p none a = some c := ha
  by_cases e : a = p
  · rw [e, updF_self] at ha
    cases ha
  · rw [updF_ne _ _ e] at ha
    exact v a c ha
/-- A slab over a fresh pool. -/
theorem SO.new {w W sb lw x t} (po : PO w W lw x t (fun _ => []) []) (sw : SW w W sb lw x t (fun _ => -1)) (hP : x.P = fun _ => none) : SO w W sb lw x t (fun _ => []) [] ⟨fun _ => none, fun _ => [], fun _ => []⟩ (fun _ => -1) := by
  refine ⟨sw, po.sf, po.st, po.bm, ⟨?_, fun p k h => ?_, fun p k h => ?_, fun p k h => ?_, fun k hk => List.nodup_nil, fun k hk p => ?_⟩, fun k hk => rfl⟩
  · rw [hP]
    funext p
    exact (pOf_none rfl).symm
  · cases h
  · cases h
  · cases h
  · constructor
    · intro h; cases h
    · rintro ⟨h, _⟩; cases h
theorem Lve.none : Lve ⟨fun _ => Option.none, fun _ => [], fun _ => []⟩ := fun p k h => by cases h
/-- A pool made in a later world. -/
theorem Pol.from {w w1 W lw x t} (k : Kept none' w w1) (h : Pol w1 W lw x t) : Pol w W lw x t := ⟨h.box, h.bd, fun y hy => Nat.le_trans k.size (h.nw y hy), none_trans k h.kp⟩
end Go.Proofs.YtgjapopddblpoaaGreatDoor
/- The live blocks of a slab and a pool, as a book has them. -/
namespace Go.Proofs.YtgjapopddblpoaaGreatDoor
open Go.RowKit
set_option linter.unusedVariables false

/-- A live block: a cell, or whole pages. -/
def Lth (x : Bx) (ls : List (Nat × Nat)) (S : Sb) (p s : Nat) : Prop := (∃ g k i, Liv x S p g k i ∧ s = szC k) ∨ (∃ q k, (q, k) ∈ ls ∧ S.c q = none ∧ p = ad x q ∧ s = 4096 * 2 ^ k)
theorem pigeon : ∀ (n : Nat) (l : List Nat), l.length < n → ∃ i, i < n ∧ i ∉ l
  | 0, l, h => absurd h (Nat.not_lt_zero _)
  | n + 1, l, h => by
    by_cases hn : n ∈ l
    · have hl : (l.erase n).length < n := by
        rw [List.length_erase_of_mem hn]
        have := List.length_pos_of_mem hn
        omega
      obtain ⟨i, hi, hm⟩ := pigeon n (l.erase n) hl
      refine ⟨i, by omega, fun e => hm ?_⟩
      exact (List.mem_erase_of_ne (by omega)).2 e
    · exact ⟨n, by omega, hn⟩
theorem nodup_le : ∀ (n : Nat) (l : List Nat), l.Nodup → (∀ i ∈ l, i < n) → l.length ≤ n
  | 0, l, hd, h => by
    cases l with
    | nil => exact Nat.le_refl _
    | cons a l => exact absurd (h a List.mem_cons_self) (Nat.not_lt_zero _)
  | n + 1, l, hd, h => by
    by_cases hn : n ∈ l
    · have := nodup_le n (l.erase n) (hd.erase n) (fun i hi => by
        have h1 := (hd.mem_erase_iff).1 hi
        have := h i h1.2
        have := h1.1
        omega)
      rw [List.length_erase_of_mem hn] at this
      omega
    · have := nodup_le n l hd (fun i hi => by
        have := h i hi
        have : i ≠ n := fun e => hn (e ▸ hi)
        omega)
      omega
section
variable {w W : World} {sb lw : Nat} {x : Bx} {t : Bt} {fr : Nat → List Nat} {ls : List (Nat × Nat)} {S : Sb} {h : Nat → Int}
theorem SO.apart (o : SO w W sb lw x t fr ls S h) {p k q j : Nat} (hp : (p, k) ∈ ls) (hq : (q, j) ∈ ls) : (p = q ∧ k = j) ∨ p + 2 ^ k ≤ q ∨ q + 2 ^ j ≤ p := by
  obtain ⟨B, s, hN, hL⟩ := o.sf
  rcases s.ds _ _ _ _ _ _ ((hL p k).2 hp) ((hL q j).2 hq) with ⟨_, e1, e2⟩ | e | e
  · exact .inl ⟨e1, e2⟩
  · exact .inr (.inl e)
  · exact .inr (.inr e)
theorem SO.al (o : SO w W sb lw x t fr ls S h) {p k : Nat} (hp : (p, k) ∈ ls) : k ≤ x.o ∧ p % 2 ^ k = 0 ∧ p + 2 ^ k ≤ t.m.n := o.sf.sn.al hp
/-- A live block lies in one of the pool's. -/
theorem SO.span (o : SO w W sb lw x t fr ls S h) {p s : Nat} (hl : Lth x ls S p s) : 0 < s ∧ ∃ q k, (q, k) ∈ ls ∧ ad x q ≤ p ∧ p + s ≤ ad x q + 4096 * 2 ^ k := by
  rcases hl with ⟨g, k, i, ⟨h1, h2, h3, rfl⟩, rfl⟩ | ⟨q, k, h1, h2, rfl, rfl⟩
  · have hk := (o.si.pg g k h1).1
    have hz := szC_le hk
    have hm := o.mem h1
    have n4 := o.po.nums.2.2.2.1
    have hc := off_cell (x := x) (p := g) hk h2 (by omega)
    refine ⟨by omega, g, 0, hm.1, ?_, ?_⟩
    · unfold caN ad; omega
    · unfold caN ad; rw [Nat.pow_zero]; omega
  · have : 0 < 2 ^ k := Nat.pow_pos (by decide)
    exact ⟨by omega, q, k, h1, Nat.le_refl _, Nat.le_refl _⟩
theorem SO.inside (o : SO w W sb lw x t fr ls S h) {p s : Nat} (hl : Lth x ls S p s) : x.base ≤ p ∧ p + s ≤ x.base + x.n := by
  obtain ⟨_, q, k, h1, h2, h3⟩ := o.span hl
  have h4 := (o.al h1).2.2
  have hst := o.st
  have : (q + 2 ^ k) * 4096 ≤ t.m.n * 4096 := Nat.mul_le_mul_right _ h4
  unfold ad at h2 h3
  omega
/-- Two live blocks are one, or lie apart. -/
theorem SO.two (o : SO w W sb lw x t fr ls S h) {p s p' s' : Nat} (h1 : Lth x ls S p s) (h2 : Lth x ls S p' s') : (p = p' ∧ s = s') ∨ p + s ≤ p' ∨ p' + s' ≤ p := by
  have cb : ∀ {g k i q j : Nat}, Liv x S (caN x g k i) g k i → (q, j) ∈ ls → S.c q = none → caN x g k i + szC k ≤ ad x q ∨ ad x q + 4096 * 2 ^ j ≤ caN x g k i := by
    intro g k i q j hl hq hn
    obtain ⟨a1, a2, a3, _⟩ := hl
    have hk := (o.si.pg g k a1).1
    have hm := o.mem a1
    have n4 := o.po.nums.2.2.2.1
    have hc := off_cell (x := x) (p := g) hk a2 (by omega)
    rcases o.apart hm.1 hq with ⟨rfl, _⟩ | e | e
    · rw [a1] at hn; cases hn
    · left; unfold caN ad; omega
    · right; unfold caN ad; omega
  rcases h1 with ⟨g, k, i, l1, rfl⟩ | ⟨q, k, b1, b2, rfl, rfl⟩
  · have e1 : p = caN x g k i := l1.2.2.2
    subst e1
    rcases h2 with ⟨g', k', i', l2, rfl⟩ | ⟨q, j, b1, b2, rfl, rfl⟩
    · have e2 : p' = caN x g' k' i' := l2.2.2.2
      subst e2
      by_cases e : g = g'
      · subst e
        obtain ⟨a1, a2, a3, _⟩ := l1
        obtain ⟨c1, c2, c3, _⟩ := l2
        rw [a1] at c1
        injection c1 with c1
        subst c1
        rcases Nat.lt_trichotomy i i' with e | rfl | e
        · right; left
          have : (i + 1) * szC k ≤ i' * szC k := Nat.mul_le_mul_right _ e
          rw [Nat.add_mul, Nat.one_mul] at this
          unfold caN; omega
        · exact .inl ⟨rfl, rfl⟩
        · right; right
          have : (i' + 1) * szC k ≤ i * szC k := Nat.mul_le_mul_right _ e
          rw [Nat.add_mul, Nat.one_mul] at this
          unfold caN; omega
      · obtain ⟨a1, a2, a3, _⟩ := l1
        obtain ⟨c1, c2, c3, _⟩ := l2
        have hk := (o.si.pg g k a1).1
        have hk' := (o.si.pg g' k' c1).1
        have hm := o.mem a1
        have hm' := o.mem c1
        have n4 := o.po.nums.2.2.2.1
        have hc := off_cell (x := x) (p := g) hk a2 (by omega)
        have hc' := off_cell (x := x) (p := g') hk' c2 (by omega)
        unfold caN
        rcases Nat.lt_or_gt_of_ne e with e | e
        · right; left; omega
        · right; right; omega
    · exact .inr (cb l1 b1 b2)
  · rcases h2 with ⟨g', k', i', l2, rfl⟩ | ⟨q', j, c1, c2, rfl, rfl⟩
    · have e2 : p' = caN x g' k' i' := l2.2.2.2
      subst e2
      exact .inr (cb l2 b1 b2).symm
    · rcases o.apart b1 c1 with ⟨rfl, rfl⟩ | e | e
      · exact .inl ⟨rfl, rfl⟩
      · right; left; unfold ad; omega
      · right; right; unfold ad; omega
/-- Each of the pool's live blocks bears a live block. -/
theorem SO.thing (o : SO w W sb lw x t fr ls S h) (v : Lve S) {q k : Nat} (hq : (q, k) ∈ ls) : ∃ p s, Lth x ls S p s ∧ ad x q ≤ p ∧ p + s ≤ ad x q + 4096 * 2 ^ k := by
  cases e : S.c q with
  | none => exact ⟨ad x q, 4096 * 2 ^ k, .inr ⟨q, k, hq, e, rfl, rfl⟩, Nat.le_refl _, Nat.le_refl _⟩
  | some c =>
    obtain ⟨i, h1, h2⟩ := pigeon _ _ (v q c e)
    have hk := (o.si.pg q c e).1
    have hm := o.mem e
    have n4 := o.po.nums.2.2.2.1
    have hc := off_cell (x := x) (p := q) hk h1 (by omega)
    have hz : 0 < 2 ^ k := Nat.pow_pos (by decide)
    refine ⟨caN x q c i, szC c, .inl ⟨q, c, i, ⟨e, h1, h2, rfl⟩, rfl⟩, ?_, ?_⟩
    · unfold caN ad; omega
    · unfold caN ad; omega
/-- A stretch of pages meets a live block just if it meets one of the pool's. -/
theorem SO.meets_iff (o : SO w W sb lw x t fr ls S h) (v : Lve S) (q j : Nat) : (∃ p s, Lth x ls S p s ∧ p < ad x q + 4096 * 2 ^ j ∧ ad x q < p + s) ↔ mtL ls q j = true := by
  rw [mtL_iff]
  constructor
  · rintro ⟨p, s, h1, h2, h3⟩
    obtain ⟨_, a, k, h4, h5, h6⟩ := o.span h1
    unfold ad at *
    exact ⟨a, k, h4, by omega, by omega⟩
  · rintro ⟨a, k, h1, h2, h3⟩
    cases e : S.c a with
    | none =>
      refine ⟨ad x a, 4096 * 2 ^ k, .inr ⟨a, k, h1, e, rfl, rfl⟩, ?_, ?_⟩ <;> (unfold ad; omega)
    | some c =>
      obtain ⟨p, s, h4, h5, h6⟩ := o.thing v h1
      have hm := o.mem e
      have hs := (o.span h4).1
      have hz : 0 < 2 ^ k := Nat.pow_pos (by decide)
      have hk : 2 ^ k = 1 := by
        rcases o.apart hm.1 h1 with ⟨_, e2⟩ | e2 | e2
        · rw [← e2]
        · omega
        · omega
      unfold ad at *
      rw [hk] at h6 h2
      exact ⟨p, s, h4, by omega, by omega⟩
/-- Live cells and free ones of a page. -/
theorem SO.cells_of (o : SO w W sb lw x t fr ls S h) {g k : Nat} (hc : S.c g = some k) (l : List Nat) (hd : l.Nodup) (hm : ∀ i, i ∈ l ↔ (i < ncl k ∧ i ∉ S.fl g)) : l.length = ncl k - (S.fl g).length := by
  obtain ⟨n1, n2, _⟩ := o.si.fl g k hc
  have nd : (l ++ S.fl g).Nodup := List.nodup_append.2 ⟨hd, n1, fun a ha b hb e => ((hm a).1 ha).2 (e ▸ hb)⟩
  have h1 := nodup_le (ncl k) _ nd (fun i hi => by
    rcases List.mem_append.1 hi with e | e
    · exact ((hm i).1 e).1
    · exact n2 i e)
  have h2 : ncl k ≤ (l ++ S.fl g).length := by
    refine Nat.le_of_not_lt fun e => ?_
    obtain ⟨i, hi, hn⟩ := pigeon _ _ e
    rw [List.mem_append, not_or] at hn
    exact hn.1 ((hm i).2 ⟨hi, hn.2⟩)
  rw [List.length_append] at h1 h2
  omega
end
end Go.Proofs.YtgjapopddblpoaaGreatDoor
/- The book tells the live blocks: what meets, what is covered, whether there is room. -/
namespace Go.Proofs.YtgjapopddblpoaaGreatDoor
open Go.RowKit
set_option linter.unusedVariables false

/-- The book tells just the live blocks. -/
structure BI (x : Bx) (ls : List (Nat × Nat)) (S : Sb) (R : Nat → Bk) (n : Nat) : Prop where
  th : ∀ i, i < n → Lth x ls S (R i).p (R i).s
  ex : ∀ p s, Lth x ls S p s → ∃ i, i < n ∧ (R i).p = p ∧ (R i).s = s
  nd : ∀ i j, i < n → j < n → (R i).p = (R j).p → i = j
theorem nodup_map_on {f : Nat → Nat} : ∀ {l : List Nat}, l.Nodup → (∀ a, a ∈ l → ∀ b, b ∈ l → f a = f b → a = b) → (l.map f).Nodup
  | [], _, _ => List.nodup_nil
  | a :: l, hd, h => by
    rw [List.nodup_cons] at hd
    rw [List.map_cons, List.nodup_cons]
    refine ⟨fun hm => ?_, nodup_map_on hd.2 (fun b hb c hc e => h b (List.mem_cons_of_mem _ hb) c (List.mem_cons_of_mem _ hc) e)⟩
    obtain ⟨b, hb, e⟩ := List.mem_map.1 hm
    have := h a List.mem_cons_self b (List.mem_cons_of_mem _ hb) e.symm
    exact hd.1 (this ▸ hb)
theorem szC_inj {k j : Nat} (hk : k < 8) (hj : j < 8) (h : szC k = szC j) : k = j := by
  have key : ∀ k, k < 8 → ∀ j, j < 8 → szC k = szC j → k = j := by unfold szC; decide
  exact key k hk j hj h
section
variable {w W : World} {sb lw : Nat} {x : Bx} {t : Bt} {fr : Nat → List Nat} {ls : List (Nat × Nat)} {S : Sb} {h : Nat → Int} {R : Nat → Bk} {n : Nat}
theorem BI.bnd (b : BI x ls S R n) (o : SO w W sb lw x t fr ls S h) : Bnd R n := fun i hi => by
  have h1 := o.inside (b.th i hi)
  have h2 := o.po.nums
  obtain ⟨_, q, k, h3, h4, h5⟩ := o.span (b.th i hi)
  have h6 := (o.al h3).1
  have h7 : 2 ^ k ≤ 2 ^ 8 := Nat.pow_le_pow_right (by decide) (Nat.le_trans h6 h2.1)
  have h8 := h2.2.2.2.1
  refine ⟨by omega, ?_⟩
  have : (2 : Nat) ^ 8 = 256 := by decide
  omega
theorem BI.mt_iff (b : BI x ls S R n) (p z : Nat) : mtB R p z n = true ↔ ∃ a s, Lth x ls S a s ∧ a < p + z ∧ p < a + s := by
  rw [mtB_iff]
  constructor
  · rintro ⟨i, h1, h2, h3⟩
    exact ⟨_, _, b.th i h1, h2, h3⟩
  · rintro ⟨a, s, h1, h2, h3⟩
    obtain ⟨i, h4, h5, h6⟩ := b.ex a s h1
    exact ⟨i, h4, by rw [h5]; exact h2, by rw [h5, h6]; exact h3⟩
theorem BI.meets (b : BI x ls S R n) (o : SO w W sb lw x t fr ls S h) (v : Lve S) (q j : Nat) : mtB R (ad x q) (4096 * 2 ^ j) n = mtL ls q j := by
  rw [Bool.eq_iff_iff, b.mt_iff, o.meets_iff v]
theorem BI.mt_no (b : BI x ls S R n) {p z : Nat} (hn : ∀ a s, Lth x ls S a s → p + z ≤ a ∨ a + s ≤ p) : mtB R p z n = false := by
  cases e : mtB R p z n with
  | false => rfl
  | true =>
    obtain ⟨a, s, h1, h2, h3⟩ := (b.mt_iff p z).1 e
    have := hn a s h1
    omega
/-- A live block of a small size on a page is a cell of it. -/
theorem SO.small (o : SO w W sb lw x t fr ls S h) {p s g k : Nat} (hk : k < 8) (hl : Lth x ls S p s) (hs : s = szC k) (h1 : ad x g ≤ p) (h2 : p < ad x g + 4096) : ∃ i, Liv x S p g k i := by
  have hz := szC_le hk
  rcases hl with ⟨g', k', i, hv, e⟩ | ⟨q, j, h3, h4, h5, h6⟩
  · obtain ⟨a1, a2, a3, a4⟩ := hv
    have hk' := (o.si.pg g' k' a1).1
    obtain rfl := szC_inj hk hk' (hs.symm.trans e)
    have hm := o.mem a1
    have n4 := o.po.nums.2.2.2.1
    have hc := off_cell (x := x) (p := g') hk' a2 (by omega)
    have hg : g' = g := by
      unfold ad at h1 h2
      unfold caN at a4
      omega
    subst hg
    exact ⟨i, a1, a2, a3, a4⟩
  · exfalso
    have : 0 < 2 ^ j := Nat.pow_pos (by decide)
    omega
/-- What covers a page. -/
theorem BI.count (b : BI x ls S R n) (o : SO w W sb lw x t fr ls S h) {g k : Nat} (hk : k < 8) : cnB R (ad x g) (szC k) n = if S.c g = some k then ncl k - (S.fl g).length else 0 := by
  have hz := szC_le hk
  rw [cnB_len]
  obtain ⟨L, hL⟩ : ∃ L, L = (List.range n).filter fun i => decide ((R i).s = szC k ∧ ad x g ≤ (R i).p ∧ (R i).p < ad x g + 4096) := ⟨_, rfl⟩
  rw [← hL]
  have hm : ∀ i, i ∈ L ↔ i < n ∧ (R i).s = szC k ∧ ad x g ≤ (R i).p ∧ (R i).p < ad x g + 4096 := fun i => by
    rw [hL, List.mem_filter, List.mem_range, decide_eq_true_iff]
  have hc : ∀ i, i ∈ L → ∃ c, Liv x S (R i).p g k c := fun i hi => by
    obtain ⟨h1, h2, h3, h4⟩ := (hm i).1 hi
    exact o.small hk (b.th i h1) h2 h3 h4
  by_cases e : S.c g = some k
  · rw [if_pos e]
    have hnum : ∀ i c, Liv x S (R i).p g k c → ((R i).p - ad x g) / szC k = c := fun i c hv => by
      rw [hv.2.2.2, show caN x g k c - ad x g = c * szC k by unfold caN ad; omega, Nat.mul_div_cancel _ (by omega)]
    have h1 := o.cells_of e (L.map fun i => ((R i).p - ad x g) / szC k) ?_ ?_
    · rw [List.length_map] at h1
      exact h1
    · have hnd : L.Nodup := by rw [hL]; exact (List.nodup_range).filter _
      refine nodup_map_on hnd (fun i hi j hj e2 => ?_)
      obtain ⟨c, hv⟩ := hc i hi
      obtain ⟨d, hv2⟩ := hc j hj
      rw [hnum i c hv, hnum j d hv2] at e2
      refine b.nd i j ((hm i).1 hi).1 ((hm j).1 hj).1 ?_
      rw [hv.2.2.2, hv2.2.2.2, e2]
    · intro c
      rw [List.mem_map]
      constructor
      · rintro ⟨i, hi, rfl⟩
        obtain ⟨c, hv⟩ := hc i hi
        rw [hnum i c hv]
        exact ⟨hv.2.1, hv.2.2.1⟩
      · rintro ⟨h2, h3⟩
        obtain ⟨i, h4, h5, h6⟩ := b.ex (caN x g k c) (szC k) (.inl ⟨g, k, c, ⟨e, h2, h3, rfl⟩, rfl⟩)
        have hmm := o.mem e
        have n4 := o.po.nums.2.2.2.1
        have hcc := off_cell (x := x) (p := g) hk h2 (by omega)
        refine ⟨i, (hm i).2 ⟨h4, h6, ?_, ?_⟩, hnum i c ⟨e, h2, h3, h5⟩⟩
        · rw [h5]; unfold caN ad; omega
        · rw [h5]; unfold caN ad; omega
  · rw [if_neg e]
    cases hL2 : L with
    | nil => rfl
    | cons i l =>
      exfalso
      obtain ⟨c, hv⟩ := hc i (by rw [hL2]; exact List.mem_cons_self)
      exact e hv.1
/-- Do all stretches meet a live block? -/
def alB (R : Nat → Bk) (n base c : Nat) : Nat → Bool
  | 0 => true
  | i + 1 => alB R n base c i && mtB R (base + i * c) c n
theorem alB_mono (R : Nat → Bk) (n base c : Nat) : ∀ m i, i ≤ m → alB R n base c i = false → alB R n base c m = false
  | 0, i, h1, h2 => by rw [show i = 0 by omega] at h2; exact h2
  | m + 1, i, h1, h2 => by
    by_cases e : i = m + 1
    · rw [← e]; exact h2
    · rw [alB, alB_mono R n base c m i (by omega) h2, Bool.false_and]
/-- Is no page covered in part? -/
def pgB (R : Nat → Bk) (n base z : Nat) : Nat → Bool
  | 0 => true
  | g + 1 => pgB R n base z g && !(decide (0 < cnB R (base + 4096 * g) z n * z) && decide (cnB R (base + 4096 * g) z n * z < 4096))
theorem pgB_mono (R : Nat → Bk) (n base z : Nat) : ∀ m i, i ≤ m → pgB R n base z i = false → pgB R n base z m = false
  | 0, i, h1, h2 => by rw [show i = 0 by omega] at h2; exact h2
  | m + 1, i, h1, h2 => by
    by_cases e : i = m + 1
    · rw [← e]; exact h2
    · rw [pgB, pgB_mono R n base z m i (by omega) h2, Bool.false_and]
theorem pgB_iff (R : Nat → Bk) (n base z : Nat) : ∀ m, pgB R n base z m = true ↔ ∀ g, g < m → ¬ (0 < cnB R (base + 4096 * g) z n * z ∧ cnB R (base + 4096 * g) z n * z < 4096)
  | 0 => ⟨fun _ g hg => by omega, fun _ => rfl⟩
  | m + 1 => by
    rw [pgB, Bool.and_eq_true, pgB_iff R n base z m, Bool.not_eq_true', Bool.and_eq_false_iff, decide_eq_false_iff_not, decide_eq_false_iff_not]
    constructor
    · rintro ⟨h1, h2⟩ g hg
      by_cases e : g = m
      · subst e
        omega
      · exact h1 g (by omega)
    · intro hh
      refine ⟨fun g hg => hh g (by omega), ?_⟩
      have := hh m (by omega)
      omega
theorem BI.al (b : BI x ls S R n) (o : SO w W sb lw x t fr ls S h) (v : Lve S) (j : Nat) : ∀ m, alB R n x.base (4096 * 2 ^ j) m = fullT ls j m
  | 0 => rfl
  | m + 1 => by
    rw [alB, fullT, b.al o v j m, ← b.meets o v]
    congr 2
    unfold ad
    rw [← Nat.mul_assoc, Nat.mul_comm m 4096, Nat.mul_assoc]
theorem BI.pg (b : BI x ls S R n) (o : SO w W sb lw x t fr ls S h) (v : Lve S) {k : Nat} (hk : k < 8) : pgB R n x.base (szC k) t.m.n = true ↔ S.pl k = [] := by
  rw [pgB_iff]
  have hz := szC_le hk
  have hnb := ncl_b hk
  constructor
  · intro hh
    cases e : S.pl k with
    | nil => rfl
    | cons g l =>
      exfalso
      obtain ⟨h1, h2⟩ := (o.si.pm k hk g).1 (by rw [e]; exact List.mem_cons_self)
      have h3 := hh g (o.mem h1).2.1
      have h4 := b.count o (g := g) hk
      rw [if_pos h1] at h4
      have h5 : 0 < (S.fl g).length := List.length_pos_iff.2 h2
      have h6 := v g k h1
      rw [show x.base + 4096 * g = ad x g from rfl, h4] at h3
      refine h3 ⟨Nat.mul_pos (by omega) (by omega), ?_⟩
      have h7 : (ncl k - (S.fl g).length + 1) * szC k ≤ ncl k * szC k := Nat.mul_le_mul_right _ (by omega)
      rw [hnb.1, Nat.add_mul, Nat.one_mul] at h7
      omega
  · rintro hp g hg ⟨h1, h2⟩
    have h4 := b.count o (g := g) hk
    rw [show x.base + 4096 * g = ad x g from rfl, h4] at h1 h2
    by_cases e : S.c g = some k
    · rw [if_pos e] at h1 h2
      have h3 : S.fl g ≠ [] := fun e2 => by
        rw [e2, List.length_nil, Nat.sub_zero, hnb.1] at h2
        omega
      have := (o.si.pm k hk g).2 ⟨e, h3⟩
      rw [hp] at this
      cases this
    · rw [if_neg e] at h1
      omega
end
end Go.Proofs.YtgjapopddblpoaaGreatDoor
/- What the calls do to the live blocks. -/
namespace Go.Proofs.YtgjapopddblpoaaGreatDoor
open Go.RowKit
set_option linter.unusedVariables false

theorem Lth_base {x x' : Bx} (hb : x'.base = x.base) {ls : List (Nat × Nat)} {S : Sb} {p s : Nat} : Lth x' ls S p s ↔ Lth x ls S p s := by
  unfold Lth Liv caN ad
  rw [hb]
section
variable {w W : World} {sb lw : Nat} {x : Bx} {t : Bt} {fr : Nat → List Nat} {ls : List (Nat × Nat)} {S : Sb} {h : Nat → Int} {R : Nat → Bk} {n : Nat}
variable {w2 W2 : World} {sb2 lw2 : Nat} {x' : Bx} {t' : Bt} {fr' : Nat → List Nat} {ls' : List (Nat × Nat)} {S' : Sb} {h' : Nat → Int}
theorem SO.cell_ne (o : SO w W sb lw x t fr ls S h) {g k i g' k' i' : Nat} (h1 : S.c g = some k) (h2 : i < ncl k) (h3 : S.c g' = some k') (h4 : i' < ncl k') (e : caN x g k i = caN x g' k' i') : g = g' ∧ k = k' ∧ i = i' := by
  have hk := (o.si.pg g k h1).1
  have hk' := (o.si.pg g' k' h3).1
  have hm := o.mem h1
  have hm' := o.mem h3
  have n4 := o.po.nums.2.2.2.1
  have hc := off_cell (x := x) (p := g) hk h2 (by omega)
  have hc' := off_cell (x := x) (p := g') hk' h4 (by omega)
  have hz := szC_le hk
  have hz' := szC_le hk'
  unfold caN at e
  have e1 : g = g' := by omega
  subst e1
  rw [h1] at h3
  injection h3 with h3
  subst h3
  refine ⟨rfl, rfl, ?_⟩
  have : i * szC k = i' * szC k := by omega
  exact Nat.eq_of_mul_eq_mul_right (by omega) this
/-- A cell that lies free is no live block. -/
theorem SO.free_no (o : SO w W sb lw x t fr ls S h) {p k i : Nat} (hc : S.c p = some k) (hi : i ∈ S.fl p) (s : Nat) : ¬ Lth x ls S (caN x p k i) s := by
  have hib := (o.si.fl p k hc).2.1 i hi
  rintro (⟨g, k', i', ⟨h1, h2, h3, h4⟩, _⟩ | ⟨q, j, h1, h2, h3, _⟩)
  · obtain ⟨rfl, rfl, rfl⟩ := o.cell_ne hc hib h1 h2 h4
    exact h3 hi
  · have hk := (o.si.pg p k hc).1
    have hm := o.mem hc
    have n4 := o.po.nums.2.2.2.1
    have hcc := off_cell (x := x) (p := p) hk hib (by omega)
    have hz := szC_le hk
    have hzz : 0 < 2 ^ j := Nat.pow_pos (by decide)
    unfold caN ad at h3
    rcases o.apart hm.1 h1 with ⟨e, _⟩ | e | e
    · rw [← e, hc] at h2; cases h2
    · omega
    · omega
theorem Lth_old (o : SO w W sb lw x t fr ls S h) {p k i : Nat} {r : List Nat} (hc : S.c p = some k) (hf : S.fl p = i :: r) (a s : Nat) : Lth x ls (takS S p k r) a s ↔ Lth x ls S a s ∨ (a = caN x p k i ∧ s = szC k) := by
  obtain ⟨n1, n2, _⟩ := o.si.fl p k hc
  rw [hf, List.nodup_cons] at n1
  have hib := n2 i (by rw [hf]; exact List.mem_cons_self)
  constructor
  · rintro (⟨g, k', i', ⟨h1, h2, h3, h4⟩, h5⟩ | ⟨q, j, h1, h2, h3, h4⟩)
    · replace h1 : S.c g = some k' := h1
      replace h3 : i' ∉ updF S.fl p r g := h3
      by_cases e : g = p
      · subst e
        rw [hc] at h1
        injection h1 with h1
        subst h1
        rw [updF_self] at h3
        by_cases e2 : i' = i
        · subst e2
          exact .inr ⟨h4, h5⟩
        · refine .inl (.inl ⟨g, k, i', ⟨hc, h2, ?_, h4⟩, h5⟩)
          rw [hf, List.mem_cons, not_or]
          exact ⟨e2, h3⟩
      · rw [updF_ne _ _ e] at h3
        exact .inl (.inl ⟨g, k', i', ⟨h1, h2, h3, h4⟩, h5⟩)
    · exact .inl (.inr ⟨q, j, h1, h2, h3, h4⟩)
  · rintro ((⟨g, k', i', ⟨h1, h2, h3, h4⟩, h5⟩ | ⟨q, j, h1, h2, h3, h4⟩) | ⟨rfl, rfl⟩)
    · refine .inl ⟨g, k', i', ⟨h1, h2, ?_, h4⟩, h5⟩
      show i' ∉ updF S.fl p r g
      by_cases e : g = p
      · subst e
        rw [updF_self]
        rw [hf, List.mem_cons, not_or] at h3
        exact h3.2
      · rw [updF_ne _ _ e]
        exact h3
    · exact .inr ⟨q, j, h1, h2, h3, h4⟩
    · refine .inl ⟨p, k, i, ⟨hc, hib, ?_, rfl⟩, rfl⟩
      show i ∉ updF S.fl p r p
      rw [updF_self]
      exact n1.1
theorem Lth_new {p k : Nat} (hk : k < 8) (hc : S.c p = none) (hn : ∀ i, (p, i) ∉ ls) (a s : Nat) : Lth x (ls ++ [(p, 0)]) (takS (freS S p k) p k (List.range' 1 (ncl k - 1))) a s ↔ Lth x ls S a s ∨ (a = caN x p k 0 ∧ s = szC k) := by
  have hnb := ncl_b hk
  constructor
  · rintro (⟨g, k', i', ⟨h1, h2, h3, h4⟩, h5⟩ | ⟨q, j, h1, h2, h3, h4⟩)
    · replace h1 : updF S.c p (some k) g = some k' := h1
      replace h3 : i' ∉ updF (updF S.fl p (List.range' 0 (ncl k))) p (List.range' 1 (ncl k - 1)) g := h3
      by_cases e : g = p
      · subst e
        rw [updF_self] at h1 h3
        injection h1 with h1
        subst h1
        have e2 : i' = 0 := by
          rcases Nat.eq_zero_or_pos i' with e2 | e2
          · exact e2
          · exact absurd (List.mem_range'_1.2 ⟨e2, by omega⟩) h3
        subst e2
        exact .inr ⟨h4, h5⟩
      · rw [updF_ne _ _ e] at h1
        rw [updF_ne _ _ e, updF_ne _ _ e] at h3
        exact .inl (.inl ⟨g, k', i', ⟨h1, h2, h3, h4⟩, h5⟩)
    · replace h2 : updF S.c p (some k) q = none := h2
      have e : q ≠ p := fun e => by rw [e, updF_self] at h2; cases h2
      rw [updF_ne _ _ e] at h2
      refine .inl (.inr ⟨q, j, ?_, h2, h3, h4⟩)
      rcases List.mem_append.1 h1 with h1 | h1
      · exact h1
      · rw [List.mem_singleton] at h1
        injection h1 with h1
        exact absurd h1 e
  · rintro ((⟨g, k', i', ⟨h1, h2, h3, h4⟩, h5⟩ | ⟨q, j, h1, h2, h3, h4⟩) | ⟨rfl, rfl⟩)
    · have e : g ≠ p := fun e => by rw [e, hc] at h1; cases h1
      refine .inl ⟨g, k', i', ⟨?_, h2, ?_, h4⟩, h5⟩
      · show updF S.c p (some k) g = some k'
        rw [updF_ne _ _ e]
        exact h1
      · show i' ∉ updF (updF S.fl p (List.range' 0 (ncl k))) p (List.range' 1 (ncl k - 1)) g
        rw [updF_ne _ _ e, updF_ne _ _ e]
        exact h3
    · have e : q ≠ p := fun e => hn j (e ▸ h1)
      refine .inr ⟨q, j, List.mem_append_left _ h1, ?_, h3, h4⟩
      show updF S.c p (some k) q = none
      rw [updF_ne _ _ e]
      exact h2
    · refine .inl ⟨p, k, 0, ⟨updF_self _ _ _, by omega, ?_, rfl⟩, rfl⟩
      show 0 ∉ updF (updF S.fl p (List.range' 0 (ncl k))) p (List.range' 1 (ncl k - 1)) p
      rw [updF_self, List.mem_range'_1]
      omega
theorem Lth_back (o : SO w W sb lw x t fr ls S h) {p k i : Nat} (hv : Liv x S (caN x p k i) p k i) (a s : Nat) : Lth x ls (givS S p k i) a s ↔ Lth x ls S a s ∧ a ≠ caN x p k i := by
  obtain ⟨hc, hi, hn, _⟩ := hv
  constructor
  · rintro (⟨g, k', i', ⟨h1, h2, h3, h4⟩, h5⟩ | ⟨q, j, h1, h2, h3, h4⟩)
    · replace h1 : S.c g = some k' := h1
      replace h3 : i' ∉ updF S.fl p (i :: S.fl p) g := h3
      have h6 : i' ∉ S.fl g := by
        by_cases e : g = p
        · subst e
          rw [updF_self, List.mem_cons, not_or] at h3
          exact h3.2
        · rw [updF_ne _ _ e] at h3
          exact h3
      refine ⟨.inl ⟨g, k', i', ⟨h1, h2, h6, h4⟩, h5⟩, fun e => ?_⟩
      rw [h4] at e
      obtain ⟨rfl, rfl, rfl⟩ := o.cell_ne h1 h2 hc hi e
      rw [updF_self, List.mem_cons, not_or] at h3
      exact h3.1 rfl
    · have hl : Lth x ls S a s := .inr ⟨q, j, h1, h2, h3, h4⟩
      refine ⟨hl, fun e => ?_⟩
      have hk := (o.si.pg p k hc).1
      have hz := szC_le hk
      have hj : 0 < 2 ^ j := Nat.pow_pos (by decide)
      rcases o.two hl (.inl ⟨p, k, i, ⟨hc, hi, hn, rfl⟩, rfl⟩) with ⟨_, e2⟩ | e2 | e2 <;> omega
  · rintro ⟨⟨g, k', i', ⟨h1, h2, h3, h4⟩, h5⟩ | ⟨q, j, h1, h2, h3, h4⟩, h6⟩
    · refine .inl ⟨g, k', i', ⟨h1, h2, ?_, h4⟩, h5⟩
      show i' ∉ updF S.fl p (i :: S.fl p) g
      by_cases e : g = p
      · subst e
        rw [hc] at h1
        injection h1 with h1
        subst h1
        rw [updF_self, List.mem_cons, not_or]
        exact ⟨fun e => h6 (by rw [h4, e]), h3⟩
      · rw [updF_ne _ _ e]
        exact h3
    · exact .inr ⟨q, j, h1, h2, h3, h4⟩
theorem Lth_rel (o : SO w W sb lw x t fr ls S h) {p k i : Nat} (hv : Liv x S (caN x p k i) p k i) (hl : (S.fl p).length + 1 = ncl k) (a s : Nat) : Lth x (dropR ls p) (relS S p k) a s ↔ Lth x ls S a s ∧ a ≠ caN x p k i := by
  obtain ⟨hc, hi, hn, _⟩ := hv
  obtain ⟨n1, n2, _⟩ := o.si.fl p k hc
  constructor
  · rintro (⟨g, k', i', ⟨h1, h2, h3, h4⟩, h5⟩ | ⟨q, j, h1, h2, h3, h4⟩)
    · replace h1 : updF S.c p none g = some k' := h1
      have e : g ≠ p := fun e => by rw [e, updF_self] at h1; cases h1
      rw [updF_ne _ _ e] at h1
      refine ⟨.inl ⟨g, k', i', ⟨h1, h2, h3, h4⟩, h5⟩, fun e2 => ?_⟩
      rw [h4] at e2
      exact e (o.cell_ne h1 h2 hc hi e2).1
    · obtain ⟨h1, h7⟩ := List.mem_filter.1 h1
      have h7 : q ≠ p := of_decide_eq_true h7
      replace h2 : updF S.c p none q = none := h2
      rw [updF_ne _ _ h7] at h2
      have hl2 : Lth x ls S a s := .inr ⟨q, j, h1, h2, h3, h4⟩
      refine ⟨hl2, fun e => ?_⟩
      have hk := (o.si.pg p k hc).1
      have hz := szC_le hk
      have hj : 0 < 2 ^ j := Nat.pow_pos (by decide)
      rcases o.two hl2 (.inl ⟨p, k, i, ⟨hc, hi, hn, rfl⟩, rfl⟩) with ⟨_, e2⟩ | e2 | e2 <;> omega
  · rintro ⟨⟨g, k', i', ⟨h1, h2, h3, h4⟩, h5⟩ | ⟨q, j, h1, h2, h3, h4⟩, h6⟩
    · have e : g ≠ p := fun e => by
        subst e
        rw [hc] at h1
        injection h1 with h1
        subst h1
        have e2 : i' ≠ i := fun e => h6 (by rw [h4, e])
        have h7 := nodup_le (ncl k) (i' :: i :: S.fl g) (by
          rw [List.nodup_cons, List.nodup_cons, List.mem_cons, not_or]
          exact ⟨⟨e2, h3⟩, hn, n1⟩) (fun c hcc => by
          rcases List.mem_cons.1 hcc with rfl | hcc
          · exact h2
          · rcases List.mem_cons.1 hcc with rfl | hcc
            · exact hi
            · exact n2 c hcc)
        rw [List.length_cons, List.length_cons] at h7
        omega
      refine .inl ⟨g, k', i', ⟨?_, h2, h3, h4⟩, h5⟩
      show updF S.c p none g = some k'
      rw [updF_ne _ _ e]
      exact h1
    · have e : q ≠ p := fun e => by rw [e, hc] at h2; cases h2
      refine .inr ⟨q, j, List.mem_filter.2 ⟨h1, decide_eq_true e⟩, ?_, h3, h4⟩
      show updF S.c p none q = none
      rw [updF_ne _ _ e]
      exact h2
theorem Lth_need {p k : Nat} (hc : S.c p = none) (a s : Nat) : Lth x (ls ++ [(p, k)]) S a s ↔ Lth x ls S a s ∨ (a = ad x p ∧ s = 4096 * 2 ^ k) := by
  constructor
  · rintro (h1 | ⟨q, j, h1, h2, h3, h4⟩)
    · exact .inl (.inl h1)
    · rcases List.mem_append.1 h1 with h1 | h1
      · exact .inl (.inr ⟨q, j, h1, h2, h3, h4⟩)
      · rw [List.mem_singleton] at h1
        injection h1 with e1 e2
        subst e1 e2
        exact .inr ⟨h3, h4⟩
  · rintro ((h1 | ⟨q, j, h1, h2, h3, h4⟩) | ⟨h3, h4⟩)
    · exact .inl h1
    · exact .inr ⟨q, j, List.mem_append_left _ h1, h2, h3, h4⟩
    · exact .inr ⟨p, k, List.mem_append_right _ (List.mem_singleton.2 rfl), hc, h3, h4⟩
theorem Lth_giv (o : SO w W sb lw x t fr ls S h) {p k : Nat} (hp : (p, k) ∈ ls) (hc : S.c p = none) (a s : Nat) : Lth x (dropR ls p) S a s ↔ Lth x ls S a s ∧ a ≠ ad x p := by
  constructor
  · rintro (⟨g, k', i', hv, h5⟩ | ⟨q, j, h1, h2, h3, h4⟩)
    · refine ⟨.inl ⟨g, k', i', hv, h5⟩, fun e => ?_⟩
      have hz := szC_le (o.si.pg g k' hv.1).1
      have hj : 0 < 2 ^ k := Nat.pow_pos (by decide)
      rcases o.two (.inl ⟨g, k', i', hv, h5⟩) (.inr ⟨p, k, hp, hc, rfl, rfl⟩) with ⟨_, e2⟩ | e2 | e2 <;> omega
    · obtain ⟨h1, h7⟩ := List.mem_filter.1 h1
      have h7 : q ≠ p := of_decide_eq_true h7
      refine ⟨.inr ⟨q, j, h1, h2, h3, h4⟩, fun e => h7 ?_⟩
      rw [h3] at e
      unfold ad at e
      omega
  · rintro ⟨h1 | ⟨q, j, h1, h2, h3, h4⟩, h6⟩
    · exact .inl h1
    · refine .inr ⟨q, j, List.mem_filter.2 ⟨h1, decide_eq_true fun e => h6 ?_⟩, h2, h3, h4⟩
      have e : q = p := e
      rw [h3, e]
/-- One more in the book. -/
theorem BI.add (b : BI x ls S R n) {p0 s0 m : Nat} (hL : ∀ a s, Lth x' ls' S' a s ↔ Lth x ls S a s ∨ (a = p0 ∧ s = s0)) (hN : ∀ s, ¬ Lth x ls S p0 s) : BI x' ls' S' (fun i => if i = n then ⟨p0, s0, m⟩ else R i) (n + 1) := by
  refine ⟨fun i hi => ?_, fun p s hp => ?_, fun i j hi hj e => ?_⟩
  · by_cases e : i = n
    · rw [if_pos e]
      exact (hL _ _).2 (.inr ⟨rfl, rfl⟩)
    · rw [if_neg e]
      exact (hL _ _).2 (.inl (b.th i (by omega)))
  · rcases (hL p s).1 hp with hp | ⟨rfl, rfl⟩
    · obtain ⟨i, h1, h2, h3⟩ := b.ex p s hp
      refine ⟨i, by omega, ?_⟩
      rw [if_neg (by omega)]
      exact ⟨h2, h3⟩
    · exact ⟨n, by omega, by rw [if_pos rfl], by rw [if_pos rfl]⟩
  · by_cases e1 : i = n
    · by_cases e2 : j = n
      · omega
      · rw [if_pos e1, if_neg e2] at e
        exact absurd (e ▸ b.th j (by omega)) (hN _)
    · by_cases e2 : j = n
      · rw [if_neg e1, if_pos e2] at e
        exact absurd (e ▸ b.th i (by omega)) (hN _)
      · rw [if_neg e1, if_neg e2] at e
        exact b.nd i j (by omega) (by omega) e
/-- One fewer. -/
theorem BI.drop (b : BI x ls S R n) {d : Nat} (hd : d < n) (hL : ∀ a s, Lth x' ls' S' a s ↔ Lth x ls S a s ∧ a ≠ (R d).p) : BI x' ls' S' (wo R d) (n - 1) := by
  have hwo : ∀ i, i < n - 1 → ∃ j, j < n ∧ j ≠ d ∧ wo R d i = R j ∧ j = (if i < d then i else i + 1) := fun i hi => by
    unfold wo
    by_cases e : i < d
    · exact ⟨i, by omega, by omega, by rw [if_pos e], by rw [if_pos e]⟩
    · exact ⟨i + 1, by omega, by omega, by rw [if_neg e], by rw [if_neg e]⟩
  refine ⟨fun i hi => ?_, fun p s hp => ?_, fun i j hi hj e => ?_⟩
  · obtain ⟨j, h1, h2, h3, _⟩ := hwo i hi
    rw [h3]
    exact (hL _ _).2 ⟨b.th j h1, fun e => h2 (b.nd j d h1 hd e)⟩
  · obtain ⟨h1, h2⟩ := (hL p s).1 hp
    obtain ⟨i, h3, h4, h5⟩ := b.ex p s h1
    have h6 : i ≠ d := fun e => h2 (by rw [← h4, e])
    by_cases e : i < d
    · refine ⟨i, by omega, ?_⟩
      unfold wo
      rw [if_pos e]
      exact ⟨h4, h5⟩
    · refine ⟨i - 1, by omega, ?_⟩
      unfold wo
      rw [if_neg (by omega), show i - 1 + 1 = i by omega]
      exact ⟨h4, h5⟩
  · obtain ⟨a, h1, h2, h3, h4⟩ := hwo i hi
    obtain ⟨c, h5, h6, h7, h8⟩ := hwo j hj
    rw [h3, h7] at e
    have := b.nd a c h1 h5 e
    split at h4 <;> split at h8 <;> omega
/-- The new block meets none. -/
theorem new_apart (o' : SO w2 W2 sb2 lw2 x' t' fr' ls' S' h') {p0 s0 : Nat} (hL : ∀ a s, Lth x' ls' S' a s ↔ Lth x ls S a s ∨ (a = p0 ∧ s = s0)) (hN : ∀ s, ¬ Lth x ls S p0 s) (a s : Nat) (hl : Lth x ls S a s) : p0 + s0 ≤ a ∨ a + s ≤ p0 := by
  rcases o'.two ((hL _ _).2 (.inl hl)) ((hL _ _).2 (.inr ⟨rfl, rfl⟩)) with ⟨e, _⟩ | e | e
  · exact absurd (e ▸ hl) (hN _)
  · exact .inr e
  · exact .inl e
/-- The bytes of live blocks. -/
def Lby (x : Bx) (ls : List (Nat × Nat)) (S : Sb) (j : Nat) : Prop := ∃ p s, Lth x ls S p s ∧ p ≤ x.base + j ∧ x.base + j < p + s
theorem SO.byte (o : SO w W sb lw x t fr ls S h) {j : Nat} (hj : Lby x ls S j) : Lv ls (j / 4096) := by
  obtain ⟨p, s, h1, h2, h3⟩ := hj
  obtain ⟨_, q, k, h4, h5, h6⟩ := o.span h1
  unfold ad at h5 h6
  refine ⟨q, k, h4, ?_, ?_⟩
  · exact (Nat.le_div_iff_mul_le (by decide)).2 (by omega)
  · exact (Nat.div_lt_iff_lt_mul (by decide)).2 (by omega)
/-- The same, as far as the statements see it; live bytes are kept. -/
structure Ch (x : Bx) (t : Bt) (ls : List (Nat × Nat)) (S : Sb) (x' : Bx) (t' : Bt) (ls' : List (Nat × Nat)) (S' : Sb) : Prop where
  base : x'.base = x.base
  R : x'.R = x.R
  lim : x'.lim = x.lim
  o : x'.o = x.o
  kb : ∀ j, Lby x ls S j → Lby x' ls' S' j → t'.f j = t.f j
end
end Go.Proofs.YtgjapopddblpoaaGreatDoor
