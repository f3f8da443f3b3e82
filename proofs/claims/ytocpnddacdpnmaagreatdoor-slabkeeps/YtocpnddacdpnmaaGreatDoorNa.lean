import Derived.Test.YtocpnddacdpnmaaGreatDoorRgL
import Derived.Test.YtocpnddacdpnmaaGreatDoorRgD
import Derived.Deep.QuietTactic
import Derived.BigQuiet
import Derived.Deep.AppendLies
import Derived.Deep.Upon
import Derived.Test.YtocpnddacdpnmaaGreatDoorMb
import Derived.Test.YtocpnddacdpnmaaGreatDoorMa
/- What the live blocks say of the pool's lists; rows. (Written by mken.py.) -/
namespace Go.Proofs.YtocpnddacdpnmaaGreatDoor
open Go.RowKit
set_option linter.unusedVariables false

/-- Does a stretch of pages meet a live block? -/
def mtL (ls : List (Nat × Nat)) (q j : Nat) : Bool := ls.any fun r => decide (q < r.1 + 2 ^ r.2) && decide (r.1 < q + 2 ^ j)
theorem mtL_iff {ls : List (Nat × Nat)} {q j : Nat} : mtL ls q j = true ↔ ∃ p k, (p, k) ∈ ls ∧ q < p + 2 ^ k ∧ p < q + 2 ^ j := by
  unfold mtL
  rw [List.any_eq_true]
  constructor
  · rintro ⟨⟨p, k⟩, h1, h2⟩
    rw [Bool.and_eq_true, decide_eq_true_iff, decide_eq_true_iff] at h2
    exact ⟨p, k, h1, h2⟩
  · rintro ⟨p, k, h1, h2⟩
    exact ⟨(p, k), h1, by rw [Bool.and_eq_true, decide_eq_true_iff, decide_eq_true_iff]; exact h2⟩
set_option linter.unusedVariables false

/-- Does each stretch of an order meet a live block? -/
def fullT (ls : List (Nat × Nat)) (j : Nat) : Nat → Bool
  | 0 => true
  | i + 1 => fullT ls j i && mtL ls (i * 2 ^ j) j
theorem fullT_iff (ls : List (Nat × Nat)) (j : Nat) : ∀ m, fullT ls j m = true ↔ ∀ i, i < m → mtL ls (i * 2 ^ j) j = true
  | 0 => ⟨fun _ i hi => by omega, fun _ => rfl⟩
  | m + 1 => by
    rw [fullT, Bool.and_eq_true, fullT_iff ls j m]
    constructor
    · rintro ⟨h1, h2⟩ i hi
      by_cases e : i = m
      · rw [e]; exact h2
      · exact h1 i (by omega)
    · intro h
      exact ⟨fun i hi => h i (by omega), h m (by omega)⟩
/-- A stretch meets no live block just if it lies in a free one. -/
theorem Sf.free_iff {x t fr ls} (s0 : Sf x t fr ls) {a j : Nat} (hj : j ≤ x.o) (ha : a % 2 ^ j = 0) (han : a + 2 ^ j ≤ t.m.n) : mtL ls a j = false ↔ ∃ q k, k ≤ x.o ∧ q ∈ fr k ∧ q ≤ a ∧ a + 2 ^ j ≤ q + 2 ^ k := by
  obtain ⟨B, s, hN, hL⟩ := s0
  constructor
  · intro h
    have h' : ¬ ∃ p k, (p, k) ∈ ls ∧ a < p + 2 ^ k ∧ p < a + 2 ^ j := by
      rw [← mtL_iff, h]
      decide
    obtain ⟨q, k, _, h1, h2, h3⟩ := s.stretch hN hj ha han (fun p k hb => by
      rcases Nat.lt_or_ge a (p + 2 ^ k) with e1 | e1
      · rcases Nat.lt_or_ge p (a + 2 ^ j) with e2 | e2
        · exact absurd ⟨p, k, (hL p k).1 hb, e1, e2⟩ h'
        · exact .inr e2
      · exact .inl e1)
    obtain ⟨h4, h5⟩ := (s.fi q k).1 h1
    exact ⟨q, k, h4, h5, h2, h3⟩
  · rintro ⟨q, k, h1, h2, h3, h4⟩
    cases h : mtL ls a j with
    | false => rfl
    | true =>
      exfalso
      obtain ⟨p, i, h5, h6, h7⟩ := mtL_iff.1 h
      rcases s.ds _ _ _ _ _ _ ((s.fi q k).2 ⟨h1, h2⟩) ((hL p i).2 h5) with ⟨e, _⟩ | e | e
      · exact absurd e (by decide)
      · omega
      · omega
/-- Each stretch of an order meets a live block just if no list from that order on holds one. -/
theorem Sf.full_iff {x t fr ls} (s0 : Sf x t fr ls) {j m : Nat} (hj : j ≤ x.o) (hm : t.m.n = m * 2 ^ j) : fullT ls j m = true ↔ ∀ a, j ≤ a → a ≤ x.o → fr a = [] := by
  have hz : 0 < 2 ^ j := Nat.pow_pos (by decide)
  rw [fullT_iff]
  constructor
  · intro h a h1 h2
    cases hf : fr a with
    | nil => rfl
    | cons p l =>
      exfalso
      have hp : p ∈ fr a := by rw [hf]; exact List.mem_cons_self ..
      have hal : p % 2 ^ a = 0 ∧ p + 2 ^ a ≤ t.m.n := by
        obtain ⟨B, s, hN, hL⟩ := s0
        obtain ⟨_, h3, h4⟩ := s.al _ _ _ ((s.fi p a).2 ⟨h2, hp⟩)
        exact ⟨h3, h4⟩
      have hpow : 2 ^ j ≤ 2 ^ a := Nat.pow_le_pow_right (by decide) h1
      have hdv : 2 ^ j ∣ p := Nat.dvd_trans (Nat.pow_dvd_pow 2 h1) (Nat.dvd_of_mod_eq_zero hal.1)
      obtain ⟨i, hi⟩ := hdv
      rw [Nat.mul_comm] at hi
      have him : i < m := by
        have h5 : i * 2 ^ j < m * 2 ^ j := by rw [← hi, ← hm]; omega
        exact Nat.lt_of_mul_lt_mul_right h5
      have h6 := h i him
      rw [← hi] at h6
      have h7 := (s0.free_iff hj (a := p) (by rw [hi]; exact Nat.mul_mod_left _ _) (by omega)).2 ⟨p, a, h2, hp, Nat.le_refl _, by omega⟩
      rw [h7] at h6
      cases h6
  · intro h i hi
    cases hmt : mtL ls (i * 2 ^ j) j with
    | true => rfl
    | false =>
      exfalso
      have h1 : (i + 1) * 2 ^ j ≤ m * 2 ^ j := Nat.mul_le_mul_right _ hi
      rw [Nat.add_mul, Nat.one_mul] at h1
      obtain ⟨q, k, h2, h3, h4, h5⟩ := (s0.free_iff hj (a := i * 2 ^ j) (Nat.mul_mod_left _ _) (by rw [hm]; exact h1)).1 hmt
      have hjk : j ≤ k := by
        rcases Nat.lt_or_ge k j with e | e
        · have : 2 ^ k < 2 ^ j := Nat.pow_lt_pow_right (by decide) e
          omega
        · exact e
      rw [h k hjk h2] at h3
      cases h3
/-- How many regions are left: those up to the topmost that a live block meets. -/
def leftL (ls : List (Nat × Nat)) (o : Nat) : Nat → Nat
  | 0 => 0
  | r + 1 => if mtL ls (r * 2 ^ o) o = true then r + 1 else leftL ls o r
theorem leftL_le (ls : List (Nat × Nat)) (o : Nat) : ∀ r, leftL ls o r ≤ r
  | 0 => Nat.le_refl _
  | r + 1 => by
    unfold leftL
    split
    · exact Nat.le_refl _
    · exact Nat.le_succ_of_le (leftL_le ls o r)
theorem trF_left (ls : List (Nat × Nat)) (o : Nat) : ∀ (r : Nat) (fr : Nat → List Nat), (∀ i, i < r → (i * 2 ^ o ∈ fr o ↔ mtL ls (i * 2 ^ o) o = false)) → (trF o r fr).1 + leftL ls o r = r
  | 0, fr, h => rfl
  | r + 1, fr, h => by
    have hz : 0 < 2 ^ o := Nat.pow_pos (by decide)
    have hr := h r (by omega)
    cases hm : mtL ls (r * 2 ^ o) o with
    | true =>
      rw [trF_no (fun e => by rw [hr.1 e] at hm; cases hm), leftL, if_pos hm, Nat.zero_add]
    | false =>
      rw [trF_yes (hr.2 hm), leftL, if_neg (by rw [hm]; decide)]
      have := trF_left ls o r (frU fr o (M.dropL (fr o) (r * 2 ^ o))) (fun i hi => by
        rw [← h i (by omega)]
        have hne : i * 2 ^ o ≠ r * 2 ^ o := fun e => by
          have := Nat.eq_of_mul_eq_mul_right hz e
          omega
        unfold frU
        rw [if_pos rfl]
        unfold M.dropL
        simp [hne])
      show (trF o r _).1 + 1 + leftL ls o r = r + 1
      omega
theorem Sf.tops {x t fr ls} (s0 : Sf x t fr ls) {r : Nat} (hr : t.m.n = r * 2 ^ x.o) : ∀ i, i < r → (i * 2 ^ x.o ∈ fr x.o ↔ mtL ls (i * 2 ^ x.o) x.o = false) := fun i hi => by
  have hz : 0 < 2 ^ x.o := Nat.pow_pos (by decide)
  have h1 : (i + 1) * 2 ^ x.o ≤ r * 2 ^ x.o := Nat.mul_le_mul_right _ hi
  rw [Nat.add_mul, Nat.one_mul] at h1
  rw [s0.free_iff (Nat.le_refl _) (Nat.mul_mod_left _ _) (by rw [hr]; exact h1)]
  constructor
  · intro h
    exact ⟨_, x.o, Nat.le_refl _, h, Nat.le_refl _, Nat.le_refl _⟩
  · rintro ⟨q, k, h2, h3, h4, h5⟩
    have hk : k = x.o := by
      rcases Nat.lt_or_ge k x.o with e | e
      · have : 2 ^ k < 2 ^ x.o := Nat.pow_lt_pow_right (by decide) e
        omega
      · omega
    subst hk
    have : q = i * 2 ^ x.o := by omega
    rw [← this]
    exact h3
theorem add0 (g j : Nat) : (⟨g, 0, none⟩ : Addr).add j = ⟨g, j, none⟩ := by
  cases j <;> simp [Addr.add]
theorem own_val {W : World} {b : Nat} {e : TypeId} {size : Nat} {v : Value} {n : Nat} {xs : List Value} (h : W.ownsRow b e size v n xs) : ∃ va vc, v = .slice va n vc := by
  rcases h.2 with ⟨h0, h1⟩ | ⟨g, cap, cur, h0, _⟩
  · exact ⟨none, 0, by rw [h0, h1]⟩
  · exact ⟨_, _, h0⟩
theorem own_get {W : World} {b : Nat} {e : TypeId} {size : Nat} {va : Option Addr} {n vc : Nat} {xs : List Value} (h : W.ownsRow b e size (.slice va n vc) n xs) {i : Nat} {u : Value} (hi : xs[i]? = some u) : ∃ g, va = some ⟨g, 0, none⟩ ∧ W.cell? ⟨g, i, none⟩ = some u := by
  rcases h.2 with ⟨_, h1⟩ | ⟨g, cap, cur, h0, _⟩
  · have := h.1
    rw [h1, Nat.zero_mul] at this
    rw [List.eq_nil_of_length_eq_zero this] at hi
    simp at hi
  · injection h0 with h0
    refine ⟨g, h0, ?_⟩
    have := World.ownsRow.cells h (g := g) (by rw [h0]; rfl) _ _ hi
    rw [add0] at this
    exact this
theorem own_kept {W W' : World} {b : Nat} {e : TypeId} {size : Nat} {v : Value} {n : Nat} {xs : List Value} {S : Nat → Prop} (h : W.ownsRow b e size v n xs) (k : Kept S W W') (hS : ∀ x, v.ownBlock = some x → ¬ S x) : W'.ownsRow b e size v n xs := by
  refine ⟨h.1, ?_⟩
  rcases h.2 with h0 | ⟨g, cap, cur, h0, hb, hg, h3⟩
  · exact .inl h0
  · refine .inr ⟨g, cap, cur, h0, hb, (k.block _ (heap_lt hg) (hS g (by rw [h0]; rfl))).trans hg, h3⟩
theorem own_ty {W : World} {b : Nat} {e : TypeId} {size : Nat} {v : Value} {n : Nat} {xs : List Value} (h : W.ownsRow b e size v n xs) {y : Nat} (hy : v.ownBlock = some y) : ∃ cs, W.heap[y]? = some (.cells cs e (0, 0)) := by
  rcases h.2 with ⟨h0, _⟩ | ⟨g, cap, cur, h0, hb, hg, h3⟩
  · rw [h0] at hy; simp [Value.ownBlock] at hy
  · rw [h0] at hy; simp [Value.ownBlock] at hy
    subst hy
    exact ⟨_, hg⟩
end Go.Proofs.YtocpnddacdpnmaaGreatDoor
/- croftlaw7's book in memory: meets, covered. -/
namespace Go.Proofs.YtocpnddacdpnmaaGreatDoor
open Go.RowKit
set_option linter.unusedVariables false

/-- A block of the book. -/
structure Bk where
  p : Nat
  s : Nat
  mark : Nat
def flatB (R : Nat → Bk) : Nat → List Value
  | 0 => []
  | n + 1 => flatB R n ++ [.int .u64 ((R n).p : Int), .int .u64 ((R n).s : Int), .int .u8 ((R n).mark : Int)]
theorem flatB_len (R : Nat → Bk) : ∀ n, (flatB R n).length = n * 3
  | 0 => rfl
  | n + 1 => by rw [flatB, List.length_append, flatB_len R n]; simp; omega
theorem flatB_get (R : Nat → Bk) : ∀ n i, i < n → (flatB R n)[i * 3]? = some (.int .u64 ((R i).p : Int)) ∧ (flatB R n)[i * 3 + 1]? = some (.int .u64 ((R i).s : Int)) ∧ (flatB R n)[i * 3 + 2]? = some (.int .u8 ((R i).mark : Int))
  | 0, i, h => by omega
  | n + 1, i, h => by
    have hl := flatB_len R n
    rw [flatB]
    by_cases e : i = n
    · subst e
      rw [List.getElem?_append_right (by omega), List.getElem?_append_right (by omega), List.getElem?_append_right (by omega), hl]
      rw [show i * 3 - i * 3 = 0 by omega, show i * 3 + 1 - i * 3 = 1 by omega, show i * 3 + 2 - i * 3 = 2 by omega]
      exact ⟨rfl, rfl, rfl⟩
    · rw [List.getElem?_append_left (by omega), List.getElem?_append_left (by omega), List.getElem?_append_left (by omega)]
      exact flatB_get R n i (by omega)
/-- n blocks of the book. -/
def Bks (W : World) (v : Value) (n : Nat) (R : Nat → Bk) : Prop := W.ownsRow 0 79 3 v n (flatB R n)
theorem Bks.kept {W W' v n R} {S : Nat → Prop} (h : Bks W v n R) (k : Kept S W W') (hS : ∀ x, v.ownBlock = some x → ¬ S x) : Bks W' v n R := own_kept h k hS
theorem Bks.get {W va n vc R} (h : Bks W (.slice va n vc) n R) (i : Nat) (hi : i < n) : ∃ g, va = some ⟨g, 0, none⟩ ∧ W.cell? ⟨g, i * 3, none⟩ = some (.int .u64 ((R i).p : Int)) ∧ W.cell? ⟨g, i * 3 + 1, none⟩ = some (.int .u64 ((R i).s : Int)) ∧ W.cell? ⟨g, i * 3 + 2, none⟩ = some (.int .u8 ((R i).mark : Int)) := by
  obtain ⟨e1, e2, e3⟩ := flatB_get R n i hi
  obtain ⟨g, hg, c1⟩ := own_get h e1
  obtain ⟨g', hg', c2⟩ := own_get h e2
  obtain ⟨g3, hg3, c3⟩ := own_get h e3
  rw [hg] at hg' hg3
  injection hg' with e1
  injection hg3 with e2
  injection e1 with e1
  injection e2 with e2
  subst e1 e2
  exact ⟨g, hg, c1, c2, c3⟩
/-- Does one of the first n meet a stretch? -/
def mtB (R : Nat → Bk) (p z : Nat) : Nat → Bool
  | 0 => false
  | n + 1 => mtB R p z n || (decide ((R n).p < p + z) && decide (p < (R n).p + (R n).s))
theorem mtB_iff (R : Nat → Bk) (p z : Nat) : ∀ n, mtB R p z n = true ↔ ∃ i, i < n ∧ (R i).p < p + z ∧ p < (R i).p + (R i).s
  | 0 => by simp [mtB]
  | n + 1 => by
    rw [mtB, Bool.or_eq_true, mtB_iff R p z n, Bool.and_eq_true, decide_eq_true_iff, decide_eq_true_iff]
    constructor
    · rintro (⟨i, h1, h2⟩ | ⟨h1, h2⟩)
      · exact ⟨i, by omega, h2⟩
      · exact ⟨n, by omega, h1, h2⟩
    · rintro ⟨i, h1, h2⟩
      by_cases e : i = n
      · subst e; exact .inr h2
      · exact .inl ⟨i, by omega, h2⟩
/-- How many of the first n are of a size and begin on a page? -/
def cnB (R : Nat → Bk) (g z : Nat) : Nat → Nat
  | 0 => 0
  | n + 1 => cnB R g z n + (if (R n).s = z ∧ g ≤ (R n).p ∧ (R n).p < g + 4096 then 1 else 0)
theorem cnB_le (R : Nat → Bk) (g z : Nat) : ∀ n, cnB R g z n ≤ n
  | 0 => Nat.le_refl _
  | n + 1 => by
    have := cnB_le R g z n
    rw [cnB]
    split <;> omega
theorem cnB_len (R : Nat → Bk) (g z : Nat) : ∀ n, cnB R g z n = ((List.range n).filter fun i => decide ((R i).s = z ∧ g ≤ (R i).p ∧ (R i).p < g + 4096)).length
  | 0 => rfl
  | n + 1 => by
    rw [List.range_succ, List.filter_append, List.length_append, cnB, cnB_len R g z n]
    congr 1
    by_cases e : (R n).s = z ∧ g ≤ (R n).p ∧ (R n).p < g + 4096
    · rw [if_pos e]; simp [e]
    · rw [if_neg e]; simp [e]
/-- What the book's blocks may be. -/
def Bnd (R : Nat → Bk) (n : Nat) : Prop := ∀ i, i < n → (R i).p ≤ 9223372036854775808 ∧ (R i).s ≤ 1048576
set_option maxRecDepth 4000 in
set_option maxHeartbeats 1000000 in
theorem meets7 (va : Option Addr) (n vc : Nat) (R : Nat → Bk) (hn : n ≤ 1000) (hR : Bnd R n) (a z : Nat) (ha : a ≤ 9223372036854775808) (hz : z ≤ 1048576) (w : World) (h : Bks w (.slice va n vc) n R) :
    Calls Tryz.prog 73 #[.slice va n vc, .int .u64 (a : Int), .int .u64 (z : Int)] w fun e w' => e = .returned (.bool (mtB R a z n)) ∧ Kept none' w w' := by
  have B0 := hid h
  clear h
  have MB : Hid (∀ j, mtB R a z (j + 1) = (mtB R a z j || (decide ((R j).p < a + z) && decide (a < (R j).p + (R j).s)))) := hid (fun j => rfl)
  have M0 : mtB R a z 0 = false := rfl
  obtain ⟨MM, hMM⟩ : ∃ MM, MM = mtB R a z := ⟨_, rfl⟩
  have MT : Hid (∀ i j, j ≤ i → MM j = true → MM i = true) := hid (fun i j hji h => by
    rw [hMM] at h ⊢
    rw [mtB_iff] at h ⊢
    obtain ⟨a, h1, h2⟩ := h
    exact ⟨a, by omega, h2⟩)
  rw [← hMM] at M0 MB ⊢
  clear hMM
  have HR := hid hR
  clear hR
  go_enter Tryz.func73, Tryz.ntmps73
  go_wp2_with fail
  go_loopw [7] (fun i W => ∃ j : Nat, j ≤ n ∧ i = .int .i64 j ∧ Hid (MM j = false) ∧ Hid (Kept none' w W)) (fun i _ => n - (intOf i).toNat)
  case atStart => exact ⟨0, by omega, rfl, hid M0, hid (Kept.refl none' w)⟩
  case round =>
    clear M0
    obtain ⟨j, hj, rfl, hM, hW⟩ := hrel
    have K1 := hid hW.out
    have KD := hid (fun m => (Kept.refl none' wr).drewN m)
    by_cases hlt : j < n
    · have hji : (j : Int) < (n : Int) := by omega
      obtain ⟨g0, hva, r0, r1, r2⟩ := (B0.out.kept hW.out (fun _ _ e => e)).get j hlt
      obtain ⟨h1, h2⟩ := HR.out j hlt
      subst hva
      have MJ := hid (MB.out j)
      rw [hM.out, Bool.false_or] at MJ
      obtain ⟨c, hc⟩ : ∃ c, c = (R j).p := ⟨_, rfl⟩
      obtain ⟨y, hy⟩ : ∃ y, y = (R j).s := ⟨_, rfl⟩
      rw [← hc] at r0 h1 MJ
      rw [← hy] at r1 h2 MJ
      clear hy hc
      by_cases e1 : c < a + z
      · have e1i : (c : Int) < (a : Int) + (z : Int) := by omega
        by_cases e2 : a < c + y
        · have e2i : (a : Int) < (c : Int) + (y : Int) := by omega
          have MN := hid (MT.out n (j + 1) (by omega) (by rw [MJ.out, decide_eq_true e1, decide_eq_true e2]; rfl))
          go_wp2_with fail
          go_quiet (fail)
          go_wp2_with fail
          go_ret
          exact ⟨by rw [MN.out]; rfl, none_trans K1.out (KD.out _)⟩
        · have e2i : ¬ (a : Int) < (c : Int) + (y : Int) := by omega
          have MN := hid (show MM (j + 1) = false by rw [MJ.out, decide_eq_false e2, Bool.and_false])
          go_wp2_with fail
          go_quiet (fail)
          go_wp2_with fail
          exact ⟨⟨j + 1, by omega, by simp, MN, hid (none_trans hW.out (KD.out _))⟩, by simp [intOf]; omega⟩
      · have e1i : ¬ (c : Int) < (a : Int) + (z : Int) := by omega
        have MN := hid (show MM (j + 1) = false by rw [MJ.out, decide_eq_false e1, Bool.false_and])
        have e1d : decide ((c : Int) < (a : Int) + (z : Int)) = false := decide_eq_false e1i
        have e1l : (a : Int) + (z : Int) ≤ (c : Int) := by omega
        go_wp2_with fail
        go_quiet (fail)
        go_wp2_with fail
        exact ⟨⟨j + 1, by omega, by simp, MN, hid (none_trans hW.out (KD.out _))⟩, by simp [intOf]; omega⟩
    · have hji : ¬ (j : Int) < (n : Int) := by omega
      have hjn : j = n := by omega
      subst hjn
      go_wp2_with fail
      go_ret
      exact ⟨by rw [hM.out]; rfl, K1.out⟩
set_option maxRecDepth 4000 in
set_option maxHeartbeats 1000000 in
theorem covered7 (va : Option Addr) (n vc : Nat) (R : Nat → Bk) (hn : n ≤ 1000) (hR : Bnd R n) (a z : Nat) (ha : a ≤ 9223372036854775808) (hz : z ≤ 1048576) (w : World) (h : Bks w (.slice va n vc) n R) :
    Calls Tryz.prog 130 #[.slice va n vc, .int .u64 (a : Int), .int .u64 (z : Int)] w fun e w' => e = .returned (.int .u64 ((cnB R a z n * z : Nat) : Int)) ∧ Kept none' w w' := by
  have B0 := hid h
  clear h
  have MB : Hid (∀ j, cnB R a z (j + 1) = cnB R a z j + (if (R j).s = z ∧ a ≤ (R j).p ∧ (R j).p < a + 4096 then 1 else 0)) := hid (fun j => rfl)
  have ML : Hid (∀ j, cnB R a z j ≤ j) := hid (cnB_le R a z)
  have M0 : cnB R a z 0 = 0 := rfl
  obtain ⟨MM, hMM⟩ : ∃ MM, MM = cnB R a z := ⟨_, rfl⟩
  rw [← hMM] at M0 MB ML ⊢
  clear hMM
  have HR := hid hR
  clear hR
  go_enter Tryz.func130, Tryz.ntmps130
  go_wp2_with fail
  go_loopw [7, 8] (fun c i W => ∃ j m : Nat, j ≤ n ∧ c = .int .u64 (m : Int) ∧ i = .int .i64 j ∧ Hid (m = MM j * z) ∧ Hid (Kept none' w W)) (fun _ i _ => n - (intOf i).toNat)
  case atStart => exact ⟨0, 0, by omega, rfl, rfl, hid (by rw [M0, Nat.zero_mul]), hid (Kept.refl none' w)⟩
  case round =>
    clear M0
    obtain ⟨j, m, hj, rfl, rfl, hM, hW⟩ := hrel
    have K1 := hid hW.out
    have KD := hid (fun m => (Kept.refl none' wr).drewN m)
    by_cases hlt : j < n
    · have hji : (j : Int) < (n : Int) := by omega
      obtain ⟨g0, hva, r0, r1, r2⟩ := (B0.out.kept hW.out (fun _ _ e => e)).get j hlt
      obtain ⟨h1, h2⟩ := HR.out j hlt
      subst hva
      have MJ := hid (MB.out j)
      have hmb : m ≤ 1048576000 := by
        have h3 := ML.out j
        have h4 : MM j * z ≤ 1000 * 1048576 := Nat.mul_le_mul (by omega) hz
        have h5 := hM.out
        omega
      obtain ⟨c, hc⟩ : ∃ c, c = (R j).p := ⟨_, rfl⟩
      obtain ⟨y, hy⟩ : ∃ y, y = (R j).s := ⟨_, rfl⟩
      rw [← hc] at r0 h1 MJ
      rw [← hy] at r1 h2 MJ
      clear hy hc
      by_cases e0 : y = z
      · subst e0
        have e0b : ((y : Int) == (y : Int)) = true := by simp
        by_cases e1 : a ≤ c
        · have e1i : (a : Int) ≤ (c : Int) := by omega
          by_cases e2 : c < a + 4096
          · have e2i : (c : Int) < (a : Int) + 4096 := by omega
            have MN := hid (show m + y = MM (j + 1) * y by rw [MJ.out, if_pos ⟨rfl, e1, e2⟩, Nat.add_mul, Nat.one_mul, hM.out])
            go_wp2_with fail
            exact ⟨⟨j + 1, m + y, by omega, by simp, by simp, MN, hW⟩, by simp [intOf]; omega⟩
          · have e2i : ¬ (c : Int) < (a : Int) + 4096 := by omega
            have MN := hid (show m = MM (j + 1) * y by rw [MJ.out, if_neg (fun e => e2 e.2.2), Nat.add_zero, hM.out])
            go_wp2_with fail
            exact ⟨⟨j + 1, m, by omega, rfl, by simp, MN, hW⟩, by simp [intOf]; omega⟩
        · have e1i : ¬ (a : Int) ≤ (c : Int) := by omega
          have e1d : decide ((a : Int) ≤ (c : Int)) = false := decide_eq_false e1i
          have e1l : (c : Int) < (a : Int) := by omega
          have MN := hid (show m = MM (j + 1) * y by rw [MJ.out, if_neg (fun e => e1 e.2.1), Nat.add_zero, hM.out])
          go_wp2_with fail
          exact ⟨⟨j + 1, m, by omega, rfl, by simp, MN, hW⟩, by simp [intOf]; omega⟩
      · have e0b : ((y : Int) == (z : Int)) = false := by rw [beq_eq_false_iff_ne]; omega
        have e0i : ¬ (y : Int) = (z : Int) := by omega
        have MN := hid (show m = MM (j + 1) * z by rw [MJ.out, if_neg (fun e => e0 e.1), Nat.add_zero, hM.out])
        go_wp2_with fail
        exact ⟨⟨j + 1, m, by omega, rfl, by simp, MN, hW⟩, by simp [intOf]; omega⟩
    · have hji : ¬ (j : Int) < (n : Int) := by omega
      have hjn : j = n := by omega
      subst hjn
      go_wp2_with fail
      go_ret
      exact ⟨by rw [hM.out]; rfl, K1.out⟩
end Go.Proofs.YtocpnddacdpnmaaGreatDoor
/- croftlaw7's book: one more; without one. (Written by mken.py.) -/
namespace Go.Proofs.YtocpnddacdpnmaaGreatDoor
open Go.RowKit
set_option linter.unusedVariables false

set_option linter.unusedVariables false

theorem info_bk : (Tryz.prog.info? 79).map (fun i => (i.zero, i.size, i.bytes)) = some (some (.agg #[.int .u64 0, .int .u64 0, .int .u8 0]), 3, 24) := by kernel_rfl
theorem push_bk {w0 W : World} {v : Value} {n : Nat} {xs : List Value} (h : GS w0 W 79 3 v n xs) (a b c : Int) (hn : n ≤ 2000) :
    ∃ g cap w', (∀ ty, (Builtin.append_ #[72, 72] ty #[v, .slice (some ⟨W.heap.size, 0, none⟩) 1 1]).run Tryz.prog (W.alloc (.cells #[.int .u64 a, .int .u64 b, .int .u8 c] 79)) = .ok (.slice (some ⟨g, 0, none⟩) (n + 1) cap) w') ∧ GS w0 w' 79 3 (.slice (some ⟨g, 0, none⟩) (n + 1) cap) (n + 1) (xs ++ [.int .u64 a, .int .u64 b, .int .u8 c]) ∧ w0.heap.size ≤ g ∧ (∀ x, v.ownBlock ≠ some x → ∀ o, W.heap[x]? = some o → w'.heap[x]? = some o) := by
  obtain ⟨i, hi, hzz⟩ := Option.map_eq_some_iff.1 info_bk
  simp only [Prod.mk.injEq] at hzz
  have ka := (Kept.refl none' W).alloc (.cells #[.int .u64 a, .int .u64 b, .int .u8 c] 79)
  obtain ⟨g, cap, w', h1, h2, h5, h4⟩ := (h.keep ka).push 72 i (.agg #[.int .u64 0, .int .u64 0, .int .u8 0]) 24 Tryz.underlying72 hi hzz.1 hzz.2.1 hzz.2.2 rfl (by decide) ⟨W.heap.size, 0, none⟩ 1 [.int .u64 a, .int .u64 b, .int .u8 c] rfl (fun j u hj => cells_new (cs := #[.int .u64 a, .int .u64 b, .int .u8 c]) j u hj) (by simp [Value.oneCell']) (by simp only [maxLen]; omega) (by omega)
  exact ⟨g, cap, w', h1, h2, h5, fun x hx o ho => h4 x hx o ((ka.block x (heap_lt ho) (fun x => x)).trans ho)⟩
def wo (R : Nat → Bk) (d : Nat) : Nat → Bk := fun j => if j < d then R j else R (j + 1)
/-- Between two rounds of without. -/
structure Lb (w0 W : World) (lv : Value) (n k : Nat) (R R' : Nat → Bk) (v : Value) : Prop where
  gs : GS w0 W 79 3 v k (flatB R' k)
  rn : Bks W lv n R
  nw : ∀ g, v.ownBlock = some g → w0.heap.size ≤ g
theorem Lb.step {w0 W lv n k R R' v g cap w'} (h : Lb w0 W lv n k R R' v) (hlv : ∀ y, lv.ownBlock = some y → y < w0.heap.size) (h2 : GS w0 w' 79 3 (.slice (some ⟨g, 0, none⟩) (k + 1) cap) (k + 1) (flatB R' (k + 1))) (hg : w0.heap.size ≤ g) (hkeep : ∀ y, v.ownBlock ≠ some y → ∀ o, W.heap[y]? = some o → w'.heap[y]? = some o) :
    Lb w0 w' lv n (k + 1) R R' (.slice (some ⟨g, 0, none⟩) (k + 1) cap) := by
  refine ⟨h2, ?_, fun y e => ?_⟩
  · refine ⟨h.rn.1, ?_⟩
    rcases h.rn.2 with h0 | ⟨g, cap, cur, h0, hb, hg, h3⟩
    · exact .inl h0
    · exact .inr ⟨g, cap, cur, h0, hb, hkeep g (fun e => by have := h.nw _ e; have := hlv g (by rw [h0]; rfl); omega) _ hg, h3⟩
  · simp [Value.ownBlock] at e
    omega
set_option maxRecDepth 4000 in
set_option maxHeartbeats 1000000 in
theorem without7 (va : Option Addr) (n vc : Nat) (R : Nat → Bk) (hn : n ≤ 1000) (d : Nat) (hd : d < n) (w : World) (h : Bks w (.slice va n vc) n R) :
    Calls Tryz.prog 25 #[.slice va n vc, .int .i64 (d : Int)] w fun e w' => ∃ va' vc', e = .returned (.slice va' (n - 1) vc') ∧ Kept none' w w' ∧ GS w w' 79 3 (.slice va' (n - 1) vc') (n - 1) (flatB (wo R d) (n - 1)) ∧ (∀ g, (Value.slice va' (n - 1) vc').ownBlock = some g → w.heap.size ≤ g) := by
  have hlv : ∀ y, (Value.slice va n vc).ownBlock = some y → y < w.heap.size := fun y e => (World.ownsRow.lt h y e).2
  have HLV := hid hlv
  have L0 := hid (show Lb w w (.slice va n vc) n 0 R (wo R d) (.slice none 0 0) from ⟨GS.nil _ _ _ _ (Kept.refl none' _), h, fun g e => by simp [Value.ownBlock] at e⟩)
  clear h hlv
  go_enter Tryz.func25, Tryz.ntmps25
  go_wp2_with fail
  go_loopw [5, 6] (fun l i W => ∃ j m : Nat, j ≤ n ∧ m = (if j ≤ d then j else j - 1) ∧ i = .int .i64 j ∧ (∃ la lc, l = .slice la m lc) ∧ Hid (Lb w W (.slice va n vc) n m R (wo R d) l)) (fun _ i _ => n - (intOf i).toNat)
  case atStart => exact ⟨0, 0, by omega, by simp, rfl, ⟨none, 0, rfl⟩, L0⟩
  case round =>
    clear L0
    obtain ⟨j, m, hj, hm, rfl, ⟨la, lc, rfl⟩, hR⟩ := hrel
    have K1 := hid hR.out.gs.kp
    by_cases hlt : j < n
    · have hji : (j : Int) < (n : Int) := by omega
      by_cases hjd : j = d
      · subst hjd
        rw [if_pos (Nat.le_refl _)] at hm
        subst hm
        go_wp2_with fail
        exact ⟨⟨m + 1, m, by omega, by rw [if_neg (by omega)]; omega, by simp, ⟨_, _, rfl⟩, hR⟩, by simp [intOf]; omega⟩
      · have hjdi : ¬ (j : Int) = (d : Int) := by omega
        obtain ⟨g0, hva, r0, r1, r2⟩ := hR.out.rn.get j hlt
        subst hva
        obtain ⟨g, cap, w', hap, hg2, hge, hkeep⟩ := push_bk hR.out.gs ((R j).p : Int) ((R j).s : Int) ((R j).mark : Int) (by split at hm <;> omega)
        have hwm : wo R d m = R j := by
          unfold wo
          by_cases e : j ≤ d
          · rw [if_pos e] at hm; rw [hm, if_pos (by omega)]
          · rw [if_neg e] at hm; rw [hm, if_neg (by omega), show j - 1 + 1 = j by omega]
        have D := hid (hR.out.step HLV.out (by rw [flatB, hwm]; exact hg2) hge hkeep)
        have HM := hid (show m + 1 = if j + 1 ≤ d then j + 1 else j + 1 - 1 by
          by_cases e : j ≤ d
          · rw [if_pos e] at hm; rw [if_pos (by omega)]; omega
          · rw [if_neg e] at hm; rw [if_neg (by omega)]; omega)
        have HAP := hid hap
        clear hap hg2 hge hkeep hwm hm
        go_wp2_with (at_builtin; refine Lib.wpList_append_run _ rfl _ _ _ _ rfl (.slice la m lc) (.slice (some ⟨wr.heap.size, 0, none⟩) 1 1) rfl rfl _ _ (HAP.out _) ?_)
        exact ⟨⟨j + 1, m + 1, by omega, HM.out, by simp, ⟨_, _, rfl⟩, D⟩, by simp [intOf]; omega⟩
    · have hji : ¬ (j : Int) < (n : Int) := by omega
      have hmn : m = n - 1 := by rw [if_neg (by omega)] at hm; omega
      subst hmn
      have D := hid (And.intro hR.out.gs.kp (And.intro hR.out.gs hR.out.nw))
      clear hm hR K1
      go_wp2_with fail
      go_ret
      exact ⟨_, _, rfl, D.out⟩
end Go.Proofs.YtocpnddacdpnmaaGreatDoor
/- The two appends of a block to a copy of the book, as steps of a region. (Written by mken.py.) -/
namespace Go.Proofs.YtocpnddacdpnmaaGreatDoor
open Go.RowKit
set_option linter.unusedVariables false

theorem bks_one (R : Nat → Bk) : ∀ n, ∀ u ∈ flatB R n, u.oneCell' = true
  | 0, u, h => by cases h
  | n + 1, u, h => by
    rw [flatB, List.mem_append] at h
    rcases h with h | h
    · exact bks_one R n u h
    · simp only [List.mem_cons, List.not_mem_nil, or_false] at h
      rcases h with rfl | rfl | rfl <;> rfl
theorem step_app1 {ops : Array Oper} {o : Oper} {a : Act} {K : Act → World → Prop} {Q : Exit → Act → World → Prop} {E : Prop} {W5 w : World} (k : Kept none' W5 w) {va : Option Addr} {n vc : Nat} {R : Nat → Bk} (hB : Bks W5 (.slice va n vc) n R) (hn : n ≤ 2000)
    (hgd : o.guard = none) (s x : Operand) (hop : o.op = .call { callee := .builtin .append, args := #[s, x], argTypes := #[72, 72] })
    (g0 : Nat) (hs : a.eval s = .slice (some ⟨g0, 0, none⟩) 0 0) (hg0 : w.heap[g0]? = some (.cells #[] 79)) (h0 : W5.heap.size ≤ g0) (hx : a.eval x = .slice va n vc)
    (h : ∀ g cap w1, GS W5 w1 79 3 (.slice (some ⟨g, 0, none⟩) n cap) n (flatB R n) → (∀ y ob, w.heap[y]? = some ob → y ≠ g0 → w1.heap[y]? = some ob) → W5.heap.size ≤ g → K (a.put o.dst (.slice (some ⟨g, 0, none⟩) n cap)) w1) :
    if Region.wanted o (yielded ops a.tmps) = true then Oper.wp Tryz.prog o a w K Q else E := by
  have hw : Region.wanted o (yielded ops a.tmps) = true := by simp [Region.wanted, hgd]
  rw [if_pos hw]
  obtain ⟨i, hi, hzz⟩ := Option.map_eq_some_iff.1 info_bk
  simp only [Prod.mk.injEq] at hzz
  have hB2 := hB.kept k (fun _ _ e => e)
  have hown : w.ownsRow 0 79 3 (.slice (some ⟨g0, 0, none⟩) 0 0) 0 [] := ⟨rfl, .inr ⟨g0, 0, #[], rfl, Nat.zero_le _, hg0, Nat.le_refl _, by simp [maxLen], rfl, rfl⟩⟩
  rcases hB2.2 with ⟨hv, hn0⟩ | ⟨g, cap, cur, hv, _, hg, _⟩
  · injection hv with e1 e2 e3
    subst e1 e2 e3
    exact Lib.wp_append_run w s x _ _ hop _ _ hs hx _ _ (run_append_nothing w _ _ _ _ i Tryz.underlying72 hi _ _ _ (Nat.le_refl _) _ (Src.ofNil _ Tryz.underlying72 0)) (h g0 0 w ⟨hown, fun g cap e => .inl (by simp at e; omega), k⟩ (fun y ob e _ => e) h0)
  · injection hv with e1 e2 e3
    subst e1 e3
    obtain ⟨v', w', hrun, hown', hgr, hnil, hblk⟩ := run_append_own_at (P := Tryz.prog) w 0 72 o.type 79 i (.agg #[.int .u64 0, .int .u64 0, .int .u8 0]) 3 24 Tryz.underlying72 hi hzz.1 hzz.2.1 hzz.2.2 rfl (by decide) (.slice (some ⟨g0, 0, none⟩) 0 0) 0 [] hown ⟨g, 0, none⟩ n vc (flatB R n) (flatB_len R n) (fun j u hj => World.ownsRow.cells hB2 rfl j u hj) (bks_one R n) (by simp only [maxLen]; omega) (by omega) (Nat.zero_le _)
    have hk := grown_kept' hgr
    have hk5 : Kept none' W5 w' := k.trans hk (fun _ _ e => e) (fun y hy e => by
      have e : some g0 = some y := e
      injection e with e
      omega)
    have hz := k.size
    rw [Nat.zero_add, List.nil_append] at hown'
    rcases hown'.2 with ⟨e, _⟩ | ⟨g', cap', cur', e, _, hg', _⟩
    · exact absurd (hnil.1 e).1 (by simp)
    · subst e
      have hgg : W5.heap.size ≤ g' := by
        rcases hblk with e | e <;> simp [Value.ownBlock] at e <;> omega
      exact Lib.wp_append_run w s x _ _ hop _ _ hs hx _ _ hrun (h g' cap' w' ⟨hown', fun g cap e => .inr (by simp at e; omega), hk5⟩ (fun y ob e hne => (hk.block _ (heap_lt e) (fun e => by
        have e : some g0 = some y := e
        injection e with e
        exact hne e.symm)).trans e) hgg)
theorem step_app2 {ops : Array Oper} {o : Oper} {a : Act} {K : Act → World → Prop} {Q : Exit → Act → World → Prop} {E : Prop} {W5 w : World} {g n cap : Nat} {xs : List Value} (hG : GS W5 w 79 3 (.slice (some ⟨g, 0, none⟩) n cap) n xs) (hn : n ≤ 2000)
    (hgd : o.guard = none) (s x : Operand) (hop : o.op = .call { callee := .builtin .append, args := #[s, x], argTypes := #[72, 72] })
    (hs : a.eval s = .slice (some ⟨g, 0, none⟩) n cap) (b c2 : Nat) (p k m : Int) (hx : a.eval x = .slice (some ⟨b, 0, none⟩) 1 c2) (hb : w.heap[b]? = some (.cells #[.int .u64 p, .int .u64 k, .int .u8 m] 79))
    (h : ∀ g2 cap2 w2, GS W5 w2 79 3 (.slice (some ⟨g2, 0, none⟩) (n + 1) cap2) (n + 1) (xs ++ [.int .u64 p, .int .u64 k, .int .u8 m]) → W5.heap.size ≤ g2 → K (a.put o.dst (.slice (some ⟨g2, 0, none⟩) (n + 1) cap2)) w2) :
    if Region.wanted o (yielded ops a.tmps) = true then Oper.wp Tryz.prog o a w K Q else E := by
  have hw : Region.wanted o (yielded ops a.tmps) = true := by simp [Region.wanted, hgd]
  rw [if_pos hw]
  obtain ⟨i, hi, hzz⟩ := Option.map_eq_some_iff.1 info_bk
  simp only [Prod.mk.injEq] at hzz
  obtain ⟨g2, cap2, w2, h1, h2, h5, h4⟩ := hG.push 72 i (.agg #[.int .u64 0, .int .u64 0, .int .u8 0]) 24 Tryz.underlying72 hi hzz.1 hzz.2.1 hzz.2.2 rfl (by decide) ⟨b, 0, none⟩ c2 [.int .u64 p, .int .u64 k, .int .u8 m] rfl (World.news_of_block (cs := #[.int .u64 p, .int .u64 k, .int .u8 m]) hb) (by simp [Value.oneCell']) (by simp only [maxLen]; omega) (by omega)
  exact Lib.wp_append_run w s x _ _ hop _ _ hs hx _ _ (h1 _) (h g2 cap2 w2 h2 h5)
end Go.Proofs.YtocpnddacdpnmaaGreatDoor
/- The live blocks of a slab and a pool, as a book has them. -/
namespace Go.Proofs.YtocpnddacdpnmaaGreatDoor
open Go.RowKit
set_option linter.unusedVariables false

/-- A live block: a cell, or whole pages. -/
def Lth (x : Bx) (ls : List (Nat × Nat)) (S : Sb) (p s : Nat) : Prop := (∃ g k i, Liv x S p g k i ∧ s = szC k) ∨ (∃ q k, (q, k) ∈ ls ∧ S.c q = none ∧ p = ad x q ∧ s = 4096 * 2 ^ k)
theorem pigeon : ∀ (n : Nat) (l : List Nat), l.length < n → ∃ i, i < n ∧ i ∉ l
  | 0, l, h => absurd h (Nat.not_lt_zero _)
  | n + 1, l, h => by
    by_cases hn : n ∈ l
    · have hl : (l.erase n).length < n := by
        rw [List.length_erase_of_mem hn]
        have := List.length_pos_of_mem hn
        omega
      obtain ⟨i, hi, hm⟩ := pigeon n (l.erase n) hl
      refine ⟨i, by omega, fun e => hm ?_⟩
      exact (List.mem_erase_of_ne (by omega)).2 e
    · exact ⟨n, by omega, hn⟩
theorem nodup_le : ∀ (n : Nat) (l : List Nat), l.Nodup → (∀ i ∈ l, i < n) → l.length ≤ n
  | 0, l, hd, h => by
    cases l with
    | nil => exact Nat.le_refl _
    | cons a l => exact absurd (h a List.mem_cons_self) (Nat.not_lt_zero _)
  | n + 1, l, hd, h => by
    by_cases hn : n ∈ l
    · have := nodup_le n (l.erase n) (hd.erase n) (fun i hi => by
        have h1 := (hd.mem_erase_iff).1 hi
        have := h i h1.2
        have := h1.1
        omega)
      rw [List.length_erase_of_mem hn] at this
      omega
    · have := nodup_le n l hd (fun i hi => by
        have := h i hi
        have : i ≠ n := fun e => hn (e ▸ hi)
        omega)
      omega
section
variable {w W : World} {sb lw : Nat} {x : Bx} {t : Bt} {fr : Nat → List Nat} {ls : List (Nat × Nat)} {S : Sb} {h : Nat → Int}
theorem SO.apart (o : SO w W sb lw x t fr ls S h) {p k q j : Nat} (hp : (p, k) ∈ ls) (hq : (q, j) ∈ ls) : (p = q ∧ k = j) ∨ p + 2 ^ k ≤ q ∨ q + 2 ^ j ≤ p := by
  obtain ⟨B, s, hN, hL⟩ := o.sf
  rcases s.ds _ _ _ _ _ _ ((hL p k).2 hp) ((hL q j).2 hq) with ⟨_, e1, e2⟩ | e | e
  · exact .inl ⟨e1, e2⟩
  · exact .inr (.inl e)
  · exact .inr (.inr e)
theorem SO.al (o : SO w W sb lw x t fr ls S h) {p k : Nat} (hp : (p, k) ∈ ls) : k ≤ x.o ∧ p % 2 ^ k = 0 ∧ p + 2 ^ k ≤ t.m.n := o.sf.sn.al hp
/-- A live block lies in one of the pool's. -/
theorem SO.span (o : SO w W sb lw x t fr ls S h) {p s : Nat} (hl : Lth x ls S p s) : 0 < s ∧ ∃ q k, (q, k) ∈ ls ∧ ad x q ≤ p ∧ p + s ≤ ad x q + 4096 * 2 ^ k := by
  rcases hl with ⟨g, k, i, ⟨h1, h2, h3, rfl⟩, rfl⟩ | ⟨q, k, h1, h2, rfl, rfl⟩
  · have hk := (o.si.pg g k h1).1
    have hz := szC_le hk
    have hm := o.mem h1
    have n4 := o.po.nums.2.2.2.1
    have hc := off_cell (x := x) (p := g) hk h2 (by omega)
    refine ⟨by omega, g, 0, hm.1, ?_, ?_⟩
    · unfold caN ad; omega
    · unfold caN ad; rw [Nat.pow_zero]; omega
  · have : 0 < 2 ^ k := Nat.pow_pos (by decide)
    exact ⟨by omega, q, k, h1, Nat.le_refl _, Nat.le_refl _⟩
theorem SO.inside (o : SO w W sb lw x t fr ls S h) {p s : Nat} (hl : Lth x ls S p s) : x.base ≤ p ∧ p + s ≤ x.base + x.n := by
  obtain ⟨_, q, k, h1, h2, h3⟩ := o.span hl
  have h4 := (o.al h1).2.2
  have hst := o.st
  have : (q + 2 ^ k) * 4096 ≤ t.m.n * 4096 := Nat.mul_le_mul_right _ h4
  unfold ad at h2 h3
  omega
/-- Two live blocks are one, or lie apart. -/
theorem SO.two (o : SO w W sb lw x t fr ls S h) {p s p' s' : Nat} (h1 : Lth x ls S p s) (h2 : Lth x ls S p' s') : (p = p' ∧ s = s') ∨ p + s ≤ p' ∨ p' + s' ≤ p := by
  have cb : ∀ {g k i q j : Nat}, Liv x S (caN x g k i) g k i → (q, j) ∈ ls → S.c q = none → caN x g k i + szC k ≤ ad x q ∨ ad x q + 4096 * 2 ^ j ≤ caN x g k i := by
    intro g k i q j hl hq hn
    obtain ⟨a1, a2, a3, _⟩ := hl
    have hk := (o.si.pg g k a1).1
    have hm := o.mem a1
    have n4 := o.po.nums.2.2.2.1
    have hc := off_cell (x := x) (p := g) hk a2 (by omega)
    rcases o.apart hm.1 hq with ⟨rfl, _⟩ | e | e
    · rw [a1] at hn; cases hn
    · left; unfold caN ad; omega
    · right; unfold caN ad; omega
  rcases h1 with ⟨g, k, i, l1, rfl⟩ | ⟨q, k, b1, b2, rfl, rfl⟩
  · have e1 : p = caN x g k i := l1.2.2.2
    subst e1
    rcases h2 with ⟨g', k', i', l2, rfl⟩ | ⟨q, j, b1, b2, rfl, rfl⟩
    · have e2 : p' = caN x g' k' i' := l2.2.2.2
      subst e2
      by_cases e : g = g'
      · subst e
        obtain ⟨a1, a2, a3, _⟩ := l1
        obtain ⟨c1, c2, c3, _⟩ := l2
        rw [a1] at c1
        injection c1 with c1
        subst c1
        rcases Nat.lt_trichotomy i i' with e | rfl | e
        · right; left
          have : (i + 1) * szC k ≤ i' * szC k := Nat.mul_le_mul_right _ e
          rw [Nat.add_mul, Nat.one_mul] at this
          unfold caN; omega
        · exact .inl ⟨rfl, rfl⟩
        · right; right
          have : (i' + 1) * szC k ≤ i * szC k := Nat.mul_le_mul_right _ e
          rw [Nat.add_mul, Nat.one_mul] at this
          unfold caN; omega
      · obtain ⟨a1, a2, a3, _⟩ := l1
        obtain ⟨c1, c2, c3, _⟩ := l2
        have hk := (o.si.pg g k a1).1
        have hk' := (o.si.pg g' k' c1).1
        have hm := o.mem a1
        have hm' := o.mem c1
        have n4 := o.po.nums.2.2.2.1
        have hc := off_cell (x := x) (p := g) hk a2 (by omega)
        have hc' := off_cell (x := x) (p := g') hk' c2 (by omega)
        unfold caN
        rcases Nat.lt_or_gt_of_ne e with e | e
        · right; left; omega
        · right; right; omega
    · exact .inr (cb l1 b1 b2)
  · rcases h2 with ⟨g', k', i', l2, rfl⟩ | ⟨q', j, c1, c2, rfl, rfl⟩
    · have e2 : p' = caN x g' k' i' := l2.2.2.2
      subst e2
      exact .inr (cb l2 b1 b2).symm
    · rcases o.apart b1 c1 with ⟨rfl, rfl⟩ | e | e
      · exact .inl ⟨rfl, rfl⟩
      · right; left; unfold ad; omega
      · right; right; unfold ad; omega
/-- Each of the pool's live blocks bears a live block. -/
theorem SO.thing (o : SO w W sb lw x t fr ls S h) (v : Lve S) {q k : Nat} (hq : (q, k) ∈ ls) : ∃ p s, Lth x ls S p s ∧ ad x q ≤ p ∧ p + s ≤ ad x q + 4096 * 2 ^ k := by
  cases e : S.c q with
  | none => exact ⟨ad x q, 4096 * 2 ^ k, .inr ⟨q, k, hq, e, rfl, rfl⟩, Nat.le_refl _, Nat.le_refl _⟩
  | some c =>
    obtain ⟨i, h1, h2⟩ := pigeon _ _ (v q c e)
    have hk := (o.si.pg q c e).1
    have hm := o.mem e
    have n4 := o.po.nums.2.2.2.1
    have hc := off_cell (x := x) (p := q) hk h1 (by omega)
    have hz : 0 < 2 ^ k := Nat.pow_pos (by decide)
    refine ⟨caN x q c i, szC c, .inl ⟨q, c, i, ⟨e, h1, h2, rfl⟩, rfl⟩, ?_, ?_⟩
    · unfold caN ad; omega
    · unfold caN ad; omega
/-- A stretch of pages meets a live block just if it meets one of the pool's. -/
theorem SO.meets_iff (o : SO w W sb lw x t fr ls S h) (v : Lve S) (q j : Nat) : (∃ p s, Lth x ls S p s ∧ p < ad x q + 4096 * 2 ^ j ∧ ad x q < p + s) ↔ mtL ls q j = true := by
  rw [mtL_iff]
  constructor
  · rintro ⟨p, s, h1, h2, h3⟩
    obtain ⟨_, a, k, h4, h5, h6⟩ := o.span h1
    unfold ad at *
    exact ⟨a, k, h4, by omega, by omega⟩
  · rintro ⟨a, k, h1, h2, h3⟩
    cases e : S.c a with
    | none =>
      refine ⟨ad x a, 4096 * 2 ^ k, .inr ⟨a, k, h1, e, rfl, rfl⟩, ?_, ?_⟩ <;> (unfold ad; omega)
    | some c =>
      obtain ⟨p, s, h4, h5, h6⟩ := o.thing v h1
      have hm := o.mem e
      have hs := (o.span h4).1
      have hz : 0 < 2 ^ k := Nat.pow_pos (by decide)
      have hk : 2 ^ k = 1 := by
        rcases o.apart hm.1 h1 with ⟨_, e2⟩ | e2 | e2
        · rw [← e2]
        · omega
        · omega
      unfold ad at *
      rw [hk] at h6 h2
      exact ⟨p, s, h4, by omega, by omega⟩
/-- Live cells and free ones of a page. -/
theorem SO.cells_of (o : SO w W sb lw x t fr ls S h) {g k : Nat} (hc : S.c g = some k) (l : List Nat) (hd : l.Nodup) (hm : ∀ i, i ∈ l ↔ (i < ncl k ∧ i ∉ S.fl g)) : l.length = ncl k - (S.fl g).length := by
  obtain ⟨n1, n2, _⟩ := o.si.fl g k hc
  have nd : (l ++ S.fl g).Nodup := List.nodup_append.2 ⟨hd, n1, fun a ha b hb e => ((hm a).1 ha).2 (e ▸ hb)⟩
  have h1 := nodup_le (ncl k) _ nd (fun i hi => by
    rcases List.mem_append.1 hi with e | e
    · exact ((hm i).1 e).1
    · exact n2 i e)
  have h2 : ncl k ≤ (l ++ S.fl g).length := by
    refine Nat.le_of_not_lt fun e => ?_
    obtain ⟨i, hi, hn⟩ := pigeon _ _ e
    rw [List.mem_append, not_or] at hn
    exact hn.1 ((hm i).2 ⟨hi, hn.2⟩)
  rw [List.length_append] at h1 h2
  omega
end
end Go.Proofs.YtocpnddacdpnmaaGreatDoor
/- The book tells the live blocks: what meets, what is covered, whether there is room. -/
namespace Go.Proofs.YtocpnddacdpnmaaGreatDoor
open Go.RowKit
set_option linter.unusedVariables false

/-- The book tells just the live blocks. -/
structure BI (x : Bx) (ls : List (Nat × Nat)) (S : Sb) (R : Nat → Bk) (n : Nat) : Prop where
  th : ∀ i, i < n → Lth x ls S (R i).p (R i).s
  ex : ∀ p s, Lth x ls S p s → ∃ i, i < n ∧ (R i).p = p ∧ (R i).s = s
  nd : ∀ i j, i < n → j < n → (R i).p = (R j).p → i = j
theorem nodup_map_on {f : Nat → Nat} : ∀ {l : List Nat}, l.Nodup → (∀ a, a ∈ l → ∀ b, b ∈ l → f a = f b → a = b) → (l.map f).Nodup
  | [], _, _ => List.nodup_nil
  | a :: l, hd, h => by
    rw [List.nodup_cons] at hd
    rw [List.map_cons, List.nodup_cons]
    refine ⟨fun hm => ?_, nodup_map_on hd.2 (fun b hb c hc e => h b (List.mem_cons_of_mem _ hb) c (List.mem_cons_of_mem _ hc) e)⟩
    obtain ⟨b, hb, e⟩ := List.mem_map.1 hm
    have := h a List.mem_cons_self b (List.mem_cons_of_mem _ hb) e.symm
    exact hd.1 (this ▸ hb)
theorem szC_inj {k j : Nat} (hk : k < 8) (hj : j < 8) (h : szC k = szC j) : k = j := by
  have key : ∀ k, k < 8 → ∀ j, j < 8 → szC k = szC j → k = j := by unfold szC; decide
  exact key k hk j hj h
section
variable {w W : World} {sb lw : Nat} {x : Bx} {t : Bt} {fr : Nat → List Nat} {ls : List (Nat × Nat)} {S : Sb} {h : Nat → Int} {R : Nat → Bk} {n : Nat}
theorem BI.bnd (b : BI x ls S R n) (o : SO w W sb lw x t fr ls S h) : Bnd R n := fun i hi => by
  have h1 := o.inside (b.th i hi)
  have h2 := o.po.nums
  obtain ⟨_, q, k, h3, h4, h5⟩ := o.span (b.th i hi)
  have h6 := (o.al h3).1
  have h7 : 2 ^ k ≤ 2 ^ 8 := Nat.pow_le_pow_right (by decide) (Nat.le_trans h6 h2.1)
  have h8 := h2.2.2.2.1
  refine ⟨by omega, ?_⟩
  have : (2 : Nat) ^ 8 = 256 := by decide
  omega
theorem BI.mt_iff (b : BI x ls S R n) (p z : Nat) : mtB R p z n = true ↔ ∃ a s, Lth x ls S a s ∧ a < p + z ∧ p < a + s := by
  rw [mtB_iff]
  constructor
  · rintro ⟨i, h1, h2, h3⟩
    exact ⟨_, _, b.th i h1, h2, h3⟩
  · rintro ⟨a, s, h1, h2, h3⟩
    obtain ⟨i, h4, h5, h6⟩ := b.ex a s h1
    exact ⟨i, h4, by rw [h5]; exact h2, by rw [h5, h6]; exact h3⟩
theorem BI.meets (b : BI x ls S R n) (o : SO w W sb lw x t fr ls S h) (v : Lve S) (q j : Nat) : mtB R (ad x q) (4096 * 2 ^ j) n = mtL ls q j := by
  rw [Bool.eq_iff_iff, b.mt_iff, o.meets_iff v]
theorem BI.mt_no (b : BI x ls S R n) {p z : Nat} (hn : ∀ a s, Lth x ls S a s → p + z ≤ a ∨ a + s ≤ p) : mtB R p z n = false := by
  cases e : mtB R p z n with
  | false => rfl
  | true =>
    obtain ⟨a, s, h1, h2, h3⟩ := (b.mt_iff p z).1 e
    have := hn a s h1
    omega
/-- A live block of a small size on a page is a cell of it. -/
theorem SO.small (o : SO w W sb lw x t fr ls S h) {p s g k : Nat} (hk : k < 8) (hl : Lth x ls S p s) (hs : s = szC k) (h1 : ad x g ≤ p) (h2 : p < ad x g + 4096) : ∃ i, Liv x S p g k i := by
  have hz := szC_le hk
  rcases hl with ⟨g', k', i, hv, e⟩ | ⟨q, j, h3, h4, h5, h6⟩
  · obtain ⟨a1, a2, a3, a4⟩ := hv
    have hk' := (o.si.pg g' k' a1).1
    obtain rfl := szC_inj hk hk' (hs.symm.trans e)
    have hm := o.mem a1
    have n4 := o.po.nums.2.2.2.1
    have hc := off_cell (x := x) (p := g') hk' a2 (by omega)
    have hg : g' = g := by
      unfold ad at h1 h2
      unfold caN at a4
      omega
    subst hg
    exact ⟨i, a1, a2, a3, a4⟩
  · exfalso
    have : 0 < 2 ^ j := Nat.pow_pos (by decide)
    omega
/-- What covers a page. -/
theorem BI.count (b : BI x ls S R n) (o : SO w W sb lw x t fr ls S h) {g k : Nat} (hk : k < 8) : cnB R (ad x g) (szC k) n = if S.c g = some k then ncl k - (S.fl g).length else 0 := by
  have hz := szC_le hk
  rw [cnB_len]
  obtain ⟨L, hL⟩ : ∃ L, L = (List.range n).filter fun i => decide ((R i).s = szC k ∧ ad x g ≤ (R i).p ∧ (R i).p < ad x g + 4096) := ⟨_, rfl⟩
  rw [← hL]
  have hm : ∀ i, i ∈ L ↔ i < n ∧ (R i).s = szC k ∧ ad x g ≤ (R i).p ∧ (R i).p < ad x g + 4096 := fun i => by
    rw [hL, List.mem_filter, List.mem_range, decide_eq_true_iff]
  have hc : ∀ i, i ∈ L → ∃ c, Liv x S (R i).p g k c := fun i hi => by
    obtain ⟨h1, h2, h3, h4⟩ := (hm i).1 hi
    exact o.small hk (b.th i h1) h2 h3 h4
  by_cases e : S.c g = some k
  · rw [if_pos e]
    have hnum : ∀ i c, Liv x S (R i).p g k c → ((R i).p - ad x g) / szC k = c := fun i c hv => by
      rw [hv.2.2.2, show caN x g k c - ad x g = c * szC k by unfold caN ad; omega, Nat.mul_div_cancel _ (by omega)]
    have h1 := o.cells_of e (L.map fun i => ((R i).p - ad x g) / szC k) ?_ ?_
    · rw [List.length_map] at h1
      exact h1
    · have hnd : L.Nodup := by rw [hL]; exact (List.nodup_range).filter _
      refine nodup_map_on hnd (fun i hi j hj e2 => ?_)
      obtain ⟨c, hv⟩ := hc i hi
      obtain ⟨d, hv2⟩ := hc j hj
      rw [hnum i c hv, hnum j d hv2] at e2
      refine b.nd i j ((hm i).1 hi).1 ((hm j).1 hj).1 ?_
      rw [hv.2.2.2, hv2.2.2.2, e2]
    · intro c
      rw [List.mem_map]
      constructor
      · rintro ⟨i, hi, rfl⟩
        obtain ⟨c, hv⟩ := hc i hi
        rw [hnum i c hv]
        exact ⟨hv.2.1, hv.2.2.1⟩
      · rintro ⟨h2, h3⟩
        obtain ⟨i, h4, h5, h6⟩ := b.ex (caN x g k c) (szC k) (.inl ⟨g, k, c, ⟨e, h2, h3, rfl⟩, rfl⟩)
        have hmm := o.mem e
        have n4 := o.po.nums.2.2.2.1
        have hcc := off_cell (x := x) (p := g) hk h2 (by omega)
        refine ⟨i, (hm i).2 ⟨h4, h6, ?_, ?_⟩, hnum i c ⟨e, h2, h3, h5⟩⟩
        · rw [h5]; unfold caN ad; omega
        · rw [h5]; unfold caN ad; omega
  · rw [if_neg e]
    cases hL2 : L with
    | nil => rfl
    | cons i l =>
      exfalso
      obtain ⟨c, hv⟩ := hc i (by rw [hL2]; exact List.mem_cons_self)
      exact e hv.1
/-- Do all stretches meet a live block? -/
def alB (R : Nat → Bk) (n base c : Nat) : Nat → Bool
  | 0 => true
  | i + 1 => alB R n base c i && mtB R (base + i * c) c n
theorem alB_mono (R : Nat → Bk) (n base c : Nat) : ∀ m i, i ≤ m → alB R n base c i = false → alB R n base c m = false
  | 0, i, h1, h2 => by rw [show i = 0 by omega] at h2; exact h2
  | m + 1, i, h1, h2 => by
    by_cases e : i = m + 1
    · rw [← e]; exact h2
    · rw [alB, alB_mono R n base c m i (by omega) h2, Bool.false_and]
/-- Is no page covered in part? -/
def pgB (R : Nat → Bk) (n base z : Nat) : Nat → Bool
  | 0 => true
  | g + 1 => pgB R n base z g && !(decide (0 < cnB R (base + 4096 * g) z n * z) && decide (cnB R (base + 4096 * g) z n * z < 4096))
theorem pgB_mono (R : Nat → Bk) (n base z : Nat) : ∀ m i, i ≤ m → pgB R n base z i = false → pgB R n base z m = false
  | 0, i, h1, h2 => by rw [show i = 0 by omega] at h2; exact h2
  | m + 1, i, h1, h2 => by
    by_cases e : i = m + 1
    · rw [← e]; exact h2
    · rw [pgB, pgB_mono R n base z m i (by omega) h2, Bool.false_and]
theorem pgB_iff (R : Nat → Bk) (n base z : Nat) : ∀ m, pgB R n base z m = true ↔ ∀ g, g < m → ¬ (0 < cnB R (base + 4096 * g) z n * z ∧ cnB R (base + 4096 * g) z n * z < 4096)
  | 0 => ⟨fun _ g hg => by omega, fun _ => rfl⟩
  | m + 1 => by
    rw [pgB, Bool.and_eq_true, pgB_iff R n base z m, Bool.not_eq_true', Bool.and_eq_false_iff, decide_eq_false_iff_not, decide_eq_false_iff_not]
    constructor
    · rintro ⟨h1, h2⟩ g hg
      by_cases e : g = m
      · subst e
        omega
      · exact h1 g (by omega)
    · intro hh
      refine ⟨fun g hg => hh g (by omega), ?_⟩
      have := hh m (by omega)
      omega
theorem BI.al (b : BI x ls S R n) (o : SO w W sb lw x t fr ls S h) (v : Lve S) (j : Nat) : ∀ m, alB R n x.base (4096 * 2 ^ j) m = fullT ls j m
  | 0 => rfl
  | m + 1 => by
    rw [alB, fullT, b.al o v j m, ← b.meets o v]
    congr 2
    unfold ad
    rw [← Nat.mul_assoc, Nat.mul_comm m 4096, Nat.mul_assoc]
theorem BI.pg (b : BI x ls S R n) (o : SO w W sb lw x t fr ls S h) (v : Lve S) {k : Nat} (hk : k < 8) : pgB R n x.base (szC k) t.m.n = true ↔ S.pl k = [] := by
  rw [pgB_iff]
  have hz := szC_le hk
  have hnb := ncl_b hk
  constructor
  · intro hh
    cases e : S.pl k with
    | nil => rfl
    | cons g l =>
      exfalso
      obtain ⟨h1, h2⟩ := (o.si.pm k hk g).1 (by rw [e]; exact List.mem_cons_self)
      have h3 := hh g (o.mem h1).2.1
      have h4 := b.count o (g := g) hk
      rw [if_pos h1] at h4
      have h5 : 0 < (S.fl g).length := List.length_pos_iff.2 h2
      have h6 := v g k h1
      rw [show x.base + 4096 * g = ad x g from rfl, h4] at h3
      refine h3 ⟨Nat.mul_pos (by omega) (by omega), ?_⟩
      have h7 : (ncl k - (S.fl g).length + 1) * szC k ≤ ncl k * szC k := Nat.mul_le_mul_right _ (by omega)
      rw [hnb.1, Nat.add_mul, Nat.one_mul] at h7
      omega
  · rintro hp g hg ⟨h1, h2⟩
    have h4 := b.count o (g := g) hk
    rw [show x.base + 4096 * g = ad x g from rfl, h4] at h1 h2
    by_cases e : S.c g = some k
    · rw [if_pos e] at h1 h2
      have h3 : S.fl g ≠ [] := fun e2 => by
        rw [e2, List.length_nil, Nat.sub_zero, hnb.1] at h2
        omega
      have := (o.si.pm k hk g).2 ⟨e, h3⟩
      rw [hp] at this
      cases this
    · rw [if_neg e] at h1
      omega
end
end Go.Proofs.YtocpnddacdpnmaaGreatDoor
/- What the calls do to the live blocks. -/
namespace Go.Proofs.YtocpnddacdpnmaaGreatDoor
open Go.RowKit
set_option linter.unusedVariables false

theorem Lth_base {x x' : Bx} (hb : x'.base = x.base) {ls : List (Nat × Nat)} {S : Sb} {p s : Nat} : Lth x' ls S p s ↔ Lth x ls S p s := by
  unfold Lth Liv caN ad
  rw [hb]
section
variable {w W : World} {sb lw : Nat} {x : Bx} {t : Bt} {fr : Nat → List Nat} {ls : List (Nat × Nat)} {S : Sb} {h : Nat → Int} {R : Nat → Bk} {n : Nat}
variable {w2 W2 : World} {sb2 lw2 : Nat} {x' : Bx} {t' : Bt} {fr' : Nat → List Nat} {ls' : List (Nat × Nat)} {S' : Sb} {h' : Nat → Int}
theorem SO.cell_ne (o : SO w W sb lw x t fr ls S h) {g k i g' k' i' : Nat} (h1 : S.c g = some k) (h2 : i < ncl k) (h3 : S.c g' = some k') (h4 : i' < ncl k') (e : caN x g k i = caN x g' k' i') : g = g' ∧ k = k' ∧ i = i' := by
  have hk := (o.si.pg g k h1).1
  have hk' := (o.si.pg g' k' h3).1
  have hm := o.mem h1
  have hm' := o.mem h3
  have n4 := o.po.nums.2.2.2.1
  have hc := off_cell (x := x) (p := g) hk h2 (by omega)
  have hc' := off_cell (x := x) (p := g') hk' h4 (by omega)
  have hz := szC_le hk
  have hz' := szC_le hk'
  unfold caN at e
  have e1 : g = g' := by omega
  subst e1
  rw [h1] at h3
  injection h3 with h3
  subst h3
  refine ⟨rfl, rfl, ?_⟩
  have : i * szC k = i' * szC k := by omega
  exact Nat.eq_of_mul_eq_mul_right (by omega) this
/-- A cell that lies free is no live block. -/
theorem SO.free_no (o : SO w W sb lw x t fr ls S h) {p k i : Nat} (hc : S.c p = some k) (hi : i ∈ S.fl p) (s : Nat) : ¬ Lth x ls S (caN x p k i) s := by
  have hib := (o.si.fl p k hc).2.1 i hi
  rintro (⟨g, k', i', ⟨h1, h2, h3, h4⟩, _⟩ | ⟨q, j, h1, h2, h3, _⟩)
  · obtain ⟨rfl, rfl, rfl⟩ := o.cell_ne hc hib h1 h2 h4
    exact h3 hi
  · have hk := (o.si.pg p k hc).1
    have hm := o.mem hc
    have n4 := o.po.nums.2.2.2.1
    have hcc := off_cell (x := x) (p := p) hk hib (by omega)
    have hz := szC_le hk
    have hzz : 0 < 2 ^ j := Nat.pow_pos (by decide)
    unfold caN ad at h3
    rcases o.apart hm.1 h1 with ⟨e, _⟩ | e | e
    · rw [← e, hc] at h2; cases h2
    · omega
    · omega
theorem Lth_old (o : SO w W sb lw x t fr ls S h) {p k i : Nat} {r : List Nat} (hc : S.c p = some k) (hf : S.fl p = i :: r) (a s : Nat) : Lth x ls (takS S p k r) a s ↔ Lth x ls S a s ∨ (a = caN x p k i ∧ s = szC k) := by
  obtain ⟨n1, n2, _⟩ := o.si.fl p k hc
  rw [hf, List.nodup_cons] at n1
  have hib := n2 i (by rw [hf]; exact List.mem_cons_self)
  constructor
  · rintro (⟨g, k', i', ⟨h1, h2, h3, h4⟩, h5⟩ | ⟨q, j, h1, h2, h3, h4⟩)
    · replace h1 : S.c g = some k' := h1
      replace h3 : i' ∉ updF S.fl p r g := h3
      by_cases e : g = p
      · subst e
        rw [hc] at h1
        injection h1 with h1
        subst h1
        rw [updF_self] at h3
        by_cases e2 : i' = i
        · subst e2
          exact .inr ⟨h4, h5⟩
        · refine .inl (.inl ⟨g, k, i', ⟨hc, h2, ?_, h4⟩, h5⟩)
          rw [hf, List.mem_cons, not_or]
          exact ⟨e2, h3⟩
      · rw [updF_ne _ _ e] at h3
        exact .inl (.inl ⟨g, k', i', ⟨h1, h2, h3, h4⟩, h5⟩)
    · exact .inl (.inr ⟨q, j, h1, h2, h3, h4⟩)
  · rintro ((⟨g, k', i', ⟨h1, h2, h3, h4⟩, h5⟩ | ⟨q, j, h1, h2, h3, h4⟩) | ⟨rfl, rfl⟩)
    · refine .inl ⟨g, k', i', ⟨h1, h2, ?_, h4⟩, h5⟩
      show i' ∉ updF S.fl p r g
      by_cases e : g = p
      · subst e
        rw [updF_self]
        rw [hf, List.mem_cons, not_or] at h3
        exact h3.2
      · rw [updF_ne _ _ e]
        exact h3
    · exact .inr ⟨q, j, h1, h2, h3, h4⟩
    · refine .inl ⟨p, k, i, ⟨hc, hib, ?_, rfl⟩, rfl⟩
      show i ∉ updF S.fl p r p
      rw [updF_self]
      exact n1.1
theorem Lth_new {p k : Nat} (hk : k < 8) (hc : S.c p = none) (hn : ∀ i, (p, i) ∉ ls) (a s : Nat) : Lth x (ls ++ [(p, 0)]) (takS (freS S p k) p k (List.range' 1 (ncl k - 1))) a s ↔ Lth x ls S a s ∨ (a = caN x p k 0 ∧ s = szC k) := by
  have hnb := ncl_b hk
  constructor
  · rintro (⟨g, k', i', ⟨h1, h2, h3, h4⟩, h5⟩ | ⟨q, j, h1, h2, h3, h4⟩)
    · replace h1 : updF S.c p (some k) g = some k' := h1
      replace h3 : i' ∉ updF (updF S.fl p (List.range' 0 (ncl k))) p (List.range' 1 (ncl k - 1)) g := h3
      by_cases e : g = p
      · subst e
        rw [updF_self] at h1 h3
        injection h1 with h1
        subst h1
        have e2 : i' = 0 := by
          rcases Nat.eq_zero_or_pos i' with e2 | e2
          · exact e2
          · exact absurd (List.mem_range'_1.2 ⟨e2, by omega⟩) h3
        subst e2
        exact .inr ⟨h4, h5⟩
      · rw [updF_ne _ _ e] at h1
        rw [updF_ne _ _ e, updF_ne _ _ e] at h3
        exact .inl (.inl ⟨g, k', i', ⟨h1, h2, h3, h4⟩, h5⟩)
    · replace h2 : updF S.c p (some k) q = none := h2
      have e : q ≠ p := fun e => by rw [e, updF_self] at h2; cases h2
      rw [updF_ne _ _ e] at h2
      refine .inl (.inr ⟨q, j, ?_, h2, h3, h4⟩)
      rcases List.mem_append.1 h1 with h1 | h1
      · exact h1
      · rw [List.mem_singleton] at h1
        injection h1 with h1
        exact absurd h1 e
  · rintro ((⟨g, k', i', ⟨h1, h2, h3, h4⟩, h5⟩ | ⟨q, j, h1, h2, h3, h4⟩) | ⟨rfl, rfl⟩)
    · have e : g ≠ p := fun e => by rw [e, hc] at h1; cases h1
      refine .inl ⟨g, k', i', ⟨?_, h2, ?_, h4⟩, h5⟩
      · show updF S.c p (some k) g = some k'
        rw [updF_ne _ _ e]
        exact h1
      · show i' ∉ updF (updF S.fl p (List.range' 0 (ncl k))) p (List.range' 1 (ncl k - 1)) g
        rw [updF_ne _ _ e, updF_ne _ _ e]
        exact h3
    · have e : q ≠ p := fun e => hn j (e ▸ h1)
      refine .inr ⟨q, j, List.mem_append_left _ h1, ?_, h3, h4⟩
      show updF S.c p (some k) q = none
      rw [updF_ne _ _ e]
      exact h2
    · refine .inl ⟨p, k, 0, ⟨updF_self _ _ _, by omega, ?_, rfl⟩, rfl⟩
      show 0 ∉ updF (updF S.fl p (List.range' 0 (ncl k))) p (List.range' 1 (ncl k - 1)) p
      rw [updF_self, List.mem_range'_1]
      omega
theorem Lth_back (o : SO w W sb lw x t fr ls S h) {p k i : Nat} (hv : Liv x S (caN x p k i) p k i) (a s : Nat) : Lth x ls (givS S p k i) a s ↔ Lth x ls S a s ∧ a ≠ caN x p k i := by
  obtain ⟨hc, hi, hn, _⟩ := hv
  constructor
  · rintro (⟨g, k', i', ⟨h1, h2, h3, h4⟩, h5⟩ | ⟨q, j, h1, h2, h3, h4⟩)
    · replace h1 : S.c g = some k' := h1
      replace h3 : i' ∉ updF S.fl p (i :: S.fl p) g := h3
      have h6 : i' ∉ S.fl g := by
        by_cases e : g = p
        · subst e
          rw [updF_self, List.mem_cons, not_or] at h3
          exact h3.2
        · rw [updF_ne _ _ e] at h3
          exact h3
      refine ⟨.inl ⟨g, k', i', ⟨h1, h2, h6, h4⟩, h5⟩, fun e => ?_⟩
      rw [h4] at e
      obtain ⟨rfl, rfl, rfl⟩ := o.cell_ne h1 h2 hc hi e
      rw [updF_self, List.mem_cons, not_or] at h3
      exact h3.1 rfl
    · have hl : Lth x ls S a s := .inr ⟨q, j, h1, h2, h3, h4⟩
      refine ⟨hl, fun e => ?_⟩
      have hk := (o.si.pg p k hc).1
      have hz := szC_le hk
      have hj : 0 < 2 ^ j := Nat.pow_pos (by decide)
      rcases o.two hl (.inl ⟨p, k, i, ⟨hc, hi, hn, rfl⟩, rfl⟩) with ⟨_, e2⟩ | e2 | e2 <;> omega
  · rintro ⟨⟨g, k', i', ⟨h1, h2, h3, h4⟩, h5⟩ | ⟨q, j, h1, h2, h3, h4⟩, h6⟩
    · refine .inl ⟨g, k', i', ⟨h1, h2, ?_, h4⟩, h5⟩
      show i' ∉ updF S.fl p (i :: S.fl p) g
      by_cases e : g = p
      · subst e
        rw [hc] at h1
        injection h1 with h1
        subst h1
        rw [updF_self, List.mem_cons, not_or]
        exact ⟨fun e => h6 (by rw [h4, e]), h3⟩
      · rw [updF_ne _ _ e]
        exact h3
    · exact .inr ⟨q, j, h1, h2, h3, h4⟩
theorem Lth_rel (o : SO w W sb lw x t fr ls S h) {p k i : Nat} (hv : Liv x S (caN x p k i) p k i) (hl : (S.fl p).length + 1 = ncl k) (a s : Nat) : Lth x (dropR ls p) (relS S p k) a s ↔ Lth x ls S a s ∧ a ≠ caN x p k i := by
  obtain ⟨hc, hi, hn, _⟩ := hv
  obtain ⟨n1, n2, _⟩ := o.si.fl p k hc
  constructor
  · rintro (⟨g, k', i', ⟨h1, h2, h3, h4⟩, h5⟩ | ⟨q, j, h1, h2, h3, h4⟩)
    · replace h1 : updF S.c p none g = some k' := h1
      have e : g ≠ p := fun e => by rw [e, updF_self] at h1; cases h1
      rw [updF_ne _ _ e] at h1
      refine ⟨.inl ⟨g, k', i', ⟨h1, h2, h3, h4⟩, h5⟩, fun e2 => ?_⟩
      rw [h4] at e2
      exact e (o.cell_ne h1 h2 hc hi e2).1
    · obtain ⟨h1, h7⟩ := List.mem_filter.1 h1
      have h7 : q ≠ p := of_decide_eq_true h7
      replace h2 : updF S.c p none q = none := h2
      rw [updF_ne _ _ h7] at h2
      have hl2 : Lth x ls S a s := .inr ⟨q, j, h1, h2, h3, h4⟩
      refine ⟨hl2, fun e => ?_⟩
      have hk := (o.si.pg p k hc).1
      have hz := szC_le hk
      have hj : 0 < 2 ^ j := Nat.pow_pos (by decide)
      rcases o.two hl2 (.inl ⟨p, k, i, ⟨hc, hi, hn, rfl⟩, rfl⟩) with ⟨_, e2⟩ | e2 | e2 <;> omega
  · rintro ⟨⟨g, k', i', ⟨h1, h2, h3, h4⟩, h5⟩ | ⟨q, j, h1, h2, h3, h4⟩, h6⟩
    · have e : g ≠ p := fun e => by
        subst e
        rw [hc] at h1
        injection h1 with h1
        subst h1
        have e2 : i' ≠ i := fun e => h6 (by rw [h4, e])
        have h7 := nodup_le (ncl k) (i' :: i :: S.fl g) (by
          rw [List.nodup_cons, List.nodup_cons, List.mem_cons, not_or]
          exact ⟨⟨e2, h3⟩, hn, n1⟩) (fun c hcc => by
          rcases List.mem_cons.1 hcc with rfl | hcc
          · exact h2
          · rcases List.mem_cons.1 hcc with rfl | hcc
            · exact hi
            · exact n2 c hcc)
        rw [List.length_cons, List.length_cons] at h7
        omega
      refine .inl ⟨g, k', i', ⟨?_, h2, h3, h4⟩, h5⟩
      show updF S.c p none g = some k'
      rw [updF_ne _ _ e]
      exact h1
    · have e : q ≠ p := fun e => by rw [e, hc] at h2; cases h2
      refine .inr ⟨q, j, List.mem_filter.2 ⟨h1, decide_eq_true e⟩, ?_, h3, h4⟩
      show updF S.c p none q = none
      rw [updF_ne _ _ e]
      exact h2
theorem Lth_need {p k : Nat} (hc : S.c p = none) (a s : Nat) : Lth x (ls ++ [(p, k)]) S a s ↔ Lth x ls S a s ∨ (a = ad x p ∧ s = 4096 * 2 ^ k) := by
  constructor
  · rintro (h1 | ⟨q, j, h1, h2, h3, h4⟩)
    · exact .inl (.inl h1)
    · rcases List.mem_append.1 h1 with h1 | h1
      · exact .inl (.inr ⟨q, j, h1, h2, h3, h4⟩)
      · rw [List.mem_singleton] at h1
        injection h1 with e1 e2
        subst e1 e2
        exact .inr ⟨h3, h4⟩
  · rintro ((h1 | ⟨q, j, h1, h2, h3, h4⟩) | ⟨h3, h4⟩)
    · exact .inl h1
    · exact .inr ⟨q, j, List.mem_append_left _ h1, h2, h3, h4⟩
    · exact .inr ⟨p, k, List.mem_append_right _ (List.mem_singleton.2 rfl), hc, h3, h4⟩
theorem Lth_giv (o : SO w W sb lw x t fr ls S h) {p k : Nat} (hp : (p, k) ∈ ls) (hc : S.c p = none) (a s : Nat) : Lth x (dropR ls p) S a s ↔ Lth x ls S a s ∧ a ≠ ad x p := by
  constructor
  · rintro (⟨g, k', i', hv, h5⟩ | ⟨q, j, h1, h2, h3, h4⟩)
    · refine ⟨.inl ⟨g, k', i', hv, h5⟩, fun e => ?_⟩
      have hz := szC_le (o.si.pg g k' hv.1).1
      have hj : 0 < 2 ^ k := Nat.pow_pos (by decide)
      rcases o.two (.inl ⟨g, k', i', hv, h5⟩) (.inr ⟨p, k, hp, hc, rfl, rfl⟩) with ⟨_, e2⟩ | e2 | e2 <;> omega
    · obtain ⟨h1, h7⟩ := List.mem_filter.1 h1
      have h7 : q ≠ p := of_decide_eq_true h7
      refine ⟨.inr ⟨q, j, h1, h2, h3, h4⟩, fun e => h7 ?_⟩
      rw [h3] at e
      unfold ad at e
      omega
  · rintro ⟨h1 | ⟨q, j, h1, h2, h3, h4⟩, h6⟩
    · exact .inl h1
    · refine .inr ⟨q, j, List.mem_filter.2 ⟨h1, decide_eq_true fun e => h6 ?_⟩, h2, h3, h4⟩
      have e : q = p := e
      rw [h3, e]
/-- One more in the book. -/
theorem BI.add (b : BI x ls S R n) {p0 s0 m : Nat} (hL : ∀ a s, Lth x' ls' S' a s ↔ Lth x ls S a s ∨ (a = p0 ∧ s = s0)) (hN : ∀ s, ¬ Lth x ls S p0 s) : BI x' ls' S' (fun i => if i = n then ⟨p0, s0, m⟩ else R i) (n + 1) := by
  refine ⟨fun i hi => ?_, fun p s hp => ?_, fun i j hi hj e => ?_⟩
  · by_cases e : i = n
    · rw [if_pos e]
      exact (hL _ _).2 (.inr ⟨rfl, rfl⟩)
    · rw [if_neg e]
      exact (hL _ _).2 (.inl (b.th i (by omega)))
  · rcases (hL p s).1 hp with hp | ⟨rfl, rfl⟩
    · obtain ⟨i, h1, h2, h3⟩ := b.ex p s hp
      refine ⟨i, by omega, ?_⟩
      rw [if_neg (by omega)]
      exact ⟨h2, h3⟩
    · exact ⟨n, by omega, by rw [if_pos rfl], by rw [if_pos rfl]⟩
  · by_cases e1 : i = n
    · by_cases e2 : j = n
      · omega
      · rw [if_pos e1, if_neg e2] at e
        exact absurd (e ▸ b.th j (by omega)) (hN _)
    · by_cases e2 : j = n
      · rw [if_neg e1, if_pos e2] at e
        exact absurd (e ▸ b.th i (by omega)) (hN _)
      · rw [if_neg e1, if_neg e2] at e
        exact b.nd i j (by omega) (by omega) e
/-- One fewer. -/
theorem BI.drop (b : BI x ls S R n) {d : Nat} (hd : d < n) (hL : ∀ a s, Lth x' ls' S' a s ↔ Lth x ls S a s ∧ a ≠ (R d).p) : BI x' ls' S' (wo R d) (n - 1) := by
  have hwo : ∀ i, i < n - 1 → ∃ j, j < n ∧ j ≠ d ∧ wo R d i = R j ∧ j = (if i < d then i else i + 1) := fun i hi => by
    unfold wo
    by_cases e : i < d
    · exact ⟨i, by omega, by omega, by rw [if_pos e], by rw [if_pos e]⟩
    · exact ⟨i + 1, by omega, by omega, by rw [if_neg e], by rw [if_neg e]⟩
  refine ⟨fun i hi => ?_, fun p s hp => ?_, fun i j hi hj e => ?_⟩
  · obtain ⟨j, h1, h2, h3, _⟩ := hwo i hi
    rw [h3]
    exact (hL _ _).2 ⟨b.th j h1, fun e => h2 (b.nd j d h1 hd e)⟩
  · obtain ⟨h1, h2⟩ := (hL p s).1 hp
    obtain ⟨i, h3, h4, h5⟩ := b.ex p s h1
    have h6 : i ≠ d := fun e => h2 (by rw [← h4, e])
    by_cases e : i < d
    · refine ⟨i, by omega, ?_⟩
      unfold wo
      rw [if_pos e]
      exact ⟨h4, h5⟩
    · refine ⟨i - 1, by omega, ?_⟩
      unfold wo
      rw [if_neg (by omega), show i - 1 + 1 = i by omega]
      exact ⟨h4, h5⟩
  · obtain ⟨a, h1, h2, h3, h4⟩ := hwo i hi
    obtain ⟨c, h5, h6, h7, h8⟩ := hwo j hj
    rw [h3, h7] at e
    have := b.nd a c h1 h5 e
    split at h4 <;> split at h8 <;> omega
/-- The new block meets none. -/
theorem new_apart (o' : SO w2 W2 sb2 lw2 x' t' fr' ls' S' h') {p0 s0 : Nat} (hL : ∀ a s, Lth x' ls' S' a s ↔ Lth x ls S a s ∨ (a = p0 ∧ s = s0)) (hN : ∀ s, ¬ Lth x ls S p0 s) (a s : Nat) (hl : Lth x ls S a s) : p0 + s0 ≤ a ∨ a + s ≤ p0 := by
  rcases o'.two ((hL _ _).2 (.inl hl)) ((hL _ _).2 (.inr ⟨rfl, rfl⟩)) with ⟨e, _⟩ | e | e
  · exact absurd (e ▸ hl) (hN _)
  · exact .inr e
  · exact .inl e
/-- The bytes of live blocks. -/
def Lby (x : Bx) (ls : List (Nat × Nat)) (S : Sb) (j : Nat) : Prop := ∃ p s, Lth x ls S p s ∧ p ≤ x.base + j ∧ x.base + j < p + s
theorem SO.byte (o : SO w W sb lw x t fr ls S h) {j : Nat} (hj : Lby x ls S j) : Lv ls (j / 4096) := by
  obtain ⟨p, s, h1, h2, h3⟩ := hj
  obtain ⟨_, q, k, h4, h5, h6⟩ := o.span h1
  unfold ad at h5 h6
  refine ⟨q, k, h4, ?_, ?_⟩
  · exact (Nat.le_div_iff_mul_le (by decide)).2 (by omega)
  · exact (Nat.div_lt_iff_lt_mul (by decide)).2 (by omega)
/-- The same, as far as the statements see it; live bytes are kept. -/
structure Ch (x : Bx) (t : Bt) (ls : List (Nat × Nat)) (S : Sb) (x' : Bx) (t' : Bt) (ls' : List (Nat × Nat)) (S' : Sb) : Prop where
  base : x'.base = x.base
  R : x'.R = x.R
  lim : x'.lim = x.lim
  o : x'.o = x.o
  kb : ∀ j, Lby x ls S j → Lby x' ls' S' j → t'.f j = t.f j
end
end Go.Proofs.YtocpnddacdpnmaaGreatDoor
/- croftlaw7's world with its book; noFit. -/
namespace Go.Proofs.YtocpnddacdpnmaaGreatDoor
open Go.RowKit
set_option linter.unusedVariables false

theorem w7c5 {W : World} {y base lim o lw sb : Nat} {fv lv pv qv : Value} {po pp : Int} (h : W.heap[y]? = some (w7O base lim o lw sb fv lv pv qv po pp)) : W.cell? ⟨y, 0, none⟩ = some (.int .u64 (base : Int)) ∧ W.cell? ⟨y, 1, none⟩ = some (.int .i64 (lim : Int)) ∧ W.cell? ⟨y, 2, none⟩ = some (.int .i64 (o : Int)) ∧ W.cell? ⟨y, 3, none⟩ = some (.pointer (some ⟨lw, 0, none⟩)) ∧ W.cell? ⟨y, 4, none⟩ = some (.pointer (some ⟨sb, 0, none⟩)) := by
  refine ⟨?_, ?_, ?_, ?_, ?_⟩ <;> simp [World.cell?, h]
/-- A row of blocks of the book lies beside a slab and its pool. -/
theorem SO.bty {w W sb lw x t fr ls S h} (s : SO w W sb lw x t fr ls S h) {y : Nat} {cs : Array Value} {z : Nat × Nat} (hy : W.heap[y]? = some (.cells cs 79 z)) : ¬ sown x sb y := by
  rintro ((hx | hx | ⟨k, hk, e2⟩) | rfl)
  · obtain ⟨cs', t', z', h1, h2⟩ := space_ty s.sw.pl.bd.sp hx
    have e3 := ty_ne' hy h1
    rcases h2 with rfl | rfl <;> exact absurd e3 (by decide)
  · rw [← s.sw.pl.bd.mo] at hx
    obtain ⟨cs', t', z', h1, h2⟩ := map_ty s.sw.pl.bd.mp hx
    have e3 := ty_ne' hy h1
    rcases h2 with rfl | rfl | rfl | rfl | rfl <;> exact absurd e3 (by decide)
  · rw [e2] at hy
    exact absurd (ty_ne' hy (s.sw.pl.bd.ls k hk).hc) (by decide)
  · exact absurd (ty_ne' hy s.sw.bx) (by decide)
theorem Bks.call {w W W' sb lw x t fr ls S h va n vc R} (b : Bks W (.slice va n vc) n R) (s : SO w W sb lw x t fr ls S h) (k : Kept (sown x sb) W W') : Bks W' (.slice va n vc) n R :=
  b.kept k (fun y hy => by
    obtain ⟨cs, hc⟩ := own_ty b hy
    exact s.bty hc)
/-- croftlaw7's world and its book. -/
structure LW7 (w W : World) (wb lw sb : Nat) (x : Bx) (t : Bt) (fr : Nat → List Nat) (ls : List (Nat × Nat)) (S : Sb) (R : Nat → Bk) (n : Nat) : Prop where
  so : ∃ h, SO w W sb lw x t fr ls S h
  lv : Lve S
  bi : BI x ls S R n
  bx : ∃ fv lv pv qv po pp, W.heap[wb]? = some (w7O x.base x.lim x.o lw sb fv lv pv qv po pp)
  nw : w.heap.size ≤ wb
  ns : ¬ sown x sb wb
  mr : ∀ i, i < n → (R i).mark < 256
  br : x.base % x.R = 0
theorem LW7.keep {w W W' wb lw sb x t fr ls S R n} (L : LW7 w W wb lw sb x t fr ls S R n) (k : Kept none' W W') : LW7 w W' wb lw sb x t fr ls S R n := by
  obtain ⟨h, so⟩ := L.so
  obtain ⟨fv, lv, pv, qv, po, pp, hx⟩ := L.bx
  exact ⟨⟨h, so.keep k⟩, L.lv, L.bi, ⟨fv, lv, pv, qv, po, pp, (k.block _ (heap_lt hx) (fun e => e)).trans hx⟩, L.nw, L.ns, L.mr, L.br⟩
theorem LW7.c {w W wb lw sb x t fr ls S R n} (L : LW7 w W wb lw sb x t fr ls S R n) : W.cell? ⟨wb, 0, none⟩ = some (.int .u64 (x.base : Int)) ∧ W.cell? ⟨wb, 1, none⟩ = some (.int .i64 (x.lim : Int)) ∧ W.cell? ⟨wb, 2, none⟩ = some (.int .i64 (x.o : Int)) ∧ W.cell? ⟨wb, 3, none⟩ = some (.pointer (some ⟨lw, 0, none⟩)) ∧ W.cell? ⟨wb, 4, none⟩ = some (.pointer (some ⟨sb, 0, none⟩)) := by
  obtain ⟨fv, lv, pv, qv, po, pp, hx⟩ := L.bx
  exact w7c5 hx
theorem LW7.po {w W wb lw sb x t fr ls S R n} (L : LW7 w W wb lw sb x t fr ls S R n) : PO w W lw x t fr ls := by
  obtain ⟨h, so⟩ := L.so
  exact so.po
theorem LW7.bnd {w W wb lw sb x t fr ls S R n} (L : LW7 w W wb lw sb x t fr ls S R n) : Bnd R n := by
  obtain ⟨h, so⟩ := L.so
  exact L.bi.bnd so
set_option maxRecDepth 4000 in
set_option maxHeartbeats 2000000 in
theorem noFit_big {w W wb lw sb x t fr ls S R n} (L : LW7 w W wb lw sb x t fr ls S R n) (va : Option Addr) (vc : Nat) (hn : n ≤ 1000) (B : Bks W (.slice va n vc) n R) (r m : Nat) (hr : 4096 ≤ r) (hr2 : r ≤ 1048576) (hm : x.n = m * r) :
    Calls Tryz.prog 71 #[.pointer (some ⟨wb, 0, none⟩), .slice va n vc, .int .u64 (r : Int)] W fun e w' => e = .returned (.bool (alB R n x.base r m)) ∧ Kept none' W w' := by
  have HL := hid L
  have HB := hid B
  have HM := hid hm
  have hnum := L.po.nums
  have hbe : x.base + x.n ≤ 9223372036854775808 := hnum.2.2.2.1
  obtain ⟨c0, c1, c2, c3, c4⟩ := L.c
  have SP := hid (Space6 L.po.pl)
  have EN := hid (end6 L.po)
  have MT := hid (fun W' (k : Kept none' W W') (a : Nat) (ha : a ≤ 9223372036854775808) => meets7 va n vc R hn L.bnd a r ha hr2 W' (B.kept k (fun _ _ e => e)))
  obtain ⟨E, hE⟩ : ∃ E, E = x.base + x.n := ⟨_, rfl⟩
  rw [← hE] at EN hbe
  have HE := hid hE
  obtain ⟨b0, hb0⟩ : ∃ b0, b0 = x.base := ⟨_, rfl⟩
  rw [← hb0] at c0 ⊢
  have HB0 := hid hb0
  have hb1 : b0 ≤ 9223372036854775808 := by omega
  obtain ⟨sp, hsp⟩ : ∃ sp, sp = x.s := ⟨_, rfl⟩
  rw [← hsp] at EN SP
  have CB := hid (fun W' (k : Kept none' W W') => show W'.cell? ⟨wb, 0, none⟩ = some (.int .u64 (b0 : Int)) from by rw [hb0]; exact (L.keep k).c.1)
  clear hb0 hE hnum B hm L hsp
  have hri : ¬ (r : Int) < 4096 := by omega
  go_enter Tryz.func71, Tryz.ntmps71
  go_wp2_with fail
  refine SP.out.mono ?_
  rintro e w1 ⟨rfl, h1⟩
  replace h1 := h1.symm
  subst h1
  go_wp2_with fail
  refine EN.out.mono ?_
  rintro e w1 ⟨rfl, hk⟩
  have K1 := hid hk
  clear c0 c1 c2 c3 c4 hk
  have c0 := CB.out _ K1.out
  go_wp2_with fail
  clear c0
  go_loopw [9] (fun s W' => ∃ i a : Nat, i ≤ m ∧ a ≤ E ∧ s = .int .u64 (a : Int) ∧ Hid (a = b0 + i * r ∧ alB R n b0 r i = true ∧ Kept none' W W')) (fun s _ => E - (intOf s).toNat)
  case atStart => exact ⟨0, b0, by omega, by have := HE.out; have := HB0.out; omega, rfl, hid ⟨by rw [Nat.zero_mul, Nat.add_zero], rfl, K1.out⟩⟩
  case round =>
    obtain ⟨i, a, hi, ha, rfl, hR⟩ := hrel
    by_cases hlt : a < E
    · have hai : (a : Int) < (E : Int) := by omega
      have him : i + 1 ≤ m := by
        have h1 := hR.out.1
        have h2 := HE.out
        have h3 := HM.out
        have h4 := HB0.out
        have h5 : i * r < m * r := by omega
        exact Nat.lt_of_mul_lt_mul_right h5
      have haE : a + r ≤ E := by
        have h1 := hR.out.1
        have h2 := HE.out
        have h3 := HM.out
        have h4 := HB0.out
        have h5 : (i + 1) * r ≤ m * r := Nat.mul_le_mul_right _ him
        rw [Nat.add_mul, Nat.one_mul] at h5
        omega
      have MM := hid (MT.out wr hR.out.2.2 a (by omega))
      have AL := hid (show alB R n b0 r (i + 1) = mtB R a r n from by rw [alB, hR.out.2.1, Bool.true_and, ← hR.out.1])
      generalize mtB R a r n = bb at *
      go_wp2_with fail
      refine MM.out.mono ?_
      rintro e w2 ⟨rfl, hk⟩
      have K2 := hid (none_trans hR.out.2.2 hk)
      clear hk MM
      cases bb with
      | true =>
        go_wp2_with fail
        refine ⟨⟨i + 1, a + r, him, haE, by simp, hid ⟨?_, AL.out, K2.out⟩⟩, by simp [intOf]; omega⟩
        rw [hR.out.1, Nat.add_mul, Nat.one_mul, Nat.add_assoc]
      | false =>
        have D := hid (alB_mono R n b0 r m (i + 1) him AL.out)
        go_wp2_with fail
        go_ret
        exact ⟨by rw [D.out]; rfl, K2.out⟩
    · have hai : ¬ (a : Int) < (E : Int) := by omega
      have him : i = m := by
        have h1 := hR.out.1
        have h2 := HE.out
        have h3 := HM.out
        have h4 := HB0.out
        have h5 : m * r ≤ i * r := by omega
        have := Nat.le_of_mul_le_mul_right h5 (by omega)
        omega
      subst him
      have c0 := CB.out _ hR.out.2.2
      have D := hid hR.out.2
      clear hR
      go_wp2_with fail
      go_loopw [10, 11] (fun s _ W' => s = .int .u64 (b0 : Int) ∧ W' = wr) (fun _ _ _ => 0)
      case atStart => exact ⟨rfl, rfl⟩
      case round =>
        obtain ⟨rfl, rfl⟩ := hrel
        have hrd : decide ((r : Int) < 4096) = false := decide_eq_false (by omega)
        clear c0
        go_wp2_with fail
        go_ret
        exact ⟨by rw [D.out.1]; rfl, D.out.2⟩
end Go.Proofs.YtocpnddacdpnmaaGreatDoor
/- croftlaw7.noFit of a cell. -/
namespace Go.Proofs.YtocpnddacdpnmaaGreatDoor
open Go.RowKit
set_option linter.unusedVariables false

set_option maxRecDepth 4000 in
set_option maxHeartbeats 2000000 in
theorem noFit_small {w W wb lw sb x t fr ls S R n} (L : LW7 w W wb lw sb x t fr ls S R n) (va : Option Addr) (vc : Nat) (hn : n ≤ 1000) (B : Bks W (.slice va n vc) n R) (r m : Nat) (hr0 : 0 < r) (hr : r < 4096) (hm : x.n = m * 4096) :
    Calls Tryz.prog 71 #[.pointer (some ⟨wb, 0, none⟩), .slice va n vc, .int .u64 (r : Int)] W fun e w' => e = .returned (.bool (alB R n x.base 4096 m && pgB R n x.base r m)) ∧ Kept none' W w' := by
  have HL := hid L
  have HB := hid B
  have HM := hid hm
  have hnum := L.po.nums
  have hbe : x.base + x.n ≤ 9223372036854775808 := hnum.2.2.2.1
  obtain ⟨c0, c1, c2, c3, c4⟩ := L.c
  have SP := hid (Space6 L.po.pl)
  have EN := hid (end6 L.po)
  have MT := hid (fun W' (k : Kept none' W W') (a : Nat) (ha : a ≤ 9223372036854775808) => meets7 va n vc R hn L.bnd a 4096 ha (by decide) W' (B.kept k (fun _ _ e => e)))
  have CV := hid (fun W' (k : Kept none' W W') (a : Nat) (ha : a ≤ 9223372036854775808) => covered7 va n vc R hn L.bnd a r ha (by omega) W' (B.kept k (fun _ _ e => e)))
  obtain ⟨E, hE⟩ : ∃ E, E = x.base + x.n := ⟨_, rfl⟩
  rw [← hE] at EN hbe
  have HE := hid hE
  obtain ⟨b0, hb0⟩ : ∃ b0, b0 = x.base := ⟨_, rfl⟩
  rw [← hb0] at c0 ⊢
  have HB0 := hid hb0
  have hb1 : b0 ≤ 9223372036854775808 := by omega
  obtain ⟨sp, hsp⟩ : ∃ sp, sp = x.s := ⟨_, rfl⟩
  rw [← hsp] at EN SP
  have CB := hid (fun W' (k : Kept none' W W') => show W'.cell? ⟨wb, 0, none⟩ = some (.int .u64 (b0 : Int)) from by rw [hb0]; exact (L.keep k).c.1)
  clear hb0 hE hnum B hm L hsp
  have hri : (r : Int) < 4096 := by omega
  go_enter Tryz.func71, Tryz.ntmps71
  go_wp2_with fail
  refine SP.out.mono ?_
  rintro e w1 ⟨rfl, h1⟩
  replace h1 := h1.symm
  subst h1
  go_wp2_with fail
  refine EN.out.mono ?_
  rintro e w1 ⟨rfl, hk⟩
  have K1 := hid hk
  clear c0 c1 c2 c3 c4 hk
  have c0 := CB.out _ K1.out
  go_wp2_with fail
  clear c0
  go_loopw [9] (fun s W' => ∃ i a : Nat, i ≤ m ∧ a ≤ E ∧ s = .int .u64 (a : Int) ∧ Hid (a = b0 + i * 4096 ∧ alB R n b0 4096 i = true ∧ Kept none' W W')) (fun s _ => E - (intOf s).toNat)
  case atStart => exact ⟨0, b0, by omega, by have := HE.out; have := HB0.out; omega, rfl, hid ⟨by rw [Nat.zero_mul, Nat.add_zero], rfl, K1.out⟩⟩
  case round =>
    obtain ⟨i, a, hi, ha, rfl, hR⟩ := hrel
    by_cases hlt : a < E
    · have hai : (a : Int) < (E : Int) := by omega
      have him : i + 1 ≤ m := by
        have h1 := hR.out.1
        have h2 := HE.out
        have h3 := HM.out
        have h4 := HB0.out
        have h5 : i * 4096 < m * 4096 := by omega
        exact Nat.lt_of_mul_lt_mul_right h5
      have haE : a + 4096 ≤ E := by
        have h1 := hR.out.1
        have h2 := HE.out
        have h3 := HM.out
        have h4 := HB0.out
        have h5 : (i + 1) * 4096 ≤ m * 4096 := Nat.mul_le_mul_right _ him
        rw [Nat.add_mul, Nat.one_mul] at h5
        omega
      have MM := hid (MT.out wr hR.out.2.2 a (by omega))
      have AL := hid (show alB R n b0 4096 (i + 1) = mtB R a 4096 n from by rw [alB, hR.out.2.1, Bool.true_and, ← hR.out.1])
      generalize mtB R a 4096 n = bb at *
      go_wp2_with fail
      refine MM.out.mono ?_
      rintro e w2 ⟨rfl, hk⟩
      have K2 := hid (none_trans hR.out.2.2 hk)
      clear hk MM
      cases bb with
      | true =>
        go_wp2_with fail
        refine ⟨⟨i + 1, a + 4096, him, haE, by simp, hid ⟨?_, AL.out, K2.out⟩⟩, by simp [intOf]; omega⟩
        rw [hR.out.1, Nat.add_mul, Nat.one_mul, Nat.add_assoc]
      | false =>
        have D := hid (alB_mono R n b0 4096 m (i + 1) him AL.out)
        go_wp2_with fail
        go_ret
        exact ⟨by rw [D.out, Bool.false_and]; rfl, K2.out⟩
    · have hai : ¬ (a : Int) < (E : Int) := by omega
      have him : i = m := by
        have h1 := hR.out.1
        have h2 := HE.out
        have h3 := HM.out
        have h4 := HB0.out
        have h5 : m * 4096 ≤ i * 4096 := by omega
        have := Nat.le_of_mul_le_mul_right h5 (by omega)
        omega
      subst him
      have c0 := CB.out _ hR.out.2.2
      have D := hid hR.out.2
      clear hR
      go_wp2_with fail
      clear c0
      go_loopw [10, 11] (fun s _ W' => ∃ g a : Nat, g ≤ i ∧ a ≤ E ∧ s = .int .u64 (a : Int) ∧ Hid (a = b0 + 4096 * g ∧ pgB R n b0 r g = true ∧ Kept none' W W')) (fun s _ _ => E - (intOf s).toNat)
      case atStart => exact ⟨0, b0, by omega, by have := HE.out; have := HB0.out; omega, rfl, hid ⟨by rw [Nat.mul_zero, Nat.add_zero], rfl, D.out.2⟩⟩
      case round =>
        obtain ⟨g, a, hg, ha, rfl, hR⟩ := hrel
        by_cases hlt : a < E
        · have hai : (a : Int) < (E : Int) := by omega
          have hgi : g + 1 ≤ i := by
            have h1 := hR.out.1
            have h2 := HE.out
            have h3 := HM.out
            have h4 := HB0.out
            omega
          have haE : a + 4096 ≤ E := by
            have h1 := hR.out.1
            have h2 := HE.out
            have h3 := HM.out
            have h4 := HB0.out
            omega
          have MM := hid (CV.out _ hR.out.2.2 a (by omega))
          have AL := hid (show pgB R n b0 r (g + 1) = !(decide (0 < cnB R a r n * r) && decide (cnB R a r n * r < 4096)) from by rw [pgB, hR.out.2.1, Bool.true_and, ← hR.out.1])
          have hvb : cnB R a r n * r ≤ 4096000 := Nat.mul_le_mul (Nat.le_trans (cnB_le R a r n) hn) (show r ≤ 4096 by omega)
          generalize cnB R a r n * r = v at *
          go_wp2_with fail
          refine MM.out.mono ?_
          rintro e w2 ⟨rfl, hk⟩
          have K2 := hid (none_trans hR.out.2.2 hk)
          clear hk MM
          by_cases h0 : 0 < v
          · have h0i : (0 : Int) < (v : Int) := by omega
            by_cases h1 : v < 4096
            · have h1i : (v : Int) < 4096 := by omega
              have D2 := hid (show pgB R n b0 r i = false from pgB_mono R n b0 r i (g + 1) hgi (by rw [AL.out, decide_eq_true h0, decide_eq_true h1]; rfl))
              go_wp2_with fail
              go_ret
              exact ⟨by rw [D2.out, Bool.and_false]; rfl, K2.out⟩
            · have h1i : ¬ (v : Int) < 4096 := by omega
              have h1d : decide ((v : Int) < 4096) = false := decide_eq_false h1i
              have D2 := hid (show pgB R n b0 r (g + 1) = true from by rw [AL.out, decide_eq_false h1, Bool.and_false]; rfl)
              go_wp2_with fail
              refine ⟨⟨g + 1, a + 4096, hgi, haE, by simp, hid ⟨?_, D2.out, K2.out⟩⟩, by simp [intOf]; omega⟩
              have := hR.out.1
              omega
          · have h0i : ¬ (0 : Int) < (v : Int) := by omega
            have h0e : v = 0 := by omega
            have D2 := hid (show pgB R n b0 r (g + 1) = true from by rw [AL.out, decide_eq_false h0, Bool.false_and]; rfl)
            subst h0e
            go_wp2_with fail
            refine ⟨⟨g + 1, a + 4096, hgi, haE, by simp, hid ⟨?_, D2.out, K2.out⟩⟩, by simp [intOf]; omega⟩
            have := hR.out.1
            omega
        · have hai : ¬ (a : Int) < (E : Int) := by omega
          have hgi : g = i := by
            have h1 := hR.out.1
            have h2 := HE.out
            have h3 := HM.out
            have h4 := HB0.out
            omega
          subst hgi
          have D2 := hid hR.out.2
          clear hR
          go_wp2_with fail
          go_ret
          exact ⟨by rw [D.out.1, D2.out.1]; rfl, D2.out.2⟩
end Go.Proofs.YtocpnddacdpnmaaGreatDoor
/- croftlaw7.got. -/
namespace Go.Proofs.YtocpnddacdpnmaaGreatDoor
open Go.RowKit
set_option linter.unusedVariables false

/-- The book is copied. -/
theorem app1_run {W : World} {va : Option Addr} {n vc : Nat} {R : Nat → Bk} (hB : Bks W (.slice va n vc) n R) (hn : n ≤ 2000) :
    ∃ g cap w1, (∀ ty, (Builtin.append_ #[72, 72] ty #[.slice (some ⟨W.heap.size, 0, none⟩) 0 0, .slice va n vc]).run Tryz.prog (W.alloc (.cells #[] 79)) = .ok (.slice (some ⟨g, 0, none⟩) n cap) w1) ∧ GS W w1 79 3 (.slice (some ⟨g, 0, none⟩) n cap) n (flatB R n) ∧ W.heap.size ≤ g := by
  obtain ⟨i, hi, hzz⟩ := Option.map_eq_some_iff.1 info_bk
  simp only [Prod.mk.injEq] at hzz
  have k := (Kept.refl none' W).alloc (.cells #[] 79)
  have hg0 := heap_new W (.cells #[] 79)
  generalize W.alloc (.cells #[] 79) = w at *
  have hB2 := hB.kept k (fun _ _ e => e)
  have hown : w.ownsRow 0 79 3 (.slice (some ⟨W.heap.size, 0, none⟩) 0 0) 0 [] := ⟨rfl, .inr ⟨W.heap.size, 0, #[], rfl, Nat.zero_le _, hg0, Nat.le_refl _, by simp [maxLen], rfl, rfl⟩⟩
  rcases hB2.2 with ⟨hv, hn0⟩ | ⟨g, cap, cur, hv, _, hg, _⟩
  · injection hv with e1 e2 e3
    subst e1 e2 e3
    exact ⟨W.heap.size, 0, w, fun ty => run_append_nothing w _ _ _ _ i Tryz.underlying72 hi _ _ _ (Nat.le_refl _) _ (Src.ofNil _ Tryz.underlying72 0), ⟨hown, fun g cap e => .inl (by simp at e; omega), k⟩, Nat.le_refl _⟩
  · injection hv with e1 e2 e3
    subst e1 e3
    have key : ∀ ty, _ := fun ty => run_append_own_at (P := Tryz.prog) w 0 72 ty 79 i (.agg #[.int .u64 0, .int .u64 0, .int .u8 0]) 3 24 Tryz.underlying72 hi hzz.1 hzz.2.1 hzz.2.2 rfl (by decide) (.slice (some ⟨W.heap.size, 0, none⟩) 0 0) 0 [] hown ⟨g, 0, none⟩ n vc (flatB R n) (flatB_len R n) (fun j u hj => World.ownsRow.cells hB2 rfl j u hj) (bks_one R n) (by simp only [maxLen]; omega) (by omega) (Nat.zero_le _)
    obtain ⟨v', w', hrun, hown', hgr, hnil, hblk⟩ := key 72
    have hk := grown_kept' hgr
    have hk5 : Kept none' W w' := k.trans hk (fun _ _ e => e) (fun y hy e => by
      have e : some W.heap.size = some y := e
      injection e with e
      omega)
    have hz := k.size
    rw [Nat.zero_add, List.nil_append] at hown'
    rcases hown'.2 with ⟨e, _⟩ | ⟨g', cap', cur', e, _, hg', _⟩
    · exact absurd (hnil.1 e).1 (by simp)
    · subst e
      have hgg : W.heap.size ≤ g' := by
        rcases hblk with e | e <;> simp [Value.ownBlock] at e <;> omega
      exact ⟨g', cap', w', fun ty => hrun, ⟨hown', fun g cap e => .inr (by simp at e; omega), hk5⟩, hgg⟩
theorem flatB_congr {R R' : Nat → Bk} : ∀ {n}, (∀ i, i < n → R' i = R i) → flatB R' n = flatB R n
  | 0, _ => rfl
  | n + 1, h => by rw [flatB, flatB, flatB_congr (fun i hi => h i (by omega)), h n (by omega)]
/-- One more in the book. -/
def mor (R : Nat → Bk) (n : Nat) (b : Bk) : Nat → Bk := fun i => if i = n then b else R i
theorem flatB_mor (R : Nat → Bk) (n : Nat) (b : Bk) : flatB (mor R n b) (n + 1) = flatB R n ++ [.int .u64 (b.p : Int), .int .u64 (b.s : Int), .int .u8 (b.mark : Int)] := by
  rw [flatB, flatB_congr (R := R) (fun i hi => by unfold mor; rw [if_neg (by omega)])]
  unfold mor
  rw [if_pos rfl]
set_option maxRecDepth 4000 in
set_option maxHeartbeats 2000000 in
theorem got_no {w W wb lw sb x t fr ls S R n} (L : LW7 w W wb lw sb x t fr ls S R n) (va : Option Addr) (vc r : Nat) (d : Bool) (rg : Nat) (hrg : t.m.n = rg * 2 ^ x.o) (hd : d = true ∨ rg = x.lim) :
    Calls Tryz.prog 72 #[.pointer (some ⟨wb, 0, none⟩), .slice va n vc, .int .u64 (r : Int), .bool d, .int .u64 0, .bool false, .int .i64 2, .int .i64 (rg : Int), .bool true] W fun e w' => e = .returned (.tuple #[.slice va n vc, .bool true]) ∧ Kept none' W w' := by
  obtain ⟨c0, c1, c2, c3, c4⟩ := L.c
  have SP := hid (Space6 L.po.pl)
  have RG := hid (regions6 L.po rg hrg)
  clear hrg L
  generalize x.s = sp at *
  generalize x.lim = li at *
  cases d with
  | true =>
    go_enter Tryz.func72, Tryz.ntmps72
    go_wp2_with fail
    refine SP.out.mono ?_
    rintro e w1 ⟨rfl, h1⟩
    replace h1 := h1.symm
    subst h1
    go_wp2_with fail
    refine RG.out.mono ?_
    rintro e w1 ⟨rfl, hk⟩
    have K1 := hid hk
    clear hk c0 c1 c2 c3 c4
    go_wp2_with fail
    exact ⟨rfl, .tuple #[.slice va n vc, .bool true], by simp [results, Tryz.results72, go_sem], rfl, K1.out⟩
  | false =>
    have hl : rg = li := hd.resolve_left (by decide)
    subst hl
    go_enter Tryz.func72, Tryz.ntmps72
    go_wp2_with fail
    refine SP.out.mono ?_
    rintro e w1 ⟨rfl, h1⟩
    replace h1 := h1.symm
    subst h1
    go_wp2_with fail
    refine RG.out.mono ?_
    rintro e w1 ⟨rfl, hk⟩
    have K1 := hid hk
    clear hk c0 c1 c2 c3 c4
    go_wp2_with fail
    exact ⟨rfl, .tuple #[.slice va n vc, .bool true], by simp [results, Tryz.results72, go_sem], rfl, K1.out⟩
end Go.Proofs.YtocpnddacdpnmaaGreatDoor
/- A live block is given back: what the program's calls say of it. -/
namespace Go.Proofs.YtocpnddacdpnmaaGreatDoor
open Go.RowKit
set_option linter.unusedVariables false

section
variable {w W : World} {wb sb lw : Nat} {x : Bx} {t : Bt} {fr : Nat → List Nat} {ls : List (Nat × Nat)} {S : Sb} {h : Nat → Int} {R : Nat → Bk} {n : Nat}
theorem SO.dead (o : SO w W sb lw x t fr ls S h) {a : Nat} (ha : a < 18446744073709551616) (hn : ∀ s, ¬ Lth x ls S a s) : livS x t a = false := by
  cases e : livS x t a with
  | false => rfl
  | true =>
    obtain ⟨g, k, i, hv⟩ := o.liv_of ha e
    exact absurd (.inl ⟨g, k, i, hv, rfl⟩) (hn (szC k))
theorem LW7.give_no (L : LW7 w W wb lw sb x t fr ls S R n) {a : Nat} (ha : a < 18446744073709551616) (hn : ∀ s, ¬ Lth x ls S a s) :
    Calls Tryz.prog 13 #[.pointer (some ⟨sb, 0, none⟩), .int .u64 (a : Int)] W fun e w' => e = .returned (.int .i64 1) ∧ Kept none' W w' := by
  obtain ⟨h, o⟩ := L.so
  exact Give7_no o.sw a ha (o.dead ha hn)
theorem LW7.size_no (L : LW7 w W wb lw sb x t fr ls S R n) {a : Nat} (ha : a < 18446744073709551616) (hn : ∀ s, ¬ Lth x ls S a s) :
    Calls Tryz.prog 12 #[.pointer (some ⟨sb, 0, none⟩), .int .u64 (a : Int)] W fun e w' => e = .returned (.int .u64 0) ∧ Kept none' W w' := by
  obtain ⟨h, o⟩ := L.so
  exact Size_no o.sw a ha (o.dead ha hn)
/-- A live block begins at a multiple of 16. -/
theorem SO.by16 (o : SO w W sb lw x t fr ls S h) {p s : Nat} (hl : Lth x ls S p s) : p % 16 = 0 := by
  have hb := o.bm
  rcases hl with ⟨g, k, i, ⟨h1, h2, h3, rfl⟩, rfl⟩ | ⟨q, k, h1, h2, rfl, rfl⟩
  · unfold caN szC
    rw [show i * (16 * 2 ^ k) = 16 * (i * 2 ^ k) by rw [Nat.mul_left_comm]]
    omega
  · unfold ad
    omega
/-- What giving back the block number d leaves. -/
def Gn (w W : World) (wb lw sb : Nat) (x : Bx) (t : Bt) (ls : List (Nat × Nat)) (S : Sb) (R : Nat → Bk) (n d : Nat) (w' : World) : Prop := ∃ x' t' fr' ls' S', LW7 w w' wb lw sb x' t' fr' ls' S' (wo R d) (n - 1) ∧ Ch x t ls S x' t' ls' S' ∧ Kept (sown x sb) W w' ∧ (∀ s, ¬ Lth x' ls' S' (R d).p s) ∧ (∀ y, sown x' sb y → sown x sb y)
theorem wo_mark {R : Nat → Bk} {n d : Nat} (hd : d < n) (hm : ∀ i, i < n → (R i).mark < 256) : ∀ i, i < n - 1 → (wo R d i).mark < 256 := fun i hi => by
  unfold wo
  split
  · exact hm i (by omega)
  · exact hm (i + 1) (by omega)
theorem LW7.after {W' : World} {x' : Bx} {t' : Bt} {fr' : Nat → List Nat} {ls' : List (Nat × Nat)} {S' : Sb} {h' : Nat → Int} {d : Nat} (L : LW7 w W wb lw sb x t fr ls S R n) (hd : d < n) (o' : SO w W' sb lw x' t' fr' ls' S' h') (v' : Lve S') (ch : Ch x t ls S x' t' ls' S') (kp : Kept (sown x sb) W W') (hs : ∀ y, sown x' sb y → sown x sb y) (hL : ∀ a s, Lth x' ls' S' a s ↔ Lth x ls S a s ∧ a ≠ (R d).p) : Gn w W wb lw sb x t ls S R n d W' := by
  obtain ⟨fv, lv, pv, qv, po, pp, hx⟩ := L.bx
  refine ⟨x', t', fr', ls', S', ⟨⟨h', o'⟩, v', L.bi.drop hd hL, ⟨fv, lv, pv, qv, po, pp, ?_⟩, L.nw, fun e => L.ns (hs _ e), wo_mark hd L.mr, by rw [ch.base, ch.R]; exact L.br⟩, ch, kp, fun s e => ((hL _ _).1 e).2 rfl, hs⟩
  rw [ch.base, ch.lim, ch.o]
  exact (kp.block _ (heap_lt hx) L.ns).trans hx
/-- A live cell. -/
theorem LW7.cell (L : LW7 w W wb lw sb x t fr ls S R n) {d : Nat} (hd : d < n) (hs : (R d).s < 4096) : ∃ g k i, Liv x S (R d).p g k i ∧ (R d).s = szC k := by
  rcases L.bi.th d hd with h1 | ⟨q, j, _, _, _, h4⟩
  · exact h1
  · have : 0 < 2 ^ j := Nat.pow_pos (by decide)
    omega
theorem LW7.lt64 (L : LW7 w W wb lw sb x t fr ls S R n) {d : Nat} (hd : d < n) : (R d).p + 1 < 18446744073709551616 := by
  have := (L.bnd d hd).1
  omega
theorem LW7.size_yes (L : LW7 w W wb lw sb x t fr ls S R n) {d : Nat} (hd : d < n) (hs : (R d).s < 4096) :
    Calls Tryz.prog 12 #[.pointer (some ⟨sb, 0, none⟩), .int .u64 ((R d).p : Int)] W fun e w' => e = .returned (.int .u64 ((R d).s : Int)) ∧ Kept none' W w' := by
  obtain ⟨h, o⟩ := L.so
  obtain ⟨g, k, i, hv, he⟩ := L.cell hd hs
  obtain ⟨v1, v2, v3, v4, v5, v6⟩ := o.of_liv hv
  have hcl := (o.si.pg g k hv.1).2.cl
  refine (Size_yes o.sw _ v6 v1).mono ?_
  rintro e w' ⟨rfl, kp⟩
  refine ⟨?_, kp⟩
  rw [v4, hcl, he]
  rfl
theorem LW7.odd_no (L : LW7 w W wb lw sb x t fr ls S R n) {d : Nat} (hd : d < n) : ∀ s, ¬ Lth x ls S ((R d).p + 1) s := fun s e => by
  obtain ⟨h, o⟩ := L.so
  have h1 := o.by16 e
  have h2 := o.by16 (L.bi.th d hd)
  omega
theorem LW7.give_cell (L : LW7 w W wb lw sb x t fr ls S R n) {d : Nat} (hd : d < n) (hs : (R d).s < 4096) :
    Calls Tryz.prog 13 #[.pointer (some ⟨sb, 0, none⟩), .int .u64 ((R d).p : Int)] W fun e w' => e = .returned (.int .i64 0) ∧ Gn w W wb lw sb x t ls S R n d w' := by
  obtain ⟨h, o⟩ := L.so
  obtain ⟨g, k, i, hv, he⟩ := L.cell hd hs
  have hk := (o.si.pg g k hv.1).1
  have hz := szC_le hk
  have hp : (R d).p = caN x g k i := hv.2.2.2
  have hv2 : Liv x S (caN x g k i) g k i := by rw [← hp]; exact hv
  have hm := o.mem hv.1
  have n4 := o.po.nums.2.2.2.1
  have hcc := off_cell (x := x) (p := g) hk hv.2.1 (by omega)
  refine (Give7_yes o L.lv _ g k i hv).mono ?_
  rintro e w' ⟨rfl, hG⟩
  refine ⟨rfl, ?_⟩
  cases hG with
  | back hl so kp =>
    obtain ⟨P, t', h', so', hf, hn⟩ := so
    have hL : ∀ a s, Lth { x with P := P } ls (givS S g k i) a s ↔ Lth x ls S a s ∧ a ≠ (R d).p := fun a s => by
      rw [hp, Lth_base (x := x) (x' := { x with P := P }) rfl]
      exact Lth_back o hv2 a s
    refine L.after hd so' (L.lv.back hv.1 hl) ⟨rfl, rfl, rfl, rfl, fun j _ hj => ?_⟩ kp (fun y e => e) hL
    refine hf j (fun hj8 => ?_)
    obtain ⟨a, s, h1, h2, h3⟩ := hj
    obtain ⟨h1, h4⟩ := (hL a s).1 h1
    have h2 : a ≤ x.base + j := h2
    have h3 : x.base + j < a + s := h3
    rw [hp] at h4
    have e : caN x g k i = x.base + 4096 * g + i * szC k := rfl
    rcases o.two h1 (.inl ⟨g, k, i, hv2, rfl⟩) with ⟨e2, _⟩ | e2 | e2
    · exact h4 e2
    · omega
    · omega
  | rel hl so =>
    obtain ⟨P, t', h', so', hn, bk, kp⟩ := so
    have hL : ∀ a s, Lth { x with P := P } (dropR ls g) (relS S g k) a s ↔ Lth x ls S a s ∧ a ≠ (R d).p := fun a s => by
      rw [hp, Lth_base (x := x) (x' := { x with P := P }) rfl]
      exact Lth_rel o hv2 hl a s
    exact L.after hd so' (L.lv.rel g k) ⟨rfl, rfl, rfl, rfl, fun j h1 h2 => bk j (o.byte h1) (so'.byte h2)⟩ kp (fun y e => e) hL
/-- Whole pages. -/
theorem LW7.pages (L : LW7 w W wb lw sb x t fr ls S R n) {d : Nat} (hd : d < n) (hs : 4096 ≤ (R d).s) : ∃ q k, (q, k) ∈ ls ∧ S.c q = none ∧ (R d).p = ad x q ∧ (R d).s = 4096 * 2 ^ k ∧ k ≤ 8 := by
  obtain ⟨h, o⟩ := L.so
  rcases L.bi.th d hd with ⟨g, k, i, hv, he⟩ | ⟨q, k, h1, h2, h3, h4⟩
  · have := szC_le (o.si.pg g k hv.1).1
    omega
  · exact ⟨q, k, h1, h2, h3, h4, Nat.le_trans (o.al h1).1 o.po.nums.1⟩
theorem SO.pnone (o : SO w W sb lw x t fr ls S h) {q : Nat} (hc : S.c q = none) : x.P q = none := by
  rw [o.si.eP]
  exact pOf_none hc
theorem LW7.give_pages (L : LW7 w W wb lw sb x t fr ls S R n) {d q k : Nat} (hd : d < n) (hq : (q, k) ∈ ls) (hc : S.c q = none) (hp : (R d).p = ad x q) :
    Calls Tryz.prog 60 #[.pointer (some ⟨lw, 0, none⟩), .int .u64 ((R d).p : Int), .int .i64 (k : Int)] W fun e w' => e = .returned (.int .i64 0) ∧ Gn w W wb lw sb x t ls S R n d w' := by
  obtain ⟨h, o⟩ := L.so
  refine (K.Give6_yes o.po q k hq (o.pnone hc) _ hp).mono ?_
  rintro e w' ⟨rfl, t', po', hn, kk, bk⟩
  have o' := o.pool po' (Sm.refl _) bk (fun a c ha => List.mem_filter.2 ⟨(o.mem ha).1, decide_eq_true fun e => by
    have e : a = q := e
    rw [e, hc] at ha
    cases ha⟩) kk
  refine ⟨rfl, L.after hd o' L.lv ⟨rfl, rfl, rfl, rfl, fun j h1 h2 => bk j (o.byte h1) (o'.byte h2)⟩ (kk.mono (fun _ _ e => .inl e)) (fun y e => e) (fun a s => ?_)⟩
  rw [hp]
  exact Lth_giv o hq hc a s
theorem LW7.give_pages_no (L : LW7 w W wb lw sb x t fr ls S R n) {a : Nat} (ha : a < 18446744073709551616) (hn : ∀ s, ¬ Lth x ls S a s) (k : Nat) :
    Calls Tryz.prog 60 #[.pointer (some ⟨lw, 0, none⟩), .int .u64 (a : Int), .int .i64 (k : Int)] W fun e w' => e = .returned (.int .i64 1) ∧ Kept none' W w' := by
  obtain ⟨h, o⟩ := L.so
  refine Give6_no o.po a ha (k : Int) ?_
  cases e : liveL (bigL x ls) (pgV x.base t.m.n a) (k : Int) with
  | false => rfl
  | true =>
    exfalso
    unfold liveL at e
    rw [List.any_eq_true] at e
    obtain ⟨⟨q, j⟩, h1, h2⟩ := e
    rw [Bool.and_eq_true, decide_eq_true_iff, decide_eq_true_iff] at h2
    obtain ⟨h1, h3⟩ := mem_big.1 h1
    have hc : S.c q = none := by
      cases e : S.c q with
      | none => rfl
      | some c =>
        rw [o.si.eP, pOf_some e] at h3
        cases h3
    have h4 : (q : Int) = pgV x.base t.m.n a := h2.1
    unfold pgV at h4
    split at h4
    · rename_i hh
      refine hn (4096 * 2 ^ j) (.inr ⟨q, j, h1, hc, ?_, rfl⟩)
      have hb := o.bm
      unfold ad
      omega
    · omega
end
end Go.Proofs.YtocpnddacdpnmaaGreatDoor
