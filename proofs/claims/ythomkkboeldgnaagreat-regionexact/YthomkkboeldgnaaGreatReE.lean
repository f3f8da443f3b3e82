import Derived.Test.YthomkkboeldgnaaGreatReD
/- RegionExact: a span's data is written; a span is taken out. -/
namespace Go.Proofs.YthomkkboeldgnaaGreat
open Go.RowKit
set_option linter.unusedVariables false

theorem own_setN {W : World} {b : Nat} {e : TypeId} {size : Nat} {va : Option Addr} {n vc : Nat} {xs : List Value} (h : W.ownsRow b e size (.slice va n vc) n xs) {g : Nat} (hg : va = some ⟨g, 0, none⟩) (i : Nat) (u : Value) : (W.setCell ⟨g, i, none⟩ u).ownsRow b e size (.slice va n vc) n (xs.set i u) := by
  refine ⟨by rw [List.length_set]; exact h.1, ?_⟩
  rcases h.2 with ⟨h0, _⟩ | ⟨g', cap, cur, h0, hb, hc, h1, h2, h3, h4⟩
  · rw [hg] at h0
    cases h0
  · rw [hg] at h0
    cases h0
    refine .inr ⟨g, vc, cur.setIfInBounds i u, by rw [hg], hb, heap_set hc i u, h1, h2, by simpa using h3, ?_⟩
    rw [Array.toList_setIfInBounds, List.take_set, h4]
theorem spn_set (b : Nat) : ∀ (l : List (Nat × Nat)) (m : List Value) (i : Nat) (d : Value), m.length = l.length → i < l.length → spn b l (m.set i d) = (spn b l m).set (i * 4 + 3) d
  | [], m, i, d, h, hi => absurd hi (Nat.not_lt_zero _)
  | r :: l, [], i, d, h, hi => by cases h
  | r :: l, x :: m, 0, d, h, hi => rfl
  | r :: l, x :: m, i + 1, d, h, hi => by
    rw [List.set_cons_succ, spn, spn_set b l m i d (by simpa using h) (by simpa using hi), spn, show (i + 1) * 4 + 3 = i * 4 + 3 + 1 + 1 + 1 + 1 by omega, List.set_cons_succ, List.set_cons_succ, List.set_cons_succ, List.set_cons_succ]
/-- A span's data is written. -/
theorem SPR.set {W b a ls c dl} (h : SPR W b (.slice a ls.length c) ls dl) {g : Nat} (hg : a = some ⟨g, 0, none⟩) {i : Nat} (hi : i < ls.length) (d : Value) : SPR (W.setCell ⟨g, i * 4 + 3, none⟩ d) b (.slice a ls.length c) ls (dl.set i d) := by
  refine ⟨by rw [List.length_set]; exact h.1, ?_⟩
  rw [spn_set b ls dl i d h.1 hi]
  exact own_setN h.2 hg _ d
/-- The spans but one: as far as the loop has come. -/
def butN {α : Type} (l : List α) (k i : Nat) : List α := (l.take i).eraseIdx k
theorem butN_zero {α : Type} (l : List α) (k : Nat) : butN l k 0 = [] := by
  unfold butN
  rw [List.take_zero]
  rfl
theorem butN_all {α : Type} (l : List α) (k : Nat) : butN l k l.length = l.eraseIdx k := by
  unfold butN
  rw [List.take_length]
theorem butN_same {α : Type} (l : List α) (k : Nat) (hk : k < l.length) : butN l k (k + 1) = butN l k k := by
  unfold butN
  rw [List.take_add_one, List.getElem?_eq_getElem hk, List.eraseIdx_append_of_length_le (by rw [List.length_take]; omega), List.eraseIdx_of_length_le (l := l.take k) (by rw [List.length_take]; omega), List.length_take, Nat.min_eq_left (Nat.le_of_lt hk), Nat.sub_self]
  simp
theorem butN_next {α : Type} (l : List α) (k i : Nat) (hi : i < l.length) (hne : i ≠ k) : butN l k (i + 1) = butN l k i ++ [l[i]] := by
  unfold butN
  rw [List.take_add_one, List.getElem?_eq_getElem hi]
  by_cases h : k < i
  · rw [List.eraseIdx_append_of_lt_length (by rw [List.length_take]; omega)]
    rfl
  · rw [List.eraseIdx_append_of_length_le (by rw [List.length_take]; omega), List.eraseIdx_of_length_le (l := l.take i) (by rw [List.length_take]; omega), List.length_take, Nat.min_eq_left (Nat.le_of_lt hi), List.eraseIdx_of_length_le (by simp; omega)]
    rfl
end Go.Proofs.YthomkkboeldgnaaGreat
