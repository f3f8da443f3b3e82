import Derived.Test.YthomkkboeldgnaaGreatReF
/- RegionExact: a live block is written into: what the live blocks hold. -/
namespace Go.Proofs.YthomkkboeldgnaaGreat
open Go.RowKit
set_option linter.unusedVariables false

/-- No page starts two blocks of the list. -/
def Ndp (ls : List (Nat × Nat)) : Prop := ∀ (i j : Nat) (hi : i < ls.length) (hj : j < ls.length), ls[i].1 = ls[j].1 → i = j
theorem Ndp.nil : Ndp [] := fun i j hi => absurd hi (Nat.not_lt_zero _)
theorem Ndp.add {ls : List (Nat × Nat)} (h : Ndp ls) (r : Nat × Nat) (hr : ∀ q, q ∈ ls → q.1 ≠ r.1) : Ndp (ls ++ [r]) := by
  intro i j hi hj e
  rw [List.length_append, List.length_singleton] at hi hj
  by_cases h1 : i < ls.length
  · rw [List.getElem_append_left h1] at e
    by_cases h2 : j < ls.length
    · rw [List.getElem_append_left h2] at e
      exact h i j h1 h2 e
    · rw [List.getElem_append_right (by omega)] at e
      simp only [List.getElem_singleton] at e
      exact absurd e (hr _ (List.getElem_mem _))
  · rw [List.getElem_append_right (by omega)] at e
    simp only [List.getElem_singleton] at e
    by_cases h2 : j < ls.length
    · rw [List.getElem_append_left h2] at e
      exact absurd e.symm (hr _ (List.getElem_mem _))
    · omega
theorem Ndp.cons {r : Nat × Nat} {l : List (Nat × Nat)} (h : Ndp (r :: l)) : Ndp l ∧ ∀ q, q ∈ l → q.1 ≠ r.1 := by
  constructor
  · intro i j hi hj e
    have := h (i + 1) (j + 1) (by simpa using hi) (by simpa using hj) (by simpa using e)
    omega
  · intro q hq e
    obtain ⟨i, hi, rfl⟩ := List.getElem_of_mem hq
    have := h (i + 1) 0 (by simpa using hi) (by simp) (by simpa using e)
    omega
/-- The block i goes. -/
theorem Ndp.drop : ∀ (l : List (Nat × Nat)), Ndp l → ∀ (i : Nat) (hi : i < l.length), dropR l l[i].1 = l.eraseIdx i
  | [], h, i, hi => absurd hi (Nat.not_lt_zero _)
  | r :: l, h, 0, hi => by
    unfold dropR
    rw [List.getElem_cons_zero, List.eraseIdx_cons_zero, List.filter_cons, if_neg (by simp), List.filter_eq_self]
    intro q hq
    exact decide_eq_true (h.cons.2 q hq)
  | r :: l, h, i + 1, hi => by
    have ih := Ndp.drop l h.cons.1 i (by simpa using hi)
    have hne := h.cons.2 _ (List.getElem_mem (n := i) (by simpa using hi))
    unfold dropR at ih ⊢
    rw [List.getElem_cons_succ, List.eraseIdx_cons_succ, List.filter_cons, if_pos (decide_eq_true (Ne.symm hne)), ih]
theorem Ndp.erase {l : List (Nat × Nat)} (h : Ndp l) (k : Nat) : Ndp (l.eraseIdx k) := by
  intro i j hi hj e
  rw [List.getElem_eraseIdx, List.getElem_eraseIdx] at e
  split at e <;> split at e
  · exact h _ _ _ _ e
  · have := h _ _ _ _ e
    omega
  · have := h _ _ _ _ e
    omega
  · have := h _ _ _ _ e
    omega
/-- A live block is written into. -/
theorem Dat.write {w W : World} {x t fr ls dl} {f' : Nat → Nat} (h : Dat w t.f ls dl) (s : Sf x t fr ls) (hn : Ndp ls) (i : Nat) (hi : i < ls.length) (ao : Option Addr) (m c : Nat) (g : Nat → Nat) (hc : m ≤ c) (hv : M.Bytes w (.slice ao m c) m g) (hle : m ≤ 4096 * 2 ^ ls[i].2) (hf : f' = M.upd t.f (4096 * ls[i].1) m g) : Dat w f' ls (dl.set i (.slice ao m c)) := by
  refine ⟨by rw [List.length_set]; exact h.1, fun j h1 h2 => ?_⟩
  subst hf
  rw [List.getElem_set]
  by_cases e : i = j
  · subst e
    rw [if_pos rfl]
    refine ⟨ao, m, c, g, rfl, hc, hv, hle, fun a ha => ?_⟩
    unfold M.upd
    rw [if_pos (by omega), Nat.add_sub_cancel_left]
  · rw [if_neg e]
    refine (h.2 j h1 _).congr fun a h3 h4 => ?_
    have ap := s.sn.apart (List.getElem_mem hi) (List.getElem_mem h1)
    unfold M.upd
    rw [if_neg]
    rcases ap with ⟨e1, _⟩ | ap | ap
    · exact absurd (hn i j hi h1 e1) e
    · generalize ls[i].1 = p1 at *
      generalize ls[j].1 = p2 at *
      generalize 2 ^ ls[i].2 = z1 at *
      generalize 2 ^ ls[j].2 = z2 at *
      omega
    · generalize ls[i].1 = p1 at *
      generalize ls[j].1 = p2 at *
      generalize 2 ^ ls[i].2 = z1 at *
      generalize 2 ^ ls[j].2 = z2 at *
      omega
end Go.Proofs.YthomkkboeldgnaaGreat
