/- A link that is spoilt. -/
import Derived.Test.YtnkoheanjaapjaaChn2
namespace Go.Proofs.Ytnkoheanjaapjaa
open Go.RowKit Go.Shelf
set_option linter.unusedVariables false

theorem remove_bad {f hd p} (hp : In 4096 4096 p 16) (h : leadsB 4096 4096 f hd (pv 4096 f p) p = false ∨ cameB 4096 4096 f (nx 4096 f p) p = false) : removeR 4096 4096 f hd p = (f, hd, 8) := by
  unfold removeR
  rw [if_pos hp]
  rcases h with h | h
  · rw [h]; rfl
  · rw [h, Bool.and_false]; rfl

/-- A spoilt next: the one behind it is not removed. -/
theorem Chn.badNext {f hd xs} (h : Chn f hd xs) (a : Nat) (ha : a + 1 < xs.length) (v : Nat) (hv : v < 18446744073709551616) (hne : nx 4096 f (xs.getD a 0) ≠ v) :
    removeR 4096 4096 (stw 4096 f (xs.getD a 0) v) hd (xs.getD (a + 1) 0) = (stw 4096 f (xs.getD a 0) v, hd, 8) := by
  have hp := h.cellD (i := a) (by omega)
  have hx := h.cellD ha
  refine remove_bad hx.inn (.inl ?_)
  have hpv : pv 4096 (stw 4096 f (xs.getD a 0) v) (xs.getD (a + 1) 0) = xs.getD a 0 := by
    rw [pv_stw _ _ _ _ hx hp, h.prv (a + 1) ha, if_neg (by omega), Nat.add_sub_cancel]
  rw [hpv]
  unfold leadsB
  have h1 : xs.getD (a + 1) 0 ≠ hd := fun e => by
    rw [h.head] at e
    have := getD_inj h.nodup ha (by omega) e
    omega
  rw [if_neg (by rintro (e | e); exact hp.ne0 e; exact h1 e)]
  apply decide_eq_false
  rintro ⟨_, e⟩
  rw [nx_stw _ _ _ _ hp hp hv, if_pos rfl] at e
  exact hne (by rw [h.nxt a (by omega)]; exact e.symm)

theorem Chn.walkBad {f hd xs} (h : Chn f hd xs) (a : Nat) (ha : a < xs.length) (v : Nat) (hv : v < 18446744073709551616) (hne : pv 4096 f (xs.getD a 0) ≠ v) :
    ∀ k i, i ≤ a → a ≤ i + k → walkR 4096 4096 (stw 4096 f (xs.getD a 0 + 8) v) k (if i = 0 then 0 else xs.getD (i - 1) 0) (xs.getD i 0) = (xs.take a).drop i := by
  have hp := h.cellD ha
  intro k
  induction k with
  | zero =>
    intro i h1 h2
    rw [List.drop_eq_nil_of_le (by rw [List.length_take]; omega)]
    rfl
  | succ k ih =>
    intro i h1 h2
    unfold walkR
    rcases Nat.lt_or_ge i a with hi | hi
    · have hx := h.cellD (i := i) (by omega)
      have hxp : xs.getD i 0 ≠ xs.getD a 0 := fun e => by
        have := getD_inj h.nodup (by omega) ha e
        omega
      rw [if_pos ⟨hx.ne0, hx.inn, by rw [pv_stw8 _ _ _ _ hx hp hv, if_neg hxp]; exact h.prv i (by omega)⟩, nx_stw8 _ _ _ _ hx hp, h.nxt i (by omega)]
      have := ih (i + 1) (by omega) (by omega)
      rw [if_neg (by omega), Nat.add_sub_cancel] at this
      rw [this]
      have hl : i < (xs.take a).length := by rw [List.length_take]; omega
      rw [List.drop_eq_getElem_cons hl, List.getElem_take, List.getD_eq_getElem?_getD, List.getElem?_eq_getElem (by omega)]
      rfl
    · obtain rfl : i = a := by omega
      rw [if_neg, List.drop_eq_nil_of_le (by rw [List.length_take]; omega)]
      rintro ⟨_, _, e⟩
      rw [pv_stw8 _ _ _ _ hp hp hv, if_pos rfl] at e
      exact hne (by rw [h.prv i ha]; exact e.symm)
/-- A spoilt prev: a range ends ahead of it. -/
theorem Chn.allBad {f hd xs} (h : Chn f hd xs) (a : Nat) (ha : a < xs.length) (v : Nat) (hv : v < 18446744073709551616) (hne : pv 4096 f (xs.getD a 0) ≠ v) : walkR 4096 4096 (stw 4096 f (xs.getD a 0 + 8) v) 256 0 hd = xs.take a := by
  have := h.walkBad a ha v hv hne 256 0 (Nat.zero_le _) (by have := h.len; omega)
  rw [if_pos rfl, ← h.head, List.drop_zero] at this
  exact this
/-- .. and the one ahead of it is not removed. -/
theorem Chn.badAhead {f hd xs} (h : Chn f hd xs) (a : Nat) (ha : a + 1 < xs.length) (v : Nat) (hv : v < 18446744073709551616) (hne : pv 4096 f (xs.getD (a + 1) 0) ≠ v) :
    removeR 4096 4096 (stw 4096 f (xs.getD (a + 1) 0 + 8) v) hd (xs.getD a 0) = (stw 4096 f (xs.getD (a + 1) 0 + 8) v, hd, 8) := by
  have hx := h.cellD (i := a) (by omega)
  have hp := h.cellD ha
  refine remove_bad hx.inn (.inr ?_)
  rw [nx_stw8 _ _ _ _ hx hp, h.nxt a (by omega)]
  unfold cameB
  apply decide_eq_false
  rintro (e | ⟨_, e⟩)
  · exact hp.ne0 e
  · rw [pv_stw8 _ _ _ _ hp hp hv, if_pos rfl] at e
    refine hne ?_
    rw [h.prv (a + 1) ha, if_neg (by omega), Nat.add_sub_cancel]
    exact e.symm
/-- .. nor it itself, if the word is 0 or on the list. -/
theorem Chn.badSelf {f hd xs} (h : Chn f hd xs) (a : Nat) (ha : a < xs.length) (v : Nat) (hv : v < 18446744073709551616) (hne : pv 4096 f (xs.getD a 0) ≠ v) (h0 : v = 0 ∨ v ∈ xs) :
    removeR 4096 4096 (stw 4096 f (xs.getD a 0 + 8) v) hd (xs.getD a 0) = (stw 4096 f (xs.getD a 0 + 8) v, hd, 8) := by
  have hp := h.cellD ha
  refine remove_bad hp.inn (.inl ?_)
  rw [pv_stw8 _ _ _ _ hp hp hv, if_pos rfl]
  have hpa := h.prv a ha
  have hph : xs.getD a 0 = hd ↔ a = 0 := by
    rw [h.head]
    exact ⟨fun e => getD_inj h.nodup ha (by omega) e, fun e => by rw [e]⟩
  unfold leadsB
  by_cases e0 : a = 0
  · rw [if_pos (.inr (hph.2 e0))]
    apply decide_eq_false
    rintro ⟨e, _⟩
    rw [if_pos e0] at hpa
    exact hne (hpa.trans e.symm)
  · by_cases ev : v = 0
    · rw [if_pos (.inl ev)]
      apply decide_eq_false
      rintro ⟨_, e⟩
      exact e0 (hph.1 e)
    · rw [if_neg (by rintro (e | e); exact ev e; exact e0 (hph.1 e))]
      apply decide_eq_false
      rintro ⟨_, e⟩
      obtain ⟨j, hj, hjv⟩ := mem_getD (h0.resolve_left ev)
      have hvc : IsCell v := by rw [← hjv]; exact h.cellD hj
      rw [nx_stw8 _ _ _ _ hvc hp, ← hjv, h.nxt j hj] at e
      have hj1 : j + 1 < xs.length := by
        rcases Nat.lt_or_ge (j + 1) xs.length with h1 | h1
        · exact h1
        · rw [getD_out h1] at e
          exact absurd e.symm hp.ne0
      have := getD_inj h.nodup hj1 ha e
      rw [if_neg e0] at hpa
      apply hne
      rw [hpa, ← hjv]
      congr 1
      omega
end Go.Proofs.Ytnkoheanjaapjaa
