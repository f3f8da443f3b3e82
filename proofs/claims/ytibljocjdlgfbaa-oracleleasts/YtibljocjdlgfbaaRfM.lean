/- Blocks that can't lie together: by their cells, and by their bytes. -/
import Derived.Test.YtibljocjdlgfbaaRfD
namespace Go.Proofs.Ytibljocjdlgfbaa
set_option linter.unusedVariables false

/-- Can't the two lie together? -/
def confB (base p s p' s' : Nat) : Bool := meetB p s p' s' || (decide (s < 4096) && decide (s' < 4096) && decide (s ≠ s') && decide ((p - base) / 4096 = (p' - base) / 4096))

/-- A block that may be, by its offset. -/
structure OkO (o s : Nat) : Prop where
  p : isP s = true
  l : 16 ≤ s
  m : o % s = 0

theorem OkO.small {o s : Nat} (h : OkO o s) (hs : s < 4096) : o % 4096 + s ≤ 4096 ∧ o % 4096 % s = 0 := by
  obtain ⟨q, hq⟩ := pow_dvd h.p isP_4096 (by omega)
  have hd : s ∣ o % 4096 := (Nat.dvd_mod_iff ⟨q, hq⟩).2 (Nat.dvd_of_mod_eq_zero h.m)
  obtain ⟨c, hc⟩ := hd
  have hlt := Nat.mod_lt o (show 0 < 4096 by decide)
  have hcq : c < q := by
    rw [hc] at hlt
    have h2 : s * c < s * q := by rw [← hq]; exact hlt
    exact Nat.lt_of_mul_lt_mul_left h2
  refine ⟨?_, by rw [hc]; exact Nat.mul_mod_right _ _⟩
  have : s * (c + 1) ≤ s * q := Nat.mul_le_mul_left s hcq
  rw [Nat.mul_add, Nat.mul_one, ← hc, ← hq] at this
  exact this
theorem OkO.large {o s : Nat} (h : OkO o s) (hs : 4096 ≤ s) : o % 4096 = 0 ∧ s % 4096 = 0 := by
  have hd := pow_dvd isP_4096 h.p hs
  exact ⟨Nat.mod_eq_zero_of_dvd (Nat.dvd_trans hd (Nat.dvd_of_mod_eq_zero h.m)), Nat.mod_eq_zero_of_dvd hd⟩

/-- Do they share a cell, or a page with two sizes? -/
def Clash (o s o' s' : Nat) : Prop := ∃ i i', i < npg s ∧ i' < npg s' ∧ o / 4096 + i = o' / 4096 + i' ∧ (s' ≠ s ∨ o' % 4096 / s' = o % 4096 / s)

theorem same_cell {f f' s : Nat} (hs : 0 < s) (h : f % s = 0) (h' : f' % s = 0) : f' / s = f / s ↔ (f < f' + s ∧ f' < f + s) := by
  obtain ⟨c, rfl⟩ := Nat.dvd_of_mod_eq_zero h
  obtain ⟨c', rfl⟩ := Nat.dvd_of_mod_eq_zero h'
  rw [Nat.mul_div_cancel_left _ hs, Nat.mul_div_cancel_left _ hs]
  constructor
  · intro e
    subst e
    omega
  · rintro ⟨h1, h2⟩
    have a1 : s * c < s * (c' + 1) := by rw [Nat.mul_add, Nat.mul_one]; exact h1
    have a2 : s * c' < s * (c + 1) := by rw [Nat.mul_add, Nat.mul_one]; exact h2
    have b1 := Nat.lt_of_mul_lt_mul_left a1
    have b2 := Nat.lt_of_mul_lt_mul_left a2
    omega

theorem clash_iff {o s o' s' : Nat} (h : OkO o s) (h' : OkO o' s') : Clash o s o' s' ↔ ((o < o' + s' ∧ o' < o + s) ∨ (s < 4096 ∧ s' < 4096 ∧ s ≠ s' ∧ o / 4096 = o' / 4096)) := by
  have hl := h.l
  have hl' := h'.l
  unfold Clash npg
  by_cases c1 : s < 4096
  · obtain ⟨q1, q2⟩ := h.small c1
    have n1 : (s + 4095) / 4096 = 1 := by omega
    rw [n1]
    by_cases c2 : s' < 4096
    · obtain ⟨r1, r2⟩ := h'.small c2
      have n2 : (s' + 4095) / 4096 = 1 := by omega
      rw [n2]
      by_cases e : s = s'
      · subst e
        have sc := same_cell (f := o % 4096) (f' := o' % 4096) (s := s) (by omega) q2 r2
        constructor
        · rintro ⟨i, i', hi, hi', e1, e2⟩
          left
          have e3 : o' % 4096 / s = o % 4096 / s := by
            rcases e2 with e2 | e2
            · exact absurd rfl e2
            · exact e2
          have := sc.1 e3
          omega
        · rintro (⟨h1, h2⟩ | ⟨_, _, h3, _⟩)
          · have e4 : o / 4096 = o' / 4096 := by omega
            exact ⟨0, 0, by omega, by omega, by omega, .inr (sc.2 (by omega))⟩
          · exact absurd rfl h3
      · constructor
        · rintro ⟨i, i', hi, hi', e1, e2⟩
          right
          exact ⟨c1, c2, e, by omega⟩
        · rintro (⟨h1, h2⟩ | ⟨_, _, h3, h4⟩)
          · exact ⟨0, 0, by omega, by omega, by omega, .inl (fun x => e x.symm)⟩
          · exact ⟨0, 0, by omega, by omega, by omega, .inl (fun x => e x.symm)⟩
    · obtain ⟨r1, r2⟩ := h'.large (by omega)
      constructor
      · rintro ⟨i, i', hi, hi', e1, e2⟩
        left
        omega
      · rintro (⟨h1, h2⟩ | ⟨_, h3, _, _⟩)
        · exact ⟨0, o / 4096 - o' / 4096, by omega, by omega, by omega, .inl (by omega)⟩
        · omega
  · obtain ⟨q1, q2⟩ := h.large (by omega)
    by_cases c2 : s' < 4096
    · obtain ⟨r1, r2⟩ := h'.small c2
      have n2 : (s' + 4095) / 4096 = 1 := by omega
      rw [n2]
      constructor
      · rintro ⟨i, i', hi, hi', e1, e2⟩
        left
        omega
      · rintro (⟨h1, h2⟩ | ⟨h3, _, _, _⟩)
        · exact ⟨o' / 4096 - o / 4096, 0, by omega, by omega, by omega, .inl (by omega)⟩
        · omega
    · obtain ⟨r1, r2⟩ := h'.large (by omega)
      constructor
      · rintro ⟨i, i', hi, hi', e1, e2⟩
        left
        omega
      · rintro (⟨h1, h2⟩ | ⟨h3, _, _, _⟩)
        · have hc : o' % 4096 / s' = o % 4096 / s := by rw [q1, r1, Nat.zero_div, Nat.zero_div]
          by_cases hle : o / 4096 ≤ o' / 4096
          · exact ⟨o' / 4096 - o / 4096, 0, by omega, by omega, by omega, .inr hc⟩
          · exact ⟨0, o / 4096 - o' / 4096, by omega, by omega, by omega, .inr hc⟩
        · omega

theorem layOk_iff (U : List Un) (o s : Nat) : layOk U o s = true ↔ ∀ i, i < npg s → ∀ u ∈ U, u.1 = o / 4096 + i → u.2.2 = s ∧ u.2.1 ≠ o % 4096 / s := by
  unfold layOk
  rw [List.all_eq_true]
  constructor
  · intro h i hi u hu e
    exact (okU_iff _ _ _ _).1 (h (uno o s i) (List.mem_map.2 ⟨i, List.mem_range.2 hi, rfl⟩)) u hu e
  · intro h u hu
    obtain ⟨i, hi, rfl⟩ := List.mem_map.1 hu
    exact (okU_iff _ _ _ _).2 (h i (List.mem_range.1 hi))

theorem layOk_clash (base : Nat) (l : Bls) (o s : Nat) : layOk (allU base l) o s = true ↔ ∀ b ∈ l, ¬ Clash o s (b.1 - base) b.2 := by
  rw [layOk_iff]
  constructor
  · rintro h b hb ⟨i, i', hi, hi', e1, e2⟩
    obtain ⟨h1, h2⟩ := h i hi (uno (b.1 - base) b.2 i') (List.mem_flatMap.2 ⟨b, hb, List.mem_map.2 ⟨i', List.mem_range.2 hi', rfl⟩⟩) e1.symm
    rcases e2 with e2 | e2
    · exact e2 h1
    · exact h2 e2
  · intro h i hi u hu e
    obtain ⟨b, hb, hub⟩ := List.mem_flatMap.1 hu
    obtain ⟨i', hi', rfl⟩ := List.mem_map.1 hub
    have hn := h b hb
    refine ⟨Classical.byContradiction fun e2 => hn ⟨i, i', hi, List.mem_range.1 hi', e.symm, .inl e2⟩, fun e2 => hn ⟨i, i', hi, List.mem_range.1 hi', e.symm, .inr e2⟩⟩

theorem conf_iff {base p s p' s' : Nat} (hb : base ≤ p) (hb' : base ≤ p') (h : OkO (p - base) s) (h' : OkO (p' - base) s') : confB base p s p' s' = true ↔ Clash (p - base) s (p' - base) s' := by
  rw [clash_iff h h']
  simp only [confB, meetB, Bool.or_eq_true, Bool.and_eq_true, decide_eq_true_eq]
  constructor
  · rintro (⟨h1, h2⟩ | ⟨⟨⟨h1, h2⟩, h3⟩, h4⟩)
    · left; omega
    · right; exact ⟨h1, h2, h3, h4⟩
  · rintro (⟨h1, h2⟩ | ⟨h1, h2, h3, h4⟩)
    · left; omega
    · right; exact ⟨⟨⟨h1, h2⟩, h3⟩, h4⟩

theorem okO_of {base k n p s : Nat} (hb : base % RS k = 0) (hn : n * RS k ≤ 4194304) (h : okB base k n p s = true) : OkO (p - base) s ∧ base ≤ p ∧ p + s ≤ base + n * RS k := by
  obtain ⟨f1, f2, f3, f4, f5, f6, f7, f8⟩ := okB_facts hb hn h
  exact ⟨⟨f1, f2, f6⟩, f5, by omega⟩

theorem goodB_ok {base k n : Nat} {l : Bls} {i p s : Nat} (hi : l[i]? = some (p, s)) (h : goodB base k n l i = true) : okB base k n p s = true := by
  unfold goodB at h
  rw [hi] at h
  simp only [Bool.and_eq_true] at h
  exact h.1

/-- Whether the block is good, by bytes. -/
theorem good_conf {base k n : Nat} {l : Bls} {i p s : Nat} (hb : base % RS k = 0) (hn : n * RS k ≤ 4194304) (hi : l[i]? = some (p, s)) (hp : ∀ a, a < i → goodB base k n l a = true) (hok : okB base k n p s = true) :
    goodB base k n l i = true ↔ ∀ j b, j < i → l[j]? = some b → confB base p s b.1 b.2 = false := by
  obtain ⟨h1, h2, _⟩ := okO_of hb hn hok
  have e : goodB base k n l i = layOk (allU base (l.take i)) (p - base) s := by
    unfold goodB
    rw [hi]
    simp only [hok, Bool.true_and]
  rw [e, layOk_clash]
  constructor
  · intro h j b hj hjb
    have hbl : b ∈ l.take i := by
      refine List.mem_iff_getElem?.2 ⟨j, ?_⟩
      rw [List.getElem?_take, if_pos hj]; exact hjb
    obtain ⟨q1, q2, _⟩ := okO_of hb hn (goodB_ok (p := b.1) (s := b.2) hjb (hp j hj))
    rw [Bool.eq_false_iff]
    intro hc
    exact h b hbl ((conf_iff h2 q2 h1 q1).1 hc)
  · intro h b hbl hc
    obtain ⟨j, hj⟩ := List.mem_iff_getElem?.1 hbl
    rw [List.getElem?_take] at hj
    split at hj
    · rename_i hji
      obtain ⟨q1, q2, _⟩ := okO_of hb hn (goodB_ok (p := b.1) (s := b.2) hj (hp j hji))
      have := h j b hji hj
      rw [(conf_iff h2 q2 h1 q1).2 hc] at this
      cases this
    · cases hj
end Go.Proofs.Ytibljocjdlgfbaa
