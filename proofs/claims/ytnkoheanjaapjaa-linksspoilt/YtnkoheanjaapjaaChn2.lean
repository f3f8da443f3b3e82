/- Lists on cells: Remove and Pop; a link that is spoilt. -/
import Derived.Test.YtnkoheanjaapjaaChn
namespace Go.Proofs.Ytnkoheanjaapjaa
open Go.RowKit Go.Shelf
set_option linter.unusedVariables false

theorem dropL_erase : ∀ (xs : List Nat) (j : Nat), xs.Nodup → j < xs.length → dropL xs (xs.getD j 0) = xs.eraseIdx j := by
  intro xs
  induction xs with
  | nil => intro j _ h; simp at h
  | cons y r ih =>
    intro j hn hj
    have hy := (List.nodup_cons.1 hn).1
    cases j with
    | zero =>
      have h1 : dropL r y = r := List.filter_eq_self.2 (fun x hx => by simp; intro e; exact hy (e ▸ hx))
      show dropL (y :: r) y = r
      unfold dropL at h1 ⊢
      rw [List.filter_cons_of_neg (by simp)]
      exact h1
    | succ j =>
      have hj' : j < r.length := by simpa using hj
      have h2 := ih j (List.nodup_cons.1 hn).2 hj'
      have hne : y ≠ r.getD j 0 := fun e => hy (e ▸ getD_mem hj')
      show dropL (y :: r) (r.getD j 0) = y :: r.eraseIdx j
      unfold dropL at h2 ⊢
      rw [List.filter_cons_of_pos (by simpa using hne), h2]
theorem dropL_getD {xs : List Nat} (hn : xs.Nodup) {j : Nat} (hj : j < xs.length) (i : Nat) : (dropL xs (xs.getD j 0)).getD i 0 = if i < j then xs.getD i 0 else xs.getD (i + 1) 0 := by
  rw [dropL_erase xs j hn hj, List.getD_eq_getElem?_getD, List.getElem?_eraseIdx]
  split
  · rw [List.getD_eq_getElem?_getD]
  · rw [List.getD_eq_getElem?_getD]
theorem dropL_length {xs : List Nat} (hn : xs.Nodup) {j : Nat} (hj : j < xs.length) : (dropL xs (xs.getD j 0)).length + 1 = xs.length := by
  rw [dropL_erase xs j hn hj, List.length_eraseIdx_of_lt hj]
  omega
theorem mem_dropL {xs : List Nat} {p x : Nat} (h : x ∈ dropL xs p) : x ∈ xs := (List.mem_filter.1 h).1

theorem Chn.remove {f hd xs} (h : Chn f hd xs) (j : Nat) (hj : j < xs.length) :
    (removeR 4096 4096 f hd (xs.getD j 0)).2.2 = 0 ∧ Chn (removeR 4096 4096 f hd (xs.getD j 0)).1 (removeR 4096 4096 f hd (xs.getD j 0)).2.1 (dropL xs (xs.getD j 0)) ∧ Same f (removeR 4096 4096 f hd (xs.getD j 0)).1 xs := by
  obtain ⟨p, hpe⟩ : ∃ p, p = xs.getD j 0 := ⟨_, rfl⟩
  have hp : IsCell p := by rw [hpe]; exact h.cellD hj
  obtain ⟨q, hq⟩ : ∃ q, q = pv 4096 f p := ⟨_, rfl⟩
  obtain ⟨m, hm⟩ : ∃ m, m = nx 4096 f p := ⟨_, rfl⟩
  have hq1 : q = if j = 0 then 0 else xs.getD (j - 1) 0 := by rw [hq, hpe]; exact h.prv j hj
  have hm1 : m = xs.getD (j + 1) 0 := by rw [hm, hpe]; exact h.nxt j hj
  have hq0 : q = 0 ↔ j = 0 := by
    rw [hq1]
    by_cases e : j = 0
    · simp [e]
    · rw [if_neg e]
      exact ⟨fun h0 => absurd h0 (h.cellD (by omega)).ne0, fun h0 => absurd h0 e⟩
  have hm0 : m = 0 ↔ j + 1 = xs.length := by
    rw [hm1]
    rcases Nat.lt_or_ge (j + 1) xs.length with e | e
    · exact ⟨fun h0 => absurd h0 (h.cellD e).ne0, fun h0 => by omega⟩
    · exact ⟨fun _ => by omega, fun _ => getD_out e⟩
  have hqc : q ≠ 0 → IsCell q := fun h0 => by
    have : ¬ j = 0 := fun e => h0 (hq0.2 e)
    rw [hq1, if_neg this]; exact h.cellD (by omega)
  have hmc : m ≠ 0 → IsCell m := fun h0 => by
    have : ¬ j + 1 = xs.length := fun e => h0 (hm0.2 e)
    rw [hm1]; exact h.cellD (by omega)
  have hqlt : q < 18446744073709551616 := by
    by_cases e : q = 0
    · rw [e]; decide
    · exact (hqc e).lt
  have hmlt : m < 18446744073709551616 := by
    by_cases e : m = 0
    · rw [e]; decide
    · exact (hmc e).lt
  have hph : p = hd ↔ j = 0 := by
    rw [hpe, h.head]
    exact ⟨fun e => getD_inj h.nodup hj (by omega) e, fun e => by rw [e]⟩
  have hlead : leadsB 4096 4096 f hd q p = true := by
    unfold leadsB
    by_cases e : j = 0
    · rw [if_pos (.inl (hq0.2 e))]
      exact decide_eq_true ⟨hq0.2 e, hph.2 e⟩
    · have h0 : q ≠ 0 := fun e' => e (hq0.1 e')
      rw [if_neg (by rintro (e' | e'); exact h0 e'; exact e (hph.1 e'))]
      refine decide_eq_true ⟨(hqc h0).inn, ?_⟩
      rw [hq1, if_neg e, h.nxt (j - 1) (by omega), hpe]
      congr 1
      omega
  have hcame : cameB 4096 4096 f m p = true := by
    unfold cameB
    apply decide_eq_true
    by_cases e : m = 0
    · exact .inl e
    · refine .inr ⟨(hmc e).inn, ?_⟩
      have : ¬ j + 1 = xs.length := fun e' => e (hm0.2 e')
      rw [hm1, h.prv (j + 1) (by omega), if_neg (by omega), hpe]
      congr 1
  have he : removeR 4096 4096 f hd p = (removeF 4096 f p, (if q = 0 then m else hd), 0) := by
    unfold removeR
    rw [if_pos hp.inn, ← hq, ← hm, hlead, hcame]
    rfl
  have hFe : removeF 4096 f p = (let f1 := if q = 0 then f else stw 4096 f q m; if m = 0 then f1 else stw 4096 f1 (m + 8) q) := by
    unfold removeF
    rw [← hq, ← hm]
  rw [← hpe, he]
  refine ⟨rfl, ?_⟩
  have N : ∀ x, IsCell x → nx 4096 (removeF 4096 f p) x = if q ≠ 0 ∧ x = q then m else nx 4096 f x := by
    intro x hx
    rw [hFe]
    by_cases e1 : q = 0
    · by_cases e2 : m = 0
      · simp [e1, e2]
      · simp only [e1, e2, if_true, if_false]
        rw [nx_stw8 _ _ _ _ hx (hmc e2)]
        simp
    · by_cases e2 : m = 0
      · simp only [e1, e2, if_true, if_false]
        rw [nx_stw _ _ _ _ hx (hqc e1) (by decide)]
        simp [e1]
      · simp only [e1, e2, if_false]
        rw [nx_stw8 _ _ _ _ hx (hmc e2), nx_stw _ _ _ _ hx (hqc e1) hmlt]
        simp [e1]
  have V : ∀ x, IsCell x → pv 4096 (removeF 4096 f p) x = if m ≠ 0 ∧ x = m then q else pv 4096 f x := by
    intro x hx
    rw [hFe]
    by_cases e1 : q = 0
    · by_cases e2 : m = 0
      · simp [e1, e2]
      · simp only [e1, e2, if_true, if_false]
        rw [pv_stw8 _ _ _ _ hx (hmc e2) (by decide)]
        simp [e2]
    · by_cases e2 : m = 0
      · simp only [e1, e2, if_true, if_false]
        rw [pv_stw _ _ _ _ hx (hqc e1)]
        simp
      · simp only [e1, e2, if_false]
        rw [pv_stw8 _ _ _ _ hx (hmc e2) hqlt, pv_stw _ _ _ _ hx (hqc e1)]
        simp [e2]
  have hlen := dropL_length h.nodup hj
  have hget := dropL_getD h.nodup hj
  rw [← hpe] at hlen hget
  refine ⟨⟨fun x hx => h.cell x (mem_dropL hx), h.nodup.filter _, ?_, ?_, ?_⟩, ?_⟩
  · show (if q = 0 then m else hd) = _
    rw [hget 0]
    by_cases e : j = 0
    · rw [if_pos (hq0.2 e), if_neg (by omega), hm1, e]
    · rw [if_neg (fun e' => e (hq0.1 e')), if_pos (by omega), h.head]
  · intro i hi
    show nx 4096 (removeF 4096 f p) _ = _
    rw [hget i, hget (i + 1)]
    by_cases e : i < j
    · rw [if_pos e, N _ (h.cellD (by omega))]
      have hj0 : ¬ j = 0 := by omega
      by_cases e2 : i + 1 = j
      · rw [if_pos ⟨fun e' => hj0 (hq0.1 e'), by rw [hq1, if_neg hj0]; congr 1; omega⟩, if_neg (by omega), hm1]
        congr 1
        omega
      · rw [if_neg, if_pos (by omega), h.nxt i (by omega)]
        rintro ⟨_, e3⟩
        rw [hq1, if_neg hj0] at e3
        have := getD_inj h.nodup (by omega) (by omega) e3
        omega
    · rw [if_neg e, N _ (h.cellD (by omega)), if_neg, if_neg (by omega), h.nxt (i + 1) (by omega)]
      rintro ⟨e4, e3⟩
      have hj0 : ¬ j = 0 := fun e' => e4 (hq0.2 e')
      rw [hq1, if_neg hj0] at e3
      have := getD_inj h.nodup (by omega) (by omega) e3
      omega
  · intro i hi
    show pv 4096 (removeF 4096 f p) _ = _
    rw [hget i]
    by_cases e : i < j
    · rw [if_pos e, V _ (h.cellD (by omega)), if_neg, h.prv i (by omega)]
      · by_cases e0 : i = 0
        · rw [if_pos e0, if_pos e0]
        · rw [if_neg e0, if_neg e0, hget (i - 1), if_pos (by omega)]
      · rintro ⟨e4, e3⟩
        rw [hm1] at e3
        have hj1 : ¬ j + 1 = xs.length := fun e' => e4 (hm0.2 e')
        have := getD_inj h.nodup (by omega) (by omega) e3
        omega
    · rw [if_neg e, V _ (h.cellD (by omega))]
      by_cases e2 : i = j
      · rw [if_pos ⟨fun e' => by have := hm0.1 e'; omega, by rw [hm1, e2]⟩, hq1]
        by_cases e0 : j = 0
        · rw [if_pos e0, if_pos (by omega)]
        · rw [if_neg e0, if_neg (by omega), hget (i - 1), if_pos (by omega), e2]
      · rw [if_neg, h.prv (i + 1) (by omega), if_neg (by omega), if_neg (by omega), hget (i - 1), if_neg (by omega)]
        · congr 1
          omega
        · rintro ⟨e4, e3⟩
          rw [hm1] at e3
          have hj1 : ¬ j + 1 = xs.length := fun e' => e4 (hm0.2 e')
          have := getD_inj h.nodup (by omega) (by omega) e3
          omega
  · intro x hx hn
    show nx 4096 (removeF 4096 f p) x = _ ∧ pv 4096 (removeF 4096 f p) x = _
    rw [N x hx, V x hx, if_neg, if_neg]
    · exact ⟨rfl, rfl⟩
    · rintro ⟨e4, e3⟩
      have hj1 : ¬ j + 1 = xs.length := fun e' => e4 (hm0.2 e')
      exact hn (by rw [e3, hm1]; exact getD_mem (by omega))
    · rintro ⟨e4, e3⟩
      have hj0 : ¬ j = 0 := fun e' => e4 (hq0.2 e')
      exact hn (by rw [e3, hq1, if_neg hj0]; exact getD_mem (by omega))

theorem Chn.popNil {f hd xs} (h : Chn f hd xs) (h0 : xs = []) : popR 4096 4096 f hd = (f, 0, 0, 9) := by
  have : hd = 0 := h.zero.2 h0
  subst this
  simp [popR]
theorem Chn.popCons {f hd xs} (h : Chn f hd xs) (h0 : xs ≠ []) :
    (popR 4096 4096 f hd).2.2 = (xs.getD 0 0, 0) ∧ Chn (popR 4096 4096 f hd).1 (popR 4096 4096 f hd).2.1 (dropL xs (xs.getD 0 0)) ∧ Same f (popR 4096 4096 f hd).1 xs := by
  have hne : hd ≠ 0 := fun e => h0 (h.zero.1 e)
  have hl : 0 < xs.length := by
    cases xs with
    | nil => exact absurd rfl h0
    | cons y r => simp
  obtain ⟨h1, h2, h3⟩ := h.remove 0 hl
  rw [← h.head] at h1 h2 h3 ⊢
  have he : popR 4096 4096 f hd = ((removeR 4096 4096 f hd hd).1, (removeR 4096 4096 f hd hd).2.1, hd, 0) := by unfold popR; rw [if_neg hne, if_pos h1]
  rw [he]
  exact ⟨rfl, h2, h3⟩
end Go.Proofs.Ytnkoheanjaapjaa
