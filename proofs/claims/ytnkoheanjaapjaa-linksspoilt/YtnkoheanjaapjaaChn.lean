/- Lists on cells of sixteen bytes, each on them once: what Push, Remove, Pop and a range make of them. -/
import Derived.Test.YtnkoheanjaapjaaLawC
namespace Go.Proofs.Ytnkoheanjaapjaa
open Go.RowKit Go.Shelf
set_option linter.unusedVariables false

def IsCell (x : Nat) : Prop := 4096 ≤ x ∧ x + 16 ≤ 8192 ∧ x % 16 = 0
theorem IsCell.inn {x : Nat} (h : IsCell x) : In 4096 4096 x 16 := by unfold IsCell at h; unfold In; omega
theorem IsCell.lt {x : Nat} (h : IsCell x) : x < 18446744073709551616 := by unfold IsCell at h; omega
theorem IsCell.ne0 {x : Nat} (h : IsCell x) : x ≠ 0 := by unfold IsCell at h; omega

theorem word_far (f : Nat → Nat) (o v o' : Nat) (h : o + 8 ≤ o' ∨ o' + 8 ≤ o) : word (upd f o 8 (byteOf v)) o' = word f o' := by
  unfold word
  exact wordTo_congr _ _ 8 (fun i hi => upd_out _ _ _ _ _ (by omega))
theorem nx_stw (f : Nat → Nat) (x y v : Nat) (hx : IsCell x) (hy : IsCell y) (hv : v < 18446744073709551616) : nx 4096 (stw 4096 f y v) x = if x = y then v else nx 4096 f x := by
  unfold nx stw
  unfold IsCell at hx hy
  by_cases e : x = y
  · rw [if_pos e, e]; exact word_upd f _ v hv
  · rw [if_neg e]; exact word_far f _ v _ (by omega)
theorem pv_stw (f : Nat → Nat) (x y v : Nat) (hx : IsCell x) (hy : IsCell y) : pv 4096 (stw 4096 f y v) x = pv 4096 f x := by
  unfold pv stw
  unfold IsCell at hx hy
  exact word_far f _ v _ (by omega)
theorem nx_stw8 (f : Nat → Nat) (x y v : Nat) (hx : IsCell x) (hy : IsCell y) : nx 4096 (stw 4096 f (y + 8) v) x = nx 4096 f x := by
  unfold nx stw
  unfold IsCell at hx hy
  exact word_far f _ v _ (by omega)
theorem pv_stw8 (f : Nat → Nat) (x y v : Nat) (hx : IsCell x) (hy : IsCell y) (hv : v < 18446744073709551616) : pv 4096 (stw 4096 f (y + 8) v) x = if x = y then v else pv 4096 f x := by
  unfold pv stw
  unfold IsCell at hx hy
  by_cases e : x = y
  · rw [if_pos e, e]; exact word_upd f _ v hv
  · rw [if_neg e]; exact word_far f _ v _ (by omega)

/-- A list of cells, each on it once, there and back. -/
structure Chn (f : Nat → Nat) (hd : Nat) (xs : List Nat) : Prop where
  cell : ∀ x ∈ xs, IsCell x
  nodup : xs.Nodup
  head : hd = xs.getD 0 0
  nxt : ∀ i, i < xs.length → nx 4096 f (xs.getD i 0) = xs.getD (i + 1) 0
  prv : ∀ i, i < xs.length → pv 4096 f (xs.getD i 0) = if i = 0 then 0 else xs.getD (i - 1) 0

theorem getD_mem {xs : List Nat} {i : Nat} (h : i < xs.length) : xs.getD i 0 ∈ xs := by
  rw [List.getD_eq_getElem?_getD, List.getElem?_eq_getElem h]
  exact List.getElem_mem h
theorem getD_out {xs : List Nat} {i : Nat} (h : xs.length ≤ i) : xs.getD i 0 = 0 := by
  rw [List.getD_eq_getElem?_getD, List.getElem?_eq_none h]
  rfl
theorem getD_inj {xs : List Nat} (hn : xs.Nodup) {i j : Nat} (hi : i < xs.length) (hj : j < xs.length) (h : xs.getD i 0 = xs.getD j 0) : i = j := by
  rw [List.getD_eq_getElem?_getD, List.getElem?_eq_getElem hi, List.getD_eq_getElem?_getD, List.getElem?_eq_getElem hj] at h
  have hp := List.pairwise_iff_getElem.1 hn
  rcases Nat.lt_trichotomy i j with e | e | e
  · exact absurd h (hp i j hi hj e)
  · exact e
  · exact absurd h.symm (hp j i hj hi e)
theorem mem_getD {xs : List Nat} {p : Nat} (h : p ∈ xs) : ∃ j, j < xs.length ∧ xs.getD j 0 = p := by
  obtain ⟨j, hj, e⟩ := List.mem_iff_getElem.1 h
  exact ⟨j, hj, by rw [List.getD_eq_getElem?_getD, List.getElem?_eq_getElem hj]; exact e⟩

theorem Chn.cellD {f hd xs} (h : Chn f hd xs) {i : Nat} (hi : i < xs.length) : IsCell (xs.getD i 0) := h.cell _ (getD_mem hi)
theorem Chn.lt {f hd xs} (h : Chn f hd xs) (i : Nat) : xs.getD i 0 < 18446744073709551616 := by
  rcases Nat.lt_or_ge i xs.length with hi | hi
  · exact (h.cellD hi).lt
  · rw [getD_out hi]; decide
theorem Chn.zero {f hd xs} (h : Chn f hd xs) : hd = 0 ↔ xs = [] := by
  constructor
  · intro e
    cases xs with
    | nil => rfl
    | cons x r => exact absurd (h.head.symm.trans e) (h.cell x (by simp)).ne0
  · rintro rfl; exact h.head
theorem Chn.nil (f : Nat → Nat) : Chn f 0 [] := ⟨fun _ h => (by cases h), List.nodup_nil, rfl, fun _ h => (by cases h), fun _ h => (by cases h)⟩
theorem Chn.congr {f f' hd xs} (h : Chn f hd xs) (hf : ∀ x ∈ xs, nx 4096 f' x = nx 4096 f x ∧ pv 4096 f' x = pv 4096 f x) : Chn f' hd xs :=
  ⟨h.cell, h.nodup, h.head, fun i hi => (hf _ (getD_mem hi)).1.trans (h.nxt i hi), fun i hi => (hf _ (getD_mem hi)).2.trans (h.prv i hi)⟩

/-- What is not on the list, and is not p, is as it was. -/
def Same (f f' : Nat → Nat) (xs : List Nat) : Prop := ∀ x, IsCell x → x ∉ xs → nx 4096 f' x = nx 4096 f x ∧ pv 4096 f' x = pv 4096 f x

theorem Chn.push {f hd xs} (h : Chn f hd xs) (p : Nat) (hp : IsCell p) (hm : p ∉ xs) :
    (pushR 4096 4096 f hd p).2.2 = 0 ∧ Chn (pushR 4096 4096 f hd p).1 (pushR 4096 4096 f hd p).2.1 (p :: xs) ∧ Same f (pushR 4096 4096 f hd p).1 (p :: xs) := by
  have hcame : cameB 4096 4096 f hd 0 = true := by
    unfold cameB
    apply decide_eq_true
    cases xs with
    | nil => exact .inl h.head
    | cons x r =>
      refine .inr ⟨?_, ?_⟩
      · rw [h.head]; exact (h.cell x (by simp)).inn
      · have := h.prv 0 (by simp)
        rw [h.head]
        simpa using this
  have he : pushR 4096 4096 f hd p = (pushF 4096 f hd p, p, 0) := by unfold pushR; rw [if_pos hp.inn, if_pos hcame]
  rw [he]
  refine ⟨rfl, ?_⟩
  have hdl : hd < 18446744073709551616 := by rw [h.head]; exact h.lt 0
  have N : ∀ x, IsCell x → nx 4096 (pushF 4096 f hd p) x = if x = p then hd else nx 4096 f x := by
    intro x hx
    unfold pushF
    split
    · rw [nx_stw8 _ _ _ _ hx hp, nx_stw _ _ _ _ hx hp hdl]
    · next h0 =>
      have hh : IsCell hd := by
        cases xs with
        | nil => exact absurd h.head h0
        | cons y r => rw [h.head]; exact h.cell y (by simp)
      rw [nx_stw8 _ _ _ _ hx hh, nx_stw8 _ _ _ _ hx hp, nx_stw _ _ _ _ hx hp hdl]
  have V : ∀ x, IsCell x → pv 4096 (pushF 4096 f hd p) x = if x = hd ∧ hd ≠ 0 then p else if x = p then 0 else pv 4096 f x := by
    intro x hx
    unfold pushF
    split
    · next h0 => rw [if_neg (by simp [h0]), pv_stw8 _ _ _ _ hx hp (by decide), pv_stw _ _ _ _ hx hp]
    · next h0 =>
      have hh : IsCell hd := by
        cases xs with
        | nil => exact absurd h.head h0
        | cons y r => rw [h.head]; exact h.cell y (by simp)
      rw [pv_stw8 _ _ _ _ hx hh hp.lt, pv_stw8 _ _ _ _ hx hp (by decide), pv_stw _ _ _ _ hx hp]
      by_cases e : x = hd
      · simp [e, h0]
      · simp [e]
  have hph : p ≠ hd := by
    intro e
    cases xs with
    | nil => rw [h.head] at e; exact hp.ne0 e
    | cons y r => exact hm (by rw [e, h.head]; simp)
  refine ⟨⟨?_, ?_, rfl, ?_, ?_⟩, ?_⟩
  · intro x hx
    rcases List.mem_cons.1 hx with rfl | hx
    · exact hp
    · exact h.cell x hx
  · exact List.nodup_cons.2 ⟨hm, h.nodup⟩
  · intro i hi
    cases i with
    | zero =>
      show nx 4096 _ p = xs.getD 0 0
      rw [N p hp, if_pos rfl, h.head]
    | succ i =>
      have hi' : i < xs.length := by simpa using hi
      show nx 4096 _ (xs.getD i 0) = xs.getD (i + 1) 0
      rw [N _ (h.cellD hi'), if_neg (show ¬ xs.getD i 0 = p from fun e => hm (e ▸ getD_mem hi')), h.nxt i hi']
  · intro i hi
    cases i with
    | zero =>
      show pv 4096 _ p = _
      rw [V p hp, if_neg (by simp [hph]), if_pos rfl]
      rfl
    | succ i =>
      have hi' : i < xs.length := by simpa using hi
      show pv 4096 _ (xs.getD i 0) = _
      rw [V _ (h.cellD hi')]
      cases i with
      | zero =>
        have h0 : hd ≠ 0 := by rw [h.head]; exact (h.cellD hi').ne0
        rw [if_pos ⟨h.head.symm, h0⟩]
        rfl
      | succ i =>
        rw [if_neg, if_neg (show ¬ xs.getD (i + 1) 0 = p from fun e => hm (e ▸ getD_mem hi')), h.prv _ hi']
        · rfl
        · rintro ⟨e, _⟩
          rw [h.head] at e
          have := getD_inj h.nodup hi' (by omega) e
          omega
  · intro x hx hn
    have h1 : x ≠ p := fun e => hn (by simp [e])
    have h2 : ¬ (x = hd ∧ hd ≠ 0) := by
      rintro ⟨e, h0⟩
      cases xs with
      | nil => exact h0 h.head
      | cons y r => exact hn (by rw [e, h.head]; simp)
    rw [N x hx, V x hx, if_neg h1, if_neg h2, if_neg h1]
    exact ⟨rfl, rfl⟩

theorem Chn.walk {f hd xs} (h : Chn f hd xs) (m : Nat) (hm : xs.length ≤ m) : ∀ k i, i + k = m → i ≤ xs.length → walkR 4096 4096 f k (if i = 0 then 0 else xs.getD (i - 1) 0) (xs.getD i 0) = xs.drop i := by
  intro k
  induction k with
  | zero =>
    intro i h1 h2
    rw [List.drop_eq_nil_of_le (by omega)]
    rfl
  | succ k ih =>
    intro i h1 h2
    unfold walkR
    rcases Nat.lt_or_ge i xs.length with hi | hi
    · rw [if_pos ⟨(h.cellD hi).ne0, (h.cellD hi).inn, h.prv i hi⟩, h.nxt i hi]
      have := ih (i + 1) (by omega) hi
      rw [if_neg (by omega), Nat.add_sub_cancel] at this
      rw [this, List.drop_eq_getElem_cons hi, List.getD_eq_getElem?_getD, List.getElem?_eq_getElem hi]
      rfl
    · rw [if_neg (by rw [getD_out hi]; simp), List.drop_eq_nil_of_le hi]
theorem Chn.all {f hd xs} (h : Chn f hd xs) (m : Nat) (hm : xs.length ≤ m) : walkR 4096 4096 f m 0 hd = xs := by
  have := h.walk m hm m 0 (by omega) (Nat.zero_le _)
  rw [if_pos rfl, ← h.head, List.drop_zero] at this
  exact this

/-- There are 256 cells. -/
theorem nodup_len : ∀ (n : Nat) (l : List Nat), l.Nodup → (∀ x ∈ l, x < n) → l.length ≤ n := by
  intro n
  induction n with
  | zero =>
    intro l _ h
    cases l with
    | nil => exact Nat.le_refl _
    | cons x r => exact absurd (h x (by simp)) (by omega)
  | succ n ih =>
    intro l hn h
    have h1 := ih (l.erase n) (hn.erase n) (fun x hx => by
      have h2 := h x (List.mem_of_mem_erase hx)
      have h3 : x ≠ n := fun e => by subst e; exact (List.Nodup.not_mem_erase hn) hx
      omega)
    have h4 := List.length_erase_le (a := n) (l := l)
    by_cases hm : n ∈ l
    · rw [List.length_erase_of_mem hm] at h1
      omega
    · rw [List.erase_of_not_mem hm] at h1
      omega
theorem Chn.len {f hd xs} (h : Chn f hd xs) : xs.length ≤ 256 := by
  have h1 : (xs.map fun x => (x - 4096) / 16).Nodup := by
    refine List.pairwise_map.2 (List.Pairwise.imp_of_mem (fun {x y} hx hy hne e => hne ?_) h.nodup)
    have h2 := h.cell x hx
    have h3 := h.cell y hy
    unfold IsCell at h2 h3
    omega
  have h2 := nodup_len 256 _ h1 (fun z hz => by
    obtain ⟨x, hx, rfl⟩ := List.mem_map.1 hz
    have h2 := h.cell x hx
    unfold IsCell at h2
    omega)
  rwa [List.length_map] at h2
end Go.Proofs.Ytnkoheanjaapjaa
