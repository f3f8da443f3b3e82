/- The pages that meet blocks, in memory (PG): which cells of which pages are taken; (pages).take. -/
import Derived.Test.YtibljocjdlgfbaaOrC
import Derived.Test.YtibljocjdlgfbaaCnt
namespace Go.Proofs.Ytibljocjdlgfbaa
open Go.RowKit
set_option linter.unusedVariables false

/-- A page's value in the map. -/
def pgV (s b : Nat) : Value := .agg #[.int .u64 (s : Int), .pointer (some ⟨b, 0, none⟩)]

/-- What was taken: page, cell, size. -/
abbrev Un := Nat × Nat × Nat

structure PGx (N : Nat) (w : World) (m : Nat) (U : List Un) (ks : List Nat) (S B C : Nat → Nat) (W : Nat → List Nat) : Prop where
  mu : MU w m (ks.map fun n => (n, pgV (S n) (B n)))
  st : ∀ n ∈ ks, SetAt w (B n) (C n) (celN (S n)) (W n)
  inj : ∀ n ∈ ks, ∀ n' ∈ ks, C n = C n' → n = n'
  nm : N ≤ m
  nw : ∀ n ∈ ks, N ≤ B n ∧ N ≤ C n
  us : ∀ u ∈ U, u.1 ∈ ks ∧ S u.1 = u.2.2 ∧ bit (W u.1) u.2.1 = true
  kin : ∀ n ∈ ks, ∃ u ∈ U, u.1 = n
  bt : ∀ n ∈ ks, ∀ j, bit (W n) j = true → (n, j, S n) ∈ U
  cn : ∀ n ∈ ks, cntS (W n) = (U.filter (fun u => u.1 == n)).length
  sz : ∀ u ∈ U, 16 ≤ u.2.2 ∧ u.2.2 ≤ 1048576 ∧ u.1 < 1024 ∧ u.2.1 < celN u.2.2
def PG (N : Nat) (w : World) (m : Nat) (U : List Un) : Prop := ∃ ks S B C W, PGx N w m U ks S B C W

theorem celN_b (s : Nat) (hs : 16 ≤ s) : 1 ≤ celN s ∧ celN s ≤ 256 := by
  unfold celN
  have : 4096 / s ≤ 256 := by
    have := Nat.div_le_div_left hs (by decide : 0 < 16) (a := 4096)
    omega
  split <;> omega

theorem nodup_le : ∀ (M : Nat) (l : List Nat), l.Nodup → (∀ x ∈ l, x < M) → l.length ≤ M
  | 0, l, _, h => by
    cases l with
    | nil => simp
    | cons a r => exact absurd (h a (by simp)) (by omega)
  | M + 1, l, hn, h => by
    have h2 := nodup_le M (l.erase M) (hn.erase M) (fun x hx => by
      have h3 := h x (List.mem_of_mem_erase hx)
      have : x ≠ M := fun e => by
        subst e
        exact (hn.not_mem_erase) hx
      omega)
    have : l.length ≤ (l.erase M).length + 1 := by
      rw [List.length_erase]
      split <;> omega
    omega

theorem PGx.nodup {N w m U ks S B C W} (h : PGx N w m U ks S B C W) : ks.Nodup := by
  have := h.mu.nodup
  simpa [List.map_map, Function.comp_def] using this
theorem PGx.len {N w m U ks S B C W} (h : PGx N w m U ks S B C W) : ks.length ≤ 1024 :=
  nodup_le 1024 ks h.nodup (fun n hn => by
    obtain ⟨u, hu, rfl⟩ := h.kin n hn
    exact (h.sz u hu).2.2.1)
theorem PGx.fnd_in {N w m U ks S B C W} (h : PGx N w m U ks S B C W) {n : Nat} (hn : n ∈ ks) : fnd (ks.map fun n => (n, pgV (S n) (B n))) n = some (pgV (S n) (B n)) :=
  fnd_some h.mu.nodup (List.mem_map.2 ⟨n, hn, rfl⟩)
theorem PGx.fnd_out {N w m U ks S B C W} (h : PGx N w m U ks S B C W) {n : Nat} (hn : n ∉ ks) : fnd (ks.map fun n => (n, pgV (S n) (B n))) n = none :=
  fnd_none (fun p hp e => by
    obtain ⟨k, hk, rfl⟩ := List.mem_map.1 hp
    exact hn (e ▸ hk))

/-- May the cell be taken? -/
def okU (U : List Un) (n j s : Nat) : Bool := U.all (fun u => u.1 != n || (u.2.2 == s && u.2.1 != j))
theorem okU_iff (U : List Un) (n j s : Nat) : okU U n j s = true ↔ ∀ u ∈ U, u.1 = n → u.2.2 = s ∧ u.2.1 ≠ j := by
  simp only [okU, List.all_eq_true, Bool.or_eq_true, bne_iff_ne, Bool.and_eq_true, beq_iff_eq]
  constructor
  · intro h u hu e
    rcases h u hu with h1 | h1
    · exact absurd e h1
    · exact h1
  · intro h u hu
    by_cases e : u.1 = n
    · exact Or.inr (h u hu e)
    · exact Or.inl e

theorem PGx.ok_none {N w m U ks S B C W} (h : PGx N w m U ks S B C W) {n : Nat} (hn : n ∉ ks) (j s : Nat) : okU U n j s = true :=
  (okU_iff U n j s).2 (fun u hu e => absurd (e ▸ (h.us u hu).1) hn)
theorem PGx.ok_size {N w m U ks S B C W} (h : PGx N w m U ks S B C W) {n : Nat} (hn : n ∈ ks) (j s : Nat) (hs : S n ≠ s) : okU U n j s = false := by
  rw [Bool.eq_false_iff]
  intro hk
  obtain ⟨u, hu, rfl⟩ := h.kin n hn
  exact hs ((h.us u hu).2.1.trans ((okU_iff U _ j s).1 hk u hu rfl).1)
theorem PGx.ok_bit {N w m U ks S B C W} (h : PGx N w m U ks S B C W) {n : Nat} (hn : n ∈ ks) (j : Nat) : okU U n j (S n) = !bit (W n) j := by
  cases hb : bit (W n) j with
  | true =>
    rw [Bool.not_true, Bool.eq_false_iff]
    intro hk
    exact ((okU_iff U _ j _).1 hk _ (h.bt n hn j hb) rfl).2 rfl
  | false =>
    rw [Bool.not_false, okU_iff]
    intro u hu e
    subst e
    refine ⟨(h.us u hu).2.1.symm, fun e => ?_⟩
    have := (h.us u hu).2.2
    rw [e, hb] at this
    cases this

theorem MU.setCell {w b L} (h : MU w b L) {p : Addr} (hp : b ≠ p.block) (u : Value) : MU (w.setCell p u) b L := by
  obtain ⟨⟨es, clock, h1, h2⟩, h3⟩ := h
  exact ⟨⟨es, clock, by rw [Below.heap_setCell _ _ _ _ hp]; exact h1, h2⟩, h3⟩
/-- A map's block is no block of cells. -/
theorem MU.ne {w b L} (h : MU w b L) {k : Nat} {c : Array Value} {t : TypeId} {z : Nat × Nat} (hk : w.heap[k]? = some (.cells c t z)) : k ≠ b := by
  obtain ⟨⟨es, clock, h1, h2⟩, h3⟩ := h
  rintro rfl
  rw [h1] at hk
  cases hk

theorem zero_page (w : World) : (zeroValue 98).run Try.prog w = .ok (.agg #[.int .u64 0, .pointer none]) w := by kernel_rfl

theorem zeros_ok (n : Nat) (i : Nat) (hi : i < (zeros ((n + 63) / 64)).length) : (zeros ((n + 63) / 64)).getD i 0 < 2 ^ (min 64 (n - 64 * i)) := by
  rw [zeros_get]; exact Nat.two_pow_pos _

/-- A cell more, on a page that is there. -/
theorem PGx.put {N w m U ks S B C W} (h : PGx N w m U ks S B C W) {n j : Nat} (hn : n ∈ ks) (hj : j < celN (S n)) (hb : bit (W n) j = false) {w' : World} (hs : SetAt w' (B n) (C n) (celN (S n)) (flipW (W n) j)) (hk : Kept (fun x => x = C n) w w') (hsz : 16 ≤ S n ∧ S n ≤ 1048576 ∧ n < 1024) :
    PGx N w' m (U ++ [(n, j, S n)]) ks S B C (fun x => if x = n then flipW (W n) j else W x) := by
  have hst := h.st n hn
  have hlen : j / 64 < (W n).length := by have := hst.len; omega
  have hmc : m ≠ C n := fun e => h.mu.ne hst.hc e.symm
  refine ⟨h.mu.kept hk hmc, ?_, h.inj, h.nm, h.nw, ?_, ?_, ?_, ?_, ?_⟩
  · intro x hx
    by_cases e : x = n
    · subst e; simp only [if_true]; exact hs
    · simp only [if_neg e]
      have h2 := h.st x hx
      exact h2.kept hk (ty_ne' h2.hb hst.hc) (fun e2 => e (h.inj x hx n hn e2))
  · intro u hu
    rcases List.mem_append.1 hu with hu | hu
    · obtain ⟨h1, h2, h3⟩ := h.us u hu
      refine ⟨h1, h2, ?_⟩
      by_cases e : u.1 = n
      · simp only [if_pos e]
        rw [e] at h3
        rw [bit_flip _ _ _ hlen]
        split
        · rename_i e2
          rw [e2, hb] at h3
          cases h3
        · exact h3
      · simp only [if_neg e]; exact h3
    · rw [List.mem_singleton] at hu
      subst hu
      refine ⟨hn, rfl, ?_⟩
      simp only [if_true]
      rw [bit_flip _ _ _ hlen, if_pos rfl, hb]; rfl
  · intro x hx
    obtain ⟨u, hu, e⟩ := h.kin x hx
    exact ⟨u, List.mem_append_left _ hu, e⟩
  · intro x hx i hi
    by_cases e : x = n
    · subst e
      simp only [if_true] at hi
      rw [bit_flip _ _ _ hlen] at hi
      split at hi
      · rename_i e2
        subst e2
        exact List.mem_append_right _ (by simp)
      · exact List.mem_append_left _ (h.bt x hx i hi)
    · simp only [if_neg e] at hi
      exact List.mem_append_left _ (h.bt x hx i hi)
  · intro x hx
    rw [List.filter_append, List.length_append]
    by_cases e : x = n
    · subst e
      simp only [if_true]
      rw [cntS_put (W x) j hst.lt64 hs.lt64 hlen hb, h.cn x hx]
      simp
    · simp only [if_neg e]
      rw [h.cn x hx]
      have : ¬ n = x := fun e2 => e e2.symm
      simp [this]
  · intro u hu
    rcases List.mem_append.1 hu with hu | hu
    · exact h.sz u hu
    · rw [List.mem_singleton] at hu
      subst hu
      exact ⟨hsz.1, hsz.2.1, hsz.2.2, hj⟩

/-- A page more. -/
theorem PGx.add {N w m U ks S B C W} (h : PGx N w m U ks S B C W) {n s j b c : Nat} (hn : n ∉ ks) (hj : j < celN s) (hsz : 16 ≤ s ∧ s ≤ 1048576 ∧ n < 1024) {w' : World} (hm : MU w' m ((ks.map fun n => (n, pgV (S n) (B n))) ++ [(n, pgV s b)]))
    (hs : SetAt w' b c (celN s) (flipW (zeros ((celN s + 63) / 64)) j)) (hk : Kept (fun x => x = m ∨ w.heap.size ≤ x) w w') (hc : w.heap.size ≤ c) (hb : w.heap.size ≤ b) (hN : N ≤ w.heap.size) :
    PG N w' m (U ++ [(n, j, s)]) := by
  have hz : ∀ i, (zeros ((celN s + 63) / 64)).getD i 0 < 2 ^ 64 := fun i => by rw [zeros_get]; exact Nat.two_pow_pos _
  have hlen : j / 64 < (zeros ((celN s + 63) / 64)).length := by rw [zeros_len]; omega
  have hold : ∀ x ∈ ks, C x < w.heap.size ∧ B x < w.heap.size := fun x hx => ⟨heap_lt (h.st x hx).hc, heap_lt (h.st x hx).hb⟩
  have hne : ∀ x ∈ ks, x ≠ n := fun x hx e => hn (e ▸ hx)
  refine ⟨ks ++ [n], fun x => if x = n then s else S x, fun x => if x = n then b else B x, fun x => if x = n then c else C x, fun x => if x = n then flipW (zeros ((celN s + 63) / 64)) j else W x, ?_, ?_, ?_, h.nm, ?_, ?_, ?_, ?_, ?_, ?_⟩
  · rw [List.map_append]
    have e1 : (ks.map fun x => (x, pgV (if x = n then s else S x) (if x = n then b else B x))) = ks.map fun x => (x, pgV (S x) (B x)) :=
      List.map_congr_left fun x hx => by simp [hne x hx]
    rw [e1]
    simpa using hm
  · intro x hx
    rcases List.mem_append.1 hx with hx | hx
    · simp only [if_neg (hne x hx)]
      have h2 := h.st x hx
      have h3 := hold x hx
      exact h2.kept hk (fun e => by rcases e with e | e; exact h.mu.ne h2.hb e; omega) (fun e => by rcases e with e | e; exact h.mu.ne h2.hc e; omega)
    · rw [List.mem_singleton] at hx
      subst hx
      simp only [if_true]
      exact hs
  · intro x hx y hy e
    rcases List.mem_append.1 hx with hx1 | hx1
    · have q1 := hne x hx1
      have q2 := hold x hx1
      rcases List.mem_append.1 hy with hy1 | hy1
      · simp only [if_neg q1, if_neg (hne y hy1)] at e
        exact h.inj x hx1 y hy1 e
      · rw [List.mem_singleton] at hy1
        simp only [if_neg q1, if_pos hy1] at e
        omega
    · rw [List.mem_singleton] at hx1
      rcases List.mem_append.1 hy with hy1 | hy1
      · have q2 := hold y hy1
        simp only [if_neg (hne y hy1), if_pos hx1] at e
        omega
      · rw [List.mem_singleton] at hy1
        rw [hx1, hy1]
  · intro x hx
    rcases List.mem_append.1 hx with hx | hx
    · simp only [if_neg (hne x hx)]
      exact h.nw x hx
    · rw [List.mem_singleton] at hx
      subst hx
      simp only [if_true]
      omega
  · intro u hu
    rcases List.mem_append.1 hu with hu | hu
    · obtain ⟨h1, h2, h3⟩ := h.us u hu
      simp only [if_neg (hne _ h1)]
      exact ⟨List.mem_append_left _ h1, h2, h3⟩
    · rw [List.mem_singleton] at hu
      subst hu
      refine ⟨by simp, if_pos rfl, ?_⟩
      simp only [if_true]
      rw [bit_flip _ _ _ hlen, if_pos rfl, bit_zeros]; rfl
  · intro x hx
    rcases List.mem_append.1 hx with hx | hx
    · obtain ⟨u, hu, e⟩ := h.kin x hx
      exact ⟨u, List.mem_append_left _ hu, e⟩
    · rw [List.mem_singleton] at hx
      exact ⟨(n, j, s), by simp, hx.symm⟩
  · intro x hx i hi
    rcases List.mem_append.1 hx with hx | hx
    · simp only [if_neg (hne x hx)] at hi ⊢
      exact List.mem_append_left _ (h.bt x hx i hi)
    · rw [List.mem_singleton] at hx
      subst hx
      simp only [if_true] at hi ⊢
      rw [bit_flip _ _ _ hlen, bit_zeros] at hi
      split at hi
      · rename_i e
        subst e
        exact List.mem_append_right _ (by simp)
      · rw [bit_zeros] at hi
        cases hi
  · intro x hx
    rw [List.filter_append, List.length_append]
    rcases List.mem_append.1 hx with hx | hx
    · simp only [if_neg (hne x hx)]
      rw [h.cn x hx]
      have : ¬ n = x := fun e2 => hne x hx e2.symm
      simp [this]
    · rw [List.mem_singleton] at hx
      subst hx
      simp only [if_true]
      rw [cntS_put _ j hz hs.lt64 hlen (bit_zeros _ _), cntS_none _ hz (bit_zeros _)]
      have : U.filter (fun u => u.1 == x) = [] := List.filter_eq_nil_iff.2 fun u hu e => hn ((by simpa using e : u.1 = x) ▸ (h.us u hu).1)
      rw [this]
      simp
  · intro u hu
    rcases List.mem_append.1 hu with hu | hu
    · exact h.sz u hu
    · rw [List.mem_singleton] at hu
      subst hu
      exact ⟨hsz.1, hsz.2.1, hsz.2.2, hj⟩
end Go.Proofs.Ytibljocjdlgfbaa
