/- Bits and words: what the document's own map wants of them. -/
import Derived.Test.YtbhheimedbfmeaaCls
namespace Go.Proofs.Ytbhheimedbfmeaa
open Go.RowKit
set_option linter.unusedVariables false

theorem bit_tb (ws : List Nat) (j : Nat) : bit ws j = (ws.getD (j / 64) 0).testBit (j % 64) := by
  unfold bit
  rw [Nat.testBit_eq_decide_div_mod_eq]
  rfl
theorem bit_flip (ws : List Nat) (k j : Nat) (hk : k / 64 < ws.length) : bit (flipW ws k) j = (if j = k then !bit ws k else bit ws j) := by
  rw [bit_tb, bit_tb, bit_tb]
  unfold flipW
  by_cases e : j / 64 = k / 64
  · rw [e, getD_set_same _ _ _ hk, Nat.testBit_xor, Nat.testBit_two_pow]
    by_cases e2 : j = k
    · subst e2; simp
    · have : ¬ k % 64 = j % 64 := by omega
      simp [e2, this]
  · rw [getD_set_ne _ _ _ _ e]
    have : ¬ j = k := by intro h; subst h; exact e rfl
    simp [this]
theorem bit_ofW (zs : List Nat) (N j : Nat) (hz : ∀ i, zs.getD i 0 < 2 ^ 64) (hj : j < N) : bit (ofW zs N) j = bit zs j := by
  rw [bit_tb, bit_tb, ofW_get zs N (j / 64) hz (by omega), Nat.testBit_mod_two_pow]
  have : j % 64 < min 64 (N - 64 * (j / 64)) := by omega
  simp [this]
theorem list_eq_getD (zs ys : List Nat) (hl : zs.length = ys.length) (h : ∀ i, i < zs.length → zs.getD i 0 = ys.getD i 0) : zs = ys := by
  apply List.ext_getElem hl
  intro i h1 h2
  have := h i h1
  simpa [List.getD, h1, h2] using this
def partW (ws : List Nat) (m k : Nat) : List Nat := (List.range m).map fun q => ws.getD q 0 % 2 ^ (k - 64 * q)
theorem partW_len (ws : List Nat) (m k : Nat) : (partW ws m k).length = m := by simp [partW]
theorem partW_get (ws : List Nat) (m k q : Nat) (h : q < m) : (partW ws m k).getD q 0 = ws.getD q 0 % 2 ^ (k - 64 * q) := by simp [partW, List.getD, h]
theorem partW_zero (ws : List Nat) (m : Nat) : partW ws m 0 = zeros m := by
  simp only [partW, zeros]
  apply List.ext_getElem
  · simp
  · intro i h1 h2; simp [Nat.mod_one]
theorem partW_lt (ws : List Nat) (m k : Nat) (hz : ∀ i, ws.getD i 0 < 2 ^ 64) (i : Nat) : (partW ws m k).getD i 0 < 2 ^ 64 := by
  by_cases h : i < m
  · rw [partW_get _ _ _ _ h]; exact Nat.lt_of_le_of_lt (Nat.mod_le _ _) (hz i)
  · have : (partW ws m k).getD i 0 = 0 := by simp [List.getD, partW_len, Nat.not_lt.1 h]
    rw [this]; decide
theorem partW_full (ws : List Nat) (n : Nat) (hl : ws.length = (n + 63) / 64) (ok : ∀ i, i < ws.length → ws.getD i 0 < 2 ^ (min 64 (n - 64 * i))) : partW ws ((n + 63) / 64) n = ws := by
  apply list_eq_getD
  · rw [partW_len, hl]
  · intro i hi
    rw [partW_len] at hi
    rw [partW_get _ _ _ _ hi]
    apply Nat.mod_eq_of_lt
    exact Nat.lt_of_lt_of_le (ok i (by omega)) ((pow_le _ _).2 (Nat.min_le_right _ _))
theorem partW_other (ws : List Nat) (k q : Nat) (hz : ∀ i, ws.getD i 0 < 2 ^ 64) (h : q ≠ k / 64) : ws.getD q 0 % 2 ^ (k + 1 - 64 * q) = ws.getD q 0 % 2 ^ (k - 64 * q) := by
  by_cases h1 : q < k / 64
  · rw [Nat.mod_eq_of_lt (Nat.lt_of_lt_of_le (hz q) ((pow_le _ _).2 (by omega))), Nat.mod_eq_of_lt (Nat.lt_of_lt_of_le (hz q) ((pow_le _ _).2 (by omega)))]
  · have e1 : k + 1 - 64 * q = 0 := by omega
    have e2 : k - 64 * q = 0 := by omega
    rw [e1, e2]
theorem partW_this (ws : List Nat) (k : Nat) : ws.getD (k / 64) 0 % 2 ^ (k + 1 - 64 * (k / 64)) = ws.getD (k / 64) 0 % 2 ^ (k - 64 * (k / 64)) + (if bit ws k = true then 2 ^ (k % 64) else 0) := by
  have e1 : k + 1 - 64 * (k / 64) = k % 64 + 1 := by omega
  have e2 : k - 64 * (k / 64) = k % 64 := by omega
  rw [e1, e2, Nat.mod_pow_succ]
  unfold bit
  by_cases h : ws.getD (k / 64) 0 / 2 ^ (k % 64) % 2 = 1
  · rw [h]; simp
  · have h0 : ws.getD (k / 64) 0 / 2 ^ (k % 64) % 2 = 0 := by omega
    rw [h0]; simp
theorem partW_no (ws : List Nat) (m k : Nat) (hz : ∀ i, ws.getD i 0 < 2 ^ 64) (h : bit ws k = false) : partW ws m (k + 1) = partW ws m k := by
  apply list_eq_getD
  · rw [partW_len, partW_len]
  · intro i hi
    rw [partW_len] at hi
    rw [partW_get _ _ _ _ hi, partW_get _ _ _ _ hi]
    by_cases e : i = k / 64
    · subst e; rw [partW_this, h]; simp
    · exact partW_other ws k i hz e
theorem partW_yes (ws : List Nat) (m k : Nat) (hz : ∀ i, ws.getD i 0 < 2 ^ 64) (hm : k / 64 < m) (h : bit ws k = true) : partW ws m (k + 1) = (partW ws m k).set (k / 64) ((partW ws m k).getD (k / 64) 0 + 2 ^ (k % 64)) := by
  apply list_eq_getD
  · rw [List.length_set, partW_len, partW_len]
  · intro i hi
    rw [partW_len] at hi
    rw [partW_get _ _ _ _ hi]
    by_cases e : i = k / 64
    · subst e; rw [getD_set_same _ _ _ (by rw [partW_len]; exact hm), partW_this, h, partW_get _ _ _ _ hi]; simp
    · rw [getD_set_ne _ _ _ _ e, partW_get _ _ _ _ hi]; exact partW_other ws k i hz e
theorem block_write {w : World} {g : Nat} {zs : List Nat} (hg : w.heap[g]? = some (.cells (wcells zs) 27 (0, 0))) (q y : Nat) : (w.setCell ⟨g, q, none⟩ (.int .u64 (y : Int))).heap[g]? = some (.cells (wcells (zs.set q y)) 27 (0, 0)) := by
  simp only [World.setCell]
  rw [Array.getElem?_modify, if_pos rfl, hg]
  simp [wcells, List.map_set]
theorem block_fro {w : World} {g : Nat} {zs : List Nat} (hg : w.heap[g]? = some (.cells (wcells zs) 27 (0, 0))) (i : Nat) : w.frozen? ⟨g, i, none⟩ = false := by simp [World.frozen?, hg]
theorem SetAt.bit_past {w b c n ws} (h : SetAt w b c n ws) (j : Nat) (hj : n ≤ j) : bit ws j = false := by
  unfold bit
  by_cases hl : j / 64 < ws.length
  · have h1 := h.ok (j / 64) hl
    have h2 : ws.getD (j / 64) 0 / 2 ^ (j % 64) = 0 := by
      rw [Nat.div_eq_of_lt]
      refine Nat.lt_of_lt_of_le h1 ((pow_le _ _).2 ?_)
      omega
    rw [h2]; rfl
  · have : ws.getD (j / 64) 0 = 0 := by simp [List.getD, Nat.not_lt.1 hl]
    rw [this]; simp
end Go.Proofs.Ytbhheimedbfmeaa
