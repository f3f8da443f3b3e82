/- The document's own sets (croftref1): Words; how the two kinds of sets stand to each other. -/
import Derived.Test.YtahdjaocfejjeaaRefU
namespace Go.Proofs.Ytahdjaocfejjeaa
open Go.RowKit
set_option linter.unusedVariables false

def partW (ws : List Nat) (m k : Nat) : List Nat := (List.range m).map fun q => ws.getD q 0 % 2 ^ (k - 64 * q)
theorem partW_len (ws : List Nat) (m k : Nat) : (partW ws m k).length = m := by simp [partW]
theorem partW_get (ws : List Nat) (m k q : Nat) (h : q < m) : (partW ws m k).getD q 0 = ws.getD q 0 % 2 ^ (k - 64 * q) := by simp [partW, List.getD, h]
theorem partW_zero (ws : List Nat) (m : Nat) : partW ws m 0 = zeros m := by
  simp only [partW, zeros]
  apply List.ext_getElem
  · simp
  · intro i h1 h2; simp [Nat.mod_one]
theorem partW_lt (ws : List Nat) (m k : Nat) (hz : ∀ i, ws.getD i 0 < 2 ^ 64) (i : Nat) : (partW ws m k).getD i 0 < 2 ^ 64 := by
  by_cases h : i < m
  · rw [partW_get _ _ _ _ h]; exact Nat.lt_of_le_of_lt (Nat.mod_le _ _) (hz i)
  · have : (partW ws m k).getD i 0 = 0 := by simp [List.getD, partW_len, Nat.not_lt.1 h]
    rw [this]; decide
theorem partW_full (ws : List Nat) (n : Nat) (hl : ws.length = (n + 63) / 64) (ok : ∀ i, i < ws.length → ws.getD i 0 < 2 ^ (min 64 (n - 64 * i))) : partW ws ((n + 63) / 64) n = ws := by
  apply list_eq_getD
  · rw [partW_len, hl]
  · intro i hi
    rw [partW_len] at hi
    rw [partW_get _ _ _ _ hi]
    apply Nat.mod_eq_of_lt
    exact Nat.lt_of_lt_of_le (ok i (by omega)) ((pow_le _ _).2 (Nat.min_le_right _ _))
theorem partW_other (ws : List Nat) (k q : Nat) (hz : ∀ i, ws.getD i 0 < 2 ^ 64) (h : q ≠ k / 64) : ws.getD q 0 % 2 ^ (k + 1 - 64 * q) = ws.getD q 0 % 2 ^ (k - 64 * q) := by
  by_cases h1 : q < k / 64
  · rw [Nat.mod_eq_of_lt (Nat.lt_of_lt_of_le (hz q) ((pow_le _ _).2 (by omega))), Nat.mod_eq_of_lt (Nat.lt_of_lt_of_le (hz q) ((pow_le _ _).2 (by omega)))]
  · have e1 : k + 1 - 64 * q = 0 := by omega
    have e2 : k - 64 * q = 0 := by omega
    rw [e1, e2]
theorem partW_this (ws : List Nat) (k : Nat) : ws.getD (k / 64) 0 % 2 ^ (k + 1 - 64 * (k / 64)) = ws.getD (k / 64) 0 % 2 ^ (k - 64 * (k / 64)) + (if bit ws k = true then 2 ^ (k % 64) else 0) := by
  have e1 : k + 1 - 64 * (k / 64) = k % 64 + 1 := by omega
  have e2 : k - 64 * (k / 64) = k % 64 := by omega
  rw [e1, e2, Nat.mod_pow_succ]
  unfold bit
  by_cases h : ws.getD (k / 64) 0 / 2 ^ (k % 64) % 2 = 1
  · rw [h]; simp
  · have h0 : ws.getD (k / 64) 0 / 2 ^ (k % 64) % 2 = 0 := by omega
    rw [h0]; simp
theorem partW_no (ws : List Nat) (m k : Nat) (hz : ∀ i, ws.getD i 0 < 2 ^ 64) (h : bit ws k = false) : partW ws m (k + 1) = partW ws m k := by
  apply list_eq_getD
  · rw [partW_len, partW_len]
  · intro i hi
    rw [partW_len] at hi
    rw [partW_get _ _ _ _ hi, partW_get _ _ _ _ hi]
    by_cases e : i = k / 64
    · subst e; rw [partW_this, h]; simp
    · exact partW_other ws k i hz e
theorem partW_yes (ws : List Nat) (m k : Nat) (hz : ∀ i, ws.getD i 0 < 2 ^ 64) (hm : k / 64 < m) (h : bit ws k = true) : partW ws m (k + 1) = (partW ws m k).set (k / 64) ((partW ws m k).getD (k / 64) 0 + 2 ^ (k % 64)) := by
  apply list_eq_getD
  · rw [List.length_set, partW_len, partW_len]
  · intro i hi
    rw [partW_len] at hi
    rw [partW_get _ _ _ _ hi]
    by_cases e : i = k / 64
    · subst e; rw [getD_set_same _ _ _ (by rw [partW_len]; exact hm), partW_this, h, partW_get _ _ _ _ hi]; simp
    · rw [getD_set_ne _ _ _ _ e, partW_get _ _ _ _ hi]; exact partW_other ws k i hz e

/-- A block of words is written. -/
theorem block_write {w : World} {g : Nat} {zs : List Nat} (hg : w.heap[g]? = some (.cells (wcells zs) 33 (0, 0))) (q y : Nat) : (w.setCell ⟨g, q, none⟩ (.int .u64 (y : Int))).heap[g]? = some (.cells (wcells (zs.set q y)) 33 (0, 0)) := by
  simp only [World.setCell]
  rw [Array.getElem?_modify, if_pos rfl, hg]
  simp [wcells, List.map_set]
theorem block_fro {w : World} {g : Nat} {zs : List Nat} (hg : w.heap[g]? = some (.cells (wcells zs) 33 (0, 0))) (i : Nat) : w.frozen? ⟨g, i, none⟩ = false := by simp [World.frozen?, hg]

theorem refWords (g c n : Nat) (ws : List Nat) (w : World) (h : TrueAt w g (tOf ws n)) (hl : ws.length = (n + 63) / 64) (ok : ∀ i, i < ws.length → ws.getD i 0 < 2 ^ (min 64 (n - 64 * i))) (hz : ∀ i, ws.getD i 0 < 2 ^ 64) :
    Calls Try.prog 44 #[.slice (some ⟨g, 0, none⟩) n c] w fun e w' => e = .returned (.slice (some ⟨w.heap.size, 0, none⟩) ws.length ws.length) ∧ w'.heap[w.heap.size]? = some (.cells (wcells ws) 33 (0, 0)) ∧ Kept (fun _ => False) w w' ∧ w'.heap.size = w.heap.size + 1 := by
  have hle := h.le
  rw [tOf_len] at hle
  obtain ⟨m, hm⟩ : ∃ m, m = (n + 63) / 64 := ⟨_, rfl⟩
  have hmi : ((n : Int) + 63) / 64 = (m : Int) := by omega
  have hml : m ≤ 1048576 := by omega
  obtain ⟨w1, hmk, hg1, hk1, hs1⟩ := make_own m hml w
  have hwm : ws.length = m := by omega
  have hfull : partW ws m n = ws := by rw [hm]; exact partW_full ws n hl ok
  rw [hwm]
  have HA := hid h
  have HG1 := hid hg1
  have HK1 := hid hk1
  have HS1 := hid hs1
  have HM := hid hm
  have HFU := hid hfull
  have HZ := hid hz
  clear h hg1 hk1 hs1 hm hl ok hwm hfull hz
  go_enter Try.func44, Try.ntmps44
  go_wp2
  go_loopw [4] (fun i wr => ∃ k : Nat, k ≤ n ∧ i = .int .i64 k ∧ Hid (wr.heap[w.heap.size]? = some (.cells (wcells (partW ws m k)) 33 (0, 0))) ∧ Hid (Kept (fun _ => False) w wr) ∧ Hid (wr.heap.size = w.heap.size + 1)) (fun i _ => n - (intOf i).toNat)
  case atStart => exact ⟨0, by omega, rfl, by rw [partW_zero]; exact HG1, HK1, HS1⟩
  case round =>
    obtain ⟨k, hk, rfl, hG, hK, hS⟩ := hrel
    clear hmk hmi
    by_cases hlt : k < n
    · have hc := (HA.out.kept hK.out (fun x => x)).cell k (by rw [tOf_len]; exact hlt)
      rw [tOf_get _ _ _ hlt] at hc
      have hi1 : (k : Int) < (n : Int) := by omega
      cases hb : bit ws k with
      | false =>
        rw [hb] at hc
        have E := hid (partW_no ws m k HZ.out hb)
        clear hb
        go_wp2
        go_roundw
        case rel => exact ⟨k + 1, by omega, by go_num, by rw [E.out]; exact hG, hK, hS⟩
        case measure => simp [intOf]; omega
      | true =>
        rw [hb] at hc
        obtain ⟨q, hq⟩ : ∃ q, q = k / 64 := ⟨_, rfl⟩
        obtain ⟨r, hr⟩ : ∃ r, r = k % 64 := ⟨_, rfl⟩
        have hqm : q < m := by have := HM.out; omega
        have E := partW_yes ws m k HZ.out (by rw [← hq]; exact hqm) hb
        rw [← hq, ← hr] at E
        have hxc := word_cell hG.out q (by rw [partW_len]; exact hqm)
        have hxf := block_fro hG.out q
        have hxl := partW_lt ws m k HZ.out q
        have hzl := partW_lt ws m (k + 1) HZ.out q
        rw [E, getD_set_same _ _ _ (by rw [partW_len]; exact hqm)] at hzl
        obtain ⟨x, hx⟩ : ∃ x, x = (partW ws m k).getD q 0 := ⟨_, rfl⟩
        rw [← hx] at E hxc hxl hzl
        obtain ⟨z, hzd⟩ : ∃ z, z = x + 2 ^ r := ⟨_, rfl⟩
        rw [← hzd] at E hzl
        have hq1 : (k : Int) / 64 = (q : Int) := by omega
        have hr1 : (k : Int) % 64 = (r : Int) := by omega
        have hr64 : r < 64 := by omega
        have hadd : (x : Int) + (pw r : Int) = (z : Int) := by rw [hzd]; simp [pw]
        have hzw : IntKind.u64.wrap (z : Int) = (z : Int) := by rw [wrap_u64]; omega
        have hqb : q ≤ 1048576 := by omega
        have hkb : k ≤ 1048576 := by omega
        have hqw : IntKind.i64.wrap (q : Int) = (q : Int) := by rw [IntKind.wrap_i64]; omega
        have hqi : (q : Int) < (m : Int) := by omega
        have FIN := hid (show ((wr.setCell ⟨w.heap.size, q, none⟩ (.int .u64 (z : Int))).drew).heap[w.heap.size]? = some (.cells (wcells (partW ws m (k + 1))) 33 (0, 0)) ∧ Kept (fun _ => False) w (wr.setCell ⟨w.heap.size, q, none⟩ (.int .u64 (z : Int))).drew ∧ (wr.setCell ⟨w.heap.size, q, none⟩ (.int .u64 (z : Int))).drew.heap.size = w.heap.size + 1 from ⟨by rw [E]; exact block_write hG.out q z, (hK.out.setNew (p := ⟨w.heap.size, q, none⟩) (Nat.le_refl _) _).drew, by show (wr.setCell _ _).heap.size = _; simp; exact hS.out⟩)
        clear hb hq hr hx hzd E hG hK hS
        go_wp2
        go_region_with (go_at_call 83; refine (power_int _ r hr1 hr64 _).mono ?_; rintro e w2 ⟨rfl, rfl⟩)
        all_goals go_wp2
        all_goals
          go_roundw
          case rel => exact ⟨k + 1, by omega, by go_num, FIN.out.1, FIN.out.2.1, FIN.out.2.2⟩
          case measure => simp [intOf]; omega
    · have : k = n := by omega
      subst this
      go_wp2
      go_ret
      exact ⟨rfl, by have := hG.out; rw [HFU.out] at this; exact this, hK.out, hS.out⟩
end Go.Proofs.Ytahdjaocfejjeaa
