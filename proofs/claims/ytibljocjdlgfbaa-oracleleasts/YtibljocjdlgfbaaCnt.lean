/- Bits of sets, and how many there are: bits.Count. (Written by mk11.py off stage 1's texts.) -/
import Derived.Test.YtibljocjdlgfbaaOrA
namespace Go.Proofs.Ytibljocjdlgfbaa
open Go.RowKit
set_option linter.unusedVariables false

/-- How many bits of the first k words are 1. -/
def cntTo (ws : List Nat) (k : Nat) : Nat := ((List.range k).map fun i => cnt (ws.getD i 0)).sum
theorem cntTo_succ (ws : List Nat) (k : Nat) : cntTo ws (k + 1) = cntTo ws k + cnt (ws.getD k 0) := by
  simp [cntTo, List.range_succ]
theorem cntTo_le (ws : List Nat) (hz : ∀ i, ws.getD i 0 < 2 ^ 64) (k : Nat) : cntTo ws k ≤ 64 * k := by
  induction k with
  | zero => simp [cntTo]
  | succ k ih => rw [cntTo_succ]; have := cnt_le (ws.getD k 0) (hz k); omega
def cntS (ws : List Nat) : Nat := cntTo ws ws.length

theorem countS_any (b c n : Nat) (ws : List Nat) (w : World) (h : SetAt w b c n ws) :
    Calls Try.prog 55 #[.pointer (some ⟨b, 0, none⟩)] w fun e w' => e = .returned (.int .i64 (cntS ws)) ∧ w' = w := by
  have hl := h.len
  have hn := h.nle
  have hlm : ws.length ≤ 1048576 := by omega
  have h1 := h.cb1
  have HA := hid h
  clear h hl hn
  go_enter Try.func55, Try.ntmps55
  go_wp2
  go_loop [3, 11] (fun t i => ∃ k : Nat, k ≤ ws.length ∧ i = .int .i64 k ∧ t = .int .i64 (cntTo ws k)) (fun _ i => ws.length - (intOf i).toNat)
  case atStart => exact ⟨0, by omega, rfl, rfl⟩
  case round =>
    obtain ⟨k, hk, rfl, rfl⟩ := hrel
    by_cases hlt : k < ws.length
    · have hcc := HA.out.cc k hlt
      have hx := HA.out.lt64 k
      have hb := cntTo_le ws HA.out.lt64 k
      have hc := cnt_le (ws.getD k 0) hx
      have hs := hid (cntTo_succ ws k)
      obtain ⟨x, hxd⟩ : ∃ x, x = ws.getD k 0 := ⟨_, rfl⟩
      rw [← hxd] at hcc hx hc hs
      clear hxd
      go_wp2_with (go_at_call 61; refine (count_64 x hx _).mono ?_; rintro e w' ⟨rfl, rfl⟩)
      go_round
      case rel => exact ⟨k + 1, by omega, by go_num, by rw [hs.out]; go_num⟩
      case measure => simp [intOf]; omega
    · go_wp2
      go_ret
      have : k = ws.length := by omega
      subst this
      exact ⟨rfl, rfl⟩

theorem bit_form (ws : List Nat) (a p : Nat) (hp : p < 64) : bit ws (64 * a + p) = (ws.getD a 0 / 2 ^ p % 2 == 1) := by
  unfold bit
  have h1 : (64 * a + p) / 64 = a := by omega
  have h2 : (64 * a + p) % 64 = p := by omega
  rw [h1, h2]
def cntB (f : Nat → Bool) : Nat → Nat
  | 0 => 0
  | k + 1 => cntB f k + (if f k = true then 1 else 0)
theorem cntB_le (f : Nat → Bool) (k : Nat) : cntB f k ≤ k := by
  induction k with
  | zero => simp [cntB]
  | succ k ih => simp only [cntB]; split <;> omega

theorem cntB_true (f : Nat → Bool) (k : Nat) (h : f k = true) : cntB f (k + 1) = cntB f k + 1 := by simp [cntB, h]
theorem cntB_false (f : Nat → Bool) (k : Nat) (h : f k = false) : cntB f (k + 1) = cntB f k := by simp [cntB, h]

theorem bit_tb (ws : List Nat) (j : Nat) : bit ws j = (ws.getD (j / 64) 0).testBit (j % 64) := by
  unfold bit
  rw [Nat.testBit_eq_decide_div_mod_eq]
  rfl
theorem bit_flip (ws : List Nat) (k j : Nat) (hk : k / 64 < ws.length) : bit (flipW ws k) j = (if j = k then !bit ws k else bit ws j) := by
  rw [bit_tb, bit_tb, bit_tb]
  unfold flipW
  by_cases e : j / 64 = k / 64
  · rw [e, getD_set_same _ _ _ hk, Nat.testBit_xor, Nat.testBit_two_pow]
    by_cases e2 : j = k
    · subst e2; simp
    · have : ¬ k % 64 = j % 64 := by omega
      simp [e2, this]
  · rw [getD_set_ne _ _ _ _ e]
    have : ¬ j = k := by intro h; subst h; exact e rfl
    simp [this]
theorem cntB_congr (f g : Nat → Bool) (n : Nat) (h : ∀ j, j < n → f j = g j) : cntB f n = cntB g n := by
  induction n with
  | zero => rfl
  | succ n ih => simp only [cntB]; rw [ih (fun j hj => h j (by omega)), h n (by omega)]
theorem cntB_front (f : Nat → Bool) (k : Nat) : cntB f (k + 1) = (if f 0 = true then 1 else 0) + cntB (fun j => f (j + 1)) k := by
  induction k with
  | zero => simp [cntB]
  | succ k ih => rw [cntB, ih]; simp only [cntB]; omega
theorem cntB_add (f : Nat → Bool) (a k : Nat) : cntB f (a + k) = cntB f a + cntB (fun j => f (a + j)) k := by
  induction k with
  | zero => simp [cntB]
  | succ k ih => rw [← Nat.add_assoc, cntB, ih]; simp only [cntB]; omega
theorem cntF_cntB (k x : Nat) : cntF k x = cntB (fun p => x / 2 ^ p % 2 == 1) k := by
  induction k generalizing x with
  | zero => rfl
  | succ k ih =>
    rw [cntB_front, cntF, ih (x / 2)]
    congr 1
    · by_cases h : x % 2 = 1
      · simp [h]
      · have : x % 2 = 0 := by omega
        simp [this]
    · apply cntB_congr
      intro j hj
      rw [Nat.div_div_eq_div_mul, Nat.pow_succ, Nat.mul_comm]
theorem cntTo_cntB (ws : List Nat) (hz : ∀ i, ws.getD i 0 < 2 ^ 64) (m : Nat) : cntTo ws m = cntB (bit ws) (64 * m) := by
  induction m with
  | zero => rfl
  | succ m ih =>
    rw [cntTo_succ, ih, Nat.mul_add, Nat.mul_one, cntB_add]
    congr 1
    rw [cnt_eq 64 _ (hz m), cntF_cntB]
    apply cntB_congr
    intro p hp
    exact (bit_form ws m p hp).symm
theorem cntB_past (f : Nat → Bool) (n k : Nat) (h : ∀ j, n ≤ j → f j = false) : cntB f (n + k) = cntB f n := by
  rw [cntB_add]
  have : ∀ k, cntB (fun j => f (n + j)) k = 0 := by
    intro k
    induction k with
    | zero => rfl
    | succ k ih => simp only [cntB, ih, h (n + k) (by omega)]; simp
  rw [this]; rfl

theorem cntB_flip (f g : Nat → Bool) (j M : Nat) (h : ∀ i, i ≠ j → f i = g i) (hf : f j = true) (hg : g j = false) (hj : j < M) : cntB g M + 1 = cntB f M := by
  induction M with
  | zero => omega
  | succ M ih =>
    by_cases e : j = M
    · subst e
      rw [cntB_true f j hf, cntB_false g j hg, cntB_congr f g j (fun i hi => h i (by omega))]
    · have := ih (by omega)
      simp only [cntB, h M (fun x => e x.symm)]
      omega
theorem cntB_none (f : Nat → Bool) (M : Nat) (h : ∀ j, j < M → f j = false) : cntB f M = 0 := by
  induction M with
  | zero => rfl
  | succ M ih => rw [cntB_false f M (h M (by omega)), ih (fun j hj => h j (by omega))]
theorem cntS_flip (ws : List Nat) (j : Nat) (hz : ∀ i, ws.getD i 0 < 2 ^ 64) (hz2 : ∀ i, (flipW ws j).getD i 0 < 2 ^ 64) (hj : j / 64 < ws.length) (hb : bit ws j = true) : cntS (flipW ws j) + 1 = cntS ws := by
  unfold cntS
  rw [cntTo_cntB _ hz2, cntTo_cntB _ hz, flipW_len]
  refine cntB_flip (bit ws) (bit (flipW ws j)) j _ ?_ hb ?_ (by omega)
  · intro i hi; rw [bit_flip ws j i hj, if_neg hi]
  · rw [bit_flip ws j j hj, if_pos rfl, hb]; rfl
theorem cntS_none (ws : List Nat) (hz : ∀ i, ws.getD i 0 < 2 ^ 64) (h : ∀ j, bit ws j = false) : cntS ws = 0 := by
  unfold cntS
  rw [cntTo_cntB _ hz]
  exact cntB_none _ _ (fun j _ => h j)
theorem bit_zeros (m j : Nat) : bit (zeros m) j = false := by unfold bit; rw [zeros_get]; simp

theorem flip_flip (ws : List Nat) (j : Nat) : flipW (flipW ws j) j = ws := by
  apply List.ext_getElem?
  intro i
  simp only [flipW, List.getElem?_set, List.length_set]
  by_cases e : j / 64 = i
  · subst e
    by_cases hl : j / 64 < ws.length
    · simp only [if_true, hl, List.getD, List.getElem?_set, Option.getD_some, List.getElem?_eq_getElem hl]
      rw [Nat.xor_assoc, Nat.xor_self, Nat.xor_zero]
    · simp [hl]
  · simp [e]
/-- A bit more. -/
theorem cntS_put (ws : List Nat) (j : Nat) (hz : ∀ i, ws.getD i 0 < 2 ^ 64) (hz2 : ∀ i, (flipW ws j).getD i 0 < 2 ^ 64) (hj : j / 64 < ws.length) (hb : bit ws j = false) : cntS (flipW ws j) = cntS ws + 1 := by
  have := cntS_flip (flipW ws j) j hz2 (by rw [flip_flip]; exact hz) (by rw [flipW_len]; exact hj) (by rw [bit_flip ws j j hj, if_pos rfl, hb]; rfl)
  rw [flip_flip] at this
  omega
end Go.Proofs.Ytibljocjdlgfbaa
