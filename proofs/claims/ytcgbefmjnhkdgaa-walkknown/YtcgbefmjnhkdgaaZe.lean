import Derived.Laws.BitsAllLaws
import Derived.Test.YtcgbefmjnhkdgaaChecked
import Derived.WalkKit
import Derived.WalkSpells
import Derived.WalkLawsBesides
import Derived.Outline
set_option maxRecDepth 1000000
set_option maxHeartbeats 80000000
/- Plain mathematics of powers, multiples and bits: no Go in sight. -/
namespace Go.Proofs.Ytcgbefmjnhkdgaa
set_option linter.unusedVariables false

def isP (x : Nat) : Bool := decide (x ≠ 0 ∧ x &&& (x - 1) = 0)
def lg (x : Nat) : Int := if x = 0 then -1 else (Nat.log2 x : Int)
def cntF : Nat → Nat → Nat
  | 0, _ => 0
  | k + 1, x => x % 2 + cntF k (x / 2)
def cl (x : Nat) : Nat := if x ≤ 1 then 0 else Nat.log2 (x - 1) + 1
def ceilV (w x : Nat) : Nat := if cl x < w then 2 ^ cl x else 0
def ceilB (w x : Nat) : Bool := decide (cl x < w)
def downV (x a : Nat) : Nat := if isP a = true then x / a * a else 0
def upB (w x a : Nat) : Bool := isP a && (decide (x / a * a = x) || decide (x / a * a + a < 2 ^ w))
def upV (w x a : Nat) : Nat := if upB w x a = true then (if x / a * a = x then x else x / a * a + a) else 0

theorem isP_iff (x : Nat) : isP x = true ↔ ∃ n, x = 2 ^ n := by
  unfold isP
  by_cases h : x = 0
  · subst h
    simp
    intro n hn
    have := Nat.two_pow_pos n
    omega
  · rw [decide_eq_true_iff]
    have := Nat.and_sub_one_eq_zero_iff_isPowerOfTwo h
    unfold Nat.isPowerOfTwo at this
    rw [this]
    simp [h]

theorem pow_le (a b : Nat) : 2 ^ a ≤ 2 ^ b ↔ a ≤ b := Nat.pow_le_pow_iff_right (by decide)
theorem pow_lt (a b : Nat) : 2 ^ a < 2 ^ b ↔ a < b := Nat.pow_lt_pow_iff_right (by decide)
theorem pow_inj (a b : Nat) (h : 2 ^ a = 2 ^ b) : a = b := by
  have h1 := (pow_le a b).1 (by omega)
  have h2 := (pow_le b a).1 (by omega)
  omega

theorem lg_lo (x : Nat) : -1 ≤ lg x := by unfold lg; split <;> omega
theorem lg_zero : lg 0 = -1 := rfl
theorem lg_pos (x : Nat) (h : x ≠ 0) : lg x = (Nat.log2 x : Int) := by unfold lg; simp [h]
theorem lg_hi (x w : Nat) (h : x < 2 ^ w) : lg x < (w : Int) ∨ x = 0 := by
  by_cases h0 : x = 0
  · exact Or.inr h0
  · left
    rw [lg_pos x h0]
    have := (Nat.log2_lt h0).2 h
    omega
theorem lg_le63 (x : Nat) (h : x < 2 ^ 64) : lg x ≤ 63 := by
  rcases lg_hi x 64 h with h | h
  · omega
  · subst h; rw [lg_zero]; omega

/-- The first k with x / 2^k = 0. -/
theorem lg_first (x k : Nat) (h0 : x / 2 ^ k = 0) (h1 : ∀ j, j < k → x / 2 ^ j ≠ 0) : (k : Int) - 1 = lg x := by
  have hk : x < 2 ^ k := by
    rcases Nat.div_eq_zero_iff.1 h0 with h | h
    · have := Nat.two_pow_pos k; omega
    · exact h
  by_cases hx : x = 0
  · subst hx
    have : k = 0 := by
      by_cases hk0 : k = 0
      · exact hk0
      · exact absurd (by simp) (h1 0 (by omega))
    subst this
    rw [lg_zero]; omega
  · rw [lg_pos x hx]
    have hlt := (Nat.log2_lt hx).2 hk
    have hge : k - 1 ≤ Nat.log2 x := by
      by_cases hk0 : k = 0
      · omega
      · rw [Nat.le_log2 hx]
        have := h1 (k - 1) (by omega)
        rw [Ne, Nat.div_eq_zero_iff] at this
        omega
    omega

theorem lg_last (x : Nat) (hx : x < 2 ^ 64) (h1 : ∀ j, j < 64 → x / 2 ^ j ≠ 0) : (63 : Int) = lg x := by
  have h := lg_first x 64 (Nat.div_eq_of_lt hx) h1
  omega

theorem cntF_le (k x : Nat) : cntF k x ≤ k := by
  induction k generalizing x with
  | zero => simp [cntF]
  | succ k ih => have := ih (x / 2); simp only [cntF]; omega

theorem cntF_step (x k n : Nat) (h : k < n) : cntF (n - k) (x / 2 ^ k) = x / 2 ^ k % 2 + cntF (n - (k + 1)) (x / 2 ^ (k + 1)) := by
  have e : n - k = (n - (k + 1)) + 1 := by omega
  rw [e, cntF, Nat.div_div_eq_div_mul, ← Nat.pow_succ]

theorem cntF_zero (k : Nat) : cntF k 0 = 0 := by
  induction k with
  | zero => rfl
  | succ k ih => simp [cntF, ih]

theorem cntF_more (j k x : Nat) (h : x < 2 ^ j) (hj : j ≤ k) : cntF j x = cntF k x := by
  induction j generalizing x k with
  | zero => have : x = 0 := by omega
            subst this; simp [cntF_zero]
  | succ j ih =>
    obtain ⟨k', rfl⟩ : ∃ k', k = k' + 1 := ⟨k - 1, by omega⟩
    simp only [cntF]
    rw [ih k' (x / 2) (by rw [Nat.pow_succ] at h; omega) (by omega)]

/-- How many bits of x are 1. -/
def cnt (x : Nat) : Nat := if h : x = 0 then 0 else x % 2 + cnt (x / 2)
  termination_by x
  decreasing_by omega
theorem cnt_eq (k x : Nat) (h : x < 2 ^ k) : cnt x = cntF k x := by
  induction k generalizing x with
  | zero => have : x = 0 := by omega
            subst this; rw [cnt]; rfl
  | succ k ih =>
    rw [cnt]
    split
    · rename_i h0; subst h0; rw [cntF_zero]
    · rw [ih (x / 2) (by rw [Nat.pow_succ] at h; omega)]; rfl
theorem cnt_le (x : Nat) (h : x < 2 ^ 64) : cnt x ≤ 64 := by rw [cnt_eq 64 x h]; exact cntF_le 64 x
theorem cl_spec (x n : Nat) : x ≤ 2 ^ n ↔ cl x ≤ n := by
  unfold cl
  split
  · rename_i h
    have := Nat.two_pow_pos n
    constructor <;> intro <;> omega
  · rename_i h
    have h1 : x - 1 ≠ 0 := by omega
    have := Nat.log2_lt (k := n) h1
    constructor
    · intro h2; have := this.2 (by omega); omega
    · intro h2; have := this.1 (by omega); omega

theorem cl_lg (x : Nat) : lg (x - 1) + 1 = (cl x : Int) := by
  unfold lg cl
  by_cases h1 : x ≤ 1
  · have : x - 1 = 0 := by omega
    simp [this, h1]
  · have : x - 1 ≠ 0 := by omega
    simp [this, h1]

theorem cl_le (x w : Nat) (h : x < 2 ^ w) : cl x ≤ w := (cl_spec x w).1 (by omega)

/-- (2 ^ n) cut to w bits. -/
theorem pow_cut (n w : Nat) (h : n ≤ w) : 2 ^ n % 2 ^ w = if n < w then 2 ^ n else 0 := by
  split
  · rename_i h1; exact Nat.mod_eq_of_lt ((pow_lt n w).2 h1)
  · have : n = w := by omega
    subst this; simp

theorem and_not_low (x n w : Nat) (hx : x < 2 ^ w) (hn : n < w) : x &&& (2 ^ w - 1 - (2 ^ n - 1)) = x / 2 ^ n * 2 ^ n := by
  have hp : 2 ^ n - 1 < 2 ^ w := by have := (pow_lt n w).2 hn; omega
  apply Nat.eq_of_testBit_eq
  intro i
  have e : 2 ^ w - 1 - (2 ^ n - 1) = 2 ^ w - ((2 ^ n - 1) + 1) := by omega
  rw [Nat.testBit_and, e, Nat.testBit_two_pow_sub_succ hp, Nat.testBit_two_pow_sub_one]
  rw [← Nat.shiftRight_eq_div_pow, ← Nat.shiftLeft_eq, Nat.testBit_shiftLeft, Nat.testBit_shiftRight]
  by_cases h1 : i < n
  · simp [h1, Nat.not_le.2 h1]
  · have h2 : n ≤ i := by omega
    have h3 : n + (i - n) = i := by omega
    simp [h1, h2, h3]
    intro hb
    by_cases h4 : i < w
    · exact h4
    · have := Nat.testBit_lt_two_pow (x := x) (i := i) (by have := (pow_le w i).2 (by omega); omega)
      rw [this] at hb; cases hb

theorem shr64 (x k : Nat) (_hx : x < 2 ^ 64) : ((x : Int) / 2 ^ k) = ((x / 2 ^ k : Nat) : Int) := by simp
theorem shr_min (W x k : Nat) (hx : x < 2 ^ W) : ((x : Int) / 2 ^ (min k W)) = ((x / 2 ^ k : Nat) : Int) := by
  have e : ((x : Int) / 2 ^ (min k W)) = ((x / 2 ^ (min k W) : Nat) : Int) := by simp
  rw [e]
  congr 1
  by_cases h : k ≤ W
  · rw [Nat.min_eq_left h]
  · rw [Nat.min_eq_right (by omega), Nat.div_eq_of_lt hx, Nat.div_eq_of_lt]
    have := (pow_le W k).2 (by omega)
    omega
theorem shr8 (x k : Nat) (hx : x < 2 ^ 8) : ((x : Int) / 2 ^ (min k 8)) = ((x / 2 ^ k : Nat) : Int) := shr_min 8 x k hx
theorem shr16 (x k : Nat) (hx : x < 2 ^ 16) : ((x : Int) / 2 ^ (min k 16)) = ((x / 2 ^ k : Nat) : Int) := shr_min 16 x k hx
theorem shr32 (x k : Nat) (hx : x < 2 ^ 32) : ((x : Int) / 2 ^ (min k 32)) = ((x / 2 ^ k : Nat) : Int) := shr_min 32 x k hx

theorem downV_le (x a : Nat) : downV x a ≤ x := by
  unfold downV; split
  · exact Nat.div_mul_le_self x a
  · omega
theorem downV_no (x a : Nat) (h : isP a = false) : downV x a = 0 := by simp [downV, h]
theorem downV_yes (x a : Nat) (h : isP a = true) : downV x a = x / a * a := by simp [downV, h]
theorem isP_pos (a : Nat) (h : isP a = true) : 1 ≤ a := by
  obtain ⟨n, rfl⟩ := (isP_iff a).1 h
  exact Nat.two_pow_pos n
theorem upB_no (w x a : Nat) (h : isP a = false) : upB w x a = false := by simp [upB, h]
theorem upV_no (w x a : Nat) (h : isP a = false) : upV w x a = 0 := by simp [upV, upB_no w x a h]
theorem upB_eq (w x a : Nat) (h : isP a = true) (e : downV x a = x) : upB w x a = true := by
  rw [downV_yes x a h] at e; simp [upB, h, e]
theorem upV_eq (w x a : Nat) (h : isP a = true) (e : downV x a = x) : upV w x a = x := by
  have h1 := upB_eq w x a h e
  rw [downV_yes x a h] at e; simp [upV, h1, e]
theorem upB_in (w x a : Nat) (h : isP a = true) (e : ¬ downV x a = x) (h2 : downV x a + a < 2 ^ w) : upB w x a = true := by
  rw [downV_yes x a h] at h2; simp [upB, h, h2]
theorem upV_in (w x a : Nat) (h : isP a = true) (e : ¬ downV x a = x) (h2 : downV x a + a < 2 ^ w) : upV w x a = downV x a + a := by
  have h1 := upB_in w x a h e h2
  rw [downV_yes x a h] at e ⊢; simp [upV, h1, e]
theorem upB_out (w x a : Nat) (h : isP a = true) (e : ¬ downV x a = x) (h2 : ¬ downV x a + a < 2 ^ w) : upB w x a = false := by
  rw [downV_yes x a h] at e h2; simp [upB, e, h2]
theorem upV_out (w x a : Nat) (h : isP a = true) (e : ¬ downV x a = x) (h2 : ¬ downV x a + a < 2 ^ w) : upV w x a = 0 := by
  simp [upV, upB_out w x a h e h2]
/-- The next multiple is at most 2^w. -/
theorem down_next (w x a : Nat) (hx : x < 2 ^ w) (ha : a < 2 ^ w) (h : isP a = true) : downV x a + a ≤ 2 ^ w := by
  rw [downV_yes x a h]
  obtain ⟨n, rfl⟩ := (isP_iff a).1 h
  have hn : n < w := (pow_lt n w).1 ha
  have e : 2 ^ w = 2 ^ (w - n) * 2 ^ n := by rw [← Nat.pow_add]; congr 1; omega
  have h1 : x / 2 ^ n < 2 ^ (w - n) := by
    rw [Nat.div_lt_iff_lt_mul (Nat.two_pow_pos n)]; omega
  have h2 : (x / 2 ^ n + 1) * 2 ^ n ≤ 2 ^ (w - n) * 2 ^ n := Nat.mul_le_mul_right _ h1
  rw [Nat.add_mul] at h2
  omega
theorem and_not_down (x a w : Nat) (hx : x < 2 ^ w) (ha : a < 2 ^ w) (h : isP a = true) : x &&& (2 ^ w - 1 - (a - 1)) = downV x a := by
  rw [downV_yes x a h]
  obtain ⟨n, rfl⟩ := (isP_iff a).1 h
  exact and_not_low x n w hx ((pow_lt n w).1 ha)
theorem lg_up (x w : Nat) (h : x < 2 ^ w) (h0 : 1 ≤ w) : lg x + 1 ≤ (w : Int) := by
  rcases lg_hi x w h with h | h
  · omega
  · subst h; rw [lg_zero]; omega

theorem ceil_val (W x : Nat) (hx : x < 2 ^ W) : ((2 : Int) ^ (lg (x - 1) + 1).toNat) % 2 ^ W = ((ceilV W x : Nat) : Int) := by
  rw [cl_lg, Int.toNat_natCast]
  have e : ((2 : Int) ^ cl x) % 2 ^ W = ((2 ^ cl x % 2 ^ W : Nat) : Int) := by simp
  rw [e, pow_cut _ _ (cl_le x W hx)]
  rfl
theorem ceilV_lt (W x : Nat) : ceilV W x < 2 ^ W := by
  unfold ceilV; split
  · rename_i h; exact (pow_lt _ _).2 h
  · exact Nat.two_pow_pos W
theorem upV_lt (W x a : Nat) (hx : x < 2 ^ W) : upV W x a < 2 ^ W := by
  unfold upV upB; split
  · rename_i h
    simp at h
    split
    · exact hx
    · omega
  · exact Nat.two_pow_pos W
theorem ceil_ne (W x : Nat) : (((ceilV W x : Nat) : Int) != 0) = ceilB W x := by
  unfold ceilV ceilB
  have := Nat.two_pow_pos (cl x)
  by_cases h : cl x < W
  · rw [if_pos h, decide_eq_true h]; exact bne_iff_ne.2 (by omega)
  · simp [h]
end Go.Proofs.Ytcgbefmjnhkdgaa
/- Contracts of the calls on numbers: bits.IsPower, Log, Count, Ceil, Down, Up, of each kind. -/
namespace Go.Proofs.Ytcgbefmjnhkdgaa
open Go.RowKit
set_option linter.unusedVariables false

theorem hid {p : Prop} (h : p) : Hid p := h
theorem ret_int {k : IntKind} {a b : Int} (h : a = b) : Ending.returned (.int k a) = .returned (.int k b) := by rw [h]
theorem ret_bool {a b : Bool} (h : a = b) : Ending.returned (.bool a) = .returned (.bool b) := by rw [h]
theorem wrap_u8 (n : Int) : IntKind.u8.wrap n = n % 2 ^ 8 := IntKind.wrap_u8' n
theorem wrap_u16 (n : Int) : IntKind.u16.wrap n = n % 2 ^ 16 := IntKind.wrap_u16 n
theorem wrap_u32 (n : Int) : IntKind.u32.wrap n = n % 2 ^ 32 := IntKind.wrap_u32' n
theorem wrap_u64 (n : Int) : IntKind.u64.wrap n = n % 2 ^ 64 := IntKind.wrap_u64 n
theorem ret_pair {k : IntKind} {a b : Int} {p q : Bool} (h : a = b) (h2 : p = q) : Ending.returned (.tuple #[.int k a, .bool p]) = .returned (.tuple #[.int k b, .bool q]) := by rw [h, h2]
theorem isP_walk8 (x : Nat) (hx : x < 2 ^ 8) (h : x ≠ 0) : (((x : Int) != 0) && (bits BinOp.and IntKind.u8 (x : Int) ((x : Int) - 1) == 0)) = isP x := by
  have e : ((x : Int) - 1) = ((x - 1 : Nat) : Int) := by omega
  rw [e, u8_and_nat x (x - 1) (by omega) (by omega)]
  unfold isP
  by_cases h2 : x &&& (x - 1) = 0 <;> simp [h, h2]
theorem isP_walk16 (x : Nat) (hx : x < 2 ^ 16) (h : x ≠ 0) : (((x : Int) != 0) && (bits BinOp.and IntKind.u16 (x : Int) ((x : Int) - 1) == 0)) = isP x := by
  have e : ((x : Int) - 1) = ((x - 1 : Nat) : Int) := by omega
  rw [e, u16_and_nat x (x - 1) (by omega) (by omega)]
  unfold isP
  by_cases h2 : x &&& (x - 1) = 0 <;> simp [h, h2]
theorem isP_walk32 (x : Nat) (hx : x < 2 ^ 32) (h : x ≠ 0) : (((x : Int) != 0) && (bits BinOp.and IntKind.u32 (x : Int) ((x : Int) - 1) == 0)) = isP x := by
  have e : ((x : Int) - 1) = ((x - 1 : Nat) : Int) := by omega
  rw [e, u32_and_nat x (x - 1) (by omega) (by omega)]
  unfold isP
  by_cases h2 : x &&& (x - 1) = 0 <;> simp [h, h2]
theorem isP_walk64 (x : Nat) (hx : x < 2 ^ 64) (h : x ≠ 0) : (((x : Int) != 0) && (bits BinOp.and IntKind.u64 (x : Int) ((x : Int) - 1) == 0)) = isP x := by
  have e : ((x : Int) - 1) = ((x - 1 : Nat) : Int) := by omega
  rw [e, u64_and_nat x (x - 1) (by omega) (by omega)]
  unfold isP
  by_cases h2 : x &&& (x - 1) = 0 <;> simp [h, h2]

theorem log_64 (x : Nat) (hx : x < 2 ^ 64) (w : World) :
    Calls Try.prog 55 #[.int .u64 x] w fun e w' => e = .returned (.int .i64 (lg x)) ∧ w' = w := by
  go_enter Try.func55, Try.ntmps55
  go_wp2
  go_loop [4] (fun i => ∃ k : Nat, k ≤ 64 ∧ i = .int .i64 k ∧ Hid (∀ j, j < k → x / 2 ^ j ≠ 0)) (fun i => 64 - (intOf i).toNat)
  case atStart => exact ⟨0, by omega, rfl, fun j hj => by omega⟩
  case round =>
    obtain ⟨k, hk, rfl, hp⟩ := hrel
    by_cases hlt : k < 64
    · go_wp2
      · go_ret
        have h : ((x : Int) / 2 ^ (k) == 0) = true := by assumption
        rw [shr64 x k hx] at h
        exact ⟨ret_int (lg_first x k (Int.natCast_eq_zero.1 (eq_of_beq h)) hp.out), rfl⟩
      · have h : ((x : Int) / 2 ^ (k) == 0) = false := by assumption
        rw [shr64 x k hx] at h
        go_round
        case rel =>
          refine ⟨k + 1, by omega, by go_num, ?_⟩
          intro j hj
          by_cases e : j < k
          · exact hp.out j e
          · have : j = k := by omega
            subst this
            intro h2
            simp [h2] at h
        case measure => simp [intOf]; omega
    · go_wp2
      go_ret
      have : k = 64 := by omega
      subst this
      exact ⟨ret_int (lg_last x (by omega) hp.out), rfl⟩
theorem countF_64 (x : Nat) (hx : x < 2 ^ 64) (w : World) :
    Calls Try.prog 90 #[.int .u64 x] w fun e w' => e = .returned (.int .i64 (cntF 64 x)) ∧ w' = w := by
  go_enter Try.func90, Try.ntmps90
  go_wp2
  go_loop [3, 5] (fun c i => ∃ k n : Nat, k ≤ 64 ∧ n ≤ k ∧ i = .int .i64 k ∧ c = .int .i64 n ∧ Hid (n + cntF (64 - k) (x / 2 ^ k) = cntF 64 x)) (fun _ i => 64 - (intOf i).toNat)
  case atStart => exact ⟨0, 0, by omega, by omega, rfl, rfl, (by simp : 0 + cntF (64 - 0) (x / 2 ^ 0) = cntF 64 x)⟩
  case round =>
    obtain ⟨k, n, hk, hn, rfl, rfl, hp⟩ := hrel
    by_cases hlt : k < 64
    · go_wp2
      have hb : bits BinOp.and IntKind.u64 ((x : Int) / 2 ^ (k)) 1 = ((x / 2 ^ k % 2 : Nat) : Int) := by
        rw [shr64 x k hx]
        have hd : x / 2 ^ k < 2 ^ 64 := Nat.lt_of_le_of_lt (Nat.div_le_self _ _) hx
        have := u64_and_nat (x / 2 ^ k) 1 (by omega) (by decide)
        rw [nat_mask1] at this
        exact this
      have hc := cntF_step x k 64 hlt
      go_round
      case rel =>
        refine ⟨k + 1, n + x / 2 ^ k % 2, by omega, by omega, by go_num, ?_, ?_⟩
        · rw [hb]
          congr 1
          rw [IntWalk.wrap64_in ((x / 2 ^ k % 2 : Nat) : Int) (by omega), IntWalk.wrap64_in _ (by omega)]
          omega
        · have := hp.out
          show _ = _
          omega
      case measure => simp [intOf]; omega
    · go_wp2
      go_ret
      have : k = 64 := by omega
      subst this
      have h := hp.out
      rw [show cntF (64 - 64) (x / 2 ^ 64) = 0 from rfl] at h
      exact ⟨ret_int (by rw [← h]; rfl), rfl⟩
theorem count_64 (x : Nat) (hx : x < 2 ^ 64) (w : World) :
    Calls Try.prog 90 #[.int .u64 x] w fun e w' => e = .returned (.int .i64 (cnt x)) ∧ w' = w := by
  rw [cnt_eq 64 x (by omega)]
  exact countF_64 x hx w
end Go.Proofs.Ytcgbefmjnhkdgaa
