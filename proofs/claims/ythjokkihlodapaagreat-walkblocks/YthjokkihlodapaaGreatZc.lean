import Derived.Laws.BitsAllLaws
import Derived.Test.YthjokkihlodapaaGreatChecked
import Derived.WalkKit
import Derived.WalkSpells
import Derived.WalkLawsBesides
import Derived.Outline
import Derived.Laws.CopyOwn
import Derived.RegionTactic
import Derived.ChangeAlike
set_option maxRecDepth 1000000
set_option maxHeartbeats 80000000
/- Plain mathematics of powers, multiples and bits: no Go in sight. -/
namespace Go.Proofs.YthjokkihlodapaaGreat
set_option linter.unusedVariables false

def isP (x : Nat) : Bool := decide (x ≠ 0 ∧ x &&& (x - 1) = 0)
def lg (x : Nat) : Int := if x = 0 then -1 else (Nat.log2 x : Int)
def cntF : Nat → Nat → Nat
  | 0, _ => 0
  | k + 1, x => x % 2 + cntF k (x / 2)
def cl (x : Nat) : Nat := if x ≤ 1 then 0 else Nat.log2 (x - 1) + 1
def ceilV (w x : Nat) : Nat := if cl x < w then 2 ^ cl x else 0
def ceilB (w x : Nat) : Bool := decide (cl x < w)
def downV (x a : Nat) : Nat := if isP a = true then x / a * a else 0
def upB (w x a : Nat) : Bool := isP a && (decide (x / a * a = x) || decide (x / a * a + a < 2 ^ w))
def upV (w x a : Nat) : Nat := if upB w x a = true then (if x / a * a = x then x else x / a * a + a) else 0

theorem isP_iff (x : Nat) : isP x = true ↔ ∃ n, x = 2 ^ n := by
  unfold isP
  by_cases h : x = 0
  · subst h
    simp
    intro n hn
    have := Nat.two_pow_pos n
    omega
  · rw [decide_eq_true_iff]
    have := Nat.and_sub_one_eq_zero_iff_isPowerOfTwo h
    unfold Nat.isPowerOfTwo at this
    rw [this]
    simp [h]

theorem pow_le (a b : Nat) : 2 ^ a ≤ 2 ^ b ↔ a ≤ b := Nat.pow_le_pow_iff_right (by decide)
theorem pow_lt (a b : Nat) : 2 ^ a < 2 ^ b ↔ a < b := Nat.pow_lt_pow_iff_right (by decide)
theorem pow_inj (a b : Nat) (h : 2 ^ a = 2 ^ b) : a = b := by
  have h1 := (pow_le a b).1 (by omega)
  have h2 := (pow_le b a).1 (by omega)
  omega

theorem lg_lo (x : Nat) : -1 ≤ lg x := by unfold lg; split <;> omega
theorem lg_zero : lg 0 = -1 := rfl
theorem lg_pos (x : Nat) (h : x ≠ 0) : lg x = (Nat.log2 x : Int) := by unfold lg; simp [h]
theorem lg_hi (x w : Nat) (h : x < 2 ^ w) : lg x < (w : Int) ∨ x = 0 := by
  by_cases h0 : x = 0
  · exact Or.inr h0
  · left
    rw [lg_pos x h0]
    have := (Nat.log2_lt h0).2 h
    omega
theorem lg_le63 (x : Nat) (h : x < 2 ^ 64) : lg x ≤ 63 := by
  rcases lg_hi x 64 h with h | h
  · omega
  · subst h; rw [lg_zero]; omega

/-- The first k with x / 2^k = 0. -/
theorem lg_first (x k : Nat) (h0 : x / 2 ^ k = 0) (h1 : ∀ j, j < k → x / 2 ^ j ≠ 0) : (k : Int) - 1 = lg x := by
  have hk : x < 2 ^ k := by
    rcases Nat.div_eq_zero_iff.1 h0 with h | h
    · have := Nat.two_pow_pos k; omega
    · exact h
  by_cases hx : x = 0
  · subst hx
    have : k = 0 := by
      by_cases hk0 : k = 0
      · exact hk0
      · exact absurd (by simp) (h1 0 (by omega))
    subst this
    rw [lg_zero]; omega
  · rw [lg_pos x hx]
    have hlt := (Nat.log2_lt hx).2 hk
    have hge : k - 1 ≤ Nat.log2 x := by
      by_cases hk0 : k = 0
      · omega
      · rw [Nat.le_log2 hx]
        have := h1 (k - 1) (by omega)
        rw [Ne, Nat.div_eq_zero_iff] at this
        omega
    omega

theorem lg_last (x : Nat) (hx : x < 2 ^ 64) (h1 : ∀ j, j < 64 → x / 2 ^ j ≠ 0) : (63 : Int) = lg x := by
  have h := lg_first x 64 (Nat.div_eq_of_lt hx) h1
  omega

theorem cntF_le (k x : Nat) : cntF k x ≤ k := by
  induction k generalizing x with
  | zero => simp [cntF]
  | succ k ih => have := ih (x / 2); simp only [cntF]; omega

theorem cntF_step (x k n : Nat) (h : k < n) : cntF (n - k) (x / 2 ^ k) = x / 2 ^ k % 2 + cntF (n - (k + 1)) (x / 2 ^ (k + 1)) := by
  have e : n - k = (n - (k + 1)) + 1 := by omega
  rw [e, cntF, Nat.div_div_eq_div_mul, ← Nat.pow_succ]

theorem cntF_zero (k : Nat) : cntF k 0 = 0 := by
  induction k with
  | zero => rfl
  | succ k ih => simp [cntF, ih]

theorem cntF_more (j k x : Nat) (h : x < 2 ^ j) (hj : j ≤ k) : cntF j x = cntF k x := by
  induction j generalizing x k with
  | zero => have : x = 0 := by omega
            subst this; simp [cntF_zero]
  | succ j ih =>
    obtain ⟨k', rfl⟩ : ∃ k', k = k' + 1 := ⟨k - 1, by omega⟩
    simp only [cntF]
    rw [ih k' (x / 2) (by rw [Nat.pow_succ] at h; omega) (by omega)]

/-- How many bits of x are 1. -/
def cnt (x : Nat) : Nat := if h : x = 0 then 0 else x % 2 + cnt (x / 2)
  termination_by x
  decreasing_by omega
theorem cnt_eq (k x : Nat) (h : x < 2 ^ k) : cnt x = cntF k x := by
  induction k generalizing x with
  | zero => have : x = 0 := by omega
            subst this; rw [cnt]; rfl
  | succ k ih =>
    rw [cnt]
    split
    · rename_i h0; subst h0; rw [cntF_zero]
    · rw [ih (x / 2) (by rw [Nat.pow_succ] at h; omega)]; rfl
theorem cnt_le (x : Nat) (h : x < 2 ^ 64) : cnt x ≤ 64 := by rw [cnt_eq 64 x h]; exact cntF_le 64 x
theorem cl_spec (x n : Nat) : x ≤ 2 ^ n ↔ cl x ≤ n := by
  unfold cl
  split
  · rename_i h
    have := Nat.two_pow_pos n
    constructor <;> intro <;> omega
  · rename_i h
    have h1 : x - 1 ≠ 0 := by omega
    have := Nat.log2_lt (k := n) h1
    constructor
    · intro h2; have := this.2 (by omega); omega
    · intro h2; have := this.1 (by omega); omega

theorem cl_lg (x : Nat) : lg (x - 1) + 1 = (cl x : Int) := by
  unfold lg cl
  by_cases h1 : x ≤ 1
  · have : x - 1 = 0 := by omega
    simp [this, h1]
  · have : x - 1 ≠ 0 := by omega
    simp [this, h1]

theorem cl_le (x w : Nat) (h : x < 2 ^ w) : cl x ≤ w := (cl_spec x w).1 (by omega)

/-- (2 ^ n) cut to w bits. -/
theorem pow_cut (n w : Nat) (h : n ≤ w) : 2 ^ n % 2 ^ w = if n < w then 2 ^ n else 0 := by
  split
  · rename_i h1; exact Nat.mod_eq_of_lt ((pow_lt n w).2 h1)
  · have : n = w := by omega
    subst this; simp

theorem and_not_low (x n w : Nat) (hx : x < 2 ^ w) (hn : n < w) : x &&& (2 ^ w - 1 - (2 ^ n - 1)) = x / 2 ^ n * 2 ^ n := by
  have hp : 2 ^ n - 1 < 2 ^ w := by have := (pow_lt n w).2 hn; omega
  apply Nat.eq_of_testBit_eq
  intro i
  have e : 2 ^ w - 1 - (2 ^ n - 1) = 2 ^ w - ((2 ^ n - 1) + 1) := by omega
  rw [Nat.testBit_and, e, Nat.testBit_two_pow_sub_succ hp, Nat.testBit_two_pow_sub_one]
  rw [← Nat.shiftRight_eq_div_pow, ← Nat.shiftLeft_eq, Nat.testBit_shiftLeft, Nat.testBit_shiftRight]
  by_cases h1 : i < n
  · simp [h1, Nat.not_le.2 h1]
  · have h2 : n ≤ i := by omega
    have h3 : n + (i - n) = i := by omega
    simp [h1, h2, h3]
    intro hb
    by_cases h4 : i < w
    · exact h4
    · have := Nat.testBit_lt_two_pow (x := x) (i := i) (by have := (pow_le w i).2 (by omega); omega)
      rw [this] at hb; cases hb

theorem shr64 (x k : Nat) (_hx : x < 2 ^ 64) : ((x : Int) / 2 ^ k) = ((x / 2 ^ k : Nat) : Int) := by simp
theorem shr_min (W x k : Nat) (hx : x < 2 ^ W) : ((x : Int) / 2 ^ (min k W)) = ((x / 2 ^ k : Nat) : Int) := by
  have e : ((x : Int) / 2 ^ (min k W)) = ((x / 2 ^ (min k W) : Nat) : Int) := by simp
  rw [e]
  congr 1
  by_cases h : k ≤ W
  · rw [Nat.min_eq_left h]
  · rw [Nat.min_eq_right (by omega), Nat.div_eq_of_lt hx, Nat.div_eq_of_lt]
    have := (pow_le W k).2 (by omega)
    omega
theorem shr8 (x k : Nat) (hx : x < 2 ^ 8) : ((x : Int) / 2 ^ (min k 8)) = ((x / 2 ^ k : Nat) : Int) := shr_min 8 x k hx
theorem shr16 (x k : Nat) (hx : x < 2 ^ 16) : ((x : Int) / 2 ^ (min k 16)) = ((x / 2 ^ k : Nat) : Int) := shr_min 16 x k hx
theorem shr32 (x k : Nat) (hx : x < 2 ^ 32) : ((x : Int) / 2 ^ (min k 32)) = ((x / 2 ^ k : Nat) : Int) := shr_min 32 x k hx

theorem downV_le (x a : Nat) : downV x a ≤ x := by
  unfold downV; split
  · exact Nat.div_mul_le_self x a
  · omega
theorem downV_no (x a : Nat) (h : isP a = false) : downV x a = 0 := by simp [downV, h]
theorem downV_yes (x a : Nat) (h : isP a = true) : downV x a = x / a * a := by simp [downV, h]
theorem isP_pos (a : Nat) (h : isP a = true) : 1 ≤ a := by
  obtain ⟨n, rfl⟩ := (isP_iff a).1 h
  exact Nat.two_pow_pos n
theorem upB_no (w x a : Nat) (h : isP a = false) : upB w x a = false := by simp [upB, h]
theorem upV_no (w x a : Nat) (h : isP a = false) : upV w x a = 0 := by simp [upV, upB_no w x a h]
theorem upB_eq (w x a : Nat) (h : isP a = true) (e : downV x a = x) : upB w x a = true := by
  rw [downV_yes x a h] at e; simp [upB, h, e]
theorem upV_eq (w x a : Nat) (h : isP a = true) (e : downV x a = x) : upV w x a = x := by
  have h1 := upB_eq w x a h e
  rw [downV_yes x a h] at e; simp [upV, h1, e]
theorem upB_in (w x a : Nat) (h : isP a = true) (e : ¬ downV x a = x) (h2 : downV x a + a < 2 ^ w) : upB w x a = true := by
  rw [downV_yes x a h] at h2; simp [upB, h, h2]
theorem upV_in (w x a : Nat) (h : isP a = true) (e : ¬ downV x a = x) (h2 : downV x a + a < 2 ^ w) : upV w x a = downV x a + a := by
  have h1 := upB_in w x a h e h2
  rw [downV_yes x a h] at e ⊢; simp [upV, h1, e]
theorem upB_out (w x a : Nat) (h : isP a = true) (e : ¬ downV x a = x) (h2 : ¬ downV x a + a < 2 ^ w) : upB w x a = false := by
  rw [downV_yes x a h] at e h2; simp [upB, e, h2]
theorem upV_out (w x a : Nat) (h : isP a = true) (e : ¬ downV x a = x) (h2 : ¬ downV x a + a < 2 ^ w) : upV w x a = 0 := by
  simp [upV, upB_out w x a h e h2]
/-- The next multiple is at most 2^w. -/
theorem down_next (w x a : Nat) (hx : x < 2 ^ w) (ha : a < 2 ^ w) (h : isP a = true) : downV x a + a ≤ 2 ^ w := by
  rw [downV_yes x a h]
  obtain ⟨n, rfl⟩ := (isP_iff a).1 h
  have hn : n < w := (pow_lt n w).1 ha
  have e : 2 ^ w = 2 ^ (w - n) * 2 ^ n := by rw [← Nat.pow_add]; congr 1; omega
  have h1 : x / 2 ^ n < 2 ^ (w - n) := by
    rw [Nat.div_lt_iff_lt_mul (Nat.two_pow_pos n)]; omega
  have h2 : (x / 2 ^ n + 1) * 2 ^ n ≤ 2 ^ (w - n) * 2 ^ n := Nat.mul_le_mul_right _ h1
  rw [Nat.add_mul] at h2
  omega
theorem and_not_down (x a w : Nat) (hx : x < 2 ^ w) (ha : a < 2 ^ w) (h : isP a = true) : x &&& (2 ^ w - 1 - (a - 1)) = downV x a := by
  rw [downV_yes x a h]
  obtain ⟨n, rfl⟩ := (isP_iff a).1 h
  exact and_not_low x n w hx ((pow_lt n w).1 ha)
theorem lg_up (x w : Nat) (h : x < 2 ^ w) (h0 : 1 ≤ w) : lg x + 1 ≤ (w : Int) := by
  rcases lg_hi x w h with h | h
  · omega
  · subst h; rw [lg_zero]; omega

theorem ceil_val (W x : Nat) (hx : x < 2 ^ W) : ((2 : Int) ^ (lg (x - 1) + 1).toNat) % 2 ^ W = ((ceilV W x : Nat) : Int) := by
  rw [cl_lg, Int.toNat_natCast]
  have e : ((2 : Int) ^ cl x) % 2 ^ W = ((2 ^ cl x % 2 ^ W : Nat) : Int) := by simp
  rw [e, pow_cut _ _ (cl_le x W hx)]
  rfl
theorem ceilV_lt (W x : Nat) : ceilV W x < 2 ^ W := by
  unfold ceilV; split
  · rename_i h; exact (pow_lt _ _).2 h
  · exact Nat.two_pow_pos W
theorem upV_lt (W x a : Nat) (hx : x < 2 ^ W) : upV W x a < 2 ^ W := by
  unfold upV upB; split
  · rename_i h
    simp at h
    split
    · exact hx
    · omega
  · exact Nat.two_pow_pos W
theorem ceil_ne (W x : Nat) : (((ceilV W x : Nat) : Int) != 0) = ceilB W x := by
  unfold ceilV ceilB
  have := Nat.two_pow_pos (cl x)
  by_cases h : cl x < W
  · rw [if_pos h, decide_eq_true h]; exact bne_iff_ne.2 (by omega)
  · simp [h]
end Go.Proofs.YthjokkihlodapaaGreat
/- Contracts of the calls on numbers: bits.IsPower, Log, Count, Ceil, Down, Up, of each kind. -/
namespace Go.Proofs.YthjokkihlodapaaGreat
open Go.RowKit
set_option linter.unusedVariables false

theorem hid {p : Prop} (h : p) : Hid p := h
theorem ret_int {k : IntKind} {a b : Int} (h : a = b) : Ending.returned (.int k a) = .returned (.int k b) := by rw [h]
theorem ret_bool {a b : Bool} (h : a = b) : Ending.returned (.bool a) = .returned (.bool b) := by rw [h]
theorem wrap_u8 (n : Int) : IntKind.u8.wrap n = n % 2 ^ 8 := IntKind.wrap_u8' n
theorem wrap_u16 (n : Int) : IntKind.u16.wrap n = n % 2 ^ 16 := IntKind.wrap_u16 n
theorem wrap_u32 (n : Int) : IntKind.u32.wrap n = n % 2 ^ 32 := IntKind.wrap_u32' n
theorem wrap_u64 (n : Int) : IntKind.u64.wrap n = n % 2 ^ 64 := IntKind.wrap_u64 n
theorem ret_pair {k : IntKind} {a b : Int} {p q : Bool} (h : a = b) (h2 : p = q) : Ending.returned (.tuple #[.int k a, .bool p]) = .returned (.tuple #[.int k b, .bool q]) := by rw [h, h2]
theorem isP_walk8 (x : Nat) (hx : x < 2 ^ 8) (h : x ≠ 0) : (((x : Int) != 0) && (bits BinOp.and IntKind.u8 (x : Int) ((x : Int) - 1) == 0)) = isP x := by
  have e : ((x : Int) - 1) = ((x - 1 : Nat) : Int) := by omega
  rw [e, u8_and_nat x (x - 1) (by omega) (by omega)]
  unfold isP
  by_cases h2 : x &&& (x - 1) = 0 <;> simp [h, h2]
theorem isP_walk16 (x : Nat) (hx : x < 2 ^ 16) (h : x ≠ 0) : (((x : Int) != 0) && (bits BinOp.and IntKind.u16 (x : Int) ((x : Int) - 1) == 0)) = isP x := by
  have e : ((x : Int) - 1) = ((x - 1 : Nat) : Int) := by omega
  rw [e, u16_and_nat x (x - 1) (by omega) (by omega)]
  unfold isP
  by_cases h2 : x &&& (x - 1) = 0 <;> simp [h, h2]
theorem isP_walk32 (x : Nat) (hx : x < 2 ^ 32) (h : x ≠ 0) : (((x : Int) != 0) && (bits BinOp.and IntKind.u32 (x : Int) ((x : Int) - 1) == 0)) = isP x := by
  have e : ((x : Int) - 1) = ((x - 1 : Nat) : Int) := by omega
  rw [e, u32_and_nat x (x - 1) (by omega) (by omega)]
  unfold isP
  by_cases h2 : x &&& (x - 1) = 0 <;> simp [h, h2]
theorem isP_walk64 (x : Nat) (hx : x < 2 ^ 64) (h : x ≠ 0) : (((x : Int) != 0) && (bits BinOp.and IntKind.u64 (x : Int) ((x : Int) - 1) == 0)) = isP x := by
  have e : ((x : Int) - 1) = ((x - 1 : Nat) : Int) := by omega
  rw [e, u64_and_nat x (x - 1) (by omega) (by omega)]
  unfold isP
  by_cases h2 : x &&& (x - 1) = 0 <;> simp [h, h2]

theorem log_64 (x : Nat) (hx : x < 2 ^ 64) (w : World) :
    Calls Tryz.prog 73 #[.int .u64 x] w fun e w' => e = .returned (.int .i64 (lg x)) ∧ w' = w := by
  go_enter Tryz.func73, Tryz.ntmps73
  go_wp2
  go_loop [4] (fun i => ∃ k : Nat, k ≤ 64 ∧ i = .int .i64 k ∧ Hid (∀ j, j < k → x / 2 ^ j ≠ 0)) (fun i => 64 - (intOf i).toNat)
  case atStart => exact ⟨0, by omega, rfl, fun j hj => by omega⟩
  case round =>
    obtain ⟨k, hk, rfl, hp⟩ := hrel
    by_cases hlt : k < 64
    · go_wp2
      · go_ret
        have h : ((x : Int) / 2 ^ (k) == 0) = true := by assumption
        rw [shr64 x k hx] at h
        exact ⟨ret_int (lg_first x k (Int.natCast_eq_zero.1 (eq_of_beq h)) hp.out), rfl⟩
      · have h : ((x : Int) / 2 ^ (k) == 0) = false := by assumption
        rw [shr64 x k hx] at h
        go_round
        case rel =>
          refine ⟨k + 1, by omega, by go_num, ?_⟩
          intro j hj
          by_cases e : j < k
          · exact hp.out j e
          · have : j = k := by omega
            subst this
            intro h2
            simp [h2] at h
        case measure => simp [intOf]; omega
    · go_wp2
      go_ret
      have : k = 64 := by omega
      subst this
      exact ⟨ret_int (lg_last x (by omega) hp.out), rfl⟩
theorem countF_64 (x : Nat) (hx : x < 2 ^ 64) (w : World) :
    Calls Tryz.prog 112 #[.int .u64 x] w fun e w' => e = .returned (.int .i64 (cntF 64 x)) ∧ w' = w := by
  go_enter Tryz.func112, Tryz.ntmps112
  go_wp2
  go_loop [3, 5] (fun c i => ∃ k n : Nat, k ≤ 64 ∧ n ≤ k ∧ i = .int .i64 k ∧ c = .int .i64 n ∧ Hid (n + cntF (64 - k) (x / 2 ^ k) = cntF 64 x)) (fun _ i => 64 - (intOf i).toNat)
  case atStart => exact ⟨0, 0, by omega, by omega, rfl, rfl, (by simp : 0 + cntF (64 - 0) (x / 2 ^ 0) = cntF 64 x)⟩
  case round =>
    obtain ⟨k, n, hk, hn, rfl, rfl, hp⟩ := hrel
    by_cases hlt : k < 64
    · go_wp2
      have hb : bits BinOp.and IntKind.u64 ((x : Int) / 2 ^ (k)) 1 = ((x / 2 ^ k % 2 : Nat) : Int) := by
        rw [shr64 x k hx]
        have hd : x / 2 ^ k < 2 ^ 64 := Nat.lt_of_le_of_lt (Nat.div_le_self _ _) hx
        have := u64_and_nat (x / 2 ^ k) 1 (by omega) (by decide)
        rw [nat_mask1] at this
        exact this
      have hc := cntF_step x k 64 hlt
      go_round
      case rel =>
        refine ⟨k + 1, n + x / 2 ^ k % 2, by omega, by omega, by go_num, ?_, ?_⟩
        · rw [hb]
          congr 1
          rw [IntWalk.wrap64_in ((x / 2 ^ k % 2 : Nat) : Int) (by omega), IntWalk.wrap64_in _ (by omega)]
          omega
        · have := hp.out
          show _ = _
          omega
      case measure => simp [intOf]; omega
    · go_wp2
      go_ret
      have : k = 64 := by omega
      subst this
      have h := hp.out
      rw [show cntF (64 - 64) (x / 2 ^ 64) = 0 from rfl] at h
      exact ⟨ret_int (by rw [← h]; rfl), rfl⟩
theorem count_64 (x : Nat) (hx : x < 2 ^ 64) (w : World) :
    Calls Tryz.prog 112 #[.int .u64 x] w fun e w' => e = .returned (.int .i64 (cnt x)) ∧ w' = w := by
  rw [cnt_eq 64 x (by omega)]
  exact countF_64 x hx w
end Go.Proofs.YthjokkihlodapaaGreat
/- Sets in memory: where they lie, and the contracts of bits.NewSet, Len, may, Get, Flip, Put. -/
namespace Go.Proofs.YthjokkihlodapaaGreat
open Go.RowKit
set_option linter.unusedVariables false

/-- The cells of a row of words. -/
def wcells (ws : List Nat) : Array Value := (ws.map fun (x : Nat) => Value.int .u64 (x : Int)).toArray

/-- m words of 0. -/
def zeros (m : Nat) : List Nat := List.replicate m 0
theorem zeros_len (m : Nat) : (zeros m).length = m := by simp [zeros]
theorem zeros_get (m i : Nat) : (zeros m).getD i 0 = 0 := by
  simp [zeros, List.getD, List.getElem?_replicate]; split <;> rfl

/-- A set: its struct in block b, its words in block c. -/
structure SetAt (w : World) (b c n : Nat) (ws : List Nat) : Prop where
  ne : c ≠ b
  hb : w.heap[b]? = some (.cells #[.int .i64 (n : Int), .slice (some ⟨c, 0, none⟩) ws.length ws.length] 119 (0, 0))
  hc : w.heap[c]? = some (.cells (wcells ws) 22 (0, 0))
  len : ws.length = (n + 63) / 64
  nle : n ≤ 1048576
  ok : ∀ i, i < ws.length → ws.getD i 0 < 2 ^ (min 64 (n - 64 * i))

theorem SetAt.cb0 {w b c n ws} (h : SetAt w b c n ws) : w.cell? ⟨b, 0, none⟩ = some (.int .i64 (n : Int)) := by simp [World.cell?, h.hb]
theorem SetAt.cb1 {w b c n ws} (h : SetAt w b c n ws) : w.cell? ⟨b, 1, none⟩ = some (.slice (some ⟨c, 0, none⟩) ws.length ws.length) := by simp [World.cell?, h.hb]
theorem SetAt.cc {w b c n ws} (h : SetAt w b c n ws) (i : Nat) (hi : i < ws.length) : w.cell? ⟨c, i, none⟩ = some (.int .u64 ((ws.getD i 0 : Nat) : Int)) := by
  simp [World.cell?, h.hc, wcells, hi]
theorem SetAt.fb {w b c n ws} (h : SetAt w b c n ws) (i : Nat) : w.frozen? ⟨b, i, none⟩ = false := by simp [World.frozen?, h.hb]
theorem SetAt.fc {w b c n ws} (h : SetAt w b c n ws) (i : Nat) : w.frozen? ⟨c, i, none⟩ = false := by simp [World.frozen?, h.hc]
theorem SetAt.lt64 {w b c n ws} (h : SetAt w b c n ws) (i : Nat) : ws.getD i 0 < 2 ^ 64 := by
  by_cases hi : i < ws.length
  · exact Nat.lt_of_lt_of_le (h.ok i hi) ((pow_le _ _).2 (Nat.min_le_left _ _))
  · have : ws.getD i 0 = 0 := by simp [List.getD, Nat.not_lt.1 hi]
    rw [this]; decide

theorem info_u64 : (Tryz.prog.info? 22).map (fun i => (i.zero, i.size, i.bytes)) = some (some (.int .u64 0), 1, 8) := by kernel_rfl

theorem made_words (m : Nat) : madeCells (Value.int .u64 0).cells (m * 1) = wcells (zeros m) := by
  simp only [madeCells, wcells, zeros]
  apply Array.ext
  · simp
  · intro i h1 h2
    have : i % 1 = 0 := Nat.mod_one i
    simp [Value.cells, this]

theorem make_words (m : Nat) (hm : m ≤ 1048576) (w : World) :
    (Instr.makeSlice 28 (.int .i64 (m : Int)) (.int .i64 (m : Int))).run Tryz.prog w = .ok (.slice (some ⟨w.heap.size, 0, none⟩) m m) (w.alloc (.cells (wcells (zeros m)) 22)) := by
  obtain ⟨i, hi, hz0, hz1, hz2⟩ := info_parts info_u64
  have := run_make (P := Tryz.prog) w 28 22 i (.int .u64 0) Tryz.underlying28 hi hz0 .i64 .i64 (m : Int) (m : Int) (by omega) (by omega) (by rw [hz2]; omega) (by omega)
  rw [hz1] at this
  simp only [Int.toNat_natCast, made_words] at this
  exact this

def fit (n : Int) : Nat := if n < 0 then 0 else if 1048576 < n then 1048576 else n.toNat
theorem fit_le (n : Int) : fit n ≤ 1048576 := by unfold fit; split <;> (try split) <;> omega

theorem newSet_mid (n : Nat) (hn : n ≤ 1048576) (w : World) :
    Calls Tryz.prog 76 #[.int .i64 (n : Int)] w fun e w' => e = .returned (.pointer (some ⟨w.heap.size + 1, 0, none⟩)) ∧ w' = (w.alloc (.cells (wcells (zeros ((n + 63) / 64))) 22)).alloc (.cells #[.int .i64 (n : Int), .slice (some ⟨w.heap.size, 0, none⟩) ((n + 63) / 64) ((n + 63) / 64)] 119) := by
  obtain ⟨m, hm⟩ : ∃ m, m = (n + 63) / 64 := ⟨_, rfl⟩
  rw [← hm]
  have hmk := make_words m (by omega)
  have hq : ((n : Int) + 64 - 1) / 64 = (m : Int) := by omega
  clear hm
  go_enter Tryz.func76, Tryz.ntmps76
  go_wp2
  go_ret
  exact ⟨rfl, rfl⟩

/-- May i be in a set of that length? -/
def inR (n : Nat) (i : Int) : Bool := decide (0 ≤ i ∧ i < n)

theorem may_any (b c n : Nat) (ws : List Nat) (i : Int) (w : World) (h : SetAt w b c n ws) :
    Calls Tryz.prog 72 #[.pointer (some ⟨b, 0, none⟩), .int .i64 i] w fun e w' => e = .returned (.bool (inR n i)) ∧ w' = w := by
  have h0 := h.cb0
  have hn := h.nle
  clear h
  by_cases hi : 0 ≤ i
  · go_enter Tryz.func72, Tryz.ntmps72
    go_wp2
    go_ret
    exact ⟨ret_bool (by simp [inR, hi]), rfl⟩
  · go_enter Tryz.func72, Tryz.ntmps72
    go_wp2
    go_ret
    exact ⟨ret_bool (by simp [inR]; omega), rfl⟩

theorem len_any (b c n : Nat) (ws : List Nat) (w : World) (h : SetAt w b c n ws) :
    Calls Tryz.prog 86 #[.pointer (some ⟨b, 0, none⟩)] w fun e w' => e = .returned (.int .i64 n) ∧ w' = w := by
  have h0 := h.cb0
  have hn := h.nle
  clear h
  go_enter Tryz.func86, Tryz.ntmps86
  go_wp2
  go_ret
  exact ⟨rfl, rfl⟩

/-- Is j in it? -/
def bit (ws : List Nat) (j : Nat) : Bool := (ws.getD (j / 64) 0) / 2 ^ (j % 64) % 2 == 1
/-- Is i in it? -/
def inS (n : Nat) (ws : List Nat) (i : Int) : Bool := inR n i && bit ws i.toNat

theorem get_any (b c n : Nat) (ws : List Nat) (i : Int) (w : World) (h : SetAt w b c n ws) :
    Calls Tryz.prog 98 #[.pointer (some ⟨b, 0, none⟩), .int .i64 i] w fun e w' => e = .returned (.bool (inS n ws i)) ∧ w' = w := by
  by_cases hi : 0 ≤ i ∧ i < n
  · obtain ⟨k, rfl⟩ := Int.eq_ofNat_of_zero_le hi.1
    have hl := h.len
    have hn := h.nle
    have hkn : k < n := by omega
    obtain ⟨q, hq⟩ : ∃ q, q = k / 64 := ⟨_, rfl⟩
    obtain ⟨r, hr⟩ : ∃ r, r = k % 64 := ⟨_, rfl⟩
    have hql : q < ws.length := by omega
    have hr64 : r < 64 := by omega
    have hcc := h.cc q hql
    have hlt := h.lt64 q
    have h1 := h.cb1
    obtain ⟨x, hx⟩ : ∃ x, x = ws.getD q 0 := ⟨_, rfl⟩
    rw [← hx] at hcc hlt
    have hd : inR n (k : Int) = true := by simpa [inR] using hi
    have E : Hid (((bits BinOp.and IntKind.u64 ((x : Int) / 2 ^ r) 1) == 1) = inS n ws k) := by
      show _ = _
      rw [shr64 x r hlt]
      have hd2 : x / 2 ^ r < 2 ^ 64 := Nat.lt_of_le_of_lt (Nat.div_le_self _ _) hlt
      have := u64_and_nat (x / 2 ^ r) 1 (by omega) (by decide)
      rw [nat_mask1] at this
      rw [show (1 : Int) = ((1 : Nat) : Int) from rfl, this]
      unfold inS bit
      rw [hd, Int.toNat_natCast, ← hq, ← hr, ← hx, Bool.true_and, Bool.eq_iff_iff]
      simp only [beq_iff_eq]
      omega
    have hq1 : (k : Int) / 64 = (q : Int) := by omega
    have hr1 : (k : Int) % 64 = (r : Int) := by omega
    have HA := hid h
    have hkb : k ≤ 1048576 := by omega
    clear hx h hi hl hq hr hkn
    go_enter Tryz.func98, Tryz.ntmps98
    go_wp2_with (go_at_call 72; refine (may_any b c n ws _ _ HA.out).mono ?_; rintro e w' ⟨rfl, rfl⟩)
    go_ret
    exact ⟨ret_bool E.out, rfl⟩
  · have hd : inR n i = false := by simp only [inR]; exact decide_eq_false hi
    clear hi
    go_enter Tryz.func98, Tryz.ntmps98
    go_wp2_with (go_at_call 72; refine (may_any b c n ws _ _ h).mono ?_; rintro e w' ⟨rfl, rfl⟩)
    go_ret
    exact ⟨ret_bool (by simp [inS, hd]), rfl⟩
end Go.Proofs.YthjokkihlodapaaGreat
/- What is kept of memory; sets whose last word is not cut yet; bits.NewSet, Flip, Put, cut, Of, Words. -/
namespace Go.Proofs.YthjokkihlodapaaGreat
open Go.RowKit
set_option linter.unusedVariables false

/-- Of the blocks that were there all but those of S are as they were. -/
structure Kept (S : Nat → Prop) (w w' : World) : Prop where
  os : w'.os = w.os
  tape : w'.tape = w.tape
  output : w'.output = w.output
  size : w.heap.size ≤ w'.heap.size
  block : ∀ k, k < w.heap.size → ¬ S k → w'.heap[k]? = w.heap[k]?

theorem Kept.refl (S : Nat → Prop) (w : World) : Kept S w w := ⟨rfl, rfl, rfl, Nat.le_refl _, fun _ _ _ => rfl⟩
theorem Kept.trans {S T U : Nat → Prop} {a b c : World} (h : Kept S a b) (k : Kept T b c) (hS : ∀ x, x < a.heap.size → S x → U x) (hT : ∀ x, x < a.heap.size → T x → U x) : Kept U a c :=
  ⟨k.os.trans h.os, k.tape.trans h.tape, k.output.trans h.output, Nat.le_trans h.size k.size, fun i hi hU => (k.block i (Nat.lt_of_lt_of_le hi h.size) (fun x => hU (hT i hi x))).trans (h.block i hi (fun x => hU (hS i hi x)))⟩
theorem Kept.mono {S T : Nat → Prop} {a b : World} (h : Kept S a b) (hS : ∀ x, x < a.heap.size → S x → T x) : Kept T a b :=
  ⟨h.os, h.tape, h.output, h.size, fun i hi hU => h.block i hi (fun x => hU (hS i hi x))⟩
theorem Kept.below {S : Nat → Prop} {B : Nat} {a b : World} (h : Kept S a b) (hB : B ≤ a.heap.size) (hS : ∀ x, S x → B ≤ x) : Below B a b :=
  ⟨h.os, h.tape, h.output, h.size, fun i hi => h.block i (by omega) (fun x => by have := hS i x; omega)⟩
theorem Kept.drew {S : Nat → Prop} {a b : World} (h : Kept S a b) : Kept S a b.drew := ⟨h.os, h.tape, h.output, h.size, h.block⟩
theorem Kept.alloc {S : Nat → Prop} {a b : World} (h : Kept S a b) (o : Obj) : Kept S a (b.alloc o) :=
  ⟨h.os, h.tape, h.output, by simp; have := h.size; omega, fun i hi hU => by rw [Below.heap_alloc _ _ _ (by have := h.size; omega)]; exact h.block i hi hU⟩
theorem Kept.setCell {S : Nat → Prop} {a b : World} (h : Kept S a b) {p : Addr} (hp : S p.block) (u : Value) : Kept S a (b.setCell p u) :=
  ⟨h.os, h.tape, h.output, by simp; exact h.size, fun i hi hU => by rw [Below.heap_setCell b p u i (fun e => hU (by rw [e]; exact hp))]; exact h.block i hi hU⟩

/-- A set whose last word may have bits past the length. -/
structure RawAt (w : World) (b c n : Nat) (ws : List Nat) : Prop where
  ne : c ≠ b
  hb : w.heap[b]? = some (.cells #[.int .i64 (n : Int), .slice (some ⟨c, 0, none⟩) ws.length ws.length] 119 (0, 0))
  hc : w.heap[c]? = some (.cells (wcells ws) 22 (0, 0))
  len : ws.length = (n + 63) / 64
  nle : n ≤ 1048576
  lt : ∀ i, ws.getD i 0 < 2 ^ 64

theorem SetAt.raw {w b c n ws} (h : SetAt w b c n ws) : RawAt w b c n ws := ⟨h.ne, h.hb, h.hc, h.len, h.nle, h.lt64⟩
theorem RawAt.set {w b c n ws} (h : RawAt w b c n ws) (ok : ∀ i, i < ws.length → ws.getD i 0 < 2 ^ (min 64 (n - 64 * i))) : SetAt w b c n ws := ⟨h.ne, h.hb, h.hc, h.len, h.nle, ok⟩
theorem RawAt.cb0 {w b c n ws} (h : RawAt w b c n ws) : w.cell? ⟨b, 0, none⟩ = some (.int .i64 (n : Int)) := by simp [World.cell?, h.hb]
theorem RawAt.cb1 {w b c n ws} (h : RawAt w b c n ws) : w.cell? ⟨b, 1, none⟩ = some (.slice (some ⟨c, 0, none⟩) ws.length ws.length) := by simp [World.cell?, h.hb]
theorem RawAt.cc {w b c n ws} (h : RawAt w b c n ws) (i : Nat) (hi : i < ws.length) : w.cell? ⟨c, i, none⟩ = some (.int .u64 ((ws.getD i 0 : Nat) : Int)) := by
  simp [World.cell?, h.hc, wcells, hi]
theorem RawAt.fc {w b c n ws} (h : RawAt w b c n ws) (i : Nat) : w.frozen? ⟨c, i, none⟩ = false := by simp [World.frozen?, h.hc]
theorem RawAt.bc {w b c n ws} (h : RawAt w b c n ws) : b < w.heap.size ∧ c < w.heap.size :=
  ⟨(Array.getElem?_eq_some_iff.1 h.hb).1, (Array.getElem?_eq_some_iff.1 h.hc).1⟩
theorem RawAt.kept {w w' b c n ws} {S : Nat → Prop} (h : RawAt w b c n ws) (k : Kept S w w') (hb : ¬ S b) (hc : ¬ S c) : RawAt w' b c n ws :=
  ⟨h.ne, (k.block b h.bc.1 hb).trans h.hb, (k.block c h.bc.2 hc).trans h.hc, h.len, h.nle, h.lt⟩
theorem SetAt.kept {w w' b c n ws} {S : Nat → Prop} (h : SetAt w b c n ws) (k : Kept S w w') (hb : ¬ S b) (hc : ¬ S c) : SetAt w' b c n ws :=
  (h.raw.kept k hb hc).set h.ok

theorem getD_set_same (ws : List Nat) (q y : Nat) (hq : q < ws.length) : (ws.set q y).getD q 0 = y := by simp [List.getD, hq]
theorem getD_set_ne (ws : List Nat) (q y i : Nat) (h : i ≠ q) : (ws.set q y).getD i 0 = ws.getD i 0 := by
  simp [List.getD, Ne.symm h]

/-- A word is written. -/
theorem RawAt.write {w b c n ws} (h : RawAt w b c n ws) (q y : Nat) (hq : q < ws.length) (hy : y < 2 ^ 64) : RawAt (w.setCell ⟨c, q, none⟩ (.int .u64 (y : Int))) b c n (ws.set q y) := by
  refine ⟨h.ne, ?_, ?_, by simpa using h.len, h.nle, ?_⟩
  · rw [Below.heap_setCell _ _ _ _ (fun e => h.ne e.symm), h.hb]; simp
  · have hlt := h.bc.2
    have hv := (Array.getElem?_eq_some_iff.1 h.hc).2
    simp only [World.setCell]
    rw [Array.getElem?_modify, if_pos rfl, h.hc]
    simp [wcells, List.map_set]
  · intro i
    by_cases e : i = q
    · subst e; rw [getD_set_same ws i y hq]; exact hy
    · rw [getD_set_ne ws q y i e]; exact h.lt i
theorem RawAt.drew {w b c n ws} (h : RawAt w b c n ws) : RawAt w.drew b c n ws := ⟨h.ne, h.hb, h.hc, h.len, h.nle, h.lt⟩

theorem heap_new (w : World) (o : Obj) : (w.alloc o).heap[w.heap.size]? = some o := by
  show (w.heap.push o)[w.heap.size]? = _
  simp

theorem newSet_any (n : Int) (hlo : -9223372036854775808 ≤ n) (hhi : n ≤ 9223372036854775807) (w : World) :
    Calls Tryz.prog 76 #[.int .i64 n] w fun e w' => e = .returned (.pointer (some ⟨w.heap.size + 1, 0, none⟩)) ∧ RawAt w' (w.heap.size + 1) w.heap.size (fit n) (zeros ((fit n + 63) / 64)) ∧ Kept (fun _ => False) w w' ∧ w'.heap.size = w.heap.size + 2 := by
  have key : ∀ (w' : World) (N : Nat), N ≤ 1048576 → fit n = N → w' = (w.alloc (.cells (wcells (zeros ((N + 63) / 64))) 22)).alloc (.cells #[.int .i64 (N : Int), .slice (some ⟨w.heap.size, 0, none⟩) ((N + 63) / 64) ((N + 63) / 64)] 119) →
      RawAt w' (w.heap.size + 1) w.heap.size (fit n) (zeros ((fit n + 63) / 64)) ∧ Kept (fun _ => False) w w' ∧ w'.heap.size = w.heap.size + 2 := by
    intro w' N hN hf hw
    rw [hf]
    subst hw
    refine ⟨⟨by omega, ?_, ?_, by simp [zeros_len], hN, ?_⟩, ((Kept.refl _ w).alloc _).alloc _, by simp⟩
    · have := heap_new (w.alloc (.cells (wcells (zeros ((N + 63) / 64))) 22)) (.cells #[.int .i64 (N : Int), .slice (some ⟨w.heap.size, 0, none⟩) ((N + 63) / 64) ((N + 63) / 64)] 119)
      rw [World.size_alloc] at this
      rw [this, zeros_len]
    · rw [Below.heap_alloc _ _ _ (by simp), heap_new]
    · intro i
      rw [zeros_get]; decide
  by_cases h1 : n < 0
  · have hf : fit n = 0 := by simp [fit, h1]
    have hmk : ∀ w, (Instr.makeSlice 28 (.int .i64 0) (.int .i64 0)).run Tryz.prog w = .ok (.slice (some ⟨w.heap.size, 0, none⟩) 0 0) (w.alloc (.cells (wcells (zeros 0)) 22)) := make_words 0 (by omega)
    have KEY := hid (key _ 0 (by omega) hf rfl)
    clear key hf
    go_enter Tryz.func76, Tryz.ntmps76
    go_wp2
    go_ret
    exact ⟨rfl, KEY.out⟩
  · by_cases h2 : 1048576 < n
    · have hf : fit n = 1048576 := by simp [fit, h1, h2]
      have hmk : ∀ w, (Instr.makeSlice 28 (.int .i64 16384) (.int .i64 16384)).run Tryz.prog w = .ok (.slice (some ⟨w.heap.size, 0, none⟩) 16384 16384) (w.alloc (.cells (wcells (zeros 16384)) 22)) := make_words 16384 (by omega)
      have KEY := hid (key _ 1048576 (by omega) hf rfl)
      clear key hf
      go_enter Tryz.func76, Tryz.ntmps76
      go_wp2
      go_ret
      exact ⟨rfl, KEY.out⟩
    · obtain ⟨k, rfl⟩ := Int.eq_ofNat_of_zero_le (by omega : 0 ≤ n)
      have hf : fit (k : Int) = k := by simp [fit, h1, h2]
      exact (newSet_mid k (by omega) w).mono fun e w' ⟨he, hw⟩ => ⟨he, key w' k (by omega) hf hw⟩

theorem flip_in (b c n : Nat) (ws : List Nat) (k : Nat) (w : World) (h : SetAt w b c n ws) (hk : k < n) :
    Calls Tryz.prog 116 #[.pointer (some ⟨b, 0, none⟩), .int .i64 (k : Int)] w fun e w' => e = .returned (.bool true) ∧ RawAt w' b c n (ws.set (k / 64) ((ws.getD (k / 64) 0) ^^^ 2 ^ (k % 64))) ∧ Kept (fun x => x = c) w w' ∧ w'.heap.size = w.heap.size := by
  obtain ⟨q, hq⟩ : ∃ q, q = k / 64 := ⟨_, rfl⟩
  obtain ⟨r, hr⟩ : ∃ r, r = k % 64 := ⟨_, rfl⟩
  rw [← hq, ← hr]
  have hl := h.len
  have hn := h.nle
  have hql : q < ws.length := by omega
  have hr64 : r < 64 := by omega
  have hcc := h.cc q hql
  have hlt := h.lt64 q
  have h1 := h.cb1
  have hf := h.fc q
  obtain ⟨x, hx⟩ : ∃ x, x = ws.getD q 0 := ⟨_, rfl⟩
  rw [← hx] at hcc hlt ⊢
  have hd : inR n (k : Int) = true := by simp only [inR]; exact decide_eq_true (by omega)
  have hq1 : (k : Int) / 64 = (q : Int) := by omega
  have hr1 : (k : Int) % 64 = (r : Int) := by omega
  have hkb : k ≤ 1048576 := by omega
  have hp : 2 ^ r < 2 ^ 64 := (pow_lt r 64).2 hr64
  have hy : x ^^^ 2 ^ r < 2 ^ 64 := Nat.xor_lt_two_pow hlt hp
  have E : bits BinOp.xor IntKind.u64 (x : Int) (2 ^ r) = ((x ^^^ 2 ^ r : Nat) : Int) := by
    have := bits_xor_u64_nat x (2 ^ r) hlt hp
    rw [← this]; simp
  obtain ⟨y, hyd⟩ : ∃ y, y = x ^^^ 2 ^ r := ⟨_, rfl⟩
  rw [← hyd] at hy E ⊢
  have fin : RawAt (w.setCell ⟨c, q, none⟩ (.int .u64 (y : Int))).drew b c n (ws.set q y) ∧ Kept (fun x => x = c) w (w.setCell ⟨c, q, none⟩ (.int .u64 (y : Int))).drew ∧ (w.setCell ⟨c, q, none⟩ (.int .u64 (y : Int))).drew.heap.size = w.heap.size :=
    ⟨(h.raw.write q y hql hy).drew, ((Kept.refl (fun x => x = c) w).setCell (p := ⟨c, q, none⟩) rfl _).drew, by simp⟩
  have FIN := hid fin
  have HA := hid h
  have hw2 : IntKind.u64.wrap (2 ^ r) = 2 ^ r := by
    rw [wrap_u64]
    have : ((2 : Int) ^ r) = ((2 ^ r : Nat) : Int) := by simp
    rw [this]
    obtain ⟨p, hp2⟩ : ∃ p, p = 2 ^ r := ⟨_, rfl⟩
    rw [← hp2] at hp ⊢
    omega
  clear hx h hl hq hr hk fin hyd hp
  go_enter Tryz.func116, Tryz.ntmps116
  go_wp2_with (go_at_call 72; refine (may_any b c n ws _ _ HA.out).mono ?_; rintro e w' ⟨rfl, rfl⟩)
  go_region
  all_goals (go_wp2; go_ret; exact ⟨rfl, FIN.out⟩)

def flipW (ws : List Nat) (k : Nat) : List Nat := ws.set (k / 64) ((ws.getD (k / 64) 0) ^^^ 2 ^ (k % 64))
theorem flipW_len (ws : List Nat) (k : Nat) : (flipW ws k).length = ws.length := by simp [flipW]

theorem flip_yes (b c n : Nat) (ws : List Nat) (k : Nat) (w : World) (h : SetAt w b c n ws) (hk : k < n) :
    Calls Tryz.prog 116 #[.pointer (some ⟨b, 0, none⟩), .int .i64 (k : Int)] w fun e w' => e = .returned (.bool true) ∧ SetAt w' b c n (flipW ws k) ∧ Kept (fun x => x = c) w w' ∧ w'.heap.size = w.heap.size := by
  refine (flip_in b c n ws k w h hk).mono ?_
  rintro e w' ⟨he, hr, hk', hs⟩
  refine ⟨he, hr.set ?_, hk', hs⟩
  intro i hi
  have hl := h.len
  by_cases e : i = k / 64
  · subst e
    rw [getD_set_same _ _ _ (by omega)]
    exact Nat.xor_lt_two_pow (h.ok _ (by omega)) ((pow_lt _ _).2 (by omega))
  · rw [getD_set_ne _ _ _ _ e]
    exact h.ok i (by simpa using hi)

theorem flip_no (b c n : Nat) (ws : List Nat) (i : Int) (w : World) (h : SetAt w b c n ws) (hd : inR n i = false) :
    Calls Tryz.prog 116 #[.pointer (some ⟨b, 0, none⟩), .int .i64 i] w fun e w' => e = .returned (.bool false) ∧ w' = w := by
  go_enter Tryz.func116, Tryz.ntmps116
  go_wp2_with (go_at_call 72; refine (may_any b c n ws _ _ h).mono ?_; rintro e w' ⟨rfl, rfl⟩)
  go_ret
  exact ⟨rfl, rfl⟩

theorem inR_true {n : Nat} {i : Int} (h : inR n i = true) : ∃ k : Nat, i = k ∧ k < n := by
  simp [inR] at h
  obtain ⟨k, rfl⟩ := Int.eq_ofNat_of_zero_le h.1
  exact ⟨k, rfl, by omega⟩

def flipI (n : Nat) (ws : List Nat) (i : Int) : List Nat := if inR n i = true then flipW ws i.toNat else ws

theorem flip_any (b c n : Nat) (ws : List Nat) (i : Int) (w : World) (h : SetAt w b c n ws) :
    Calls Tryz.prog 116 #[.pointer (some ⟨b, 0, none⟩), .int .i64 i] w fun e w' => e = .returned (.bool (inR n i)) ∧ SetAt w' b c n (flipI n ws i) ∧ Kept (fun x => x = c) w w' ∧ w'.heap.size = w.heap.size := by
  cases hd : inR n i with
  | true =>
    obtain ⟨k, rfl, hk⟩ := inR_true hd
    refine (flip_yes b c n ws k w h hk).mono ?_
    rintro e w' ⟨he, h1⟩
    simp only [flipI, hd, if_true, Int.toNat_natCast]
    exact ⟨he, h1⟩
  | false =>
    refine (flip_no b c n ws i w h hd).mono ?_
    rintro e w' ⟨he, hw⟩
    subst hw
    have e1 : flipI n ws i = ws := by simp [flipI, hd]
    rw [e1]
    exact ⟨he, h, Kept.refl _ _, rfl⟩

def putI (n : Nat) (ws : List Nat) (i : Int) (v : Bool) : List Nat := if inS n ws i = v then ws else flipI n ws i

theorem put_any (b c n : Nat) (ws : List Nat) (i : Int) (v : Bool) (w : World) (h : SetAt w b c n ws) :
    Calls Tryz.prog 113 #[.pointer (some ⟨b, 0, none⟩), .int .i64 i, .bool v] w fun e w' => e = .returned (.bool (inR n i)) ∧ SetAt w' b c n (putI n ws i v) ∧ Kept (fun x => x = c) w w' ∧ w'.heap.size = w.heap.size := by
  by_cases hv : inS n ws i = v
  · have ht : (inS n ws i == v) = true := by rw [hv]; simp
    have e1 : putI n ws i v = ws := by simp [putI, hv]
    rw [e1]
    clear e1 hv
    go_enter Tryz.func113, Tryz.ntmps113
    go_wp2_with (first | (go_at_call 98; refine (get_any b c n ws _ _ h).mono ?_; rintro e w' ⟨rfl, rfl⟩) | (go_at_call 72; refine (may_any b c n ws _ _ h).mono ?_; rintro e w' ⟨rfl, rfl⟩))
    go_ret
    exact ⟨rfl, h, Kept.refl _ _, rfl⟩
  · have ht : (inS n ws i == v) = false := by rw [beq_eq_false_iff_ne]; exact hv
    have e1 : putI n ws i v = flipI n ws i := by simp [putI, hv]
    rw [e1]
    clear e1 hv
    go_enter Tryz.func113, Tryz.ntmps113
    go_wp2_with (first | (go_at_call 98; refine (get_any b c n ws _ _ h).mono ?_; rintro e w' ⟨rfl, rfl⟩) | (go_at_call 116; refine (flip_any b c n ws _ _ h).mono ?_; rintro e w' ⟨rfl, h1⟩))
    go_ret
    exact ⟨rfl, h1⟩
end Go.Proofs.YthjokkihlodapaaGreat
/- bits.cut, Of, Words, Count, Resize. -/
namespace Go.Proofs.YthjokkihlodapaaGreat
open Go.RowKit
set_option linter.unusedVariables false

def maskW (n : Nat) (ws : List Nat) : List Nat := if n % 64 = 0 then ws else ws.set (ws.length - 1) (ws.getD (ws.length - 1) 0 % 2 ^ (n % 64))

theorem pow_cast (r : Nat) : ((2 : Int) ^ r) = ((2 ^ r : Nat) : Int) := by simp
theorem pow_b (r : Nat) (h : r < 64) : 1 ≤ (2 : Int) ^ r ∧ (2 : Int) ^ r < 18446744073709551616 := by
  have h1 := (pow_lt r 64).2 h
  have h2 := Nat.two_pow_pos r
  rw [pow_cast]
  obtain ⟨p, hp⟩ : ∃ p, p = 2 ^ r := ⟨_, rfl⟩
  rw [← hp] at h1 h2 ⊢
  omega
theorem wrap_pow (r : Nat) (h : r < 64) : IntKind.u64.wrap (2 ^ r) = 2 ^ r := by
  have := pow_b r h
  rw [wrap_u64]
  omega

theorem cut_any (b c n : Nat) (ws : List Nat) (w : World) (h : RawAt w b c n ws) :
    Calls Tryz.prog 107 #[.pointer (some ⟨b, 0, none⟩)] w fun e w' => e = .returned (.tuple #[]) ∧ RawAt w' b c n (maskW n ws) ∧ Kept (fun x => x = c) w w' ∧ w'.heap.size = w.heap.size := by
  have h0 := h.cb0
  have hn := h.nle
  obtain ⟨r, hr⟩ : ∃ r, r = n % 64 := ⟨_, rfl⟩
  have hr1 : (n : Int) % 64 = (r : Int) := by omega
  have hr64 : r < 64 := by omega
  by_cases hz : n % 64 = 0
  · have e1 : maskW n ws = ws := by simp [maskW, hz]
    rw [e1]
    have : r = 0 := by omega
    subst this
    clear hr e1 hz
    go_enter Tryz.func107, Tryz.ntmps107
    go_wp2
    go_end0
    exact ⟨rfl, h, Kept.refl _ _, rfl⟩
  · have hl := h.len
    obtain ⟨q, hq⟩ : ∃ q, q = ws.length - 1 := ⟨_, rfl⟩
    have hql : q < ws.length := by omega
    have hcc := h.cc q hql
    have hlt := h.lt q
    have h1 := h.cb1
    have hf := h.fc q
    obtain ⟨x, hx⟩ : ∃ x, x = ws.getD q 0 := ⟨_, rfl⟩
    have e1 : maskW n ws = ws.set q (x % 2 ^ r) := by simp only [maskW, hz, if_false, hx, hq, hr]
    rw [e1]
    rw [← hx] at hcc hlt
    have hy : x % 2 ^ r < 2 ^ 64 := Nat.lt_of_le_of_lt (Nat.mod_le _ _) hlt
    have E : bits BinOp.and IntKind.u64 (x : Int) (2 ^ r - 1) = ((x % 2 ^ r : Nat) : Int) := by
      have hp := Nat.two_pow_pos r
      have hp2 := (pow_lt r 64).2 hr64
      have := u64_and_nat x (2 ^ r - 1) hlt (by omega)
      rw [Nat.and_two_pow_sub_one_eq_mod] at this
      rw [← this]
      congr 1
      rw [pow_cast]
      omega
    obtain ⟨y, hyd⟩ : ∃ y, y = x % 2 ^ r := ⟨_, rfl⟩
    rw [← hyd] at hy E ⊢
    have hq1 : (ws.length : Int) - 1 = (q : Int) := by omega
    have hpb := pow_b r hr64
    have hpb1 := hpb.1
    have hpb2 := hpb.2
    have hw := wrap_pow r hr64
    have hrn : ((r : Int) != 0) = true := by rw [bne_iff_ne]; omega
    have hlm : ws.length ≤ 1048576 := by omega
    have fin : RawAt (w.setCell ⟨c, q, none⟩ (.int .u64 (y : Int))).drew b c n (ws.set q y) ∧ Kept (fun x => x = c) w (w.setCell ⟨c, q, none⟩ (.int .u64 (y : Int))).drew ∧ (w.setCell ⟨c, q, none⟩ (.int .u64 (y : Int))).drew.heap.size = w.heap.size :=
      ⟨(h.write q y hql hy).drew, ((Kept.refl (fun x => x = c) w).setCell (p := ⟨c, q, none⟩) rfl _).drew, by simp⟩
    have FIN := hid fin
    clear hx h hl hq hr fin hyd hpb e1 hz
    go_enter Tryz.func107, Tryz.ntmps107
    go_wp2
    go_region
    all_goals (go_wp2; go_end0; exact ⟨rfl, FIN.out⟩)

/-- A slice of words that can be read. -/
def Src (w : World) (v : Value) (zs : List Nat) : Prop :=
  (∀ i, zs.getD i 0 < 2 ^ 64) ∧ ∃ ao cap, v = .slice ao zs.length cap ∧ (zs = [] ∨ ∃ a : Addr, ao = some a ∧ a.block < w.heap.size ∧ ∀ j, j < zs.length → w.cell? (a.add j) = some (.int .u64 ((zs.getD j 0 : Nat) : Int)))

theorem addr_add_block (a : Addr) (j : Nat) : (a.add j).block = a.block := by unfold Addr.add; split <;> rfl

theorem Src.kept {w w' : World} {S : Nat → Prop} {v : Value} {zs : List Nat} (h : Src w v zs) (k : Kept S w w') (hS : ∀ b, v.ownBlock = some b → ¬ S b) : Src w' v zs := by
  obtain ⟨h1, ao, cap, rfl, h2⟩ := h
  refine ⟨h1, ao, cap, rfl, ?_⟩
  rcases h2 with h2 | ⟨a, rfl, hb, hc⟩
  · exact Or.inl h2
  · refine Or.inr ⟨a, rfl, Nat.lt_of_lt_of_le hb k.size, fun j hj => ?_⟩
    rw [← hc j hj]
    exact World.cell?_of_block (by rw [addr_add_block]; exact k.block _ hb (hS a.block rfl))

/-- zs laid over ws. -/
def over (zs ws : List Nat) : List Nat := zs.take ws.length ++ ws.drop zs.length
theorem over_len (zs ws : List Nat) : (over zs ws).length = ws.length := by simp [over]; omega
theorem over_get (zs ws : List Nat) (i : Nat) (hi : i < ws.length) : (over zs ws).getD i 0 = if i < zs.length then zs.getD i 0 else ws.getD i 0 := by
  simp only [over, List.getD, List.getElem?_append, List.length_take, List.getElem?_take, List.getElem?_drop]
  by_cases h : i < zs.length
  · have h0 : i < min ws.length zs.length := by omega
    simp [h, hi, h0]
  · have h2 : ¬ i < min ws.length zs.length := by omega
    simp only [h2, h, if_false]
    by_cases h3 : zs.length ≤ ws.length
    · congr 2; omega
    · have : ¬ i < ws.length := by omega
      exact absurd hi this

theorem wcells_over (zs ws : List Nat) (cs : List Value) (hcs : cs = (zs.take ws.length).map fun (x : Nat) => Value.int .u64 (x : Int)) : ((wcells ws).toList.take 0 ++ cs ++ (wcells ws).toList.drop (0 + cs.length)).toArray = wcells (over zs ws) := by
  subst hcs
  simp only [wcells, over, List.take_zero, List.nil_append, Nat.zero_add, List.map_append, List.length_map, List.length_take]
  congr 2
  rw [← List.map_drop]
  by_cases h : zs.length ≤ ws.length
  · rw [Nat.min_eq_right h]
  · rw [Nat.min_eq_left (by omega), List.drop_eq_nil_of_le (Nat.le_refl _), List.drop_eq_nil_of_le (by omega)]

theorem copy_words (w : World) (g : Nat) (ds : List Nat) (v : Value) (zs : List Nat) (hg : w.heap[g]? = some (.cells (wcells ds) 22 (0, 0))) (hs : Src w v zs) :
    ∃ (k : Nat) (w2 : World), (∀ ty, (Builtin.copy_ #[28, 28] ty #[.slice (some ⟨g, 0, none⟩) ds.length ds.length, v]).run Tryz.prog w = .ok (goInt k) w2) ∧ w2.heap[g]? = some (.cells (wcells (over zs ds)) 22 (0, 0)) ∧ Kept (fun x => x = g) w w2 ∧ w2.heap.size = w.heap.size := by
  obtain ⟨i, hi, hz0, hz1, hz2⟩ := info_parts info_u64
  obtain ⟨h1, ao, cap, rfl, h2⟩ := hs
  rcases h2 with rfl | ⟨a, rfl, hb, hc⟩
  · refine ⟨0, w, fun ty => ?_, ?_, Kept.refl _ _, rfl⟩
    · exact run_copy_none (P := Tryz.prog) w 28 28 ty 22 (some ⟨g, 0, none⟩) ao ds.length ds.length 0 cap Tryz.underlying28 (by rw [hi]; simp [hz1]) (Nat.zero_min _)
    · simpa [over] using hg
  · obtain ⟨cs, hcs⟩ : ∃ cs : List Value, cs = (zs.take ds.length).map fun (x : Nat) => Value.int .u64 (x : Int) := ⟨_, rfl⟩
    have hlen : cs.length = min zs.length ds.length := by rw [hcs]; simp; omega
    refine ⟨cs.length, w.setRow g ((wcells ds).toList.take 0 ++ cs ++ (wcells ds).toList.drop (0 + cs.length)).toArray, fun ty => ?_, ?_, ?_, by simp [World.setRow]⟩
    · refine run_copy_row (P := Tryz.prog) w 28 28 ty 22 g 0 ds.length ds.length a zs.length cap (wcells ds) 22 cs Tryz.underlying28 (by rw [hi]; simp [hz1]) hg hlen ?_ ?_ ?_
      · intro j u hj
        rw [hcs] at hj
        simp only [List.getElem?_map, List.getElem?_take] at hj
        have hjl : j < cs.length := by
          rcases Nat.lt_or_ge j cs.length with h | h
          · exact h
          · exfalso
            have : ¬ j < ds.length ∨ ¬ j < zs.length := by omega
            rcases this with h3 | h3
            · simp [h3] at hj
            · simp [Nat.not_lt.1 h3] at hj
        have h3 : j < ds.length := by omega
        have h4 : j < zs.length := by omega
        simp [h3, h4] at hj
        rw [hc j h4, ← hj]
        simp [List.getD, h4]
      · simp [wcells]; omega
      · intro u hu
        rw [hcs] at hu
        obtain ⟨_, _, rfl⟩ := List.mem_map.1 hu
        rfl
    · rw [setRow_heap w g (wcells ds) _ 22 (0, 0) hg, wcells_over zs ds cs hcs]
    · exact ⟨rfl, rfl, rfl, by simp [World.setRow], fun k hk hn => setRow_other w g k _ hn⟩

/-- The words of a set of N numbers that is made of zs. -/
def ofW (zs : List Nat) (N : Nat) : List Nat := maskW N (over zs (zeros ((N + 63) / 64)))

theorem maskW_len (n : Nat) (ws : List Nat) : (maskW n ws).length = ws.length := by unfold maskW; split <;> simp
theorem ofW_len (zs : List Nat) (N : Nat) : (ofW zs N).length = (N + 63) / 64 := by rw [ofW, maskW_len, over_len, zeros_len]
theorem over_zeros (zs : List Nat) (m i : Nat) (hi : i < m) : (over zs (zeros m)).getD i 0 = zs.getD i 0 := by
  rw [over_get _ _ _ (by rw [zeros_len]; exact hi), zeros_get]
  split
  · rfl
  · simp [List.getD, Nat.not_lt.1 (by assumption)]
theorem ofW_get (zs : List Nat) (N i : Nat) (hz : ∀ i, zs.getD i 0 < 2 ^ 64) (hi : i < (N + 63) / 64) : (ofW zs N).getD i 0 = zs.getD i 0 % 2 ^ (min 64 (N - 64 * i)) := by
  have hl : (over zs (zeros ((N + 63) / 64))).length = (N + 63) / 64 := by rw [over_len, zeros_len]
  unfold ofW maskW
  split
  · rename_i h0
    rw [over_zeros _ _ _ hi, Nat.min_eq_left (by omega), Nat.mod_eq_of_lt (hz i)]
  · rename_i h0
    rw [hl]
    by_cases e : i = (N + 63) / 64 - 1
    · rw [← e, getD_set_same _ _ _ (by omega), over_zeros _ _ _ hi]
      congr 2
      omega
    · rw [getD_set_ne _ _ _ _ e, over_zeros _ _ _ hi, Nat.min_eq_left (by omega), Nat.mod_eq_of_lt (hz i)]
theorem ofW_ok (zs : List Nat) (N : Nat) (hz : ∀ i, zs.getD i 0 < 2 ^ 64) (i : Nat) (hi : i < (ofW zs N).length) : (ofW zs N).getD i 0 < 2 ^ (min 64 (N - 64 * i)) := by
  rw [ofW_len] at hi
  rw [ofW_get zs N i hz hi]
  exact Nat.mod_lt _ (Nat.two_pow_pos _)

theorem RawAt.copied {w w2 b c n ws} (h : RawAt w b c n ws) (zs : List Nat) (hz : ∀ i, zs.getD i 0 < 2 ^ 64) (hg : w2.heap[c]? = some (.cells (wcells (over zs ws)) 22 (0, 0))) (k : Kept (fun x => x = c) w w2) : RawAt w2 b c n (over zs ws) := by
  refine ⟨h.ne, ?_, hg, by rw [over_len]; exact h.len, h.nle, ?_⟩
  · rw [k.block b h.bc.1 (fun e => h.ne e.symm), h.hb, over_len]
  · intro i
    by_cases hi : i < ws.length
    · rw [over_get _ _ _ hi]
      split
      · exact hz i
      · exact h.lt i
    · have : (over zs ws).getD i 0 = 0 := by simp [List.getD, over_len, Nat.not_lt.1 hi]
      rw [this]; decide

theorem of_any (v : Value) (zs : List Nat) (n : Int) (hlo : -9223372036854775808 ≤ n) (hhi : n ≤ 9223372036854775807) (w : World) (hs : Src w v zs) :
    Calls Tryz.prog 70 #[v, .int .i64 n] w fun e w' => e = .returned (.pointer (some ⟨w.heap.size + 1, 0, none⟩)) ∧ SetAt w' (w.heap.size + 1) w.heap.size (fit n) (ofW zs (fit n)) ∧ Kept (fun _ => False) w w' ∧ w'.heap.size = w.heap.size + 2 := by
  have HS := hid hs
  clear hs
  go_enter Tryz.func70, Tryz.ntmps70
  go_wp2_with (first | (go_at_call 76; refine (newSet_any n hlo hhi _).mono ?_; rintro e w1 ⟨rfl, hraw, hk, hsz⟩; have h1 := hraw.cb1; obtain ⟨kk, w2, hcp, hg2, hk2, hs2⟩ := copy_words w1 w.heap.size _ v zs hraw.hc (HS.out.kept hk (fun _ _ x => x)); have HR := hid (hraw.copied zs HS.out.1 hg2 hk2); have HK := hid hk; have HK2 := hid hk2; have HZ := hid hsz; have HZ2 := hid hs2; clear hraw hk hk2 hg2 hsz hs2) | (go_at_call 107; refine (cut_any _ _ _ _ _ HR.out).mono ?_; rintro e w3 ⟨rfl, hr3, hk3, hs3⟩))
  go_ret
  have e1 := HZ.out
  have e2 := HZ2.out
  exact ⟨rfl, hr3.set (ofW_ok zs _ HS.out.1), (HK.out.trans (U := fun _ => False) HK2.out (fun _ _ x => x) (fun x hx e => by omega)).trans hk3 (fun _ _ x => x) (fun x hx e => by omega), by omega⟩
end Go.Proofs.YthjokkihlodapaaGreat
/- bits.Words, Count, Resize, Next. -/
namespace Go.Proofs.YthjokkihlodapaaGreat
open Go.RowKit
set_option linter.unusedVariables false

theorem make_own (m : Nat) (hm : m ≤ 1048576) (w : World) :
    ∃ w1, (Instr.makeSlice 28 (.int .i64 (m : Int)) (.int .i64 (m : Int))).run Tryz.prog w = .ok (.slice (some ⟨w.heap.size, 0, none⟩) m m) w1 ∧ w1.heap[w.heap.size]? = some (.cells (wcells (zeros m)) 22 (0, 0)) ∧ Kept (fun _ => False) w w1 ∧ w1.heap.size = w.heap.size + 1 :=
  ⟨_, make_words m hm w, heap_new _ _, (Kept.refl _ w).alloc _, by simp⟩

/-- A block of words as a source. -/
theorem src_block {w : World} {g : Nat} {zs : List Nat} (hg : w.heap[g]? = some (.cells (wcells zs) 22 (0, 0))) (hz : ∀ i, zs.getD i 0 < 2 ^ 64) (cap : Nat) : Src w (.slice (some ⟨g, 0, none⟩) zs.length cap) zs := by
  refine ⟨hz, some ⟨g, 0, none⟩, cap, rfl, Or.inr ⟨⟨g, 0, none⟩, rfl, (Array.getElem?_eq_some_iff.1 hg).1, fun j hj => ?_⟩⟩
  rw [Addr.add_lit]
  simp [World.cell?, hg, wcells, hj]

theorem over_self (zs ws : List Nat) (h : zs.length = ws.length) : over zs ws = zs := by
  simp [over, h]
  rw [← h, List.take_of_length_le (Nat.le_refl _)]

theorem words_any (b c n : Nat) (ws : List Nat) (w : World) (h : SetAt w b c n ws) :
    Calls Tryz.prog 85 #[.pointer (some ⟨b, 0, none⟩)] w fun e w' => e = .returned (.slice (some ⟨w.heap.size, 0, none⟩) ws.length ws.length) ∧ w'.heap[w.heap.size]? = some (.cells (wcells ws) 22 (0, 0)) ∧ Kept (fun _ => False) w w' ∧ w'.heap.size = w.heap.size + 1 := by
  have hl := h.len
  have hn := h.nle
  obtain ⟨w1, hmk, hg1, hk1, hs1⟩ := make_own ws.length (by omega) w
  have h1 := h.cb1
  have hA1 := h.kept hk1 (fun x => x) (fun x => x)
  have h11 := hA1.cb1
  obtain ⟨kk, w2, hcp, hg2, hk2, hs2⟩ := copy_words w1 w.heap.size (zeros ws.length) (.slice (some ⟨c, 0, none⟩) ws.length ws.length) ws hg1 (src_block hA1.hc hA1.lt64 _)
  rw [over_self ws (zeros ws.length) (zeros_len _).symm] at hg2
  rw [zeros_len] at hcp
  have hlm : ws.length ≤ 1048576 := by omega
  have FIN := hid (show w2.heap[w.heap.size]? = some (.cells (wcells ws) 22 (0, 0)) ∧ Kept (fun _ => False) w w2 ∧ w2.heap.size = w.heap.size + 1 from ⟨hg2, hk1.trans hk2 (fun _ _ x => x) (fun x hx e => by omega), by omega⟩)
  clear h hA1 hk1 hk2 hg1 hg2 hs1 hs2 hl
  go_enter Tryz.func85, Tryz.ntmps85
  go_wp2
  go_ret
  exact ⟨rfl, FIN.out⟩

/-- How many bits of the first k words are 1. -/
def cntTo (ws : List Nat) (k : Nat) : Nat := ((List.range k).map fun i => cnt (ws.getD i 0)).sum
theorem cntTo_succ (ws : List Nat) (k : Nat) : cntTo ws (k + 1) = cntTo ws k + cnt (ws.getD k 0) := by
  simp [cntTo, List.range_succ]
theorem cntTo_le (ws : List Nat) (hz : ∀ i, ws.getD i 0 < 2 ^ 64) (k : Nat) : cntTo ws k ≤ 64 * k := by
  induction k with
  | zero => simp [cntTo]
  | succ k ih => rw [cntTo_succ]; have := cnt_le (ws.getD k 0) (hz k); omega
def cntS (ws : List Nat) : Nat := cntTo ws ws.length

theorem countS_any (b c n : Nat) (ws : List Nat) (w : World) (h : SetAt w b c n ws) :
    Calls Tryz.prog 96 #[.pointer (some ⟨b, 0, none⟩)] w fun e w' => e = .returned (.int .i64 (cntS ws)) ∧ w' = w := by
  have hl := h.len
  have hn := h.nle
  have hlm : ws.length ≤ 1048576 := by omega
  have h1 := h.cb1
  have HA := hid h
  clear h hl hn
  go_enter Tryz.func96, Tryz.ntmps96
  go_wp2
  go_loop [3, 11] (fun t i => ∃ k : Nat, k ≤ ws.length ∧ i = .int .i64 k ∧ t = .int .i64 (cntTo ws k)) (fun _ i => ws.length - (intOf i).toNat)
  case atStart => exact ⟨0, by omega, rfl, rfl⟩
  case round =>
    obtain ⟨k, hk, rfl, rfl⟩ := hrel
    by_cases hlt : k < ws.length
    · have hcc := HA.out.cc k hlt
      have hx := HA.out.lt64 k
      have hb := cntTo_le ws HA.out.lt64 k
      have hc := cnt_le (ws.getD k 0) hx
      have hs := hid (cntTo_succ ws k)
      obtain ⟨x, hxd⟩ : ∃ x, x = ws.getD k 0 := ⟨_, rfl⟩
      rw [← hxd] at hcc hx hc hs
      clear hxd
      go_wp2_with (go_at_call 112; refine (count_64 x hx _).mono ?_; rintro e w' ⟨rfl, rfl⟩)
      go_round
      case rel => exact ⟨k + 1, by omega, by go_num, by rw [hs.out]; go_num⟩
      case measure => simp [intOf]; omega
    · go_wp2
      go_ret
      have : k = ws.length := by omega
      subst this
      exact ⟨rfl, rfl⟩

theorem SetAt.stored {w : World} {b c n ws b' c' n' ws'} (hB : SetAt w b c n ws) (hA : SetAt w b' c' n' ws') (hne : c' ≠ b) :
    SetAt ((w.setCell ⟨b, 0, none⟩ (.int .i64 (n' : Int))).setCell ⟨b, 1, none⟩ (.slice (some ⟨c', 0, none⟩) ws'.length ws'.length)) b c' n' ws' := by
  refine ⟨hne, ?_, ?_, hA.len, hA.nle, hA.ok⟩
  · simp [World.setCell, Array.getElem?_modify, hB.hb]
  · rw [Below.heap_setCell _ _ _ _ hne, Below.heap_setCell _ _ _ _ hne]; exact hA.hc

theorem resize_any (b c n : Nat) (ws : List Nat) (i : Int) (hlo : -9223372036854775808 ≤ i) (hhi : i ≤ 9223372036854775807) (w : World) (h : SetAt w b c n ws) :
    Calls Tryz.prog 109 #[.pointer (some ⟨b, 0, none⟩), .int .i64 i] w fun e w' => e = .returned (.tuple #[]) ∧ SetAt w' b w.heap.size (fit i) (ofW ws (fit i)) ∧ Kept (fun x => x = b) w w' ∧ w'.heap.size = w.heap.size + 2 := by
  have h1 := h.cb1
  have HA := hid h
  have HS := hid (src_block h.hc h.lt64 ws.length)
  clear h
  go_enter Tryz.func109, Tryz.ntmps109
  go_wp2_with (go_at_call 70; refine (of_any _ ws i hlo hhi _ HS.out).mono ?_; rintro e w1 ⟨rfl, hA1, hk1, hs1⟩; have g0 := hA1.cb0; have g1 := hA1.cb1; have hB := HA.out.kept hk1 (fun x => x) (fun x => x); have b0 := hB.cb0; have b1 := hB.cb1; have f0 := hB.fb 0; have f1 := hB.fb 1; have HA1 := hid hA1; have HB := hid hB; have HK := hid hk1; have HZ := hid hs1; clear hA1 hB hk1 hs1)
  go_end0
  have hb := HA.out.raw.bc
  have hz := HZ.out
  refine ⟨rfl, HB.out.stored HA1.out (by omega), ?_, by simp; omega⟩
  exact ((HK.out.mono (T := fun x => x = b) (fun _ _ x => x.elim)).setCell (p := ⟨b, 0, none⟩) rfl _).setCell (p := ⟨b, 1, none⟩) rfl _
end Go.Proofs.YthjokkihlodapaaGreat
/- bits.Next. -/
namespace Go.Proofs.YthjokkihlodapaaGreat
open Go.RowKit
set_option linter.unusedVariables false

/-- A number other than 0 is 2^p times an odd one. -/
theorem low_form (x : Nat) (h : x ≠ 0) : ∃ p m, x = 2 ^ p * (2 * m + 1) := by
  induction x using Nat.strongRecOn with
  | _ x ih =>
    by_cases h2 : x % 2 = 1
    · exact ⟨0, x / 2, by omega⟩
    · obtain ⟨p, m, hp⟩ := ih (x / 2) (by omega) (by omega)
      refine ⟨p + 1, m, ?_⟩
      rw [Nat.pow_succ, Nat.mul_right_comm, ← hp]
      omega

theorem low_bits (p m i : Nat) : ((2 ^ p * (2 * m + 1)).testBit i && !(2 ^ p * (2 * m + 1) - 1).testBit i) = decide (i = p) := by
  have hp := Nat.two_pow_pos p
  have e1 : 2 ^ p * (2 * m + 1) = 2 ^ p * (2 * m + 1) + 0 := rfl
  have e2 : 2 ^ p * (2 * m + 1) - 1 = 2 ^ p * (2 * m) + (2 ^ p - 1) := by rw [Nat.mul_add, Nat.mul_one]; omega
  rw [e2]
  rw [Nat.testBit_two_pow_mul_add _ (by omega : 2 ^ p - 1 < 2 ^ p)]
  rw [e1, Nat.testBit_two_pow_mul_add _ hp]
  by_cases h : i < p
  · simp [h]; omega
  · simp only [h, if_false]
    by_cases e : i = p
    · subst e
      have : 2 * m % 2 = 0 := by omega
      simp [Nat.testBit_zero]
    · obtain ⟨t, ht⟩ : ∃ t, i - p = t + 1 := ⟨i - p - 1, by omega⟩
      rw [ht, Nat.testBit_succ, Nat.testBit_succ]
      have a1 : (2 * m + 1) / 2 = m := by omega
      have a2 : 2 * m / 2 = m := by omega
      rw [a1, a2]
      simp [e]

theorem low_and (p m : Nat) (h : 2 ^ p * (2 * m + 1) < 2 ^ 64) : 2 ^ p * (2 * m + 1) &&& (2 ^ 64 - 2 ^ p * (2 * m + 1)) = 2 ^ p := by
  have hp := Nat.two_pow_pos p
  have h0 : 0 < 2 ^ p * (2 * m + 1) := Nat.mul_pos hp (by omega)
  apply Nat.eq_of_testBit_eq
  intro i
  have e : 2 ^ 64 - 2 ^ p * (2 * m + 1) = 2 ^ 64 - ((2 ^ p * (2 * m + 1) - 1) + 1) := by omega
  rw [Nat.testBit_and, e, Nat.testBit_two_pow_sub_succ (by omega), Nat.testBit_two_pow]
  have := low_bits p m i
  by_cases h64 : i < 64
  · rw [decide_eq_true h64, Bool.true_and, this]
    rw [decide_eq_decide]; omega
  · have hf : (2 ^ p * (2 * m + 1)).testBit i = false := Nat.testBit_lt_two_pow (Nat.lt_of_lt_of_le h ((pow_le 64 i).2 (by omega)))
    have hpi : ¬ p = i := by
      intro e2; subst e2
      rw [hf] at this
      simp at this
    rw [hf]; simp [hpi]

/-- The least bit of x that is 1. -/
theorem low_spec (x : Nat) (h : x ≠ 0) (hx : x < 2 ^ 64) : ∃ p, p < 64 ∧ x / 2 ^ p % 2 = 1 ∧ (∀ j, j < p → x / 2 ^ j % 2 = 0) ∧ x &&& (2 ^ 64 - x) = 2 ^ p := by
  obtain ⟨p, m, rfl⟩ := low_form x h
  have hp := Nat.two_pow_pos p
  have hlt : 2 ^ p < 2 ^ 64 := Nat.lt_of_le_of_lt (Nat.le_mul_of_pos_right _ (by omega)) hx
  refine ⟨p, (pow_lt p 64).1 hlt, ?_, ?_, low_and p m hx⟩
  · rw [Nat.mul_div_cancel_left _ hp]; omega
  · intro j hj
    have : 2 ^ p = 2 ^ j * (2 * 2 ^ (p - j - 1)) := by
      rw [← Nat.mul_assoc, ← Nat.pow_succ, ← Nat.pow_add]; congr 1; omega
    rw [this, Nat.mul_assoc, Nat.mul_div_cancel_left _ (Nat.two_pow_pos j), Nat.mul_assoc]
    omega

/-- The bits from r on. -/
theorem high_bits (x r p : Nat) (hp : p < 64) : x / 2 ^ r * 2 ^ r % 2 ^ 64 / 2 ^ p % 2 = if r ≤ p then x / 2 ^ p % 2 else 0 := by
  have e : ∀ y q : Nat, y / 2 ^ q % 2 = if y.testBit q then 1 else 0 := by
    intro y q
    rw [Nat.testBit_eq_decide_div_mod_eq]
    by_cases h : y / 2 ^ q % 2 = 1
    · simp [h]
    · simp [h]; omega
  rw [e, e, Nat.testBit_mod_two_pow, ← Nat.shiftRight_eq_div_pow, ← Nat.shiftLeft_eq, Nat.testBit_shiftLeft, Nat.testBit_shiftRight]
  by_cases h : r ≤ p
  · have : r + (p - r) = p := by omega
    simp [h, hp, this]
  · simp [h]

/-- The least number of the set from k on. -/
def nxtN (n : Nat) (ws : List Nat) (k : Nat) : Int := match (List.range n).find? (fun j => decide (k ≤ j) && bit ws j) with | some j => (j : Int) | none => -1
def nxt (n : Nat) (ws : List Nat) (i : Int) : Int := nxtN n ws i.toNat

theorem nxtN_none (n : Nat) (ws : List Nat) (k : Nat) (h : ∀ j, k ≤ j → j < n → bit ws j = false) : nxtN n ws k = -1 := by
  unfold nxtN
  have : (List.range n).find? (fun j => decide (k ≤ j) && bit ws j) = none := by
    rw [List.find?_eq_none]
    intro j hj
    rw [List.mem_range] at hj
    by_cases hk : k ≤ j
    · simp [h j hk hj]
    · simp [hk]
  rw [this]

theorem nxtN_some (n : Nat) (ws : List Nat) (k j : Nat) (hj : j < n) (hk : k ≤ j) (hb : bit ws j = true) (h : ∀ i, k ≤ i → i < j → bit ws i = false) : nxtN n ws k = (j : Int) := by
  unfold nxtN
  have : (List.range n).find? (fun j => decide (k ≤ j) && bit ws j) = some j := by
    rw [List.find?_range_eq_some]
    refine ⟨by simp [hk, hb], by simpa using hj, ?_⟩
    intro i hi
    by_cases hki : k ≤ i
    · simp [h i hki hi]
    · simp [hki]
  rw [this]

theorem bit_form (ws : List Nat) (a p : Nat) (hp : p < 64) : bit ws (64 * a + p) = (ws.getD a 0 / 2 ^ p % 2 == 1) := by
  unfold bit
  have h1 : (64 * a + p) / 64 = a := by omega
  have h2 : (64 * a + p) % 64 = p := by omega
  rw [h1, h2]
theorem SetAt.bit_past {w b c n ws} (h : SetAt w b c n ws) (j : Nat) (hj : n ≤ j) : bit ws j = false := by
  unfold bit
  by_cases hl : j / 64 < ws.length
  · have h1 := h.ok (j / 64) hl
    have h2 : ws.getD (j / 64) 0 / 2 ^ (j % 64) = 0 := by
      rw [Nat.div_eq_of_lt]
      refine Nat.lt_of_lt_of_le h1 ((pow_le _ _).2 ?_)
      omega
    rw [h2]; rfl
  · have : ws.getD (j / 64) 0 = 0 := by simp [List.getD, Nat.not_lt.1 hl]
    rw [this]; simp
end Go.Proofs.YthjokkihlodapaaGreat
