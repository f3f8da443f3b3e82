/- Contracts of the calls on numbers: bits.IsPower, Log, Count, Ceil, Down, Up, of each kind. -/
import Derived.Test.YtahdjaocfejjeaaChecked
import Derived.Test.YtahdjaocfejjeaaMath
import Derived.WalkKit
import Derived.WalkSpells
import Derived.WalkLawsBesides
import Derived.Outline
namespace Go.Proofs.Ytahdjaocfejjeaa
open Go.RowKit
set_option linter.unusedVariables false

theorem hid {p : Prop} (h : p) : Hid p := h
theorem ret_int {k : IntKind} {a b : Int} (h : a = b) : Ending.returned (.int k a) = .returned (.int k b) := by rw [h]
theorem ret_bool {a b : Bool} (h : a = b) : Ending.returned (.bool a) = .returned (.bool b) := by rw [h]
theorem wrap_u8 (n : Int) : IntKind.u8.wrap n = n % 2 ^ 8 := IntKind.wrap_u8' n
theorem wrap_u16 (n : Int) : IntKind.u16.wrap n = n % 2 ^ 16 := IntKind.wrap_u16 n
theorem wrap_u32 (n : Int) : IntKind.u32.wrap n = n % 2 ^ 32 := IntKind.wrap_u32' n
theorem wrap_u64 (n : Int) : IntKind.u64.wrap n = n % 2 ^ 64 := IntKind.wrap_u64 n
theorem ret_pair {k : IntKind} {a b : Int} {p q : Bool} (h : a = b) (h2 : p = q) : Ending.returned (.tuple #[.int k a, .bool p]) = .returned (.tuple #[.int k b, .bool q]) := by rw [h, h2]
theorem isP_walk8 (x : Nat) (hx : x < 2 ^ 8) (h : x ≠ 0) : (((x : Int) != 0) && (bits BinOp.and IntKind.u8 (x : Int) ((x : Int) - 1) == 0)) = isP x := by
  have e : ((x : Int) - 1) = ((x - 1 : Nat) : Int) := by omega
  rw [e, u8_and_nat x (x - 1) (by omega) (by omega)]
  unfold isP
  by_cases h2 : x &&& (x - 1) = 0 <;> simp [h, h2]
theorem isP_walk16 (x : Nat) (hx : x < 2 ^ 16) (h : x ≠ 0) : (((x : Int) != 0) && (bits BinOp.and IntKind.u16 (x : Int) ((x : Int) - 1) == 0)) = isP x := by
  have e : ((x : Int) - 1) = ((x - 1 : Nat) : Int) := by omega
  rw [e, u16_and_nat x (x - 1) (by omega) (by omega)]
  unfold isP
  by_cases h2 : x &&& (x - 1) = 0 <;> simp [h, h2]
theorem isP_walk32 (x : Nat) (hx : x < 2 ^ 32) (h : x ≠ 0) : (((x : Int) != 0) && (bits BinOp.and IntKind.u32 (x : Int) ((x : Int) - 1) == 0)) = isP x := by
  have e : ((x : Int) - 1) = ((x - 1 : Nat) : Int) := by omega
  rw [e, u32_and_nat x (x - 1) (by omega) (by omega)]
  unfold isP
  by_cases h2 : x &&& (x - 1) = 0 <;> simp [h, h2]
theorem isP_walk64 (x : Nat) (hx : x < 2 ^ 64) (h : x ≠ 0) : (((x : Int) != 0) && (bits BinOp.and IntKind.u64 (x : Int) ((x : Int) - 1) == 0)) = isP x := by
  have e : ((x : Int) - 1) = ((x - 1 : Nat) : Int) := by omega
  rw [e, u64_and_nat x (x - 1) (by omega) (by omega)]
  unfold isP
  by_cases h2 : x &&& (x - 1) = 0 <;> simp [h, h2]

theorem isPower_8 (x : Nat) (hx : x < 2 ^ 8) (w : World) :
    Calls Try.prog 11 #[.int .u8 x] w fun e w' => e = .returned (.bool (isP x)) ∧ w' = w := by
  by_cases h : x = 0
  · subst h
    go_enter Try.func11, Try.ntmps11
    go_wp2
    go_ret
    exact ⟨rfl, rfl⟩
  · have e := isP_walk8 x hx h
    have E : Hid ((((x : Int) != 0) && (bits BinOp.and IntKind.u8 (x : Int) ((x : Int) - 1) == 0)) = isP x) := e
    clear e
    go_enter Try.func11, Try.ntmps11
    go_wp2
    go_ret
    exact ⟨ret_bool E.out, rfl⟩
theorem log_8 (x : Nat) (hx : x < 2 ^ 8) (w : World) :
    Calls Try.prog 45 #[.int .u8 x] w fun e w' => e = .returned (.int .i64 (lg x)) ∧ w' = w := by
  go_enter Try.func45, Try.ntmps45
  go_wp2
  go_loop [4] (fun i => ∃ k : Nat, k ≤ 64 ∧ i = .int .i64 k ∧ Hid (∀ j, j < k → x / 2 ^ j ≠ 0)) (fun i => 64 - (intOf i).toNat)
  case atStart => exact ⟨0, by omega, rfl, fun j hj => by omega⟩
  case round =>
    obtain ⟨k, hk, rfl, hp⟩ := hrel
    by_cases hlt : k < 64
    · go_wp2
      · go_ret
        have h : ((x : Int) / 2 ^ (min k 8) == 0) = true := by assumption
        rw [shr8 x k hx] at h
        exact ⟨ret_int (lg_first x k (Int.natCast_eq_zero.1 (eq_of_beq h)) hp.out), rfl⟩
      · have h : ((x : Int) / 2 ^ (min k 8) == 0) = false := by assumption
        rw [shr8 x k hx] at h
        go_round
        case rel =>
          refine ⟨k + 1, by omega, by go_num, ?_⟩
          intro j hj
          by_cases e : j < k
          · exact hp.out j e
          · have : j = k := by omega
            subst this
            intro h2
            simp [h2] at h
        case measure => simp [intOf]; omega
    · go_wp2
      go_ret
      have : k = 64 := by omega
      subst this
      exact ⟨ret_int (lg_last x (by omega) hp.out), rfl⟩
theorem countF_8 (x : Nat) (hx : x < 2 ^ 8) (w : World) :
    Calls Try.prog 16 #[.int .u8 x] w fun e w' => e = .returned (.int .i64 (cntF 64 x)) ∧ w' = w := by
  go_enter Try.func16, Try.ntmps16
  go_wp2
  go_loop [3, 5] (fun c i => ∃ k n : Nat, k ≤ 64 ∧ n ≤ k ∧ i = .int .i64 k ∧ c = .int .i64 n ∧ Hid (n + cntF (64 - k) (x / 2 ^ k) = cntF 64 x)) (fun _ i => 64 - (intOf i).toNat)
  case atStart => exact ⟨0, 0, by omega, by omega, rfl, rfl, (by simp : 0 + cntF (64 - 0) (x / 2 ^ 0) = cntF 64 x)⟩
  case round =>
    obtain ⟨k, n, hk, hn, rfl, rfl, hp⟩ := hrel
    by_cases hlt : k < 64
    · go_wp2
      have hb : bits BinOp.and IntKind.u8 ((x : Int) / 2 ^ (min k 8)) 1 = ((x / 2 ^ k % 2 : Nat) : Int) := by
        rw [shr8 x k hx]
        have hd : x / 2 ^ k < 2 ^ 8 := Nat.lt_of_le_of_lt (Nat.div_le_self _ _) hx
        have := u8_and_nat (x / 2 ^ k) 1 (by omega) (by decide)
        rw [nat_mask1] at this
        exact this
      have hc := cntF_step x k 64 hlt
      go_round
      case rel =>
        refine ⟨k + 1, n + x / 2 ^ k % 2, by omega, by omega, by go_num, ?_, ?_⟩
        · rw [hb]
          congr 1
          rw [IntWalk.wrap64_in ((x / 2 ^ k % 2 : Nat) : Int) (by omega), IntWalk.wrap64_in _ (by omega)]
          omega
        · have := hp.out
          show _ = _
          omega
      case measure => simp [intOf]; omega
    · go_wp2
      go_ret
      have : k = 64 := by omega
      subst this
      have h := hp.out
      rw [show cntF (64 - 64) (x / 2 ^ 64) = 0 from rfl] at h
      exact ⟨ret_int (by rw [← h]; rfl), rfl⟩
theorem count_8 (x : Nat) (hx : x < 2 ^ 8) (w : World) :
    Calls Try.prog 16 #[.int .u8 x] w fun e w' => e = .returned (.int .i64 (cnt x)) ∧ w' = w := by
  rw [cnt_eq 64 x (by omega)]
  exact countF_8 x hx w
theorem ceil_8 (x : Nat) (hx : x < 2 ^ 8) (w : World) :
    Calls Try.prog 9 #[.int .u8 x] w fun e w' => e = .returned (.tuple #[.int .u8 (ceilV 8 x), .bool (ceilB 8 x)]) ∧ w' = w := by
  by_cases h : x = 0
  · subst h
    go_enter Try.func9, Try.ntmps9
    go_wp2
    go_ret2
    exact ⟨rfl, rfl⟩
  · have h1 := lg_lo (x - 1)
    have h0 : 0 ≤ lg (x - 1) + 1 := by omega
    have h2 : lg (x - 1) + 1 ≤ 8 := lg_up (x - 1) 8 (by omega) (by decide)
    have e : ((x : Int) - 1) = ((x - 1 : Nat) : Int) := by omega
    go_enter Try.func9, Try.ntmps9
    go_wp2_with (go_at_call 45; refine (log_8 (x - 1) (by omega) _).mono ?_; rintro e w' ⟨rfl, rfl⟩)
    go_ret2
    have e2 : IntKind.u8.wrap (2 ^ (lg (x - 1) + 1).toNat) = ((ceilV 8 x : Nat) : Int) := by
      rw [wrap_u8]; exact ceil_val 8 x hx
    have e3 : (2 : Int) ^ (lg (x - 1) + 1).toNat % 256 = ((ceilV 8 x : Nat) : Int) := ceil_val 8 x hx
    refine ⟨?_, rfl⟩
    exact ret_pair e3 (by rw [e3]; exact ceil_ne 8 x)
theorem down_8 (x a : Nat) (hx : x < 2 ^ 8) (ha : a < 2 ^ 8) (w : World) :
    Calls Try.prog 15 #[.int .u8 x, .int .u8 a] w fun e w' => e = .returned (.tuple #[.int .u8 (downV x a), .bool (isP a)]) ∧ w' = w := by
  by_cases h : isP a = true
  · have hp := isP_pos a h
    have e : bits BinOp.andNot IntKind.u8 (x : Int) ((a : Int) - 1) = ((downV x a : Nat) : Int) := by
      have e : ((a : Int) - 1) = ((a - 1 : Nat) : Int) := by omega
      rw [e, u8_andNot_nat x (a - 1) (by omega) (by omega)]
      congr 1
      exact and_not_down x a 8 hx ha h
    have E : Hid (bits BinOp.andNot IntKind.u8 (x : Int) ((a : Int) - 1) = ((downV x a : Nat) : Int)) := e
    clear e
    go_enter Try.func15, Try.ntmps15
    go_wp2_with (go_at_call 11; refine (isPower_8 a ha _).mono ?_; rintro e w' ⟨rfl, rfl⟩)
    go_ret2
    refine ⟨?_, rfl⟩
    simp only [E.out, h]
    rfl
  · have h : isP a = false := by simpa using h
    have e := downV_no x a h
    go_enter Try.func15, Try.ntmps15
    go_wp2_with (go_at_call 11; refine (isPower_8 a ha _).mono ?_; rintro e w' ⟨rfl, rfl⟩)
    go_ret2
    refine ⟨?_, rfl⟩
    simp only [e, h]
    rfl
theorem up_8 (x a : Nat) (hx : x < 2 ^ 8) (ha : a < 2 ^ 8) (w : World) :
    Calls Try.prog 14 #[.int .u8 x, .int .u8 a] w fun e w' => e = .returned (.tuple #[.int .u8 (upV 8 x a), .bool (upB 8 x a)]) ∧ w' = w := by
  by_cases h : isP a = true
  · have hn := down_next 8 x a hx ha h
    have hl := downV_le x a
    by_cases h1 : downV x a = x
    · have b := upB_eq 8 x a h h1
      have v := upV_eq 8 x a h h1
      have h2 : (((downV x a : Nat) : Int) == (x : Int)) = true := by rw [h1]; simp
      clear hn hl h1
      go_enter Try.func14, Try.ntmps14
      go_wp2_with (go_at_call 15; refine (down_8 x a hx ha _).mono ?_; rintro e w' ⟨rfl, rfl⟩)
      go_ret2
      exact ⟨ret_pair (by rw [v]; exact eq_of_beq h2) b.symm, rfl⟩
    · have h2 : (((downV x a : Nat) : Int) == (x : Int)) = false := by
        rw [beq_eq_false_iff_ne]; omega
      by_cases h3 : downV x a + a < 2 ^ 8
      · have b := upB_in 8 x a h h1 h3
        have v := upV_in 8 x a h h1 h3
        have hp := isP_pos a h
        have hne : ((downV x a : Int) + (a : Int) != 0) = true := by rw [bne_iff_ne]; omega
        clear h1 hn
        go_enter Try.func14, Try.ntmps14
        go_wp2_with (go_at_call 15; refine (down_8 x a hx ha _).mono ?_; rintro e w' ⟨rfl, rfl⟩)
        go_ret2
        exact ⟨ret_pair (by rw [v]; omega) (by rw [b]), rfl⟩
      · have b := upB_out 8 x a h h1 h3
        have v := upV_out 8 x a h h1 h3
        have H1 : Hid (¬ downV x a = x) := h1
        have e2 : IntKind.u8.wrap ((downV x a : Int) + (a : Int)) = 0 := by rw [wrap_u8]; omega
        have e3 : ((downV x a : Int) + (a : Int)) % 256 = 0 := by omega
        clear h1
        go_enter Try.func14, Try.ntmps14
        go_wp2_with (go_at_call 15; refine (down_8 x a hx ha _).mono ?_; rintro e w' ⟨rfl, rfl⟩)
        go_ret2
        exact ⟨ret_pair (by rw [v]; rfl) (by rw [b]), rfl⟩
  · have h : isP a = false := by simpa using h
    have b := upB_no 8 x a h
    have v := upV_no 8 x a h
    have d := downV_no x a h
    go_enter Try.func14, Try.ntmps14
    go_wp2_with (go_at_call 15; refine (down_8 x a hx ha _).mono ?_; rintro e w' ⟨rfl, rfl⟩)
    go_ret2
    exact ⟨ret_pair (by rw [v]; rfl) (by rw [b]), rfl⟩
theorem isPower_16 (x : Nat) (hx : x < 2 ^ 16) (w : World) :
    Calls Try.prog 54 #[.int .u16 x] w fun e w' => e = .returned (.bool (isP x)) ∧ w' = w := by
  by_cases h : x = 0
  · subst h
    go_enter Try.func54, Try.ntmps54
    go_wp2
    go_ret
    exact ⟨rfl, rfl⟩
  · have e := isP_walk16 x hx h
    have E : Hid ((((x : Int) != 0) && (bits BinOp.and IntKind.u16 (x : Int) ((x : Int) - 1) == 0)) = isP x) := e
    clear e
    go_enter Try.func54, Try.ntmps54
    go_wp2
    go_ret
    exact ⟨ret_bool E.out, rfl⟩
theorem log_16 (x : Nat) (hx : x < 2 ^ 16) (w : World) :
    Calls Try.prog 13 #[.int .u16 x] w fun e w' => e = .returned (.int .i64 (lg x)) ∧ w' = w := by
  go_enter Try.func13, Try.ntmps13
  go_wp2
  go_loop [4] (fun i => ∃ k : Nat, k ≤ 64 ∧ i = .int .i64 k ∧ Hid (∀ j, j < k → x / 2 ^ j ≠ 0)) (fun i => 64 - (intOf i).toNat)
  case atStart => exact ⟨0, by omega, rfl, fun j hj => by omega⟩
  case round =>
    obtain ⟨k, hk, rfl, hp⟩ := hrel
    by_cases hlt : k < 64
    · go_wp2
      · go_ret
        have h : ((x : Int) / 2 ^ (min k 16) == 0) = true := by assumption
        rw [shr16 x k hx] at h
        exact ⟨ret_int (lg_first x k (Int.natCast_eq_zero.1 (eq_of_beq h)) hp.out), rfl⟩
      · have h : ((x : Int) / 2 ^ (min k 16) == 0) = false := by assumption
        rw [shr16 x k hx] at h
        go_round
        case rel =>
          refine ⟨k + 1, by omega, by go_num, ?_⟩
          intro j hj
          by_cases e : j < k
          · exact hp.out j e
          · have : j = k := by omega
            subst this
            intro h2
            simp [h2] at h
        case measure => simp [intOf]; omega
    · go_wp2
      go_ret
      have : k = 64 := by omega
      subst this
      exact ⟨ret_int (lg_last x (by omega) hp.out), rfl⟩
theorem countF_16 (x : Nat) (hx : x < 2 ^ 16) (w : World) :
    Calls Try.prog 55 #[.int .u16 x] w fun e w' => e = .returned (.int .i64 (cntF 64 x)) ∧ w' = w := by
  go_enter Try.func55, Try.ntmps55
  go_wp2
  go_loop [3, 5] (fun c i => ∃ k n : Nat, k ≤ 64 ∧ n ≤ k ∧ i = .int .i64 k ∧ c = .int .i64 n ∧ Hid (n + cntF (64 - k) (x / 2 ^ k) = cntF 64 x)) (fun _ i => 64 - (intOf i).toNat)
  case atStart => exact ⟨0, 0, by omega, by omega, rfl, rfl, (by simp : 0 + cntF (64 - 0) (x / 2 ^ 0) = cntF 64 x)⟩
  case round =>
    obtain ⟨k, n, hk, hn, rfl, rfl, hp⟩ := hrel
    by_cases hlt : k < 64
    · go_wp2
      have hb : bits BinOp.and IntKind.u16 ((x : Int) / 2 ^ (min k 16)) 1 = ((x / 2 ^ k % 2 : Nat) : Int) := by
        rw [shr16 x k hx]
        have hd : x / 2 ^ k < 2 ^ 16 := Nat.lt_of_le_of_lt (Nat.div_le_self _ _) hx
        have := u16_and_nat (x / 2 ^ k) 1 (by omega) (by decide)
        rw [nat_mask1] at this
        exact this
      have hc := cntF_step x k 64 hlt
      go_round
      case rel =>
        refine ⟨k + 1, n + x / 2 ^ k % 2, by omega, by omega, by go_num, ?_, ?_⟩
        · rw [hb]
          congr 1
          rw [IntWalk.wrap64_in ((x / 2 ^ k % 2 : Nat) : Int) (by omega), IntWalk.wrap64_in _ (by omega)]
          omega
        · have := hp.out
          show _ = _
          omega
      case measure => simp [intOf]; omega
    · go_wp2
      go_ret
      have : k = 64 := by omega
      subst this
      have h := hp.out
      rw [show cntF (64 - 64) (x / 2 ^ 64) = 0 from rfl] at h
      exact ⟨ret_int (by rw [← h]; rfl), rfl⟩
theorem count_16 (x : Nat) (hx : x < 2 ^ 16) (w : World) :
    Calls Try.prog 55 #[.int .u16 x] w fun e w' => e = .returned (.int .i64 (cnt x)) ∧ w' = w := by
  rw [cnt_eq 64 x (by omega)]
  exact countF_16 x hx w
theorem ceil_16 (x : Nat) (hx : x < 2 ^ 16) (w : World) :
    Calls Try.prog 12 #[.int .u16 x] w fun e w' => e = .returned (.tuple #[.int .u16 (ceilV 16 x), .bool (ceilB 16 x)]) ∧ w' = w := by
  by_cases h : x = 0
  · subst h
    go_enter Try.func12, Try.ntmps12
    go_wp2
    go_ret2
    exact ⟨rfl, rfl⟩
  · have h1 := lg_lo (x - 1)
    have h0 : 0 ≤ lg (x - 1) + 1 := by omega
    have h2 : lg (x - 1) + 1 ≤ 16 := lg_up (x - 1) 16 (by omega) (by decide)
    have e : ((x : Int) - 1) = ((x - 1 : Nat) : Int) := by omega
    go_enter Try.func12, Try.ntmps12
    go_wp2_with (go_at_call 13; refine (log_16 (x - 1) (by omega) _).mono ?_; rintro e w' ⟨rfl, rfl⟩)
    go_ret2
    have e2 : IntKind.u16.wrap (2 ^ (lg (x - 1) + 1).toNat) = ((ceilV 16 x : Nat) : Int) := by
      rw [wrap_u16]; exact ceil_val 16 x hx
    have e3 : (2 : Int) ^ (lg (x - 1) + 1).toNat % 65536 = ((ceilV 16 x : Nat) : Int) := ceil_val 16 x hx
    refine ⟨?_, rfl⟩
    exact ret_pair e2 (by rw [e2]; exact ceil_ne 16 x)
theorem down_16 (x a : Nat) (hx : x < 2 ^ 16) (ha : a < 2 ^ 16) (w : World) :
    Calls Try.prog 73 #[.int .u16 x, .int .u16 a] w fun e w' => e = .returned (.tuple #[.int .u16 (downV x a), .bool (isP a)]) ∧ w' = w := by
  by_cases h : isP a = true
  · have hp := isP_pos a h
    have e : bits BinOp.andNot IntKind.u16 (x : Int) ((a : Int) - 1) = ((downV x a : Nat) : Int) := by
      have e : ((a : Int) - 1) = ((a - 1 : Nat) : Int) := by omega
      rw [e, u16_andNot_nat x (a - 1) (by omega) (by omega)]
      congr 1
      exact and_not_down x a 16 hx ha h
    have E : Hid (bits BinOp.andNot IntKind.u16 (x : Int) ((a : Int) - 1) = ((downV x a : Nat) : Int)) := e
    clear e
    go_enter Try.func73, Try.ntmps73
    go_wp2_with (go_at_call 54; refine (isPower_16 a ha _).mono ?_; rintro e w' ⟨rfl, rfl⟩)
    go_ret2
    refine ⟨?_, rfl⟩
    simp only [E.out, h]
    rfl
  · have h : isP a = false := by simpa using h
    have e := downV_no x a h
    go_enter Try.func73, Try.ntmps73
    go_wp2_with (go_at_call 54; refine (isPower_16 a ha _).mono ?_; rintro e w' ⟨rfl, rfl⟩)
    go_ret2
    refine ⟨?_, rfl⟩
    simp only [e, h]
    rfl
theorem up_16 (x a : Nat) (hx : x < 2 ^ 16) (ha : a < 2 ^ 16) (w : World) :
    Calls Try.prog 72 #[.int .u16 x, .int .u16 a] w fun e w' => e = .returned (.tuple #[.int .u16 (upV 16 x a), .bool (upB 16 x a)]) ∧ w' = w := by
  by_cases h : isP a = true
  · have hn := down_next 16 x a hx ha h
    have hl := downV_le x a
    by_cases h1 : downV x a = x
    · have b := upB_eq 16 x a h h1
      have v := upV_eq 16 x a h h1
      have h2 : (((downV x a : Nat) : Int) == (x : Int)) = true := by rw [h1]; simp
      clear hn hl h1
      go_enter Try.func72, Try.ntmps72
      go_wp2_with (go_at_call 73; refine (down_16 x a hx ha _).mono ?_; rintro e w' ⟨rfl, rfl⟩)
      go_ret2
      exact ⟨ret_pair (by rw [v]; exact eq_of_beq h2) b.symm, rfl⟩
    · have h2 : (((downV x a : Nat) : Int) == (x : Int)) = false := by
        rw [beq_eq_false_iff_ne]; omega
      by_cases h3 : downV x a + a < 2 ^ 16
      · have b := upB_in 16 x a h h1 h3
        have v := upV_in 16 x a h h1 h3
        have hp := isP_pos a h
        have hne : ((downV x a : Int) + (a : Int) != 0) = true := by rw [bne_iff_ne]; omega
        clear h1 hn
        go_enter Try.func72, Try.ntmps72
        go_wp2_with (go_at_call 73; refine (down_16 x a hx ha _).mono ?_; rintro e w' ⟨rfl, rfl⟩)
        go_ret2
        exact ⟨ret_pair (by rw [v]; omega) (by rw [b]), rfl⟩
      · have b := upB_out 16 x a h h1 h3
        have v := upV_out 16 x a h h1 h3
        have H1 : Hid (¬ downV x a = x) := h1
        have e2 : IntKind.u16.wrap ((downV x a : Int) + (a : Int)) = 0 := by rw [wrap_u16]; omega
        have e3 : ((downV x a : Int) + (a : Int)) % 65536 = 0 := by omega
        clear h1
        go_enter Try.func72, Try.ntmps72
        go_wp2_with (go_at_call 73; refine (down_16 x a hx ha _).mono ?_; rintro e w' ⟨rfl, rfl⟩)
        go_ret2
        exact ⟨ret_pair (by rw [v]; rfl) (by rw [b]), rfl⟩
  · have h : isP a = false := by simpa using h
    have b := upB_no 16 x a h
    have v := upV_no 16 x a h
    have d := downV_no x a h
    go_enter Try.func72, Try.ntmps72
    go_wp2_with (go_at_call 73; refine (down_16 x a hx ha _).mono ?_; rintro e w' ⟨rfl, rfl⟩)
    go_ret2
    exact ⟨ret_pair (by rw [v]; rfl) (by rw [b]), rfl⟩
theorem isPower_32 (x : Nat) (hx : x < 2 ^ 32) (w : World) :
    Calls Try.prog 56 #[.int .u32 x] w fun e w' => e = .returned (.bool (isP x)) ∧ w' = w := by
  by_cases h : x = 0
  · subst h
    go_enter Try.func56, Try.ntmps56
    go_wp2
    go_ret
    exact ⟨rfl, rfl⟩
  · have e := isP_walk32 x hx h
    have E : Hid ((((x : Int) != 0) && (bits BinOp.and IntKind.u32 (x : Int) ((x : Int) - 1) == 0)) = isP x) := e
    clear e
    go_enter Try.func56, Try.ntmps56
    go_wp2
    go_ret
    exact ⟨ret_bool E.out, rfl⟩
theorem log_32 (x : Nat) (hx : x < 2 ^ 32) (w : World) :
    Calls Try.prog 57 #[.int .u32 x] w fun e w' => e = .returned (.int .i64 (lg x)) ∧ w' = w := by
  go_enter Try.func57, Try.ntmps57
  go_wp2
  go_loop [4] (fun i => ∃ k : Nat, k ≤ 64 ∧ i = .int .i64 k ∧ Hid (∀ j, j < k → x / 2 ^ j ≠ 0)) (fun i => 64 - (intOf i).toNat)
  case atStart => exact ⟨0, by omega, rfl, fun j hj => by omega⟩
  case round =>
    obtain ⟨k, hk, rfl, hp⟩ := hrel
    by_cases hlt : k < 64
    · go_wp2
      · go_ret
        have h : ((x : Int) / 2 ^ (min k 32) == 0) = true := by assumption
        rw [shr32 x k hx] at h
        exact ⟨ret_int (lg_first x k (Int.natCast_eq_zero.1 (eq_of_beq h)) hp.out), rfl⟩
      · have h : ((x : Int) / 2 ^ (min k 32) == 0) = false := by assumption
        rw [shr32 x k hx] at h
        go_round
        case rel =>
          refine ⟨k + 1, by omega, by go_num, ?_⟩
          intro j hj
          by_cases e : j < k
          · exact hp.out j e
          · have : j = k := by omega
            subst this
            intro h2
            simp [h2] at h
        case measure => simp [intOf]; omega
    · go_wp2
      go_ret
      have : k = 64 := by omega
      subst this
      exact ⟨ret_int (lg_last x (by omega) hp.out), rfl⟩
theorem countF_32 (x : Nat) (hx : x < 2 ^ 32) (w : World) :
    Calls Try.prog 58 #[.int .u32 x] w fun e w' => e = .returned (.int .i64 (cntF 64 x)) ∧ w' = w := by
  go_enter Try.func58, Try.ntmps58
  go_wp2
  go_loop [3, 5] (fun c i => ∃ k n : Nat, k ≤ 64 ∧ n ≤ k ∧ i = .int .i64 k ∧ c = .int .i64 n ∧ Hid (n + cntF (64 - k) (x / 2 ^ k) = cntF 64 x)) (fun _ i => 64 - (intOf i).toNat)
  case atStart => exact ⟨0, 0, by omega, by omega, rfl, rfl, (by simp : 0 + cntF (64 - 0) (x / 2 ^ 0) = cntF 64 x)⟩
  case round =>
    obtain ⟨k, n, hk, hn, rfl, rfl, hp⟩ := hrel
    by_cases hlt : k < 64
    · go_wp2
      have hb : bits BinOp.and IntKind.u32 ((x : Int) / 2 ^ (min k 32)) 1 = ((x / 2 ^ k % 2 : Nat) : Int) := by
        rw [shr32 x k hx]
        have hd : x / 2 ^ k < 2 ^ 32 := Nat.lt_of_le_of_lt (Nat.div_le_self _ _) hx
        have := u32_and_nat (x / 2 ^ k) 1 (by omega) (by decide)
        rw [nat_mask1] at this
        exact this
      have hc := cntF_step x k 64 hlt
      go_round
      case rel =>
        refine ⟨k + 1, n + x / 2 ^ k % 2, by omega, by omega, by go_num, ?_, ?_⟩
        · rw [hb]
          congr 1
          rw [IntWalk.wrap64_in ((x / 2 ^ k % 2 : Nat) : Int) (by omega), IntWalk.wrap64_in _ (by omega)]
          omega
        · have := hp.out
          show _ = _
          omega
      case measure => simp [intOf]; omega
    · go_wp2
      go_ret
      have : k = 64 := by omega
      subst this
      have h := hp.out
      rw [show cntF (64 - 64) (x / 2 ^ 64) = 0 from rfl] at h
      exact ⟨ret_int (by rw [← h]; rfl), rfl⟩
theorem count_32 (x : Nat) (hx : x < 2 ^ 32) (w : World) :
    Calls Try.prog 58 #[.int .u32 x] w fun e w' => e = .returned (.int .i64 (cnt x)) ∧ w' = w := by
  rw [cnt_eq 64 x (by omega)]
  exact countF_32 x hx w
theorem ceil_32 (x : Nat) (hx : x < 2 ^ 32) (w : World) :
    Calls Try.prog 59 #[.int .u32 x] w fun e w' => e = .returned (.tuple #[.int .u32 (ceilV 32 x), .bool (ceilB 32 x)]) ∧ w' = w := by
  by_cases h : x = 0
  · subst h
    go_enter Try.func59, Try.ntmps59
    go_wp2
    go_ret2
    exact ⟨rfl, rfl⟩
  · have h1 := lg_lo (x - 1)
    have h0 : 0 ≤ lg (x - 1) + 1 := by omega
    have h2 : lg (x - 1) + 1 ≤ 32 := lg_up (x - 1) 32 (by omega) (by decide)
    have e : ((x : Int) - 1) = ((x - 1 : Nat) : Int) := by omega
    go_enter Try.func59, Try.ntmps59
    go_wp2_with (go_at_call 57; refine (log_32 (x - 1) (by omega) _).mono ?_; rintro e w' ⟨rfl, rfl⟩)
    go_ret2
    have e2 : IntKind.u32.wrap (2 ^ (lg (x - 1) + 1).toNat) = ((ceilV 32 x : Nat) : Int) := by
      rw [wrap_u32]; exact ceil_val 32 x hx
    have e3 : (2 : Int) ^ (lg (x - 1) + 1).toNat % 4294967296 = ((ceilV 32 x : Nat) : Int) := ceil_val 32 x hx
    refine ⟨?_, rfl⟩
    exact ret_pair e3 (by rw [e3]; exact ceil_ne 32 x)
theorem down_32 (x a : Nat) (hx : x < 2 ^ 32) (ha : a < 2 ^ 32) (w : World) :
    Calls Try.prog 75 #[.int .u32 x, .int .u32 a] w fun e w' => e = .returned (.tuple #[.int .u32 (downV x a), .bool (isP a)]) ∧ w' = w := by
  by_cases h : isP a = true
  · have hp := isP_pos a h
    have e : bits BinOp.andNot IntKind.u32 (x : Int) ((a : Int) - 1) = ((downV x a : Nat) : Int) := by
      have e : ((a : Int) - 1) = ((a - 1 : Nat) : Int) := by omega
      rw [e, u32_andNot_nat x (a - 1) (by omega) (by omega)]
      congr 1
      exact and_not_down x a 32 hx ha h
    have E : Hid (bits BinOp.andNot IntKind.u32 (x : Int) ((a : Int) - 1) = ((downV x a : Nat) : Int)) := e
    clear e
    go_enter Try.func75, Try.ntmps75
    go_wp2_with (go_at_call 56; refine (isPower_32 a ha _).mono ?_; rintro e w' ⟨rfl, rfl⟩)
    go_ret2
    refine ⟨?_, rfl⟩
    simp only [E.out, h]
    rfl
  · have h : isP a = false := by simpa using h
    have e := downV_no x a h
    go_enter Try.func75, Try.ntmps75
    go_wp2_with (go_at_call 56; refine (isPower_32 a ha _).mono ?_; rintro e w' ⟨rfl, rfl⟩)
    go_ret2
    refine ⟨?_, rfl⟩
    simp only [e, h]
    rfl
theorem up_32 (x a : Nat) (hx : x < 2 ^ 32) (ha : a < 2 ^ 32) (w : World) :
    Calls Try.prog 74 #[.int .u32 x, .int .u32 a] w fun e w' => e = .returned (.tuple #[.int .u32 (upV 32 x a), .bool (upB 32 x a)]) ∧ w' = w := by
  by_cases h : isP a = true
  · have hn := down_next 32 x a hx ha h
    have hl := downV_le x a
    by_cases h1 : downV x a = x
    · have b := upB_eq 32 x a h h1
      have v := upV_eq 32 x a h h1
      have h2 : (((downV x a : Nat) : Int) == (x : Int)) = true := by rw [h1]; simp
      clear hn hl h1
      go_enter Try.func74, Try.ntmps74
      go_wp2_with (go_at_call 75; refine (down_32 x a hx ha _).mono ?_; rintro e w' ⟨rfl, rfl⟩)
      go_ret2
      exact ⟨ret_pair (by rw [v]; exact eq_of_beq h2) b.symm, rfl⟩
    · have h2 : (((downV x a : Nat) : Int) == (x : Int)) = false := by
        rw [beq_eq_false_iff_ne]; omega
      by_cases h3 : downV x a + a < 2 ^ 32
      · have b := upB_in 32 x a h h1 h3
        have v := upV_in 32 x a h h1 h3
        have hp := isP_pos a h
        have hne : ((downV x a : Int) + (a : Int) != 0) = true := by rw [bne_iff_ne]; omega
        clear h1 hn
        go_enter Try.func74, Try.ntmps74
        go_wp2_with (go_at_call 75; refine (down_32 x a hx ha _).mono ?_; rintro e w' ⟨rfl, rfl⟩)
        go_ret2
        exact ⟨ret_pair (by rw [v]; omega) (by rw [b]), rfl⟩
      · have b := upB_out 32 x a h h1 h3
        have v := upV_out 32 x a h h1 h3
        have H1 : Hid (¬ downV x a = x) := h1
        have e2 : IntKind.u32.wrap ((downV x a : Int) + (a : Int)) = 0 := by rw [wrap_u32]; omega
        have e3 : ((downV x a : Int) + (a : Int)) % 4294967296 = 0 := by omega
        clear h1
        go_enter Try.func74, Try.ntmps74
        go_wp2_with (go_at_call 75; refine (down_32 x a hx ha _).mono ?_; rintro e w' ⟨rfl, rfl⟩)
        go_ret2
        exact ⟨ret_pair (by rw [v]; rfl) (by rw [b]), rfl⟩
  · have h : isP a = false := by simpa using h
    have b := upB_no 32 x a h
    have v := upV_no 32 x a h
    have d := downV_no x a h
    go_enter Try.func74, Try.ntmps74
    go_wp2_with (go_at_call 75; refine (down_32 x a hx ha _).mono ?_; rintro e w' ⟨rfl, rfl⟩)
    go_ret2
    exact ⟨ret_pair (by rw [v]; rfl) (by rw [b]), rfl⟩
theorem isPower_64 (x : Nat) (hx : x < 2 ^ 64) (w : World) :
    Calls Try.prog 60 #[.int .u64 x] w fun e w' => e = .returned (.bool (isP x)) ∧ w' = w := by
  by_cases h : x = 0
  · subst h
    go_enter Try.func60, Try.ntmps60
    go_wp2
    go_ret
    exact ⟨rfl, rfl⟩
  · have e := isP_walk64 x hx h
    have E : Hid ((((x : Int) != 0) && (bits BinOp.and IntKind.u64 (x : Int) ((x : Int) - 1) == 0)) = isP x) := e
    clear e
    go_enter Try.func60, Try.ntmps60
    go_wp2
    go_ret
    exact ⟨ret_bool E.out, rfl⟩
theorem log_64 (x : Nat) (hx : x < 2 ^ 64) (w : World) :
    Calls Try.prog 47 #[.int .u64 x] w fun e w' => e = .returned (.int .i64 (lg x)) ∧ w' = w := by
  go_enter Try.func47, Try.ntmps47
  go_wp2
  go_loop [4] (fun i => ∃ k : Nat, k ≤ 64 ∧ i = .int .i64 k ∧ Hid (∀ j, j < k → x / 2 ^ j ≠ 0)) (fun i => 64 - (intOf i).toNat)
  case atStart => exact ⟨0, by omega, rfl, fun j hj => by omega⟩
  case round =>
    obtain ⟨k, hk, rfl, hp⟩ := hrel
    by_cases hlt : k < 64
    · go_wp2
      · go_ret
        have h : ((x : Int) / 2 ^ (k) == 0) = true := by assumption
        rw [shr64 x k hx] at h
        exact ⟨ret_int (lg_first x k (Int.natCast_eq_zero.1 (eq_of_beq h)) hp.out), rfl⟩
      · have h : ((x : Int) / 2 ^ (k) == 0) = false := by assumption
        rw [shr64 x k hx] at h
        go_round
        case rel =>
          refine ⟨k + 1, by omega, by go_num, ?_⟩
          intro j hj
          by_cases e : j < k
          · exact hp.out j e
          · have : j = k := by omega
            subst this
            intro h2
            simp [h2] at h
        case measure => simp [intOf]; omega
    · go_wp2
      go_ret
      have : k = 64 := by omega
      subst this
      exact ⟨ret_int (lg_last x (by omega) hp.out), rfl⟩
theorem countF_64 (x : Nat) (hx : x < 2 ^ 64) (w : World) :
    Calls Try.prog 17 #[.int .u64 x] w fun e w' => e = .returned (.int .i64 (cntF 64 x)) ∧ w' = w := by
  go_enter Try.func17, Try.ntmps17
  go_wp2
  go_loop [3, 5] (fun c i => ∃ k n : Nat, k ≤ 64 ∧ n ≤ k ∧ i = .int .i64 k ∧ c = .int .i64 n ∧ Hid (n + cntF (64 - k) (x / 2 ^ k) = cntF 64 x)) (fun _ i => 64 - (intOf i).toNat)
  case atStart => exact ⟨0, 0, by omega, by omega, rfl, rfl, (by simp : 0 + cntF (64 - 0) (x / 2 ^ 0) = cntF 64 x)⟩
  case round =>
    obtain ⟨k, n, hk, hn, rfl, rfl, hp⟩ := hrel
    by_cases hlt : k < 64
    · go_wp2
      have hb : bits BinOp.and IntKind.u64 ((x : Int) / 2 ^ (k)) 1 = ((x / 2 ^ k % 2 : Nat) : Int) := by
        rw [shr64 x k hx]
        have hd : x / 2 ^ k < 2 ^ 64 := Nat.lt_of_le_of_lt (Nat.div_le_self _ _) hx
        have := u64_and_nat (x / 2 ^ k) 1 (by omega) (by decide)
        rw [nat_mask1] at this
        exact this
      have hc := cntF_step x k 64 hlt
      go_round
      case rel =>
        refine ⟨k + 1, n + x / 2 ^ k % 2, by omega, by omega, by go_num, ?_, ?_⟩
        · rw [hb]
          congr 1
          rw [IntWalk.wrap64_in ((x / 2 ^ k % 2 : Nat) : Int) (by omega), IntWalk.wrap64_in _ (by omega)]
          omega
        · have := hp.out
          show _ = _
          omega
      case measure => simp [intOf]; omega
    · go_wp2
      go_ret
      have : k = 64 := by omega
      subst this
      have h := hp.out
      rw [show cntF (64 - 64) (x / 2 ^ 64) = 0 from rfl] at h
      exact ⟨ret_int (by rw [← h]; rfl), rfl⟩
theorem count_64 (x : Nat) (hx : x < 2 ^ 64) (w : World) :
    Calls Try.prog 17 #[.int .u64 x] w fun e w' => e = .returned (.int .i64 (cnt x)) ∧ w' = w := by
  rw [cnt_eq 64 x (by omega)]
  exact countF_64 x hx w
theorem ceil_64 (x : Nat) (hx : x < 2 ^ 64) (w : World) :
    Calls Try.prog 61 #[.int .u64 x] w fun e w' => e = .returned (.tuple #[.int .u64 (ceilV 64 x), .bool (ceilB 64 x)]) ∧ w' = w := by
  by_cases h : x = 0
  · subst h
    go_enter Try.func61, Try.ntmps61
    go_wp2
    go_ret2
    exact ⟨rfl, rfl⟩
  · have h1 := lg_lo (x - 1)
    have h0 : 0 ≤ lg (x - 1) + 1 := by omega
    have h2 : lg (x - 1) + 1 ≤ 64 := lg_up (x - 1) 64 (by omega) (by decide)
    have e : ((x : Int) - 1) = ((x - 1 : Nat) : Int) := by omega
    go_enter Try.func61, Try.ntmps61
    go_wp2_with (go_at_call 47; refine (log_64 (x - 1) (by omega) _).mono ?_; rintro e w' ⟨rfl, rfl⟩)
    go_ret2
    have e2 : IntKind.u64.wrap (2 ^ (lg (x - 1) + 1).toNat) = ((ceilV 64 x : Nat) : Int) := by
      rw [wrap_u64]; exact ceil_val 64 x hx
    have e3 : (2 : Int) ^ (lg (x - 1) + 1).toNat % 18446744073709551616 = ((ceilV 64 x : Nat) : Int) := ceil_val 64 x hx
    refine ⟨?_, rfl⟩
    exact ret_pair e2 (by rw [e2]; exact ceil_ne 64 x)
theorem down_64 (x a : Nat) (hx : x < 2 ^ 64) (ha : a < 2 ^ 64) (w : World) :
    Calls Try.prog 77 #[.int .u64 x, .int .u64 a] w fun e w' => e = .returned (.tuple #[.int .u64 (downV x a), .bool (isP a)]) ∧ w' = w := by
  by_cases h : isP a = true
  · have hp := isP_pos a h
    have e : bits BinOp.andNot IntKind.u64 (x : Int) ((a : Int) - 1) = ((downV x a : Nat) : Int) := by
      have e : ((a : Int) - 1) = ((a - 1 : Nat) : Int) := by omega
      rw [e, u64_andNot_nat x (a - 1) (by omega) (by omega)]
      congr 1
      exact and_not_down x a 64 hx ha h
    have E : Hid (bits BinOp.andNot IntKind.u64 (x : Int) ((a : Int) - 1) = ((downV x a : Nat) : Int)) := e
    clear e
    go_enter Try.func77, Try.ntmps77
    go_wp2_with (go_at_call 60; refine (isPower_64 a ha _).mono ?_; rintro e w' ⟨rfl, rfl⟩)
    go_ret2
    refine ⟨?_, rfl⟩
    simp only [E.out, h]
    rfl
  · have h : isP a = false := by simpa using h
    have e := downV_no x a h
    go_enter Try.func77, Try.ntmps77
    go_wp2_with (go_at_call 60; refine (isPower_64 a ha _).mono ?_; rintro e w' ⟨rfl, rfl⟩)
    go_ret2
    refine ⟨?_, rfl⟩
    simp only [e, h]
    rfl
theorem up_64 (x a : Nat) (hx : x < 2 ^ 64) (ha : a < 2 ^ 64) (w : World) :
    Calls Try.prog 76 #[.int .u64 x, .int .u64 a] w fun e w' => e = .returned (.tuple #[.int .u64 (upV 64 x a), .bool (upB 64 x a)]) ∧ w' = w := by
  by_cases h : isP a = true
  · have hn := down_next 64 x a hx ha h
    have hl := downV_le x a
    by_cases h1 : downV x a = x
    · have b := upB_eq 64 x a h h1
      have v := upV_eq 64 x a h h1
      have h2 : (((downV x a : Nat) : Int) == (x : Int)) = true := by rw [h1]; simp
      clear hn hl h1
      go_enter Try.func76, Try.ntmps76
      go_wp2_with (go_at_call 77; refine (down_64 x a hx ha _).mono ?_; rintro e w' ⟨rfl, rfl⟩)
      go_ret2
      exact ⟨ret_pair (by rw [v]; exact eq_of_beq h2) b.symm, rfl⟩
    · have h2 : (((downV x a : Nat) : Int) == (x : Int)) = false := by
        rw [beq_eq_false_iff_ne]; omega
      by_cases h3 : downV x a + a < 2 ^ 64
      · have b := upB_in 64 x a h h1 h3
        have v := upV_in 64 x a h h1 h3
        have hp := isP_pos a h
        have hne : ((downV x a : Int) + (a : Int) != 0) = true := by rw [bne_iff_ne]; omega
        clear h1 hn
        go_enter Try.func76, Try.ntmps76
        go_wp2_with (go_at_call 77; refine (down_64 x a hx ha _).mono ?_; rintro e w' ⟨rfl, rfl⟩)
        go_ret2
        exact ⟨ret_pair (by rw [v]; omega) (by rw [b]), rfl⟩
      · have b := upB_out 64 x a h h1 h3
        have v := upV_out 64 x a h h1 h3
        have H1 : Hid (¬ downV x a = x) := h1
        have e2 : IntKind.u64.wrap ((downV x a : Int) + (a : Int)) = 0 := by rw [wrap_u64]; omega
        have e3 : ((downV x a : Int) + (a : Int)) % 18446744073709551616 = 0 := by omega
        clear h1
        go_enter Try.func76, Try.ntmps76
        go_wp2_with (go_at_call 77; refine (down_64 x a hx ha _).mono ?_; rintro e w' ⟨rfl, rfl⟩)
        go_ret2
        exact ⟨ret_pair (by rw [v]; rfl) (by rw [b]), rfl⟩
  · have h : isP a = false := by simpa using h
    have b := upB_no 64 x a h
    have v := upV_no 64 x a h
    have d := downV_no x a h
    go_enter Try.func76, Try.ntmps76
    go_wp2_with (go_at_call 77; refine (down_64 x a hx ha _).mono ?_; rintro e w' ⟨rfl, rfl⟩)
    go_ret2
    exact ⟨ret_pair (by rw [v]; rfl) (by rw [b]), rfl⟩
theorem isPower_s (x : Nat) (hx : x < 2 ^ 8) (w : World) :
    Calls Try.prog 62 #[.int .u8 x] w fun e w' => e = .returned (.bool (isP x)) ∧ w' = w := by
  by_cases h : x = 0
  · subst h
    go_enter Try.func62, Try.ntmps62
    go_wp2
    go_ret
    exact ⟨rfl, rfl⟩
  · have e := isP_walk8 x hx h
    have E : Hid ((((x : Int) != 0) && (bits BinOp.and IntKind.u8 (x : Int) ((x : Int) - 1) == 0)) = isP x) := e
    clear e
    go_enter Try.func62, Try.ntmps62
    go_wp2
    go_ret
    exact ⟨ret_bool E.out, rfl⟩
theorem log_s (x : Nat) (hx : x < 2 ^ 8) (w : World) :
    Calls Try.prog 63 #[.int .u8 x] w fun e w' => e = .returned (.int .i64 (lg x)) ∧ w' = w := by
  go_enter Try.func63, Try.ntmps63
  go_wp2
  go_loop [4] (fun i => ∃ k : Nat, k ≤ 64 ∧ i = .int .i64 k ∧ Hid (∀ j, j < k → x / 2 ^ j ≠ 0)) (fun i => 64 - (intOf i).toNat)
  case atStart => exact ⟨0, by omega, rfl, fun j hj => by omega⟩
  case round =>
    obtain ⟨k, hk, rfl, hp⟩ := hrel
    by_cases hlt : k < 64
    · go_wp2
      · go_ret
        have h : ((x : Int) / 2 ^ (min k 8) == 0) = true := by assumption
        rw [shr8 x k hx] at h
        exact ⟨ret_int (lg_first x k (Int.natCast_eq_zero.1 (eq_of_beq h)) hp.out), rfl⟩
      · have h : ((x : Int) / 2 ^ (min k 8) == 0) = false := by assumption
        rw [shr8 x k hx] at h
        go_round
        case rel =>
          refine ⟨k + 1, by omega, by go_num, ?_⟩
          intro j hj
          by_cases e : j < k
          · exact hp.out j e
          · have : j = k := by omega
            subst this
            intro h2
            simp [h2] at h
        case measure => simp [intOf]; omega
    · go_wp2
      go_ret
      have : k = 64 := by omega
      subst this
      exact ⟨ret_int (lg_last x (by omega) hp.out), rfl⟩
theorem countF_s (x : Nat) (hx : x < 2 ^ 8) (w : World) :
    Calls Try.prog 64 #[.int .u8 x] w fun e w' => e = .returned (.int .i64 (cntF 64 x)) ∧ w' = w := by
  go_enter Try.func64, Try.ntmps64
  go_wp2
  go_loop [3, 5] (fun c i => ∃ k n : Nat, k ≤ 64 ∧ n ≤ k ∧ i = .int .i64 k ∧ c = .int .i64 n ∧ Hid (n + cntF (64 - k) (x / 2 ^ k) = cntF 64 x)) (fun _ i => 64 - (intOf i).toNat)
  case atStart => exact ⟨0, 0, by omega, by omega, rfl, rfl, (by simp : 0 + cntF (64 - 0) (x / 2 ^ 0) = cntF 64 x)⟩
  case round =>
    obtain ⟨k, n, hk, hn, rfl, rfl, hp⟩ := hrel
    by_cases hlt : k < 64
    · go_wp2
      have hb : bits BinOp.and IntKind.u8 ((x : Int) / 2 ^ (min k 8)) 1 = ((x / 2 ^ k % 2 : Nat) : Int) := by
        rw [shr8 x k hx]
        have hd : x / 2 ^ k < 2 ^ 8 := Nat.lt_of_le_of_lt (Nat.div_le_self _ _) hx
        have := u8_and_nat (x / 2 ^ k) 1 (by omega) (by decide)
        rw [nat_mask1] at this
        exact this
      have hc := cntF_step x k 64 hlt
      go_round
      case rel =>
        refine ⟨k + 1, n + x / 2 ^ k % 2, by omega, by omega, by go_num, ?_, ?_⟩
        · rw [hb]
          congr 1
          rw [IntWalk.wrap64_in ((x / 2 ^ k % 2 : Nat) : Int) (by omega), IntWalk.wrap64_in _ (by omega)]
          omega
        · have := hp.out
          show _ = _
          omega
      case measure => simp [intOf]; omega
    · go_wp2
      go_ret
      have : k = 64 := by omega
      subst this
      have h := hp.out
      rw [show cntF (64 - 64) (x / 2 ^ 64) = 0 from rfl] at h
      exact ⟨ret_int (by rw [← h]; rfl), rfl⟩
theorem count_s (x : Nat) (hx : x < 2 ^ 8) (w : World) :
    Calls Try.prog 64 #[.int .u8 x] w fun e w' => e = .returned (.int .i64 (cnt x)) ∧ w' = w := by
  rw [cnt_eq 64 x (by omega)]
  exact countF_s x hx w
theorem ceil_s (x : Nat) (hx : x < 2 ^ 8) (w : World) :
    Calls Try.prog 65 #[.int .u8 x] w fun e w' => e = .returned (.tuple #[.int .u8 (ceilV 8 x), .bool (ceilB 8 x)]) ∧ w' = w := by
  by_cases h : x = 0
  · subst h
    go_enter Try.func65, Try.ntmps65
    go_wp2
    go_ret2
    exact ⟨rfl, rfl⟩
  · have h1 := lg_lo (x - 1)
    have h0 : 0 ≤ lg (x - 1) + 1 := by omega
    have h2 : lg (x - 1) + 1 ≤ 8 := lg_up (x - 1) 8 (by omega) (by decide)
    have e : ((x : Int) - 1) = ((x - 1 : Nat) : Int) := by omega
    go_enter Try.func65, Try.ntmps65
    go_wp2_with (go_at_call 63; refine (log_s (x - 1) (by omega) _).mono ?_; rintro e w' ⟨rfl, rfl⟩)
    go_ret2
    have e2 : IntKind.u8.wrap (2 ^ (lg (x - 1) + 1).toNat) = ((ceilV 8 x : Nat) : Int) := by
      rw [wrap_u8]; exact ceil_val 8 x hx
    have e3 : (2 : Int) ^ (lg (x - 1) + 1).toNat % 256 = ((ceilV 8 x : Nat) : Int) := ceil_val 8 x hx
    refine ⟨?_, rfl⟩
    exact ret_pair e3 (by rw [e3]; exact ceil_ne 8 x)
theorem down_s (x a : Nat) (hx : x < 2 ^ 8) (ha : a < 2 ^ 8) (w : World) :
    Calls Try.prog 79 #[.int .u8 x, .int .u8 a] w fun e w' => e = .returned (.tuple #[.int .u8 (downV x a), .bool (isP a)]) ∧ w' = w := by
  by_cases h : isP a = true
  · have hp := isP_pos a h
    have e : bits BinOp.andNot IntKind.u8 (x : Int) ((a : Int) - 1) = ((downV x a : Nat) : Int) := by
      have e : ((a : Int) - 1) = ((a - 1 : Nat) : Int) := by omega
      rw [e, u8_andNot_nat x (a - 1) (by omega) (by omega)]
      congr 1
      exact and_not_down x a 8 hx ha h
    have E : Hid (bits BinOp.andNot IntKind.u8 (x : Int) ((a : Int) - 1) = ((downV x a : Nat) : Int)) := e
    clear e
    go_enter Try.func79, Try.ntmps79
    go_wp2_with (go_at_call 62; refine (isPower_s a ha _).mono ?_; rintro e w' ⟨rfl, rfl⟩)
    go_ret2
    refine ⟨?_, rfl⟩
    simp only [E.out, h]
    rfl
  · have h : isP a = false := by simpa using h
    have e := downV_no x a h
    go_enter Try.func79, Try.ntmps79
    go_wp2_with (go_at_call 62; refine (isPower_s a ha _).mono ?_; rintro e w' ⟨rfl, rfl⟩)
    go_ret2
    refine ⟨?_, rfl⟩
    simp only [e, h]
    rfl
theorem up_s (x a : Nat) (hx : x < 2 ^ 8) (ha : a < 2 ^ 8) (w : World) :
    Calls Try.prog 78 #[.int .u8 x, .int .u8 a] w fun e w' => e = .returned (.tuple #[.int .u8 (upV 8 x a), .bool (upB 8 x a)]) ∧ w' = w := by
  by_cases h : isP a = true
  · have hn := down_next 8 x a hx ha h
    have hl := downV_le x a
    by_cases h1 : downV x a = x
    · have b := upB_eq 8 x a h h1
      have v := upV_eq 8 x a h h1
      have h2 : (((downV x a : Nat) : Int) == (x : Int)) = true := by rw [h1]; simp
      clear hn hl h1
      go_enter Try.func78, Try.ntmps78
      go_wp2_with (go_at_call 79; refine (down_s x a hx ha _).mono ?_; rintro e w' ⟨rfl, rfl⟩)
      go_ret2
      exact ⟨ret_pair (by rw [v]; exact eq_of_beq h2) b.symm, rfl⟩
    · have h2 : (((downV x a : Nat) : Int) == (x : Int)) = false := by
        rw [beq_eq_false_iff_ne]; omega
      by_cases h3 : downV x a + a < 2 ^ 8
      · have b := upB_in 8 x a h h1 h3
        have v := upV_in 8 x a h h1 h3
        have hp := isP_pos a h
        have hne : ((downV x a : Int) + (a : Int) != 0) = true := by rw [bne_iff_ne]; omega
        clear h1 hn
        go_enter Try.func78, Try.ntmps78
        go_wp2_with (go_at_call 79; refine (down_s x a hx ha _).mono ?_; rintro e w' ⟨rfl, rfl⟩)
        go_ret2
        exact ⟨ret_pair (by rw [v]; omega) (by rw [b]), rfl⟩
      · have b := upB_out 8 x a h h1 h3
        have v := upV_out 8 x a h h1 h3
        have H1 : Hid (¬ downV x a = x) := h1
        have e2 : IntKind.u8.wrap ((downV x a : Int) + (a : Int)) = 0 := by rw [wrap_u8]; omega
        have e3 : ((downV x a : Int) + (a : Int)) % 256 = 0 := by omega
        clear h1
        go_enter Try.func78, Try.ntmps78
        go_wp2_with (go_at_call 79; refine (down_s x a hx ha _).mono ?_; rintro e w' ⟨rfl, rfl⟩)
        go_ret2
        exact ⟨ret_pair (by rw [v]; rfl) (by rw [b]), rfl⟩
  · have h : isP a = false := by simpa using h
    have b := upB_no 8 x a h
    have v := upV_no 8 x a h
    have d := downV_no x a h
    go_enter Try.func78, Try.ntmps78
    go_wp2_with (go_at_call 79; refine (down_s x a hx ha _).mono ?_; rintro e w' ⟨rfl, rfl⟩)
    go_ret2
    exact ⟨ret_pair (by rw [v]; rfl) (by rw [b]), rfl⟩
theorem isPower_w (x : Nat) (hx : x < 2 ^ 64) (w : World) :
    Calls Try.prog 66 #[.int .u64 x] w fun e w' => e = .returned (.bool (isP x)) ∧ w' = w := by
  by_cases h : x = 0
  · subst h
    go_enter Try.func66, Try.ntmps66
    go_wp2
    go_ret
    exact ⟨rfl, rfl⟩
  · have e := isP_walk64 x hx h
    have E : Hid ((((x : Int) != 0) && (bits BinOp.and IntKind.u64 (x : Int) ((x : Int) - 1) == 0)) = isP x) := e
    clear e
    go_enter Try.func66, Try.ntmps66
    go_wp2
    go_ret
    exact ⟨ret_bool E.out, rfl⟩
theorem log_w (x : Nat) (hx : x < 2 ^ 64) (w : World) :
    Calls Try.prog 67 #[.int .u64 x] w fun e w' => e = .returned (.int .i64 (lg x)) ∧ w' = w := by
  go_enter Try.func67, Try.ntmps67
  go_wp2
  go_loop [4] (fun i => ∃ k : Nat, k ≤ 64 ∧ i = .int .i64 k ∧ Hid (∀ j, j < k → x / 2 ^ j ≠ 0)) (fun i => 64 - (intOf i).toNat)
  case atStart => exact ⟨0, by omega, rfl, fun j hj => by omega⟩
  case round =>
    obtain ⟨k, hk, rfl, hp⟩ := hrel
    by_cases hlt : k < 64
    · go_wp2
      · go_ret
        have h : ((x : Int) / 2 ^ (k) == 0) = true := by assumption
        rw [shr64 x k hx] at h
        exact ⟨ret_int (lg_first x k (Int.natCast_eq_zero.1 (eq_of_beq h)) hp.out), rfl⟩
      · have h : ((x : Int) / 2 ^ (k) == 0) = false := by assumption
        rw [shr64 x k hx] at h
        go_round
        case rel =>
          refine ⟨k + 1, by omega, by go_num, ?_⟩
          intro j hj
          by_cases e : j < k
          · exact hp.out j e
          · have : j = k := by omega
            subst this
            intro h2
            simp [h2] at h
        case measure => simp [intOf]; omega
    · go_wp2
      go_ret
      have : k = 64 := by omega
      subst this
      exact ⟨ret_int (lg_last x (by omega) hp.out), rfl⟩
theorem countF_w (x : Nat) (hx : x < 2 ^ 64) (w : World) :
    Calls Try.prog 68 #[.int .u64 x] w fun e w' => e = .returned (.int .i64 (cntF 64 x)) ∧ w' = w := by
  go_enter Try.func68, Try.ntmps68
  go_wp2
  go_loop [3, 5] (fun c i => ∃ k n : Nat, k ≤ 64 ∧ n ≤ k ∧ i = .int .i64 k ∧ c = .int .i64 n ∧ Hid (n + cntF (64 - k) (x / 2 ^ k) = cntF 64 x)) (fun _ i => 64 - (intOf i).toNat)
  case atStart => exact ⟨0, 0, by omega, by omega, rfl, rfl, (by simp : 0 + cntF (64 - 0) (x / 2 ^ 0) = cntF 64 x)⟩
  case round =>
    obtain ⟨k, n, hk, hn, rfl, rfl, hp⟩ := hrel
    by_cases hlt : k < 64
    · go_wp2
      have hb : bits BinOp.and IntKind.u64 ((x : Int) / 2 ^ (k)) 1 = ((x / 2 ^ k % 2 : Nat) : Int) := by
        rw [shr64 x k hx]
        have hd : x / 2 ^ k < 2 ^ 64 := Nat.lt_of_le_of_lt (Nat.div_le_self _ _) hx
        have := u64_and_nat (x / 2 ^ k) 1 (by omega) (by decide)
        rw [nat_mask1] at this
        exact this
      have hc := cntF_step x k 64 hlt
      go_round
      case rel =>
        refine ⟨k + 1, n + x / 2 ^ k % 2, by omega, by omega, by go_num, ?_, ?_⟩
        · rw [hb]
          congr 1
          rw [IntWalk.wrap64_in ((x / 2 ^ k % 2 : Nat) : Int) (by omega), IntWalk.wrap64_in _ (by omega)]
          omega
        · have := hp.out
          show _ = _
          omega
      case measure => simp [intOf]; omega
    · go_wp2
      go_ret
      have : k = 64 := by omega
      subst this
      have h := hp.out
      rw [show cntF (64 - 64) (x / 2 ^ 64) = 0 from rfl] at h
      exact ⟨ret_int (by rw [← h]; rfl), rfl⟩
theorem count_w (x : Nat) (hx : x < 2 ^ 64) (w : World) :
    Calls Try.prog 68 #[.int .u64 x] w fun e w' => e = .returned (.int .i64 (cnt x)) ∧ w' = w := by
  rw [cnt_eq 64 x (by omega)]
  exact countF_w x hx w
theorem ceil_w (x : Nat) (hx : x < 2 ^ 64) (w : World) :
    Calls Try.prog 69 #[.int .u64 x] w fun e w' => e = .returned (.tuple #[.int .u64 (ceilV 64 x), .bool (ceilB 64 x)]) ∧ w' = w := by
  by_cases h : x = 0
  · subst h
    go_enter Try.func69, Try.ntmps69
    go_wp2
    go_ret2
    exact ⟨rfl, rfl⟩
  · have h1 := lg_lo (x - 1)
    have h0 : 0 ≤ lg (x - 1) + 1 := by omega
    have h2 : lg (x - 1) + 1 ≤ 64 := lg_up (x - 1) 64 (by omega) (by decide)
    have e : ((x : Int) - 1) = ((x - 1 : Nat) : Int) := by omega
    go_enter Try.func69, Try.ntmps69
    go_wp2_with (go_at_call 67; refine (log_w (x - 1) (by omega) _).mono ?_; rintro e w' ⟨rfl, rfl⟩)
    go_ret2
    have e2 : IntKind.u64.wrap (2 ^ (lg (x - 1) + 1).toNat) = ((ceilV 64 x : Nat) : Int) := by
      rw [wrap_u64]; exact ceil_val 64 x hx
    have e3 : (2 : Int) ^ (lg (x - 1) + 1).toNat % 18446744073709551616 = ((ceilV 64 x : Nat) : Int) := ceil_val 64 x hx
    refine ⟨?_, rfl⟩
    exact ret_pair e2 (by rw [e2]; exact ceil_ne 64 x)
theorem down_w (x a : Nat) (hx : x < 2 ^ 64) (ha : a < 2 ^ 64) (w : World) :
    Calls Try.prog 81 #[.int .u64 x, .int .u64 a] w fun e w' => e = .returned (.tuple #[.int .u64 (downV x a), .bool (isP a)]) ∧ w' = w := by
  by_cases h : isP a = true
  · have hp := isP_pos a h
    have e : bits BinOp.andNot IntKind.u64 (x : Int) ((a : Int) - 1) = ((downV x a : Nat) : Int) := by
      have e : ((a : Int) - 1) = ((a - 1 : Nat) : Int) := by omega
      rw [e, u64_andNot_nat x (a - 1) (by omega) (by omega)]
      congr 1
      exact and_not_down x a 64 hx ha h
    have E : Hid (bits BinOp.andNot IntKind.u64 (x : Int) ((a : Int) - 1) = ((downV x a : Nat) : Int)) := e
    clear e
    go_enter Try.func81, Try.ntmps81
    go_wp2_with (go_at_call 66; refine (isPower_w a ha _).mono ?_; rintro e w' ⟨rfl, rfl⟩)
    go_ret2
    refine ⟨?_, rfl⟩
    simp only [E.out, h]
    rfl
  · have h : isP a = false := by simpa using h
    have e := downV_no x a h
    go_enter Try.func81, Try.ntmps81
    go_wp2_with (go_at_call 66; refine (isPower_w a ha _).mono ?_; rintro e w' ⟨rfl, rfl⟩)
    go_ret2
    refine ⟨?_, rfl⟩
    simp only [e, h]
    rfl
theorem up_w (x a : Nat) (hx : x < 2 ^ 64) (ha : a < 2 ^ 64) (w : World) :
    Calls Try.prog 80 #[.int .u64 x, .int .u64 a] w fun e w' => e = .returned (.tuple #[.int .u64 (upV 64 x a), .bool (upB 64 x a)]) ∧ w' = w := by
  by_cases h : isP a = true
  · have hn := down_next 64 x a hx ha h
    have hl := downV_le x a
    by_cases h1 : downV x a = x
    · have b := upB_eq 64 x a h h1
      have v := upV_eq 64 x a h h1
      have h2 : (((downV x a : Nat) : Int) == (x : Int)) = true := by rw [h1]; simp
      clear hn hl h1
      go_enter Try.func80, Try.ntmps80
      go_wp2_with (go_at_call 81; refine (down_w x a hx ha _).mono ?_; rintro e w' ⟨rfl, rfl⟩)
      go_ret2
      exact ⟨ret_pair (by rw [v]; exact eq_of_beq h2) b.symm, rfl⟩
    · have h2 : (((downV x a : Nat) : Int) == (x : Int)) = false := by
        rw [beq_eq_false_iff_ne]; omega
      by_cases h3 : downV x a + a < 2 ^ 64
      · have b := upB_in 64 x a h h1 h3
        have v := upV_in 64 x a h h1 h3
        have hp := isP_pos a h
        have hne : ((downV x a : Int) + (a : Int) != 0) = true := by rw [bne_iff_ne]; omega
        clear h1 hn
        go_enter Try.func80, Try.ntmps80
        go_wp2_with (go_at_call 81; refine (down_w x a hx ha _).mono ?_; rintro e w' ⟨rfl, rfl⟩)
        go_ret2
        exact ⟨ret_pair (by rw [v]; omega) (by rw [b]), rfl⟩
      · have b := upB_out 64 x a h h1 h3
        have v := upV_out 64 x a h h1 h3
        have H1 : Hid (¬ downV x a = x) := h1
        have e2 : IntKind.u64.wrap ((downV x a : Int) + (a : Int)) = 0 := by rw [wrap_u64]; omega
        have e3 : ((downV x a : Int) + (a : Int)) % 18446744073709551616 = 0 := by omega
        clear h1
        go_enter Try.func80, Try.ntmps80
        go_wp2_with (go_at_call 81; refine (down_w x a hx ha _).mono ?_; rintro e w' ⟨rfl, rfl⟩)
        go_ret2
        exact ⟨ret_pair (by rw [v]; rfl) (by rw [b]), rfl⟩
  · have h : isP a = false := by simpa using h
    have b := upB_no 64 x a h
    have v := upV_no 64 x a h
    have d := downV_no x a h
    go_enter Try.func80, Try.ntmps80
    go_wp2_with (go_at_call 81; refine (down_w x a hx ha _).mono ?_; rintro e w' ⟨rfl, rfl⟩)
    go_ret2
    exact ⟨ret_pair (by rw [v]; rfl) (by rw [b]), rfl⟩
end Go.Proofs.Ytahdjaocfejjeaa
