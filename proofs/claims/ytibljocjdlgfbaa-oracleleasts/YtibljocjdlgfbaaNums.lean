/- Contracts of the calls on numbers: bits.IsPower, Log, Count, Ceil, Down, Up, of each kind. -/
import Derived.Test.YtibljocjdlgfbaaChecked
import Derived.Test.YtibljocjdlgfbaaMath
import Derived.WalkKit
import Derived.WalkSpells
import Derived.WalkLawsBesides
import Derived.Outline
namespace Go.Proofs.Ytibljocjdlgfbaa
open Go.RowKit
set_option linter.unusedVariables false

theorem hid {p : Prop} (h : p) : Hid p := h
theorem ret_int {k : IntKind} {a b : Int} (h : a = b) : Ending.returned (.int k a) = .returned (.int k b) := by rw [h]
theorem ret_bool {a b : Bool} (h : a = b) : Ending.returned (.bool a) = .returned (.bool b) := by rw [h]
theorem wrap_u8 (n : Int) : IntKind.u8.wrap n = n % 2 ^ 8 := IntKind.wrap_u8' n
theorem wrap_u16 (n : Int) : IntKind.u16.wrap n = n % 2 ^ 16 := IntKind.wrap_u16 n
theorem wrap_u32 (n : Int) : IntKind.u32.wrap n = n % 2 ^ 32 := IntKind.wrap_u32' n
theorem wrap_u64 (n : Int) : IntKind.u64.wrap n = n % 2 ^ 64 := IntKind.wrap_u64 n
theorem ret_pair {k : IntKind} {a b : Int} {p q : Bool} (h : a = b) (h2 : p = q) : Ending.returned (.tuple #[.int k a, .bool p]) = .returned (.tuple #[.int k b, .bool q]) := by rw [h, h2]
theorem isP_walk8 (x : Nat) (hx : x < 2 ^ 8) (h : x ≠ 0) : (((x : Int) != 0) && (bits BinOp.and IntKind.u8 (x : Int) ((x : Int) - 1) == 0)) = isP x := by
  have e : ((x : Int) - 1) = ((x - 1 : Nat) : Int) := by omega
  rw [e, u8_and_nat x (x - 1) (by omega) (by omega)]
  unfold isP
  by_cases h2 : x &&& (x - 1) = 0 <;> simp [h, h2]
theorem isP_walk16 (x : Nat) (hx : x < 2 ^ 16) (h : x ≠ 0) : (((x : Int) != 0) && (bits BinOp.and IntKind.u16 (x : Int) ((x : Int) - 1) == 0)) = isP x := by
  have e : ((x : Int) - 1) = ((x - 1 : Nat) : Int) := by omega
  rw [e, u16_and_nat x (x - 1) (by omega) (by omega)]
  unfold isP
  by_cases h2 : x &&& (x - 1) = 0 <;> simp [h, h2]
theorem isP_walk32 (x : Nat) (hx : x < 2 ^ 32) (h : x ≠ 0) : (((x : Int) != 0) && (bits BinOp.and IntKind.u32 (x : Int) ((x : Int) - 1) == 0)) = isP x := by
  have e : ((x : Int) - 1) = ((x - 1 : Nat) : Int) := by omega
  rw [e, u32_and_nat x (x - 1) (by omega) (by omega)]
  unfold isP
  by_cases h2 : x &&& (x - 1) = 0 <;> simp [h, h2]
theorem isP_walk64 (x : Nat) (hx : x < 2 ^ 64) (h : x ≠ 0) : (((x : Int) != 0) && (bits BinOp.and IntKind.u64 (x : Int) ((x : Int) - 1) == 0)) = isP x := by
  have e : ((x : Int) - 1) = ((x - 1 : Nat) : Int) := by omega
  rw [e, u64_and_nat x (x - 1) (by omega) (by omega)]
  unfold isP
  by_cases h2 : x &&& (x - 1) = 0 <;> simp [h, h2]

theorem isPower_64 (x : Nat) (hx : x < 2 ^ 64) (w : World) :
    Calls Try.prog 32 #[.int .u64 x] w fun e w' => e = .returned (.bool (isP x)) ∧ w' = w := by
  by_cases h : x = 0
  · subst h
    go_enter Try.func32, Try.ntmps32
    go_wp2
    go_ret
    exact ⟨rfl, rfl⟩
  · have e := isP_walk64 x hx h
    have E : Hid ((((x : Int) != 0) && (bits BinOp.and IntKind.u64 (x : Int) ((x : Int) - 1) == 0)) = isP x) := e
    clear e
    go_enter Try.func32, Try.ntmps32
    go_wp2
    go_ret
    exact ⟨ret_bool E.out, rfl⟩
theorem log_64 (x : Nat) (hx : x < 2 ^ 64) (w : World) :
    Calls Try.prog 51 #[.int .u64 x] w fun e w' => e = .returned (.int .i64 (lg x)) ∧ w' = w := by
  go_enter Try.func51, Try.ntmps51
  go_wp2
  go_loop [4] (fun i => ∃ k : Nat, k ≤ 64 ∧ i = .int .i64 k ∧ Hid (∀ j, j < k → x / 2 ^ j ≠ 0)) (fun i => 64 - (intOf i).toNat)
  case atStart => exact ⟨0, by omega, rfl, fun j hj => by omega⟩
  case round =>
    obtain ⟨k, hk, rfl, hp⟩ := hrel
    by_cases hlt : k < 64
    · go_wp2
      · go_ret
        have h : ((x : Int) / 2 ^ (k) == 0) = true := by assumption
        rw [shr64 x k hx] at h
        exact ⟨ret_int (lg_first x k (Int.natCast_eq_zero.1 (eq_of_beq h)) hp.out), rfl⟩
      · have h : ((x : Int) / 2 ^ (k) == 0) = false := by assumption
        rw [shr64 x k hx] at h
        go_round
        case rel =>
          refine ⟨k + 1, by omega, by go_num, ?_⟩
          intro j hj
          by_cases e : j < k
          · exact hp.out j e
          · have : j = k := by omega
            subst this
            intro h2
            simp [h2] at h
        case measure => simp [intOf]; omega
    · go_wp2
      go_ret
      have : k = 64 := by omega
      subst this
      exact ⟨ret_int (lg_last x (by omega) hp.out), rfl⟩
theorem countF_64 (x : Nat) (hx : x < 2 ^ 64) (w : World) :
    Calls Try.prog 61 #[.int .u64 x] w fun e w' => e = .returned (.int .i64 (cntF 64 x)) ∧ w' = w := by
  go_enter Try.func61, Try.ntmps61
  go_wp2
  go_loop [3, 5] (fun c i => ∃ k n : Nat, k ≤ 64 ∧ n ≤ k ∧ i = .int .i64 k ∧ c = .int .i64 n ∧ Hid (n + cntF (64 - k) (x / 2 ^ k) = cntF 64 x)) (fun _ i => 64 - (intOf i).toNat)
  case atStart => exact ⟨0, 0, by omega, by omega, rfl, rfl, (by simp : 0 + cntF (64 - 0) (x / 2 ^ 0) = cntF 64 x)⟩
  case round =>
    obtain ⟨k, n, hk, hn, rfl, rfl, hp⟩ := hrel
    by_cases hlt : k < 64
    · go_wp2
      have hb : bits BinOp.and IntKind.u64 ((x : Int) / 2 ^ (k)) 1 = ((x / 2 ^ k % 2 : Nat) : Int) := by
        rw [shr64 x k hx]
        have hd : x / 2 ^ k < 2 ^ 64 := Nat.lt_of_le_of_lt (Nat.div_le_self _ _) hx
        have := u64_and_nat (x / 2 ^ k) 1 (by omega) (by decide)
        rw [nat_mask1] at this
        exact this
      have hc := cntF_step x k 64 hlt
      go_round
      case rel =>
        refine ⟨k + 1, n + x / 2 ^ k % 2, by omega, by omega, by go_num, ?_, ?_⟩
        · rw [hb]
          congr 1
          rw [IntWalk.wrap64_in ((x / 2 ^ k % 2 : Nat) : Int) (by omega), IntWalk.wrap64_in _ (by omega)]
          omega
        · have := hp.out
          show _ = _
          omega
      case measure => simp [intOf]; omega
    · go_wp2
      go_ret
      have : k = 64 := by omega
      subst this
      have h := hp.out
      rw [show cntF (64 - 64) (x / 2 ^ 64) = 0 from rfl] at h
      exact ⟨ret_int (by rw [← h]; rfl), rfl⟩
theorem count_64 (x : Nat) (hx : x < 2 ^ 64) (w : World) :
    Calls Try.prog 61 #[.int .u64 x] w fun e w' => e = .returned (.int .i64 (cnt x)) ∧ w' = w := by
  rw [cnt_eq 64 x (by omega)]
  exact countF_64 x hx w
theorem ceil_64 (x : Nat) (hx : x < 2 ^ 64) (w : World) :
    Calls Try.prog 33 #[.int .u64 x] w fun e w' => e = .returned (.tuple #[.int .u64 (ceilV 64 x), .bool (ceilB 64 x)]) ∧ w' = w := by
  by_cases h : x = 0
  · subst h
    go_enter Try.func33, Try.ntmps33
    go_wp2
    go_ret2
    exact ⟨rfl, rfl⟩
  · have h1 := lg_lo (x - 1)
    have h0 : 0 ≤ lg (x - 1) + 1 := by omega
    have h2 : lg (x - 1) + 1 ≤ 64 := lg_up (x - 1) 64 (by omega) (by decide)
    have e : ((x : Int) - 1) = ((x - 1 : Nat) : Int) := by omega
    go_enter Try.func33, Try.ntmps33
    go_wp2_with (go_at_call 51; refine (log_64 (x - 1) (by omega) _).mono ?_; rintro e w' ⟨rfl, rfl⟩)
    go_ret2
    have e2 : IntKind.u64.wrap (2 ^ (lg (x - 1) + 1).toNat) = ((ceilV 64 x : Nat) : Int) := by
      rw [wrap_u64]; exact ceil_val 64 x hx
    have e3 : (2 : Int) ^ (lg (x - 1) + 1).toNat % 18446744073709551616 = ((ceilV 64 x : Nat) : Int) := ceil_val 64 x hx
    refine ⟨?_, rfl⟩
    exact ret_pair e2 (by rw [e2]; exact ceil_ne 64 x)
end Go.Proofs.Ytibljocjdlgfbaa
