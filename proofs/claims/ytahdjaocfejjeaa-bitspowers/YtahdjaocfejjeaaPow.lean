/- BitsPowers: the walks of powers[T] and of the law itself. -/
import Derived.Test.YtahdjaocfejjeaaRef
namespace Go.Proofs.Ytahdjaocfejjeaa
open Go.RowKit
set_option linter.unusedVariables false

theorem powers_8 (x : Nat) (hx : x < 2 ^ 64) (w : World) :
    Calls Try.prog 29 #[.int .u64 x, .int .i64 8] w fun e w' => e = .returned (.bool true) ∧ w' = w := by
  obtain ⟨y, hy⟩ : ∃ y, y = x % 2 ^ 8 := ⟨_, rfl⟩
  have hyb : y < 2 ^ 8 := by omega
  have hc : ∀ w, Calls Try.prog 49 #[.int .u64 x, .int .i64 8] w fun e w' => e = .returned (.int .u64 y) ∧ w' = w := by
    intro w; have := cut_8 x hx w; rw [← hy] at this; exact this
  have h1 : ∀ w, Calls Try.prog 50 #[.int .u64 y, .int .i64 8] w fun e w' => e = .returned (.bool (isP y)) ∧ w' = w := fun w => refIsPower y 8 hyb (by decide) w
  have h2 : ∀ w, Calls Try.prog 51 #[.int .u64 y, .int .i64 8] w fun e w' => e = .returned (.int .i64 (lg y)) ∧ w' = w := fun w => refLog y 8 hyb (by decide) w
  have h3 : ∀ w, Calls Try.prog 53 #[.int .u64 y, .int .i64 8] w fun e w' => e = .returned (.tuple #[.int .u64 (ceilV 8 y), .bool (ceilB 8 y)]) ∧ w' = w := fun w => refCeil y 8 hyb (by decide) w
  have hlt := ceilV_lt 8 y
  have hcv : (x : Int) % 256 = (y : Int) := by omega
  have Hc := hid hc
  have H1 := hid h1
  have H2 := hid h2
  have H3 := hid h3
  clear hc h1 h2 h3 hy
  go_enter Try.func29, Try.ntmps29
  go_wp2_with (first | (go_at_call 49; refine (Hc.out _).mono ?_; rintro e w' ⟨rfl, rfl⟩) | (go_at_call 50; refine (H1.out _).mono ?_; rintro e w' ⟨rfl, rfl⟩) | (go_at_call 51; refine (H2.out _).mono ?_; rintro e w' ⟨rfl, rfl⟩) | (go_at_call 53; refine (H3.out _).mono ?_; rintro e w' ⟨rfl, rfl⟩) | (go_at_call 52; refine (refCount y (by omega) _).mono ?_; rintro e w' ⟨rfl, rfl⟩) | (go_at_call 11; refine (isPower_8 y hyb _).mono ?_; rintro e w' ⟨rfl, rfl⟩) | (go_at_call 45; refine (log_8 y hyb _).mono ?_; rintro e w' ⟨rfl, rfl⟩) | (go_at_call 16; refine (count_8 y hyb _).mono ?_; rintro e w' ⟨rfl, rfl⟩) | (go_at_call 9; refine (ceil_8 y hyb _).mono ?_; rintro e w' ⟨rfl, rfl⟩))
  go_ret
  exact ⟨rfl, rfl⟩
theorem powers_16 (x : Nat) (hx : x < 2 ^ 64) (w : World) :
    Calls Try.prog 30 #[.int .u64 x, .int .i64 16] w fun e w' => e = .returned (.bool true) ∧ w' = w := by
  obtain ⟨y, hy⟩ : ∃ y, y = x % 2 ^ 16 := ⟨_, rfl⟩
  have hyb : y < 2 ^ 16 := by omega
  have hc : ∀ w, Calls Try.prog 49 #[.int .u64 x, .int .i64 16] w fun e w' => e = .returned (.int .u64 y) ∧ w' = w := by
    intro w; have := cut_16 x hx w; rw [← hy] at this; exact this
  have h1 : ∀ w, Calls Try.prog 50 #[.int .u64 y, .int .i64 16] w fun e w' => e = .returned (.bool (isP y)) ∧ w' = w := fun w => refIsPower y 16 hyb (by decide) w
  have h2 : ∀ w, Calls Try.prog 51 #[.int .u64 y, .int .i64 16] w fun e w' => e = .returned (.int .i64 (lg y)) ∧ w' = w := fun w => refLog y 16 hyb (by decide) w
  have h3 : ∀ w, Calls Try.prog 53 #[.int .u64 y, .int .i64 16] w fun e w' => e = .returned (.tuple #[.int .u64 (ceilV 16 y), .bool (ceilB 16 y)]) ∧ w' = w := fun w => refCeil y 16 hyb (by decide) w
  have hlt := ceilV_lt 16 y
  have hcv : IntKind.u16.wrap (x : Int) = (y : Int) := by rw [wrap_u16]; omega
  have Hc := hid hc
  have H1 := hid h1
  have H2 := hid h2
  have H3 := hid h3
  clear hc h1 h2 h3 hy
  go_enter Try.func30, Try.ntmps30
  go_wp2_with (first | (go_at_call 49; refine (Hc.out _).mono ?_; rintro e w' ⟨rfl, rfl⟩) | (go_at_call 50; refine (H1.out _).mono ?_; rintro e w' ⟨rfl, rfl⟩) | (go_at_call 51; refine (H2.out _).mono ?_; rintro e w' ⟨rfl, rfl⟩) | (go_at_call 53; refine (H3.out _).mono ?_; rintro e w' ⟨rfl, rfl⟩) | (go_at_call 52; refine (refCount y (by omega) _).mono ?_; rintro e w' ⟨rfl, rfl⟩) | (go_at_call 54; refine (isPower_16 y hyb _).mono ?_; rintro e w' ⟨rfl, rfl⟩) | (go_at_call 13; refine (log_16 y hyb _).mono ?_; rintro e w' ⟨rfl, rfl⟩) | (go_at_call 55; refine (count_16 y hyb _).mono ?_; rintro e w' ⟨rfl, rfl⟩) | (go_at_call 12; refine (ceil_16 y hyb _).mono ?_; rintro e w' ⟨rfl, rfl⟩))
  go_ret
  exact ⟨rfl, rfl⟩
theorem powers_32 (x : Nat) (hx : x < 2 ^ 64) (w : World) :
    Calls Try.prog 31 #[.int .u64 x, .int .i64 32] w fun e w' => e = .returned (.bool true) ∧ w' = w := by
  obtain ⟨y, hy⟩ : ∃ y, y = x % 2 ^ 32 := ⟨_, rfl⟩
  have hyb : y < 2 ^ 32 := by omega
  have hc : ∀ w, Calls Try.prog 49 #[.int .u64 x, .int .i64 32] w fun e w' => e = .returned (.int .u64 y) ∧ w' = w := by
    intro w; have := cut_32 x hx w; rw [← hy] at this; exact this
  have h1 : ∀ w, Calls Try.prog 50 #[.int .u64 y, .int .i64 32] w fun e w' => e = .returned (.bool (isP y)) ∧ w' = w := fun w => refIsPower y 32 hyb (by decide) w
  have h2 : ∀ w, Calls Try.prog 51 #[.int .u64 y, .int .i64 32] w fun e w' => e = .returned (.int .i64 (lg y)) ∧ w' = w := fun w => refLog y 32 hyb (by decide) w
  have h3 : ∀ w, Calls Try.prog 53 #[.int .u64 y, .int .i64 32] w fun e w' => e = .returned (.tuple #[.int .u64 (ceilV 32 y), .bool (ceilB 32 y)]) ∧ w' = w := fun w => refCeil y 32 hyb (by decide) w
  have hlt := ceilV_lt 32 y
  have hcv : (x : Int) % 4294967296 = (y : Int) := by omega
  have Hc := hid hc
  have H1 := hid h1
  have H2 := hid h2
  have H3 := hid h3
  clear hc h1 h2 h3 hy
  go_enter Try.func31, Try.ntmps31
  go_wp2_with (first | (go_at_call 49; refine (Hc.out _).mono ?_; rintro e w' ⟨rfl, rfl⟩) | (go_at_call 50; refine (H1.out _).mono ?_; rintro e w' ⟨rfl, rfl⟩) | (go_at_call 51; refine (H2.out _).mono ?_; rintro e w' ⟨rfl, rfl⟩) | (go_at_call 53; refine (H3.out _).mono ?_; rintro e w' ⟨rfl, rfl⟩) | (go_at_call 52; refine (refCount y (by omega) _).mono ?_; rintro e w' ⟨rfl, rfl⟩) | (go_at_call 56; refine (isPower_32 y hyb _).mono ?_; rintro e w' ⟨rfl, rfl⟩) | (go_at_call 57; refine (log_32 y hyb _).mono ?_; rintro e w' ⟨rfl, rfl⟩) | (go_at_call 58; refine (count_32 y hyb _).mono ?_; rintro e w' ⟨rfl, rfl⟩) | (go_at_call 59; refine (ceil_32 y hyb _).mono ?_; rintro e w' ⟨rfl, rfl⟩))
  go_ret
  exact ⟨rfl, rfl⟩
theorem powers_64 (x : Nat) (hx : x < 2 ^ 64) (w : World) :
    Calls Try.prog 32 #[.int .u64 x, .int .i64 64] w fun e w' => e = .returned (.bool true) ∧ w' = w := by
  obtain ⟨y, hy⟩ : ∃ y, y = x % 2 ^ 64 := ⟨_, rfl⟩
  have hyb : y < 2 ^ 64 := by omega
  have hc : ∀ w, Calls Try.prog 49 #[.int .u64 x, .int .i64 64] w fun e w' => e = .returned (.int .u64 y) ∧ w' = w := by
    intro w; have := cut_64 x hx w; rw [← hy] at this; exact this
  have h1 : ∀ w, Calls Try.prog 50 #[.int .u64 y, .int .i64 64] w fun e w' => e = .returned (.bool (isP y)) ∧ w' = w := fun w => refIsPower y 64 hyb (by decide) w
  have h2 : ∀ w, Calls Try.prog 51 #[.int .u64 y, .int .i64 64] w fun e w' => e = .returned (.int .i64 (lg y)) ∧ w' = w := fun w => refLog y 64 hyb (by decide) w
  have h3 : ∀ w, Calls Try.prog 53 #[.int .u64 y, .int .i64 64] w fun e w' => e = .returned (.tuple #[.int .u64 (ceilV 64 y), .bool (ceilB 64 y)]) ∧ w' = w := fun w => refCeil y 64 hyb (by decide) w
  have hlt := ceilV_lt 64 y
  obtain rfl : y = x := by omega
  have Hc := hid hc
  have H1 := hid h1
  have H2 := hid h2
  have H3 := hid h3
  clear hc h1 h2 h3 hy
  go_enter Try.func32, Try.ntmps32
  go_wp2_with (first | (go_at_call 49; refine (Hc.out _).mono ?_; rintro e w' ⟨rfl, rfl⟩) | (go_at_call 50; refine (H1.out _).mono ?_; rintro e w' ⟨rfl, rfl⟩) | (go_at_call 51; refine (H2.out _).mono ?_; rintro e w' ⟨rfl, rfl⟩) | (go_at_call 53; refine (H3.out _).mono ?_; rintro e w' ⟨rfl, rfl⟩) | (go_at_call 52; refine (refCount y (by omega) _).mono ?_; rintro e w' ⟨rfl, rfl⟩) | (go_at_call 60; refine (isPower_64 y hyb _).mono ?_; rintro e w' ⟨rfl, rfl⟩) | (go_at_call 47; refine (log_64 y hyb _).mono ?_; rintro e w' ⟨rfl, rfl⟩) | (go_at_call 17; refine (count_64 y hyb _).mono ?_; rintro e w' ⟨rfl, rfl⟩) | (go_at_call 61; refine (ceil_64 y hyb _).mono ?_; rintro e w' ⟨rfl, rfl⟩))
  go_ret
  exact ⟨rfl, rfl⟩
theorem powers_s (x : Nat) (hx : x < 2 ^ 64) (w : World) :
    Calls Try.prog 33 #[.int .u64 x, .int .i64 8] w fun e w' => e = .returned (.bool true) ∧ w' = w := by
  obtain ⟨y, hy⟩ : ∃ y, y = x % 2 ^ 8 := ⟨_, rfl⟩
  have hyb : y < 2 ^ 8 := by omega
  have hc : ∀ w, Calls Try.prog 49 #[.int .u64 x, .int .i64 8] w fun e w' => e = .returned (.int .u64 y) ∧ w' = w := by
    intro w; have := cut_8 x hx w; rw [← hy] at this; exact this
  have h1 : ∀ w, Calls Try.prog 50 #[.int .u64 y, .int .i64 8] w fun e w' => e = .returned (.bool (isP y)) ∧ w' = w := fun w => refIsPower y 8 hyb (by decide) w
  have h2 : ∀ w, Calls Try.prog 51 #[.int .u64 y, .int .i64 8] w fun e w' => e = .returned (.int .i64 (lg y)) ∧ w' = w := fun w => refLog y 8 hyb (by decide) w
  have h3 : ∀ w, Calls Try.prog 53 #[.int .u64 y, .int .i64 8] w fun e w' => e = .returned (.tuple #[.int .u64 (ceilV 8 y), .bool (ceilB 8 y)]) ∧ w' = w := fun w => refCeil y 8 hyb (by decide) w
  have hlt := ceilV_lt 8 y
  have hcv : (x : Int) % 256 = (y : Int) := by omega
  have Hc := hid hc
  have H1 := hid h1
  have H2 := hid h2
  have H3 := hid h3
  clear hc h1 h2 h3 hy
  go_enter Try.func33, Try.ntmps33
  go_wp2_with (first | (go_at_call 49; refine (Hc.out _).mono ?_; rintro e w' ⟨rfl, rfl⟩) | (go_at_call 50; refine (H1.out _).mono ?_; rintro e w' ⟨rfl, rfl⟩) | (go_at_call 51; refine (H2.out _).mono ?_; rintro e w' ⟨rfl, rfl⟩) | (go_at_call 53; refine (H3.out _).mono ?_; rintro e w' ⟨rfl, rfl⟩) | (go_at_call 52; refine (refCount y (by omega) _).mono ?_; rintro e w' ⟨rfl, rfl⟩) | (go_at_call 62; refine (isPower_s y hyb _).mono ?_; rintro e w' ⟨rfl, rfl⟩) | (go_at_call 63; refine (log_s y hyb _).mono ?_; rintro e w' ⟨rfl, rfl⟩) | (go_at_call 64; refine (count_s y hyb _).mono ?_; rintro e w' ⟨rfl, rfl⟩) | (go_at_call 65; refine (ceil_s y hyb _).mono ?_; rintro e w' ⟨rfl, rfl⟩))
  go_ret
  exact ⟨rfl, rfl⟩
theorem powers_w (x : Nat) (hx : x < 2 ^ 64) (w : World) :
    Calls Try.prog 34 #[.int .u64 x, .int .i64 64] w fun e w' => e = .returned (.bool true) ∧ w' = w := by
  obtain ⟨y, hy⟩ : ∃ y, y = x % 2 ^ 64 := ⟨_, rfl⟩
  have hyb : y < 2 ^ 64 := by omega
  have hc : ∀ w, Calls Try.prog 49 #[.int .u64 x, .int .i64 64] w fun e w' => e = .returned (.int .u64 y) ∧ w' = w := by
    intro w; have := cut_64 x hx w; rw [← hy] at this; exact this
  have h1 : ∀ w, Calls Try.prog 50 #[.int .u64 y, .int .i64 64] w fun e w' => e = .returned (.bool (isP y)) ∧ w' = w := fun w => refIsPower y 64 hyb (by decide) w
  have h2 : ∀ w, Calls Try.prog 51 #[.int .u64 y, .int .i64 64] w fun e w' => e = .returned (.int .i64 (lg y)) ∧ w' = w := fun w => refLog y 64 hyb (by decide) w
  have h3 : ∀ w, Calls Try.prog 53 #[.int .u64 y, .int .i64 64] w fun e w' => e = .returned (.tuple #[.int .u64 (ceilV 64 y), .bool (ceilB 64 y)]) ∧ w' = w := fun w => refCeil y 64 hyb (by decide) w
  have hlt := ceilV_lt 64 y
  obtain rfl : y = x := by omega
  have Hc := hid hc
  have H1 := hid h1
  have H2 := hid h2
  have H3 := hid h3
  clear hc h1 h2 h3 hy
  go_enter Try.func34, Try.ntmps34
  go_wp2_with (first | (go_at_call 49; refine (Hc.out _).mono ?_; rintro e w' ⟨rfl, rfl⟩) | (go_at_call 50; refine (H1.out _).mono ?_; rintro e w' ⟨rfl, rfl⟩) | (go_at_call 51; refine (H2.out _).mono ?_; rintro e w' ⟨rfl, rfl⟩) | (go_at_call 53; refine (H3.out _).mono ?_; rintro e w' ⟨rfl, rfl⟩) | (go_at_call 52; refine (refCount y (by omega) _).mono ?_; rintro e w' ⟨rfl, rfl⟩) | (go_at_call 66; refine (isPower_w y hyb _).mono ?_; rintro e w' ⟨rfl, rfl⟩) | (go_at_call 67; refine (log_w y hyb _).mono ?_; rintro e w' ⟨rfl, rfl⟩) | (go_at_call 68; refine (count_w y hyb _).mono ?_; rintro e w' ⟨rfl, rfl⟩) | (go_at_call 69; refine (ceil_w y hyb _).mono ?_; rintro e w' ⟨rfl, rfl⟩))
  go_ret
  exact ⟨rfl, rfl⟩
theorem bitsPowers (x : Nat) (hx : x < 2 ^ 64) (w : World) :
    Calls Try.prog 4 #[.int .u64 x] w fun e w' => e = .returned (.bool true) ∧ w' = w := by
  go_enter Try.func4, Try.ntmps4
  go_wp2_with (first | (go_at_call 29; refine (powers_8 x hx _).mono ?_; rintro e w' ⟨rfl, rfl⟩) | (go_at_call 30; refine (powers_16 x hx _).mono ?_; rintro e w' ⟨rfl, rfl⟩) | (go_at_call 31; refine (powers_32 x hx _).mono ?_; rintro e w' ⟨rfl, rfl⟩) | (go_at_call 32; refine (powers_64 x hx _).mono ?_; rintro e w' ⟨rfl, rfl⟩) | (go_at_call 33; refine (powers_s x hx _).mono ?_; rintro e w' ⟨rfl, rfl⟩) | (go_at_call 34; refine (powers_w x hx _).mono ?_; rintro e w' ⟨rfl, rfl⟩))
  go_ret
  exact ⟨rfl, rfl⟩
end Go.Proofs.Ytahdjaocfejjeaa
