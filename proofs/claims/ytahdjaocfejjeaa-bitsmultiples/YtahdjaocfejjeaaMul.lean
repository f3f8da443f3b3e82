/- BitsMultiples: the walks of multiples[T] and of the law itself. -/
import Derived.Test.YtahdjaocfejjeaaRef
namespace Go.Proofs.Ytahdjaocfejjeaa
open Go.RowKit
set_option linter.unusedVariables false

theorem multiples_8 (x a : Nat) (hx : x < 2 ^ 64) (ha : a < 2 ^ 64) (w : World) :
    Calls Try.prog 35 #[.int .u64 x, .int .u64 a, .int .i64 8] w fun e w' => e = .returned (.bool true) ∧ w' = w := by
  obtain ⟨y, hy⟩ : ∃ y, y = x % 2 ^ 8 := ⟨_, rfl⟩
  obtain ⟨b, hb⟩ : ∃ b, b = a % 2 ^ 8 := ⟨_, rfl⟩
  have hyb : y < 2 ^ 8 := by omega
  have hbb : b < 2 ^ 8 := by omega
  have h1 : ∀ w, Calls Try.prog 71 #[.int .u64 y, .int .u64 b, .int .i64 8] w fun e w' => e = .returned (.tuple #[.int .u64 (downV y b), .bool (isP b)]) ∧ w' = w := fun w => refDown y b 8 hyb hbb (by decide) w
  have hdl : downV y b < 2 ^ 8 := Nat.lt_of_le_of_lt (downV_le y b) hyb
  have hul := upV_lt 8 y b hyb
  have hcv : (x : Int) % 256 = (y : Int) := by omega
  have hcw : (a : Int) % 256 = (b : Int) := by omega
  have HY := hid hy
  have HB := hid hb
  have H1 := hid h1
  clear h1 hy hb
  go_enter Try.func35, Try.ntmps35
  go_wp2_with (first | (go_at_call 49; refine (cutR_8 _ _ (by assumption) (by assumption) _).mono ?_; rintro e w' ⟨rfl, rfl⟩) | (go_at_call 71; refine (H1.out _).mono ?_; rintro e w' ⟨rfl, rfl⟩) | (go_at_call 70; refine (refUp_8 y b hyb hbb _).mono ?_; rintro e w' ⟨rfl, rfl⟩) | (go_at_call 14; refine (up_8 y b hyb hbb _).mono ?_; rintro e w' ⟨rfl, rfl⟩) | (go_at_call 15; refine (down_8 y b hyb hbb _).mono ?_; rintro e w' ⟨rfl, rfl⟩))
  go_ret
  exact ⟨rfl, rfl⟩
theorem multiples_16 (x a : Nat) (hx : x < 2 ^ 64) (ha : a < 2 ^ 64) (w : World) :
    Calls Try.prog 36 #[.int .u64 x, .int .u64 a, .int .i64 16] w fun e w' => e = .returned (.bool true) ∧ w' = w := by
  obtain ⟨y, hy⟩ : ∃ y, y = x % 2 ^ 16 := ⟨_, rfl⟩
  obtain ⟨b, hb⟩ : ∃ b, b = a % 2 ^ 16 := ⟨_, rfl⟩
  have hyb : y < 2 ^ 16 := by omega
  have hbb : b < 2 ^ 16 := by omega
  have h1 : ∀ w, Calls Try.prog 71 #[.int .u64 y, .int .u64 b, .int .i64 16] w fun e w' => e = .returned (.tuple #[.int .u64 (downV y b), .bool (isP b)]) ∧ w' = w := fun w => refDown y b 16 hyb hbb (by decide) w
  have hdl : downV y b < 2 ^ 16 := Nat.lt_of_le_of_lt (downV_le y b) hyb
  have hul := upV_lt 16 y b hyb
  have hcv : IntKind.u16.wrap (x : Int) = (y : Int) := by rw [wrap_u16]; omega
  have hcw : IntKind.u16.wrap (a : Int) = (b : Int) := by rw [wrap_u16]; omega
  have HY := hid hy
  have HB := hid hb
  have H1 := hid h1
  clear h1 hy hb
  go_enter Try.func36, Try.ntmps36
  go_wp2_with (first | (go_at_call 49; refine (cutR_16 _ _ (by assumption) (by assumption) _).mono ?_; rintro e w' ⟨rfl, rfl⟩) | (go_at_call 71; refine (H1.out _).mono ?_; rintro e w' ⟨rfl, rfl⟩) | (go_at_call 70; refine (refUp_16 y b hyb hbb _).mono ?_; rintro e w' ⟨rfl, rfl⟩) | (go_at_call 72; refine (up_16 y b hyb hbb _).mono ?_; rintro e w' ⟨rfl, rfl⟩) | (go_at_call 73; refine (down_16 y b hyb hbb _).mono ?_; rintro e w' ⟨rfl, rfl⟩))
  go_ret
  exact ⟨rfl, rfl⟩
theorem multiples_32 (x a : Nat) (hx : x < 2 ^ 64) (ha : a < 2 ^ 64) (w : World) :
    Calls Try.prog 37 #[.int .u64 x, .int .u64 a, .int .i64 32] w fun e w' => e = .returned (.bool true) ∧ w' = w := by
  obtain ⟨y, hy⟩ : ∃ y, y = x % 2 ^ 32 := ⟨_, rfl⟩
  obtain ⟨b, hb⟩ : ∃ b, b = a % 2 ^ 32 := ⟨_, rfl⟩
  have hyb : y < 2 ^ 32 := by omega
  have hbb : b < 2 ^ 32 := by omega
  have h1 : ∀ w, Calls Try.prog 71 #[.int .u64 y, .int .u64 b, .int .i64 32] w fun e w' => e = .returned (.tuple #[.int .u64 (downV y b), .bool (isP b)]) ∧ w' = w := fun w => refDown y b 32 hyb hbb (by decide) w
  have hdl : downV y b < 2 ^ 32 := Nat.lt_of_le_of_lt (downV_le y b) hyb
  have hul := upV_lt 32 y b hyb
  have hcv : (x : Int) % 4294967296 = (y : Int) := by omega
  have hcw : (a : Int) % 4294967296 = (b : Int) := by omega
  have HY := hid hy
  have HB := hid hb
  have H1 := hid h1
  clear h1 hy hb
  go_enter Try.func37, Try.ntmps37
  go_wp2_with (first | (go_at_call 49; refine (cutR_32 _ _ (by assumption) (by assumption) _).mono ?_; rintro e w' ⟨rfl, rfl⟩) | (go_at_call 71; refine (H1.out _).mono ?_; rintro e w' ⟨rfl, rfl⟩) | (go_at_call 70; refine (refUp_32 y b hyb hbb _).mono ?_; rintro e w' ⟨rfl, rfl⟩) | (go_at_call 74; refine (up_32 y b hyb hbb _).mono ?_; rintro e w' ⟨rfl, rfl⟩) | (go_at_call 75; refine (down_32 y b hyb hbb _).mono ?_; rintro e w' ⟨rfl, rfl⟩))
  go_ret
  exact ⟨rfl, rfl⟩
theorem multiples_64 (x a : Nat) (hx : x < 2 ^ 64) (ha : a < 2 ^ 64) (w : World) :
    Calls Try.prog 38 #[.int .u64 x, .int .u64 a, .int .i64 64] w fun e w' => e = .returned (.bool true) ∧ w' = w := by
  obtain ⟨y, hy⟩ : ∃ y, y = x % 2 ^ 64 := ⟨_, rfl⟩
  obtain ⟨b, hb⟩ : ∃ b, b = a % 2 ^ 64 := ⟨_, rfl⟩
  have hyb : y < 2 ^ 64 := by omega
  have hbb : b < 2 ^ 64 := by omega
  have h1 : ∀ w, Calls Try.prog 71 #[.int .u64 y, .int .u64 b, .int .i64 64] w fun e w' => e = .returned (.tuple #[.int .u64 (downV y b), .bool (isP b)]) ∧ w' = w := fun w => refDown y b 64 hyb hbb (by decide) w
  have hdl : downV y b < 2 ^ 64 := Nat.lt_of_le_of_lt (downV_le y b) hyb
  have hul := upV_lt 64 y b hyb
  obtain rfl : y = x := by omega
  obtain rfl : b = a := by omega
  have HY := hid hy
  have HB := hid hb
  have H1 := hid h1
  clear h1 hy hb
  go_enter Try.func38, Try.ntmps38
  go_wp2_with (first | (go_at_call 49; refine (cutR_64 _ _ (by assumption) (by assumption) _).mono ?_; rintro e w' ⟨rfl, rfl⟩) | (go_at_call 71; refine (H1.out _).mono ?_; rintro e w' ⟨rfl, rfl⟩) | (go_at_call 70; refine (refUp_64 y b hyb hbb _).mono ?_; rintro e w' ⟨rfl, rfl⟩) | (go_at_call 76; refine (up_64 y b hyb hbb _).mono ?_; rintro e w' ⟨rfl, rfl⟩) | (go_at_call 77; refine (down_64 y b hyb hbb _).mono ?_; rintro e w' ⟨rfl, rfl⟩))
  go_ret
  exact ⟨rfl, rfl⟩
theorem multiples_s (x a : Nat) (hx : x < 2 ^ 64) (ha : a < 2 ^ 64) (w : World) :
    Calls Try.prog 39 #[.int .u64 x, .int .u64 a, .int .i64 8] w fun e w' => e = .returned (.bool true) ∧ w' = w := by
  obtain ⟨y, hy⟩ : ∃ y, y = x % 2 ^ 8 := ⟨_, rfl⟩
  obtain ⟨b, hb⟩ : ∃ b, b = a % 2 ^ 8 := ⟨_, rfl⟩
  have hyb : y < 2 ^ 8 := by omega
  have hbb : b < 2 ^ 8 := by omega
  have h1 : ∀ w, Calls Try.prog 71 #[.int .u64 y, .int .u64 b, .int .i64 8] w fun e w' => e = .returned (.tuple #[.int .u64 (downV y b), .bool (isP b)]) ∧ w' = w := fun w => refDown y b 8 hyb hbb (by decide) w
  have hdl : downV y b < 2 ^ 8 := Nat.lt_of_le_of_lt (downV_le y b) hyb
  have hul := upV_lt 8 y b hyb
  have hcv : (x : Int) % 256 = (y : Int) := by omega
  have hcw : (a : Int) % 256 = (b : Int) := by omega
  have HY := hid hy
  have HB := hid hb
  have H1 := hid h1
  clear h1 hy hb
  go_enter Try.func39, Try.ntmps39
  go_wp2_with (first | (go_at_call 49; refine (cutR_8 _ _ (by assumption) (by assumption) _).mono ?_; rintro e w' ⟨rfl, rfl⟩) | (go_at_call 71; refine (H1.out _).mono ?_; rintro e w' ⟨rfl, rfl⟩) | (go_at_call 70; refine (refUp_8 y b hyb hbb _).mono ?_; rintro e w' ⟨rfl, rfl⟩) | (go_at_call 78; refine (up_s y b hyb hbb _).mono ?_; rintro e w' ⟨rfl, rfl⟩) | (go_at_call 79; refine (down_s y b hyb hbb _).mono ?_; rintro e w' ⟨rfl, rfl⟩))
  go_ret
  exact ⟨rfl, rfl⟩
theorem multiples_w (x a : Nat) (hx : x < 2 ^ 64) (ha : a < 2 ^ 64) (w : World) :
    Calls Try.prog 40 #[.int .u64 x, .int .u64 a, .int .i64 64] w fun e w' => e = .returned (.bool true) ∧ w' = w := by
  obtain ⟨y, hy⟩ : ∃ y, y = x % 2 ^ 64 := ⟨_, rfl⟩
  obtain ⟨b, hb⟩ : ∃ b, b = a % 2 ^ 64 := ⟨_, rfl⟩
  have hyb : y < 2 ^ 64 := by omega
  have hbb : b < 2 ^ 64 := by omega
  have h1 : ∀ w, Calls Try.prog 71 #[.int .u64 y, .int .u64 b, .int .i64 64] w fun e w' => e = .returned (.tuple #[.int .u64 (downV y b), .bool (isP b)]) ∧ w' = w := fun w => refDown y b 64 hyb hbb (by decide) w
  have hdl : downV y b < 2 ^ 64 := Nat.lt_of_le_of_lt (downV_le y b) hyb
  have hul := upV_lt 64 y b hyb
  obtain rfl : y = x := by omega
  obtain rfl : b = a := by omega
  have HY := hid hy
  have HB := hid hb
  have H1 := hid h1
  clear h1 hy hb
  go_enter Try.func40, Try.ntmps40
  go_wp2_with (first | (go_at_call 49; refine (cutR_64 _ _ (by assumption) (by assumption) _).mono ?_; rintro e w' ⟨rfl, rfl⟩) | (go_at_call 71; refine (H1.out _).mono ?_; rintro e w' ⟨rfl, rfl⟩) | (go_at_call 70; refine (refUp_64 y b hyb hbb _).mono ?_; rintro e w' ⟨rfl, rfl⟩) | (go_at_call 80; refine (up_w y b hyb hbb _).mono ?_; rintro e w' ⟨rfl, rfl⟩) | (go_at_call 81; refine (down_w y b hyb hbb _).mono ?_; rintro e w' ⟨rfl, rfl⟩))
  go_ret
  exact ⟨rfl, rfl⟩
theorem bitsMultiples (x a : Nat) (hx : x < 2 ^ 64) (ha : a < 2 ^ 64) (w : World) :
    Calls Try.prog 5 #[.int .u64 x, .int .u64 a] w fun e w' => e = .returned (.bool true) ∧ w' = w := by
  go_enter Try.func5, Try.ntmps5
  go_wp2_with (first | (go_at_call 35; refine (multiples_8 x a hx ha _).mono ?_; rintro e w' ⟨rfl, rfl⟩) | (go_at_call 36; refine (multiples_16 x a hx ha _).mono ?_; rintro e w' ⟨rfl, rfl⟩) | (go_at_call 37; refine (multiples_32 x a hx ha _).mono ?_; rintro e w' ⟨rfl, rfl⟩) | (go_at_call 38; refine (multiples_64 x a hx ha _).mono ?_; rintro e w' ⟨rfl, rfl⟩) | (go_at_call 39; refine (multiples_s x a hx ha _).mono ?_; rintro e w' ⟨rfl, rfl⟩) | (go_at_call 40; refine (multiples_w x a hx ha _).mono ?_; rintro e w' ⟨rfl, rfl⟩))
  go_ret
  exact ⟨rfl, rfl⟩
end Go.Proofs.Ytahdjaocfejjeaa
