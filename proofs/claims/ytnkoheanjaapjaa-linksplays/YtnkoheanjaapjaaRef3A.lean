/- The document's own lists: the links; Push. -/
import Derived.Test.YtnkoheanjaapjaaLinD
import Derived.Test.YtnkoheanjaapjaaRefF
namespace Go.Proofs.Ytnkoheanjaapjaa
open Go.RowKit
set_option linter.unusedVariables false

theorem R3There_any (base R lim n cap : Nat) (ao : Option Addr) (hn : n ≤ 4194304) (hb : base + n ≤ 9223372036854775808) (p : Nat) (hp : p < 18446744073709551616) (w : World) :
    Calls Try.prog 58 #[.agg #[.int .u64 (base : Int), .int .u64 (R : Int), .int .i64 (lim : Int), .slice ao n cap], .int .u64 (p : Int)] w fun e w' => e = .returned (.bool (decide (In base n p 16))) ∧ Kept none' w w' := by
  have A := hid (RThere_any base R lim n cap ao hn hb p 16 hp (by decide))
  have HT := hid (show thereB base n p 16 = decide (In base n p 16) by
    unfold thereB
    by_cases h : In base n p 16
    · simp [h]
    · simp [h])
  rw [HT.out] at A
  clear HT
  go_enter Try.func58, Try.ntmps58
  go_wp2_with fail
  refine (A.out _).mono ?_
  rintro e w1 ⟨rfl, k1⟩
  have K1 := hid (none_trans ((Kept.refl none' w).alloc (.cells #[.int .u64 (base : Int), .int .u64 (R : Int), .int .i64 (lim : Int), .slice ao n cap] 44)) k1)
  clear k1
  go_wp2_with fail
  go_ret
  exact ⟨rfl, K1.out⟩

theorem R3Next_in (base R lim n cap h : Nat) (f : Nat → Nat) (hn : n ≤ 4194304) (hbn : base + n ≤ 9223372036854775808) (p : Nat) (hp : p < 18446744073709551616) (w : World) (H : MemAt w h n cap f) (hin : In base n p 16) :
    Calls Try.prog 60 #[.agg #[.int .u64 (base : Int), .int .u64 (R : Int), .int .i64 (lim : Int), .slice (some ⟨h, 0, none⟩) n cap], .int .u64 (p : Int)] w fun e w' => e = .returned (.int .u64 (nx base f p : Int)) ∧ Kept none' w w' := by
  have A := hid (fun w' (kk : Kept none' w w') => RWord_in base R lim n cap h f hn p hp w' (H.keep kk) hbn (by unfold In at hin ⊢; omega))
  rw [show word f (p - base) = nx base f p from rfl] at A
  generalize nx base f p = x at *
  clear H hin
  go_enter Try.func60, Try.ntmps60
  go_wp2_with fail
  refine (A.out _ ((Kept.refl none' w).alloc _)).mono ?_
  rintro e w1 ⟨rfl, k1⟩
  have K1 := hid (none_trans ((Kept.refl none' w).alloc (.cells #[.int .u64 (base : Int), .int .u64 (R : Int), .int .i64 (lim : Int), .slice (some ⟨h, 0, none⟩) n cap] 44)) k1)
  clear k1
  go_wp2_with fail
  go_ret
  exact ⟨rfl, K1.out⟩
theorem R3Prev_in (base R lim n cap h : Nat) (f : Nat → Nat) (hn : n ≤ 4194304) (hbn : base + n ≤ 9223372036854775808) (p : Nat) (hp : p < 18446744073709551616) (w : World) (H : MemAt w h n cap f) (hin : In base n p 16) :
    Calls Try.prog 59 #[.agg #[.int .u64 (base : Int), .int .u64 (R : Int), .int .i64 (lim : Int), .slice (some ⟨h, 0, none⟩) n cap], .int .u64 (p : Int)] w fun e w' => e = .returned (.int .u64 (pv base f p : Int)) ∧ Kept none' w w' := by
  have hp8 : p + 8 < 18446744073709551616 := by unfold In at hin; omega
  have A := hid (fun w' (kk : Kept none' w w') => RWord_in base R lim n cap h f hn (p + 8) hp8 w' (H.keep kk) hbn (by unfold In at hin ⊢; omega))
  rw [show word f (p + 8 - base) = pv base f p from rfl, show ((p + 8 : Nat) : Int) = (p : Int) + 8 by omega] at A
  generalize pv base f p = x at *
  clear H hin
  go_enter Try.func59, Try.ntmps59
  go_wp2_with fail
  refine (A.out _ ((Kept.refl none' w).alloc _)).mono ?_
  rintro e w1 ⟨rfl, k1⟩
  have K1 := hid (none_trans ((Kept.refl none' w).alloc (.cells #[.int .u64 (base : Int), .int .u64 (R : Int), .int .i64 (lim : Int), .slice (some ⟨h, 0, none⟩) n cap] 44)) k1)
  clear k1
  go_wp2_with fail
  go_ret
  exact ⟨rfl, K1.out⟩
end Go.Proofs.Ytnkoheanjaapjaa
