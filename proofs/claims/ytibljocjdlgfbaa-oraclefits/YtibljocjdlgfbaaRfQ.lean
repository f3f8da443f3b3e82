/- croftref11.Stuck. -/
import Derived.Test.YtibljocjdlgfbaaRfP
namespace Go.Proofs.Ytibljocjdlgfbaa
open Go.RowKit
set_option linter.unusedVariables false

set_option maxRecDepth 8000 in
theorem refStuck (base : Nat) (hb64 : base < 18446744073709551616) (lim ord n : Int) (hl1 : -9223372036854775808 ≤ lim) (hl2 : lim ≤ 9223372036854775807) (ho1 : -9223372036854775808 ≤ ord) (ho2 : ord ≤ 9223372036854775807) (v : Value) (l : Bls) (r : Nat) (hr : r < 2 ^ 64) (dn : Bool) (w : World) (hbl : BL w v l) :
    Calls Try.prog 25 #[cfgV base lim ord, .int .i64 n, v, .int .u64 (r : Int), .bool dn] w fun e w' => e = .returned (.bool (stkV base lim ord n l r dn)) ∧ Kept none' w w' := by
  have NF := hid (fun W h => refNoFit base hb64 lim ord n hl1 hl2 ho1 ho2 v l r hr W h)
  have C0 := hid (show CR (w.alloc (.cells #[.int .u64 (base : Int), .int .i64 lim, .int .i64 ord] 42)) w.heap.size base lim ord from heap_new w _)
  have K0 := hid (show Kept none' w (w.alloc (.cells #[.int .u64 (base : Int), .int .i64 lim, .int .i64 ord] 42)) from (Kept.refl _ w).alloc _)
  have BL0 := hid (hbl.keep K0.out)
  have hnl : nofV base lim ord n l r = true → n ≤ lim := fun h => by
    simp only [nofV, mayR, Bool.and_eq_true, decide_eq_true_eq] at h
    exact h.1.1.1.2
  obtain ⟨nf, hnf⟩ : ∃ nf, nf = nofV base lim ord n l r := ⟨_, rfl⟩
  have E := hid (show stkV base lim ord n l r dn = ((dn || n == lim) && nf) by rw [hnf]; rfl)
  rw [← hnf] at NF hnl
  clear hbl hnf
  go_enter Try.func25, Try.ntmps25
  go_wp2_with fail
  generalize w.alloc (.cells #[.int .u64 (base : Int), .int .i64 lim, .int .i64 ord] 42) = W0 at *
  refine (NF.out _ BL0.out).mono ?_
  rintro e w1 ⟨rfl, hk⟩
  have K1 := hid (none_trans K0.out hk)
  obtain ⟨c0, c1, c2⟩ := (C0.out.keep hk (fun x => x)).cells
  clear hk
  cases nf with
  | false =>
    go_wp2_with fail
    go_ret
    exact ⟨ret_bool (by rw [E.out, Bool.and_false]), K1.out⟩
  | true =>
    have hle := hnl rfl
    by_cases h1 : lim ≤ n
    · have h1' : (n == lim) = true := by rw [beq_iff_eq]; omega
      have E2 := hid (show stkV base lim ord n l r dn = true by rw [E.out, h1']; simp)
      clear h1'
      go_wp2_with fail
      go_ret
      exact ⟨ret_bool E2.out.symm, K1.out⟩
    · have h1' : (n == lim) = false := by rw [beq_eq_false_iff_ne]; omega
      have E2 := hid (show stkV base lim ord n l r dn = dn by rw [E.out, h1']; simp)
      have h1d : decide (lim ≤ n) = false := decide_eq_false h1
      clear h1'
      go_wp2_with fail
      go_ret
      exact ⟨ret_bool E2.out.symm, K1.out⟩
end Go.Proofs.Ytibljocjdlgfbaa
