/- croftref3.All. -/
import Derived.Test.YtnkoheanjaapjaaRef3D
import Derived.Test.YtnkoheanjaapjaaWdsB
namespace Go.Proofs.Ytnkoheanjaapjaa
open Go.RowKit
set_option linter.unusedVariables false

theorem walkR_good {base n f k q p} (h0 : p ≠ 0) (h1 : In base n p 16) (h2 : pv base f p = q) : walkR base n f (k + 1) q p = p :: walkR base n f k p (nx base f p) := by
  rw [walkR, if_pos ⟨h0, h1, h2⟩]
theorem walkR_bad {base n f k q p} (h : ¬ (p ≠ 0 ∧ In base n p 16 ∧ pv base f p = q)) : walkR base n f (k + 1) q p = [] := by
  rw [walkR, if_neg h]

set_option maxHeartbeats 4000000 in
theorem R3All_in (base R lim n cap h : Nat) (f : Nat → Nat) (hn : n ≤ 4194304) (hbn : base + n ≤ 9223372036854775808) (hd mo : Nat) (hh : hd < 18446744073709551616) (hmo : mo ≤ 1048576) (w : World) (H : MemAt w h n cap f) :
    Calls Try.prog 49 #[.agg #[.int .u64 (base : Int), .int .u64 (R : Int), .int .i64 (lim : Int), .slice (some ⟨h, 0, none⟩) n cap], .int .u64 (hd : Int), .int .i64 (mo : Int)] w fun e w' => ∃ v, e = .returned v ∧ Lst w' v (walkR base n f (min (n / 16) mo) 0 hd) ∧ Kept none' w w' ∧ ∀ r, v.ownBlock = some r → w.heap.size ≤ r := by
  have HH := hid H.lt
  have HM0 := hid (H.keep ((Kept.refl none' w).alloc (bx base R lim n cap h)))
  have H := hid H
  obtain ⟨N1, hN1⟩ : ∃ N1, N1 = n / 16 := ⟨_, rfl⟩
  have hN1l : N1 ≤ 262144 := by omega
  have E : (n : Int) / 16 = (N1 : Int) := by omega
  rw [← hN1]
  obtain ⟨N, hN⟩ : ∃ N, N = min N1 mo := ⟨_, rfl⟩
  rw [← hN]
  have HN := hid hN
  have hNl : N ≤ N1 := by rw [hN]; exact Nat.min_le_left _ _
  have hNm : N ≤ mo := by rw [hN]; exact Nat.min_le_right _ _
  clear hN1 hN
  have K0 := hid (Kept.refl none' (w.alloc (bx base R lim n cap h)))
  go_enter Try.func49, Try.ntmps49
  go_wp2
  go_loopw [7, 8, 9, 10] (fun v b p i wr => ∃ (k q pp : Nat) (xs : List Nat), k ≤ N ∧ i = .int .i64 k ∧ b = .int .u64 q ∧ p = .int .u64 pp ∧ q < 18446744073709551616 ∧ pp < 18446744073709551616 ∧ xs.length = k ∧ Lst wr v xs ∧ xs ++ walkR base n f (N - k) q pp = walkR base n f N 0 hd ∧ Kept none' (w.alloc (bx base R lim n cap h)) wr ∧ ∀ r, v.ownBlock = some r → w.heap.size < r) (fun _ _ _ i _ => N - (intOf i).toNat)
  case atStart => exact ⟨0, 0, hd, [], by omega, rfl, rfl, rfl, by decide, hh, rfl, Lst.nil _, rfl, K0.out, fun r hr => by cases hr⟩
  case round =>
    obtain ⟨k, q, pp, xs, hk, rfl, rfl, rfl, hq, hpp, hxl, hlst, hwk, hkk, hrow⟩ := hrel
    obtain ⟨b0, b1, b2, b3, -⟩ := refbox w wr base R lim n cap _ (h_none hkk) HH.out
    have HL := hid hlst
    have HK := hid hkk
    have HR := hid hrow
    have HW := hid hwk
    have HX := hid hxl
    have HM := hid (HM0.out.keep hkk)
    clear hlst hkk hrow hwk hxl
    by_cases hlt : k < N
    · have hik1 : (k : Int) < (N1 : Int) := by omega
      have hik2 : (k : Int) < (mo : Int) := by omega
      obtain ⟨j, hj⟩ : ∃ j, N - k = j + 1 := ⟨N - k - 1, by omega⟩
      rw [hj] at HW
      have HJ := hid hj
      clear hj
      by_cases h0 : pp = 0
      · subst h0
        rw [walkR_bad (fun c => c.1 rfl), List.append_nil] at HW
        go_wp2_with fail
        go_ret
        exact ⟨_, rfl, HW.out ▸ HL.out, none_trans ((Kept.refl none' w).alloc _) HK.out, fun r hr => Nat.le_of_lt (HR.out r hr)⟩
      · have h0i : ((pp : Int) == 0) = false := beq_eq_false_iff_ne.2 (by omega)
        by_cases hin : In base n pp 16
        · by_cases hpv : pv base f pp = q
          · rw [walkR_good h0 hin hpv] at HW
            have hnx := HM.out.nx_lt pp hin
            have HI := hid hin
            have HP := hid hpv
            clear hin hpv
            go_wp2_with fail
            refine (R3There_yes base R lim n cap _ hn hbn pp hpp HI.out _).mono ?_
            rintro e w1 ⟨rfl, k1⟩
            have K1 := hid (none_trans HK.out k1)
            have L1 := hid (HL.out.keep k1)
            clear k1 b0 b1 b2 b3
            obtain ⟨b0, b1, b2, b3, -⟩ := refbox w w1 base R lim n cap _ (h_none K1.out) HH.out
            go_wp2_with fail
            refine (R3Prev_in base R lim n cap h f hn hbn pp hpp _ (HM0.out.keep K1.out) HI.out).mono ?_
            rintro e w2 ⟨rfl, k2⟩
            rw [HP.out]
            have K2 := hid (none_trans K1.out k2)
            have L2 := hid (L1.out.keep k2)
            clear k2 b0 b1 b2 b3
            obtain ⟨b0, b1, b2, b3, -⟩ := refbox w w2 base R lim n cap _ (h_none K2.out) HH.out
            obtain ⟨v', w4, hap, hL4, hK4, hown4, g, cap', hv'⟩ := push_run (w2.alloc (.cells #[.int .u64 (pp : Int)] 27)) u7 xs pp (L2.out.keep ((Kept.refl none' w2).alloc _)) hpp (by have := HX.out; omega) ⟨w2.heap.size, 0, none⟩ 1 (by rw [Addr.add_lit]; exact cell_of (heap_new _ _))
            have HAP := hid hap
            have HL4 := hid hL4
            have HO4 := hid hown4
            have K4 := hid (show Kept none' (w.alloc (bx base R lim n cap h)) w4 from (K2.out.alloc _).trans hK4 (fun _ _ h => h) (fun x hx h => absurd (HR.out x h) (by simp at hx; omega)))
            subst hv'
            clear hap hL4 hK4 hown4
            obtain ⟨c0, c1, c2, c3, -⟩ := refbox w w4 base R lim n cap _ (h_none K4.out) HH.out
            go_wp2_with (at_builtin; refine Lib.wpList_append_run _ rfl _ _ _ _ rfl u7 (.slice (some ⟨w2.heap.size, 0, none⟩) 1 1) rfl rfl _ _ (HAP.out _) ?_)
            refine (R3Next_in base R lim n cap h f hn hbn pp hpp _ (HM0.out.keep K4.out) HI.out).mono ?_
            rintro e w5 ⟨rfl, k5⟩
            have K5 := hid (none_trans K4.out k5)
            have L5 := hid (HL4.out.keep k5)
            clear k5 b0 b1 b2 b3 c0 c1 c2 c3
            generalize nx base f pp = y at *
            go_wp2_with fail
            refine ⟨⟨k + 1, pp, y, xs ++ [pp], by omega, by simp, rfl, rfl, hpp, hnx, by simp [HX.out], L5.out, ?_, K5.out, fun r hr => ?_⟩, by simp [intOf]; omega⟩
            · rw [List.append_assoc, show N - (k + 1) = j by have := HJ.out; omega]
              exact HW.out
            · rcases HO4.out with e | ⟨r', e, hle⟩
              · rw [e] at hr
                exact HR.out r hr
              · rw [e] at hr
                cases hr
                have := K2.out.size
                simp at hle this
                omega
          · rw [walkR_bad (fun c => hpv c.2.2), List.append_nil] at HW
            have HI := hid hin
            obtain ⟨y, hy⟩ : ∃ y, pv base f pp = y := ⟨_, rfl⟩
            have hyi : ((y : Int) == (q : Int)) = false := beq_eq_false_iff_ne.2 (by omega)
            have hyn : ((y : Int) != (q : Int)) = true := bne_iff_ne.2 (by omega)
            have HP := hid hy
            clear hin hpv hy
            go_wp2_with fail
            refine (R3There_yes base R lim n cap _ hn hbn pp hpp HI.out _).mono ?_
            rintro e w1 ⟨rfl, k1⟩
            have K1 := hid (none_trans HK.out k1)
            have L1 := hid (HL.out.keep k1)
            clear k1 b0 b1 b2 b3
            obtain ⟨b0, b1, b2, b3, -⟩ := refbox w w1 base R lim n cap _ (h_none K1.out) HH.out
            go_wp2_with fail
            refine (R3Prev_in base R lim n cap h f hn hbn pp hpp _ (HM0.out.keep K1.out) HI.out).mono ?_
            rintro e w2 ⟨rfl, k2⟩
            rw [HP.out]
            have K2 := hid (none_trans K1.out k2)
            have L2 := hid (L1.out.keep k2)
            clear k2 b0 b1 b2 b3
            go_wp2_with fail
            go_ret
            exact ⟨_, rfl, HW.out ▸ L2.out, none_trans ((Kept.refl none' w).alloc _) K2.out, fun r hr => Nat.le_of_lt (HR.out r hr)⟩
        · rw [walkR_bad (fun c => hin c.2.1), List.append_nil] at HW
          have HI := hid hin
          clear hin
          go_wp2_with fail
          refine (R3There_no base R lim n cap _ hn hbn pp hpp HI.out _).mono ?_
          rintro e w1 ⟨rfl, k1⟩
          have K1 := hid (none_trans HK.out k1)
          have L1 := hid (HL.out.keep k1)
          clear k1 b0 b1 b2 b3
          go_wp2_with fail
          go_ret
          exact ⟨_, rfl, HW.out ▸ L1.out, none_trans ((Kept.refl none' w).alloc _) K1.out, fun r hr => Nat.le_of_lt (HR.out r hr)⟩
    · obtain rfl : k = N := by omega
      rw [Nat.sub_self, walkR, List.append_nil] at HW
      by_cases hk1 : k < N1
      · have hik1 : (k : Int) < (N1 : Int) := by omega
        have hik2 : ¬ (k : Int) < (mo : Int) := by have := HN.out; omega
        go_wp2_with fail
        go_ret
        exact ⟨_, rfl, HW.out ▸ HL.out, none_trans ((Kept.refl none' w).alloc _) HK.out, fun r hr => Nat.le_of_lt (HR.out r hr)⟩
      · have hik1 : ¬ (k : Int) < (N1 : Int) := by omega
        go_wp2_with fail
        go_ret
        exact ⟨_, rfl, HW.out ▸ HL.out, none_trans ((Kept.refl none' w).alloc _) HK.out, fun r hr => Nat.le_of_lt (HR.out r hr)⟩

theorem R3All_none (base R lim : Nat) (hbn : base ≤ 9223372036854775808) (hd mo : Nat) (w : World) :
    Calls Try.prog 49 #[.agg #[.int .u64 (base : Int), .int .u64 (R : Int), .int .i64 (lim : Int), .slice none 0 0], .int .u64 (hd : Int), .int .i64 (mo : Int)] w fun e w' => e = .returned (.slice none 0 0) ∧ Kept none' w w' := by
  go_enter Try.func49, Try.ntmps49
  go_wp2
  go_loopw [7, 8, 9, 10] (fun v b p i wr => v = .slice none 0 0 ∧ i = .int .i64 0 ∧ wr = w.alloc (.cells #[.int .u64 (base : Int), .int .u64 (R : Int), .int .i64 (lim : Int), .slice none 0 0] 44)) (fun _ _ _ i _ => 0)
  case atStart => exact ⟨rfl, rfl, rfl⟩
  case round =>
    obtain ⟨rfl, rfl, rfl⟩ := hrel
    go_wp2_with fail
    go_ret
    exact ⟨rfl, (Kept.refl _ w).alloc _⟩
end Go.Proofs.Ytnkoheanjaapjaa
