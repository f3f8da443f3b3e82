/- croftref3.Remove whole, Pop. -/
import Derived.Test.YtnkoheanjaapjaaRef3C
namespace Go.Proofs.Ytnkoheanjaapjaa
open Go.RowKit
set_option linter.unusedVariables false

theorem R3Push_out (base R lim n cap : Nat) (ao : Option Addr) (hn : n ≤ 4194304) (hbn : base + n ≤ 9223372036854775808) (hd p : Nat) (hp : p < 18446744073709551616) (hin : ¬ In base n p 16) (w : World) :
    Calls Try.prog 46 #[.agg #[.int .u64 (base : Int), .int .u64 (R : Int), .int .i64 (lim : Int), .slice ao n cap], .int .u64 (hd : Int), .int .u64 (p : Int)] w fun e w' => e = .returned (.tuple #[.int .u64 (hd : Int), .int .i64 4]) ∧ Kept none' w w' := by
  have HI := hid hin
  clear hin
  go_enter Try.func46, Try.ntmps46
  go_wp2_with fail
  refine (R3There_no base R lim n cap ao hn hbn p hp HI.out _).mono ?_
  rintro e w1 ⟨rfl, k⟩
  have K := hid (none_trans ((Kept.refl none' w).alloc _) k)
  clear k
  go_wp2_with fail
  exact ⟨rfl, _, by simp [results, Try.results46, go_sem], rfl, K.out⟩
theorem R3Remove_out (base R lim n cap : Nat) (ao : Option Addr) (hn : n ≤ 4194304) (hbn : base + n ≤ 9223372036854775808) (hd p : Nat) (hp : p < 18446744073709551616) (hin : ¬ In base n p 16) (w : World) :
    Calls Try.prog 48 #[.agg #[.int .u64 (base : Int), .int .u64 (R : Int), .int .i64 (lim : Int), .slice ao n cap], .int .u64 (hd : Int), .int .u64 (p : Int)] w fun e w' => e = .returned (.tuple #[.int .u64 (hd : Int), .int .i64 4]) ∧ Kept none' w w' := by
  have HI := hid hin
  clear hin
  go_enter Try.func48, Try.ntmps48
  go_wp2_with fail
  refine (R3There_no base R lim n cap ao hn hbn p hp HI.out _).mono ?_
  rintro e w1 ⟨rfl, k⟩
  have K := hid (none_trans ((Kept.refl none' w).alloc _) k)
  clear k
  go_wp2_with fail
  exact ⟨rfl, _, by simp [results, Try.results48, go_sem], rfl, K.out⟩

theorem R3Remove_any (base R lim n cap h : Nat) (f : Nat → Nat) (hn : n ≤ 4194304) (hbn : base + n ≤ 9223372036854775808) (hd p : Nat) (hh : hd < 18446744073709551616) (hp : p < 18446744073709551616) (w : World) (H : MemAt w h n cap f) :
    Calls Try.prog 48 #[.agg #[.int .u64 (base : Int), .int .u64 (R : Int), .int .i64 (lim : Int), .slice (some ⟨h, 0, none⟩) n cap], .int .u64 (hd : Int), .int .u64 (p : Int)] w fun e w' => e = .returned (.tuple #[.int .u64 ((removeR base n f hd p).2.1 : Int), .int .i64 ((removeR base n f hd p).2.2 : Int)]) ∧ MemAt w' h n cap (removeR base n f hd p).1 ∧ Kept (fun x => x = h) w w' := by
  by_cases hin : In base n p 16
  · have hm := H.nx_lt p hin
    have hq := H.pv_lt p hin
    by_cases h0 : pv base f p = 0
    · by_cases h1 : p = hd
      · by_cases h4 : nx base f p = 0
        · rw [show removeR base n f hd p = (f, nx base f p, 0) by unfold removeR; rw [if_pos hin]; simp [leadsB, cameB, removeF, h1, h1 ▸ h4, h1 ▸ h0]]
          exact R3Remove_z0 base R lim n cap h f hn hbn hd p hh hp w H hin _ _ hm hq rfl rfl h0 h1 h4
        · by_cases h5 : In base n (nx base f p) 16
          · by_cases h6 : pv base f (nx base f p) = p
            · rw [show removeR base n f hd p = (stw base f (nx base f p + 8) (pv base f p), nx base f p, 0) by subst h1; unfold removeR; rw [if_pos hin, if_pos (by simp [leadsB, cameB, h0, h5, h6])]; simp [removeF, h0, h4]]
              exact R3Remove_zm base R lim n cap h f hn hbn hd p hh hp w H hin _ _ hm hq rfl rfl h0 h1 h4 h5 h6
            · rw [show removeR base n f hd p = (f, hd, 8) by unfold removeR; rw [if_pos hin, if_neg (by simp [leadsB, cameB, h4, h6])]]
              exact R3Remove_zn base R lim n cap h f hn hbn hd p hh hp w H hin _ _ hm hq rfl rfl h0 h1 h4 h5 h6
          · rw [show removeR base n f hd p = (f, hd, 8) by unfold removeR; rw [if_pos hin, if_neg (by simp [leadsB, cameB, h4, h5])]]
            exact R3Remove_zo base R lim n cap h f hn hbn hd p hh hp w H hin _ _ hm hq rfl rfl h0 h1 h4 h5
      · rw [show removeR base n f hd p = (f, hd, 8) by unfold removeR; rw [if_pos hin, if_neg (by simp [leadsB, h0, h1])]]
        exact R3Remove_b0 base R lim n cap h f hn hbn hd p hh hp w H hin _ _ hm hq rfl rfl h0 h1
    · by_cases h1 : p = hd
      · rw [show removeR base n f hd p = (f, hd, 8) by unfold removeR; rw [if_pos hin, if_neg (by simp [leadsB, h1, h1 ▸ h0])]]
        exact R3Remove_bh base R lim n cap h f hn hbn hd p hh hp w H hin _ _ hm hq rfl rfl h0 h1
      · by_cases h2 : In base n (pv base f p) 16
        · by_cases h3 : nx base f (pv base f p) = p
          · by_cases h4 : nx base f p = 0
            · rw [show removeR base n f hd p = (stw base f (pv base f p) (nx base f p), hd, 0) by unfold removeR; rw [if_pos hin, if_pos (by simp [leadsB, cameB, h0, h1, h2, h3, h4])]; simp [removeF, h0, h4]]
              exact R3Remove_q0 base R lim n cap h f hn hbn hd p hh hp w H hin _ _ hm hq rfl rfl h0 h1 h2 h3 h4
            · by_cases h5 : In base n (nx base f p) 16
              · by_cases h6 : pv base f (nx base f p) = p
                · rw [show removeR base n f hd p = (stw base (stw base f (pv base f p) (nx base f p)) (nx base f p + 8) (pv base f p), hd, 0) by unfold removeR; rw [if_pos hin, if_pos (by simp [leadsB, cameB, h0, h1, h2, h3, h5, h6])]; simp [removeF, h0, h4]]
                  exact R3Remove_qm base R lim n cap h f hn hbn hd p hh hp w H hin _ _ hm hq rfl rfl h0 h1 h2 h3 h4 h5 h6
                · rw [show removeR base n f hd p = (f, hd, 8) by unfold removeR; rw [if_pos hin, if_neg (by simp [leadsB, cameB, h4, h6])]]
                  exact R3Remove_qn base R lim n cap h f hn hbn hd p hh hp w H hin _ _ hm hq rfl rfl h0 h1 h2 h3 h4 h5 h6
              · rw [show removeR base n f hd p = (f, hd, 8) by unfold removeR; rw [if_pos hin, if_neg (by simp [leadsB, cameB, h4, h5])]]
                exact R3Remove_qo base R lim n cap h f hn hbn hd p hh hp w H hin _ _ hm hq rfl rfl h0 h1 h2 h3 h4 h5
          · rw [show removeR base n f hd p = (f, hd, 8) by unfold removeR; rw [if_pos hin, if_neg (by simp [leadsB, h0, h1, h3])]]
            exact R3Remove_bn base R lim n cap h f hn hbn hd p hh hp w H hin _ _ hm hq rfl rfl h0 h1 h2 h3
        · rw [show removeR base n f hd p = (f, hd, 8) by unfold removeR; rw [if_pos hin, if_neg (by simp [leadsB, h0, h1, h2])]]
          exact R3Remove_bo base R lim n cap h f hn hbn hd p hh hp w H hin _ _ hm hq rfl rfl h0 h1 h2
  · rw [show removeR base n f hd p = (f, hd, 4) by unfold removeR; rw [if_neg hin]]
    refine (R3Remove_out base R lim n cap _ hn hbn hd p hp hin w).mono ?_
    rintro e w1 ⟨rfl, k⟩
    exact ⟨rfl, H.keep k, h_none k⟩

theorem R3Pop_any (base R lim n cap h : Nat) (f : Nat → Nat) (hn : n ≤ 4194304) (hbn : base + n ≤ 9223372036854775808) (hd : Nat) (hh : hd < 18446744073709551616) (w : World) (H : MemAt w h n cap f) :
    Calls Try.prog 47 #[.agg #[.int .u64 (base : Int), .int .u64 (R : Int), .int .i64 (lim : Int), .slice (some ⟨h, 0, none⟩) n cap], .int .u64 (hd : Int)] w fun e w' => e = .returned (.tuple #[.int .u64 ((popR base n f hd).2.1 : Int), .int .u64 ((popR base n f hd).2.2.1 : Int), .int .i64 ((popR base n f hd).2.2.2 : Int)]) ∧ MemAt w' h n cap (popR base n f hd).1 ∧ Kept (fun x => x = h) w w' := by
  have HH := hid H.lt
  by_cases h0 : hd = 0
  · subst h0
    have hpe : popR base n f 0 = (f, 0, 0, 9) := by simp [popR]
    rw [hpe]
    have H := hid H
    clear hpe
    go_enter Try.func47, Try.ntmps47
    go_wp2_with fail
    exact ⟨rfl, _, by simp [results, Try.results47, go_sem], rfl, H.out.keep ((Kept.refl none' w).alloc (bx base R lim n cap h)), h_none ((Kept.refl none' w).alloc (bx base R lim n cap h))⟩
  · have h0i : ((hd : Int) == 0) = false := beq_eq_false_iff_ne.2 (by omega)
    have A := hid (R3Remove_any base R lim n cap h f hn hbn hd hd hh hh _ (H.keep ((Kept.refl none' w).alloc (bx base R lim n cap h))))
    by_cases he : (removeR base n f hd hd).2.2 = 0
    · have hpe : popR base n f hd = ((removeR base n f hd hd).1, (removeR base n f hd hd).2.1, hd, 0) := by unfold popR; rw [if_neg h0, if_pos he]
      rw [hpe]
      rw [he] at A
      generalize (removeR base n f hd hd).1 = f' at *
      generalize (removeR base n f hd hd).2.1 = hd' at *
      clear H hpe he h0
      go_enter Try.func47, Try.ntmps47
      go_wp2_with fail
      refine A.out.mono ?_
      rintro e w1 ⟨rfl, m, k⟩
      obtain ⟨b0, b1, b2, b3, K⟩ := refbox w w1 base R lim n cap _ k HH.out
      have K := hid K
      have M := hid m
      clear k m A
      go_wp2_with fail
      exact ⟨rfl, _, by simp [results, Try.results47, go_sem], rfl, M.out, K.out⟩
    · have hpe : popR base n f hd = (f, hd, 0, (removeR base n f hd hd).2.2) := by unfold popR; rw [if_neg h0, if_neg he]
      rw [hpe]
      obtain ⟨e1, e2⟩ := removeR_bad he
      rw [e1, e2] at A
      have hle := removeR_le base n f hd hd
      generalize (removeR base n f hd hd).2.2 = x at *
      have h1i : ((x : Int) == 0) = false := beq_eq_false_iff_ne.2 (by omega)
      have h1n : ((x : Int) != 0) = true := bne_iff_ne.2 (by omega)
      clear H hpe he h0 e1 e2 hle
      go_enter Try.func47, Try.ntmps47
      go_wp2_with fail
      refine A.out.mono ?_
      rintro e w1 ⟨rfl, m, k⟩
      obtain ⟨b0, b1, b2, b3, K⟩ := refbox w w1 base R lim n cap _ k HH.out
      have K := hid K
      have M := hid m
      clear k m A
      go_wp2_with fail
      exact ⟨rfl, _, by simp [results, Try.results47, go_sem], rfl, M.out, K.out⟩
end Go.Proofs.Ytnkoheanjaapjaa
