/- croftref11.Round, Product; OracleRounds. -/
import Derived.Test.YtibljocjdlgfbaaRfB
import Derived.Test.YtibljocjdlgfbaaOrR
namespace Go.Proofs.Ytibljocjdlgfbaa
open Go.RowKit
set_option linter.unusedVariables false

set_option maxRecDepth 4000 in
theorem refRound (base : Nat) (hb64 : base < 18446744073709551616) (lim ord : Int) (hl1 : -9223372036854775808 ≤ lim) (hl2 : lim ≤ 9223372036854775807) (ho1 : -9223372036854775808 ≤ ord) (ho2 : ord ≤ 9223372036854775807) (s a : Nat) (hs : s < 2 ^ 64) (ha : a < 2 ^ 64) (w : World) :
    Calls Try.prog 19 #[cfgV base lim ord, .int .u64 (s : Int), .int .u64 (a : Int)] w fun e w' => e = .returned (.tuple #[.int .u64 ((rdV base lim ord s a : Nat) : Int), .int .i64 (rdE base lim ord s a)]) ∧ Kept none' w w' := by
  have HM := hid (fun W => refMay base hb64 lim ord hl1 hl2 ho1 ho2 W)
  have HP := hid (fun W => refPower a ha W)
  have C0 := hid (show CR (w.alloc (.cells #[.int .u64 (base : Int), .int .i64 lim, .int .i64 ord] 42)) w.heap.size base lim ord from heap_new w _)
  have K0 := hid (show Kept none' w (w.alloc (.cells #[.int .u64 (base : Int), .int .i64 lim, .int .i64 ord] 42)) from (Kept.refl _ w).alloc _)
  have FIN := hid (show ∀ (v : Nat) (er : Int) w1, rdV base lim ord s a = v → rdE base lim ord s a = er → Kept none' w w1 → (Ending.returned (.tuple #[.int .u64 (v : Int), .int .i64 er]) = .returned (.tuple #[.int .u64 ((rdV base lim ord s a : Nat) : Int), .int .i64 (rdE base lim ord s a)]) ∧ Kept none' w w1) from fun v er w1 h1 h2 h3 => ⟨by rw [h1, h2], h3⟩)
  cases hm : mayB base lim ord with
  | false =>
    rw [hm] at HM
    have E1 := hid (show rdV base lim ord s a = 0 by simp [rdV, hm])
    have E2 := hid (show rdE base lim ord s a = 1 by simp [rdE, hm])
    clear hm
    go_enter Try.func19, Try.ntmps19
    go_wp2_with fail
    generalize w.alloc (.cells #[.int .u64 (base : Int), .int .i64 lim, .int .i64 ord] 42) = W0 at *
    refine (HM.out _).mono ?_
    rintro e w1 ⟨rfl, hk⟩
    have K1 := hid (none_trans K0.out hk)
    clear hk
    go_wp2_with fail
    exact ⟨rfl, .tuple #[.int .u64 0, .int .i64 1], by simp [results, Try.results19, go_sem], FIN.out 0 1 _ E1.out E2.out K1.out⟩
  | true =>
    rw [hm] at HM
    cases hp : isP a with
    | false =>
      rw [hp] at HP
      have E1 := hid (show rdV base lim ord s a = 0 by simp [rdV, hp])
      have E2 := hid (show rdE base lim ord s a = 1 by simp [rdE, hp])
      clear hm hp
      go_enter Try.func19, Try.ntmps19
      go_wp2_with fail
      generalize w.alloc (.cells #[.int .u64 (base : Int), .int .i64 lim, .int .i64 ord] 42) = W0 at *
      refine (HM.out _).mono ?_
      rintro e w1 ⟨rfl, hk⟩
      have K1 := hid (none_trans K0.out hk)
      clear hk
      go_wp2_with (go_at_call 44; refine (HP.out _).mono ?_; rintro e w' ⟨rfl, rfl⟩)
      exact ⟨rfl, .tuple #[.int .u64 0, .int .i64 1], by simp [results, Try.results19, go_sem], FIN.out 0 1 _ E1.out E2.out K1.out⟩
    | true =>
      rw [hp] at HP
      have hB : 0 ≤ ord ∧ ord ≤ 8 := by
        have h := hm
        simp only [mayB, Bool.and_eq_true] at h
        have h2 := of_decide_eq_true h.1.1
        unfold Bounds at h2
        exact ⟨h2.1, h2.2.1⟩
      obtain ⟨k, rfl⟩ := Int.eq_ofNat_of_zero_le hB.1
      have HZ := hid (fun W => refSize base lim k (by omega) s a hs ha W)
      obtain ⟨z, hz⟩ : ∃ z, z = sizV k s a := ⟨_, rfl⟩
      rw [← hz] at HZ
      have hcv : ceilB 64 (askN s a) = true ↔ ceilV 64 (askN s a) ≠ 0 := by
        have := ceil_ne 64 (askN s a)
        rw [← this, bne_iff_ne]
        omega
      have E0 : rdK base lim (k : Int) s a = decide (z ≠ 0) := by
        unfold rdK
        rw [Int.toNat_natCast, Bool.eq_iff_iff, Bool.and_eq_true, decide_eq_true_eq, decide_eq_true_eq, hcv, hz]
        unfold sizV
        split <;> omega
      have E1 := hid (show rdV base lim (k : Int) s a = z by
        unfold rdV
        rw [hm, hp, E0]
        by_cases e : z = 0
        · simp [e]
        · rw [decide_eq_true e, Bool.and_true, Bool.and_true, if_pos rfl]
          rw [hz] at e ⊢
          unfold sizV at e ⊢
          split at e
          · exact absurd rfl e
          · rename_i h; rw [if_neg h])
      have E2 := hid (show rdE base lim (k : Int) s a = if z = 0 then 3 else 0 by
        unfold rdE
        rw [hm, hp, E0]
        by_cases e : z = 0 <;> simp [e])
      have hzb : z < 2 ^ 64 := by
        rw [hz]; unfold sizV
        have := ceilV_lt 64 (askN s a)
        split <;> omega
      clear hm hp hz hcv E0
      by_cases hz0 : z = 0
      · subst hz0
        go_enter Try.func19, Try.ntmps19
        go_wp2_with fail
        generalize w.alloc (.cells #[.int .u64 (base : Int), .int .i64 lim, .int .i64 (k : Int)] 42) = W0 at *
        refine (HM.out _).mono ?_
        rintro e w1 ⟨rfl, hk⟩
        have K1 := hid (none_trans K0.out hk)
        obtain ⟨c0, c1, c2⟩ := (C0.out.keep hk (fun x => x)).cells
        clear hk
        go_wp2_with (go_at_call 44; refine (HP.out _).mono ?_; rintro e w' ⟨rfl, rfl⟩)
        refine (HZ.out _).mono ?_
        rintro e w2 ⟨rfl, hk⟩
        have K2 := hid (none_trans K1.out hk)
        clear hk
        go_wp2_with fail
        exact ⟨rfl, .tuple #[.int .u64 0, .int .i64 3], by simp [results, Try.results19, go_sem], FIN.out 0 3 _ E1.out E2.out K2.out⟩
      · have hz1 : ((z : Int) == 0) = false := by rw [beq_eq_false_iff_ne]; omega
        have hz2 : ¬ (z : Int) = 0 := by omega
        rw [if_neg hz0] at E2
        go_enter Try.func19, Try.ntmps19
        go_wp2_with fail
        generalize w.alloc (.cells #[.int .u64 (base : Int), .int .i64 lim, .int .i64 (k : Int)] 42) = W0 at *
        refine (HM.out _).mono ?_
        rintro e w1 ⟨rfl, hk⟩
        have K1 := hid (none_trans K0.out hk)
        obtain ⟨c0, c1, c2⟩ := (C0.out.keep hk (fun x => x)).cells
        clear hk
        go_wp2_with (go_at_call 44; refine (HP.out _).mono ?_; rintro e w' ⟨rfl, rfl⟩)
        refine (HZ.out _).mono ?_
        rintro e w2 ⟨rfl, hk⟩
        have K2 := hid (none_trans K1.out hk)
        clear hk
        go_wp2_with fail
        exact ⟨rfl, .tuple #[.int .u64 (z : Int), .int .i64 0], by simp [results, Try.results19, go_sem], FIN.out z 0 _ E1.out E2.out K2.out⟩

theorem refProduct (n s : Nat) (hn : n < 2 ^ 64) (hs : s < 2 ^ 64) (w : World) :
    Calls Try.prog 20 #[.int .u64 (n : Int), .int .u64 (s : Int)] w fun e w' => e = .returned (.tuple #[.int .u64 ((prV n s : Nat) : Int), .int .i64 (prE n s)]) ∧ w' = w := by
  obtain ⟨p, hp⟩ : ∃ p, p = n * s % 18446744073709551616 := ⟨_, rfl⟩
  have hpp : ((n : Int) * (s : Int)) % 18446744073709551616 = (p : Int) := by rw [hp]; simp
  have hpw : IntKind.u64.wrap ((n : Int) * (s : Int)) = (p : Int) := by rw [wrap_u64]; exact hpp
  by_cases h0 : n = 0
  · subst h0
    have E1 := hid (show prV 0 s = 0 by simp [prV])
    have E2 := hid (show prE 0 s = 0 by simp [prE])
    clear hp hpp hpw
    go_enter Try.func20, Try.ntmps20
    go_wp2_with fail
    exact ⟨rfl, .tuple #[.int .u64 0, .int .i64 0], by simp [results, Try.results20, go_sem], by rw [E1.out, E2.out]; rfl, rfl⟩
  · have hn0 : ((n : Int) != 0) = true := by rw [bne_iff_ne]; omega
    have hn1 : ¬ (n : Int) = 0 := by omega
    obtain ⟨q, hq⟩ : ∃ q, q = 18446744073709551615 / n := ⟨_, rfl⟩
    have hq1 : (18446744073709551615 : Int) / (n : Int) = (q : Int) := by rw [hq]; simp
    have hqb : q < 2 ^ 64 := by rw [hq]; have := Nat.div_le_self 18446744073709551615 n; omega
    by_cases h1 : (q : Int) < (s : Int)
    · have E1 := hid (show prV n s = 0 by unfold prV; rw [if_pos ⟨h0, by rw [← hq]; omega⟩])
      have E2 := hid (show prE n s = 3 by unfold prE; rw [if_pos ⟨h0, by rw [← hq]; omega⟩])
      clear hp hpp hpw hq h0
      go_enter Try.func20, Try.ntmps20
      go_wp2_with fail
      exact ⟨rfl, .tuple #[.int .u64 0, .int .i64 3], by simp [results, Try.results20, go_sem], by rw [E1.out, E2.out]; rfl, rfl⟩
    · have E1 := hid (show prV n s = p by unfold prV; rw [if_neg (by rw [← hq]; omega), hp])
      have E2 := hid (show prE n s = 0 by unfold prE; rw [if_neg (by rw [← hq]; omega)])
      clear hp hq h0
      go_enter Try.func20, Try.ntmps20
      go_wp2_with fail
      exact ⟨rfl, .tuple #[.int .u64 (p : Int), .int .i64 0], by simp [results, Try.results20, go_sem], by rw [E1.out, E2.out], rfl⟩

set_option maxRecDepth 4000 in
theorem oracleRounds (base : Nat) (hb64 : base < 18446744073709551616) (lim ord : Int) (hl1 : -9223372036854775808 ≤ lim) (hl2 : lim ≤ 9223372036854775807) (ho1 : -9223372036854775808 ≤ ord) (ho2 : ord ≤ 9223372036854775807) (s a : Nat) (hs : s < 2 ^ 64) (ha : a < 2 ^ 64) (w : World) :
    Calls Try.prog 4 #[cfgV base lim ord, .int .u64 (s : Int), .int .u64 (a : Int)] w fun e w' => e = .returned (.bool true) ∧ Kept none' w w' := by
  have R1 := hid (fun W => Round_any base hb64 lim ord hl1 hl2 ho1 ho2 s a hs ha W)
  have R2 := hid (fun W => refRound base hb64 lim ord hl1 hl2 ho1 ho2 s a hs ha W)
  have P1 := hid (fun W => Product_any s a hs ha W)
  have P2 := hid (fun W => refProduct s a hs ha W)
  have C0 := hid (show CR (w.alloc (.cells #[.int .u64 (base : Int), .int .i64 lim, .int .i64 ord] 42)) w.heap.size base lim ord from heap_new w _)
  have K0 := hid (show Kept none' w (w.alloc (.cells #[.int .u64 (base : Int), .int .i64 lim, .int .i64 ord] 42)) from (Kept.refl _ w).alloc _)
  generalize rdV base lim ord s a = v1 at *
  generalize rdE base lim ord s a = e1 at *
  generalize prV s a = v2 at *
  generalize prE s a = e2 at *
  go_enter Try.func4, Try.ntmps4
  go_wp2_with fail
  generalize w.alloc (.cells #[.int .u64 (base : Int), .int .i64 lim, .int .i64 ord] 42) = W0 at *
  refine (config_any base lim ord _).mono ?_
  rintro e w1 ⟨rfl, hk⟩
  have K1 := hid (none_trans K0.out hk)
  have C1 := hid (C0.out.keep hk (fun x => x))
  clear hk
  go_wp2_with fail
  refine (R1.out _).mono ?_
  rintro e w2 ⟨rfl, hk⟩
  have K2 := hid (none_trans K1.out hk)
  have C2 := hid (C1.out.keep hk (fun x => x))
  clear hk
  obtain ⟨c0, c1, c2⟩ := C2.out.cells
  go_wp2_with fail
  refine (R2.out _).mono ?_
  rintro e w3 ⟨rfl, hk⟩
  have K3 := hid (none_trans K2.out hk)
  clear hk c0 c1 c2
  go_wp2_with (first | (go_at_call 12; refine (P1.out _).mono ?_; rintro e w' ⟨rfl, rfl⟩) | (go_at_call 20; refine (P2.out _).mono ?_; rintro e w' ⟨rfl, rfl⟩))
  refine (awake_any _).mono ?_
  rintro e w4 ⟨rfl, hk⟩
  have K4 := hid (none_trans K3.out hk)
  clear hk
  go_wp2_with fail
  go_ret
  exact ⟨rfl, K4.out⟩
theorem oracleRoundsN (base : Nat) (hb64 : base < 18446744073709551616) (lim ord : Int) (hl1 : -9223372036854775808 ≤ lim) (hl2 : lim ≤ 9223372036854775807) (ho1 : -9223372036854775808 ≤ ord) (ho2 : ord ≤ 9223372036854775807) (s : Nat) (hs : s < 2 ^ 64) (a : Nat) (ha : a < 2 ^ 64) (w : World) :
    Calls Try.prog 4 #[cfgV base lim ord, .int .u64 (s : Int), .int .u64 (a : Int)] w fun e w' => e = .returned (.bool true) ∧ Kept none' w w' := oracleRounds base hb64 lim ord hl1 hl2 ho1 ho2 s a hs ha w
end Go.Proofs.Ytibljocjdlgfbaa
