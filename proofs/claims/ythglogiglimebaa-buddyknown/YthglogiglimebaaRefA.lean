/- croftref2.May, R, New. -/
import Derived.Test.YthglogiglimebaaLawA
namespace Go.Proofs.Ythglogiglimebaa.M
open Go.RowKit
set_option linter.unusedVariables false

theorem May_bad (base : Nat) (lim ord : Int) (hl1 : -9223372036854775808 ≤ lim) (hl2 : lim ≤ 9223372036854775807) (ho1 : -9223372036854775808 ≤ ord) (ho2 : ord ≤ 9223372036854775807) (h : ¬ Bounds lim ord) (w : World) :
    Calls Try.prog 51 #[.agg #[.int .u64 (base : Int), .int .i64 lim, .int .i64 ord]] w fun e w' => e = .returned (.bool false) ∧ Kept none' w w' := by
  by_cases h1 : ord < 0
  · clear h
    go_enter Try.func51, Try.ntmps51
    go_wp2
    go_ret
    exact ⟨rfl, (Kept.refl _ w).alloc _⟩
  · by_cases h2 : 8 < ord
    · clear h
      go_enter Try.func51, Try.ntmps51
      go_wp2
      go_ret
      exact ⟨rfl, (Kept.refl _ w).alloc _⟩
    · by_cases h3 : lim < 1
      · clear h
        go_enter Try.func51, Try.ntmps51
        go_wp2
        go_ret
        exact ⟨rfl, (Kept.refl _ w).alloc _⟩
      · have h4 : 64 < lim := by unfold Bounds at h; omega
        clear h
        go_enter Try.func51, Try.ntmps51
        go_wp2
        go_ret
        exact ⟨rfl, (Kept.refl _ w).alloc _⟩

theorem pow_mono (j k : Nat) (h : j ≤ k) (hk : k ≤ 8) : 1 ≤ 2 ^ j ∧ 2 ^ j ≤ 256 := pow8 j (by omega)

theorem May_in (base : Nat) (hb64 : base < 18446744073709551616) (lim k : Nat) (hk : k ≤ 8) (hl1 : 1 ≤ lim) (hl2 : lim ≤ 64) (w : World) :
    Calls Try.prog 51 #[.agg #[.int .u64 (base : Int), .int .i64 (lim : Int), .int .i64 (k : Int)]] w fun e w' => e = .returned (.bool (mayB base lim k)) ∧ Kept none' w w' := by
  have hB : Bounds (lim : Int) (k : Int) := by unfold Bounds; omega
  have HMAY := hid (show mayB base lim k = (decide (lim * 2 ^ k ≤ 1024) && (decide (base ≠ 0) && decide (base % RS k = 0) && decide (base + lim * RS k ≤ 9223372036854775808))) from by
    unfold mayB
    rw [decide_eq_true hB, Int.toNat_natCast, Int.toNat_natCast, Bool.true_and])
  clear hB
  go_enter Try.func51, Try.ntmps51
  go_wp2
  go_loop [3, 4, 5] (fun pg r i => ∃ j : Nat, j ≤ k ∧ i = .int .i64 j ∧ pg = .int .i64 ((lim * 2 ^ j : Nat) : Int) ∧ r = .int .u64 ((4096 * 2 ^ j : Nat) : Int)) (fun _ _ i => k - (intOf i).toNat)
  case atStart => exact ⟨0, by omega, rfl, by simp, by simp⟩
  case round =>
    obtain ⟨j, hj, rfl, rfl, rfl⟩ := hrel
    obtain ⟨P, hP⟩ : ∃ P, P = 2 ^ j := ⟨_, rfl⟩
    have hP8 := pow8 j (by omega)
    rw [← hP] at hP8 ⊢
    obtain ⟨lp, hlp⟩ : ∃ lp, lp = lim * P := ⟨_, rfl⟩
    have hlp2 : lp ≤ 16384 := by
      rw [hlp]
      exact Nat.le_trans (Nat.mul_le_mul hl2 hP8.2) (by decide)
    rw [← hlp]
    obtain ⟨R, hR⟩ : ∃ R, R = 4096 * P := ⟨_, rfl⟩
    have hR1 : R ≤ 1048576 := by omega
    rw [← hR]
    by_cases hlt : j < k
    · have hN1 := hid (show lim * 2 ^ (j + 1) = lp * 2 from by rw [hlp, hP, Nat.pow_succ, Nat.mul_assoc])
      have hN2 := hid (show 4096 * 2 ^ (j + 1) = R * 2 from by rw [hR, hP, Nat.pow_succ, Nat.mul_assoc])
      have hji : (j : Int) < (k : Int) := by omega
      clear hP hlp hR
      go_wp2
      refine ⟨⟨j + 1, by omega, by simp, ?_, ?_⟩, by simp [intOf]; omega⟩
      · rw [hN1.out]; simp
      · rw [hN2.out]; simp
    · obtain rfl : j = k := by omega
      have e1 : RS j = R := by rw [hR, hP]; rfl
      obtain ⟨lr, hlr⟩ : ∃ lr, lr = lim * R := ⟨_, rfl⟩
      have hlr2 : lr = 4096 * lp := by rw [hlr, hR, hlp, Nat.mul_left_comm]
      have hmul : (R : Int) * (lim : Int) = (lr : Int) := by rw [hlr, Int.mul_comm]; simp
      have HM := hid (show mayB base lim j = (decide (lp ≤ 1024) && (decide (base ≠ 0) && decide (base % R = 0) && decide (base + lr ≤ 9223372036854775808))) from by
        rw [HMAY.out, e1, ← hP, ← hlp, ← hlr])
      clear e1 HMAY
      have hR0 : ¬ (R : Int) = 0 := by omega
      clear hP hlp hR hlr hP8
      by_cases h1 : lp ≤ 1024
      · have H1 := hid (decide_eq_true h1)
        have h1' : ¬ (1024 : Int) < lp := by omega
        by_cases h0 : base = 0
        · have hb0 : ((base : Int) == 0) = true := by rw [h0]; rfl
          have H0 := hid h0
          clear h0 hlr2
          go_wp2
          go_ret
          exact ⟨ret_bool (by rw [HM.out, H0.out]; simp), (Kept.refl _ w).alloc _⟩
        · have hb0 : ((base : Int) == 0) = false := by rw [beq_eq_false_iff_ne]; omega
          have H0 := hid (show decide (base ≠ 0) = true from decide_eq_true h0)
          by_cases h2 : base % R = 0
          · have hm : ((base : Int) % (R : Int) != 0) = false := by rw [bne_eq_false_iff_eq]; omega
            have H2 := hid (show decide (base % R = 0) = true from decide_eq_true h2)
            clear h2
            by_cases h3 : base ≤ 9223372036854775808
            · have h3' : (base : Int) ≤ 9223372036854775808 := by omega
              go_wp2
              go_ret
              exact ⟨ret_bool (by rw [HM.out, H0.out, H1.out, H2.out, Bool.true_and, Bool.true_and, Bool.true_and, decide_eq_decide]; omega), (Kept.refl _ w).alloc _⟩
            · have h3' : ¬ (base : Int) ≤ 9223372036854775808 := by omega
              have H3 := hid (show decide (base + lr ≤ 9223372036854775808) = false from decide_eq_false (by omega))
              go_wp2
              go_ret
              exact ⟨ret_bool (by rw [HM.out, H3.out]; simp), (Kept.refl _ w).alloc _⟩
          · have hm : ((base : Int) % (R : Int) != 0) = true := by rw [bne_iff_ne]; omega
            have H2 := hid (show decide (base % R = 0) = false from decide_eq_false h2)
            clear h2 hlr2
            go_wp2
            go_ret
            exact ⟨ret_bool (by rw [HM.out, H2.out]; simp), (Kept.refl _ w).alloc _⟩
      · have H1 := hid (show decide (lp ≤ 1024) = false from decide_eq_false h1)
        have h1' : (1024 : Int) < lp := by omega
        clear h1 hlr2
        go_wp2
        go_ret
        exact ⟨ret_bool (by rw [HM.out, H1.out]; simp), (Kept.refl _ w).alloc _⟩

theorem May_any (base : Nat) (hb64 : base < 18446744073709551616) (lim ord : Int) (hl1 : -9223372036854775808 ≤ lim) (hl2 : lim ≤ 9223372036854775807) (ho1 : -9223372036854775808 ≤ ord) (ho2 : ord ≤ 9223372036854775807) (w : World) :
    Calls Try.prog 51 #[.agg #[.int .u64 (base : Int), .int .i64 lim, .int .i64 ord]] w fun e w' => e = .returned (.bool (mayB base lim ord)) ∧ Kept none' w w' := by
  by_cases h : Bounds lim ord
  · have h' := h
    unfold Bounds at h'
    obtain ⟨l, rfl⟩ := Int.eq_ofNat_of_zero_le (by omega : 0 ≤ lim)
    obtain ⟨k, rfl⟩ := Int.eq_ofNat_of_zero_le h'.1
    exact May_in base hb64 l k (by omega) (by omega) (by omega) w
  · have e : mayB base lim ord = false := by unfold mayB; rw [decide_eq_false h, Bool.false_and, Bool.false_and]
    rw [e]
    exact May_bad base lim ord hl1 hl2 ho1 ho2 h w

theorem two_new (w : World) (A B : Obj) : ((w.alloc A).alloc B).heap[w.heap.size + 1]? = some B := by
  have := heap_new (w.alloc A) B
  rwa [World.size_alloc] at this

/-- The document's own space, as a value. -/
def refV (base R lim : Nat) (mo : Option Nat) (n cap : Nat) : Value := .agg #[.int .u64 (base : Int), .int .u64 (R : Int), .int .i64 (lim : Int), .slice (adr mo) n cap]

end Go.Proofs.Ythglogiglimebaa.M
