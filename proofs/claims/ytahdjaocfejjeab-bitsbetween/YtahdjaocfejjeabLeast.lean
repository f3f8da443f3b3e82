/- BitsLeast, BitsBetween. -/
import Derived.Test.YtahdjaocfejjeabAwake
import Derived.Deep.QuietTactic
import Derived.BigQuiet
namespace Go.Proofs.Ytahdjaocfejjeab
open Go.RowKit
set_option linter.unusedVariables false

theorem cnt_pow (k n : Nat) (h : n < k) : cntF k (2 ^ n) = 1 := by
  induction n generalizing k with
  | zero =>
    obtain ⟨j, rfl⟩ : ∃ j, k = j + 1 := ⟨k - 1, by omega⟩
    simp [cntF, cntF_zero]
  | succ n ih =>
    obtain ⟨j, rfl⟩ : ∃ j, k = j + 1 := ⟨k - 1, by omega⟩
    have e1 : 2 ^ (n + 1) % 2 = 0 := by rw [Nat.pow_succ]; omega
    have e2 : 2 ^ (n + 1) / 2 = 2 ^ n := by rw [Nat.pow_succ]; omega
    simp only [cntF, e1, e2]
    rw [ih j (by omega)]
theorem cnt_zero_iff (k x : Nat) (hx : x < 2 ^ k) (h : cntF k x = 0) : x = 0 := by
  induction k generalizing x with
  | zero => omega
  | succ k ih =>
    simp only [cntF] at h
    have := ih (x / 2) (by rw [Nat.pow_succ] at hx; omega) (by omega)
    omega
theorem cnt_one (k x : Nat) (hx : x < 2 ^ k) (h : cntF k x = 1) : ∃ n, x = 2 ^ n := by
  induction k generalizing x with
  | zero => simp [cntF] at h
  | succ k ih =>
    simp only [cntF] at h
    by_cases h2 : x % 2 = 1
    · have := cnt_zero_iff k (x / 2) (by rw [Nat.pow_succ] at hx; omega) (by omega)
      exact ⟨0, by omega⟩
    · obtain ⟨n, hn⟩ := ih (x / 2) (by rw [Nat.pow_succ] at hx; omega) (by omega)
      exact ⟨n + 1, by rw [Nat.pow_succ]; omega⟩
theorem cnt_isP (x : Nat) (hx : x < 2 ^ 64) : (((cnt x : Nat) : Int) == 1) = isP x := by
  rw [cnt_eq 64 x hx, Bool.eq_iff_iff, isP_iff, beq_iff_eq]
  constructor
  · intro h; exact cnt_one 64 x hx (by omega)
  · rintro ⟨n, rfl⟩
    rw [cnt_pow 64 n ((pow_lt n 64).1 hx)]; rfl

theorem ceil_yes (x : Nat) (hx : x < 2 ^ 64) (h : ceilB 64 x = true) : ceilV 64 x = 2 ^ cl x ∧ cl x < 64 := by
  unfold ceilB at h
  have h := of_decide_eq_true h
  unfold ceilV
  rw [if_pos h]
  exact ⟨rfl, h⟩
theorem ceil_no (x : Nat) (h : ceilB 64 x = false) : ceilV 64 x = 0 ∧ 2 ^ 63 < x := by
  unfold ceilB at h
  have h := of_decide_eq_false h
  unfold ceilV
  rw [if_neg h]
  refine ⟨rfl, ?_⟩
  have := cl_spec x 63
  omega
theorem cl_half (x : Nat) (h : 0 < cl x) : 2 ^ cl x / 2 < x := by
  have e : cl x = (cl x - 1) + 1 := by omega
  have := cl_spec x (cl x - 1)
  rw [e, Nat.pow_succ, Nat.mul_div_cancel _ (by omega)]
  omega
theorem isP_cl (x : Nat) : isP x = (2 ^ cl x == x) := by
  rw [Bool.eq_iff_iff, isP_iff, beq_iff_eq]
  constructor
  · rintro ⟨n, rfl⟩
    have h1 := (cl_spec (2 ^ n) n).1 (Nat.le_refl _)
    have h2 := (cl_spec (2 ^ n) (cl (2 ^ n))).2 (Nat.le_refl _)
    have h3 := (pow_le _ _).1 h2
    congr 1; omega
  · intro h; exact ⟨cl x, h.symm⟩

set_option maxHeartbeats 800000 in
theorem least_main (x v p : Nat) (w : World) (hx : x < 2 ^ 64) (hvlt : v < 2 ^ 64) (hp64 : p < 64) (hlg : lg x = (p : Int)) (hw : IntKind.u64.wrap (2 ^ p) = 2 ^ p) (b1 : (2 : Int) ^ p ≤ (x : Int)) (b2 : (x : Int) - 2 ^ p < 2 ^ p) (b3 : 1 ≤ (2 : Int) ^ p)
    (hx1 : ((x : Int) == 0) = false) (hisI : ((v : Int) == (x : Int)) = isP x) (hc1' : ((cnt v : Nat) : Int) = 1) (hcs : (((cnt x : Nat) : Int) == 1) = isP x) (hpx : isP v = true) (hxv : x ≤ v) (hhalf : 1 < v → v / 2 < x)
    (HC : Hid (∀ w, Calls Try.prog 8 #[.int .u64 x] w fun e w' => e = .returned (.tuple #[.int .u64 v, .bool true]) ∧ w' = w)) :
    Calls Try.prog 3 #[.int .u64 x] w fun e w' => e = .returned (.bool true) ∧ Below w.heap.size w w' := by
  have hnl : decide ((v : Int) < (x : Int)) = false := decide_eq_false (by omega)
  have d1 : decide ((p : Int) < 0) = false := decide_eq_false (by omega)
  have d2 : decide (63 < (p : Int)) = false := decide_eq_false (by omega)
  have d3 : decide ((x : Int) < 2 ^ p) = false := decide_eq_false (by omega)
  have d4 : decide ((2 : Int) ^ p ≤ (x : Int) - 2 ^ p) = false := decide_eq_false (by omega)
  have d5 : ¬ 63 < p := by omega
  by_cases hv1 : 1 < v
  · have hh := hhalf hv1
    have hh2 : decide ((x : Int) ≤ (v : Int) / 2) = false := decide_eq_false (by omega)
    clear hhalf
    go_enter Try.func3, Try.ntmps3
    go_wp2_with (first | (go_at_call 7; refine (awake_any _).mono ?_; rintro e w1 ⟨rfl, hk⟩) | (go_at_call 8; refine (HC.out _).mono ?_; rintro e w' ⟨rfl, rfl⟩) | (go_at_call 11; refine (log_64 x hx _).mono ?_; rintro e w' ⟨rfl, rfl⟩) | (go_at_call 9; refine (isPower_64 v hvlt _).mono ?_; rintro e w' ⟨rfl, rfl⟩) | (go_at_call 10; refine (count_64 v hvlt _).mono ?_; rintro e w' ⟨rfl, rfl⟩))
    go_quiet (fail)
    go_wp2_with (first | (go_at_call 9; refine (isPower_64 x hx _).mono ?_; rintro e w' ⟨rfl, rfl⟩) | (go_at_call 10; refine (count_64 x hx _).mono ?_; rintro e w' ⟨rfl, rfl⟩))
    go_ret
    exact ⟨rfl, below_drewN (hk.below (Nat.le_refl _) (fun _ h => h.elim)) _⟩
  · have hv0 : decide ((1 : Int) < (v : Int)) = false := decide_eq_false (by omega)
    clear hhalf
    go_enter Try.func3, Try.ntmps3
    go_wp2_with (first | (go_at_call 7; refine (awake_any _).mono ?_; rintro e w1 ⟨rfl, hk⟩) | (go_at_call 8; refine (HC.out _).mono ?_; rintro e w' ⟨rfl, rfl⟩) | (go_at_call 11; refine (log_64 x hx _).mono ?_; rintro e w' ⟨rfl, rfl⟩) | (go_at_call 9; refine (isPower_64 v hvlt _).mono ?_; rintro e w' ⟨rfl, rfl⟩) | (go_at_call 10; refine (count_64 v hvlt _).mono ?_; rintro e w' ⟨rfl, rfl⟩))
    go_quiet (fail)
    go_wp2_with (first | (go_at_call 9; refine (isPower_64 x hx _).mono ?_; rintro e w' ⟨rfl, rfl⟩) | (go_at_call 10; refine (count_64 x hx _).mono ?_; rintro e w' ⟨rfl, rfl⟩))
    go_ret
    exact ⟨rfl, below_drewN (hk.below (Nat.le_refl _) (fun _ h => h.elim)) _⟩

theorem least_any (x : Nat) (hx : x < 2 ^ 64) (w : World) :
    Calls Try.prog 3 #[.int .u64 x] w fun e w' => e = .returned (.bool true) ∧ Below w.heap.size w w' := by
  have hcl := ceilV_lt 64 x
  obtain ⟨v, hv⟩ : ∃ v, v = ceilV 64 x := ⟨_, rfl⟩
  cases hB : ceilB 64 x with
  | false =>
    obtain ⟨h1, h2⟩ := ceil_no x hB
    have hC : ∀ w, Calls Try.prog 8 #[.int .u64 x] w fun e w' => e = .returned (.tuple #[.int .u64 0, .bool false]) ∧ w' = w := by
      intro w; have := ceil_64 x hx w; rw [hB, h1] at this; exact this
    have HC := hid hC
    have h3 : (9223372036854775808 : Int) < (x : Int) := by omega
    clear hC h1 h2 hv hB hcl
    go_enter Try.func3, Try.ntmps3
    go_wp2_with (first | (go_at_call 7; refine (awake_any _).mono ?_; rintro e w1 ⟨rfl, hk⟩) | (go_at_call 8; refine (HC.out _).mono ?_; rintro e w' ⟨rfl, rfl⟩))
    go_ret
    exact ⟨rfl, hk.below (Nat.le_refl _) (fun _ h => h.elim)⟩
  | true =>
    obtain ⟨h1, h2⟩ := ceil_yes x hx hB
    have hpx : isP v = true := (isP_iff v).2 ⟨cl x, by rw [hv, h1]⟩
    have hC : ∀ w, Calls Try.prog 8 #[.int .u64 x] w fun e w' => e = .returned (.tuple #[.int .u64 v, .bool true]) ∧ w' = w := by
      intro w; have := ceil_64 x hx w; rw [hB, ← hv] at this; exact this
    have hvlt : v < 2 ^ 64 := by rw [hv]; exact hcl
    have hc1 : cnt v = 1 := by rw [cnt_eq 64 v hvlt, hv, h1]; exact cnt_pow 64 _ h2
    have hxv : x ≤ v := by rw [hv, h1]; exact (cl_spec x _).2 (Nat.le_refl _)
    have hhalf : 1 < v → v / 2 < x := by
      intro h; rw [hv, h1] at h ⊢
      exact cl_half x (by
        rcases Nat.eq_zero_or_pos (cl x) with e | e
        · rw [e] at h; simp at h
        · exact e)
    have hisP := isP_cl x
    rw [← h1, ← hv] at hisP
    have HC := hid hC
    have hcs := cnt_isP x hx
    by_cases hx0 : x = 0
    · subst hx0
      have hv1 : v = 1 := by rw [hv]; rfl
      subst hv1
      have l0 : ∀ w, Calls Try.prog 11 #[.int .u64 0] w fun e w' => e = .returned (.int .i64 (-1)) ∧ w' = w := fun w => log_64 0 (by decide) w
      have p1 : ∀ w, Calls Try.prog 9 #[.int .u64 1] w fun e w' => e = .returned (.bool true) ∧ w' = w := fun w => isPower_64 1 (by decide) w
      have k1 : ∀ w, Calls Try.prog 10 #[.int .u64 1] w fun e w' => e = .returned (.int .i64 1) ∧ w' = w := fun w => by have := count_64 1 (by decide) w; rw [cnt_eq 64 1 (by decide)] at this; exact this
      have L0 := hid l0
      have P1 := hid p1
      have K1 := hid k1
      clear l0 p1 k1 hC h1 h2 hv hB hcl hpx hc1 hxv hhalf hisP hcs
      go_enter Try.func3, Try.ntmps3
      go_wp2_with (first | (go_at_call 7; refine (awake_any _).mono ?_; rintro e w1 ⟨rfl, hk⟩) | (go_at_call 8; refine (HC.out _).mono ?_; rintro e w' ⟨rfl, rfl⟩) | (go_at_call 11; refine (L0.out _).mono ?_; rintro e w' ⟨rfl, rfl⟩) | (go_at_call 9; refine (P1.out _).mono ?_; rintro e w' ⟨rfl, rfl⟩) | (go_at_call 10; refine (K1.out _).mono ?_; rintro e w' ⟨rfl, rfl⟩))
      go_ret
      exact ⟨rfl, hk.below (Nat.le_refl _) (fun _ h => h.elim)⟩
    · obtain ⟨p, hp⟩ : ∃ p, p = Nat.log2 x := ⟨_, rfl⟩
      have hlg : lg x = (p : Int) := by rw [lg_pos x hx0, hp]
      have hp64 : p < 64 := by rw [hp]; exact (Nat.log2_lt hx0).2 hx
      have hplo : 2 ^ p ≤ x := by rw [hp]; exact Nat.log2_self_le hx0
      have hphi : x < 2 ^ (p + 1) := by rw [hp]; exact Nat.lt_log2_self
      rw [Nat.pow_succ] at hphi
      have hw := wrap_pow p hp64
      have b1 : (2 : Int) ^ p ≤ (x : Int) := by rw [pow_cast]; exact Int.ofNat_le.2 hplo
      have b2 : (x : Int) - 2 ^ p < 2 ^ p := by
        rw [pow_cast]
        obtain ⟨t, ht⟩ : ∃ t, t = 2 ^ p := ⟨_, rfl⟩
        rw [← ht] at hphi ⊢
        omega
      have b3 := (pow_b p hp64).1
      have hx1 : ((x : Int) == 0) = false := by rw [beq_eq_false_iff_ne]; omega
      have hisI : ((v : Int) == (x : Int)) = isP x := by
        rw [hisP, Bool.eq_iff_iff, beq_iff_eq, beq_iff_eq]; omega
      have hc1' : ((cnt v : Nat) : Int) = 1 := by rw [hc1]; rfl
      have hnl : decide ((v : Int) < (x : Int)) = false := decide_eq_false (by omega)
      have d1 : decide ((p : Int) < 0) = false := decide_eq_false (by omega)
      have d2 : decide (63 < (p : Int)) = false := decide_eq_false (by omega)
      have d3 : decide ((x : Int) < 2 ^ p) = false := decide_eq_false (by omega)
      have d4 : decide ((2 : Int) ^ p ≤ (x : Int) - 2 ^ p) = false := decide_eq_false (by omega)
      clear hC h1 h2 hv hB hcl hisP hc1 hp hplo hphi
      exact least_main x v p w hx hvlt hp64 hlg hw b1 b2 b3 hx1 hisI hc1' hcs hpx (by omega) hhalf HC

theorem and_low (y n : Nat) : y &&& (2 ^ n - 1) = y % 2 ^ n := Nat.and_two_pow_sub_one_eq_mod y n
theorem between_any (x a : Nat) (hx : x < 2 ^ 64) (ha : a < 2 ^ 64) (w : World) :
    Calls Try.prog 4 #[.int .u64 x, .int .u64 a] w fun e w' => e = .returned (.bool true) ∧ Below w.heap.size w w' := by
  have hdl := downV_le x a
  have hul := upV_lt 64 x a hx
  cases hP : isP a with
  | false =>
    have e1 := downV_no x a hP
    have e2 := upV_no 64 x a hP
    have e3 := upB_no 64 x a hP
    go_enter Try.func4, Try.ntmps4
    go_wp2_with (first | (go_at_call 7; refine (awake_any _).mono ?_; rintro e w1 ⟨rfl, hk⟩) | (go_at_call 12; refine (down_64 x a hx ha _).mono ?_; rintro e w' ⟨rfl, rfl⟩) | (go_at_call 13; refine (up_64 x a hx ha _).mono ?_; rintro e w' ⟨rfl, rfl⟩) | (go_at_call 9; refine (isPower_64 a ha _).mono ?_; rintro e w' ⟨rfl, rfl⟩))
    go_ret
    exact ⟨rfl, hk.below (Nat.le_refl _) (fun _ h => h.elim)⟩
  | true =>
    have hp1 := isP_pos a hP
    obtain ⟨n, hn⟩ := (isP_iff a).1 hP
    obtain ⟨d, hd⟩ : ∃ d, d = downV x a := ⟨_, rfl⟩
    obtain ⟨u, hu⟩ : ∃ u, u = upV 64 x a := ⟨_, rfl⟩
    have hdy := downV_yes x a hP
    have hmod : d % a = 0 := by rw [hd, hdy]; exact Nat.mul_mod_left _ _
    have hgap : x - d < a := by
      rw [hd, hdy]
      have h1 := Nat.mod_lt x (by omega : 0 < a)
      have h2 := Nat.div_add_mod x a
      rw [Nat.mul_comm] at h2
      omega
    have hxd : d ≤ x := by rw [hd]; exact hdl
    have hand : ∀ y : Nat, y < 2 ^ 64 → bits BinOp.and IntKind.u64 (y : Int) ((a : Int) - 1) = ((y % a : Nat) : Int) := by
      intro y hy
      have e : ((a : Int) - 1) = ((a - 1 : Nat) : Int) := by omega
      rw [e, u64_and_nat y (a - 1) hy (by omega)]
      congr 1
      rw [hn]; exact and_low y n
    have hD : ∀ w, Calls Try.prog 12 #[.int .u64 x, .int .u64 a] w fun e w' => e = .returned (.tuple #[.int .u64 d, .bool true]) ∧ w' = w := by
      intro w; have := down_64 x a hx ha w; rw [hP, ← hd] at this; exact this
    have HD := hid hD
    have had : bits BinOp.and IntKind.u64 (d : Int) ((a : Int) - 1) = 0 := by rw [hand d (by omega), hmod]; rfl
    have dd1 : decide ((x : Int) < (d : Int)) = false := decide_eq_false (by omega)
    have dd2 : decide ((a : Int) ≤ (x : Int) - (d : Int)) = false := decide_eq_false (by omega)
    have hdx : d < 2 ^ 64 := by omega
    cases hB : upB 64 x a with
    | false =>
      have hne : d ≠ x := by
        intro e
        rw [hd] at e
        rw [upB_eq 64 x a hP e] at hB
        cases hB
      have hov : ¬ downV x a + a < 2 ^ 64 := by
        intro e
        rw [upB_in 64 x a hP (by rw [← hd]; exact hne) e] at hB
        cases hB
      have hnx := down_next 64 x a hx ha hP
      rw [← hd] at hov hnx
      have hU : ∀ w, Calls Try.prog 13 #[.int .u64 x, .int .u64 a] w fun e w' => e = .returned (.tuple #[.int .u64 0, .bool false]) ∧ w' = w := by
        intro w; have := up_64 x a hx ha w
        rw [hB, upV_out 64 x a hP (by rw [← hd]; exact hne) (by rw [← hd]; exact hov)] at this; exact this
      have HU := hid hU
      have hnb : ((d : Int) != (x : Int)) = true := by rw [bne_iff_ne]; omega
      have hwr : IntKind.u64.wrap ((d : Int) + (a : Int)) = 0 := by rw [wrap_u64]; omega
      clear hD hU hand hdy hul hdl hmod hgap hd hu hn hov hnx hB hne
      go_enter Try.func4, Try.ntmps4
      go_wp2_with (first | (go_at_call 7; refine (awake_any _).mono ?_; rintro e w1 ⟨rfl, hk⟩) | (go_at_call 12; refine (HD.out _).mono ?_; rintro e w' ⟨rfl, rfl⟩) | (go_at_call 13; refine (HU.out _).mono ?_; rintro e w' ⟨rfl, rfl⟩) | (go_at_call 9; refine (isPower_64 a ha _).mono ?_; rintro e w' ⟨rfl, rfl⟩))
      go_ret
      exact ⟨rfl, hk.below (Nat.le_refl _) (fun _ h => h.elim)⟩
    | true =>
      have hU : ∀ w, Calls Try.prog 13 #[.int .u64 x, .int .u64 a] w fun e w' => e = .returned (.tuple #[.int .u64 u, .bool true]) ∧ w' = w := by
        intro w; have := up_64 x a hx ha w
        rw [hB, ← hu] at this; exact this
      have hcase : (d = x ∧ u = x) ∨ (d ≠ x ∧ u = d + a ∧ d + a < 2 ^ 64) := by
        by_cases e : downV x a = x
        · exact Or.inl ⟨by rw [hd]; exact e, by rw [hu]; exact upV_eq 64 x a hP e⟩
        · by_cases e2 : downV x a + a < 2 ^ 64
          · exact Or.inr ⟨by rw [hd]; exact e, by rw [hu, hd]; exact upV_in 64 x a hP e e2, by rw [hd]; exact e2⟩
          · rw [upB_out 64 x a hP e e2] at hB; cases hB
      have hul2 : u < 2 ^ 64 := by rw [hu]; exact hul
      have humod : u % a = 0 := by
        rcases hcase with ⟨e1, e2⟩ | ⟨e1, e2, e3⟩
        · rw [e2, ← e1]; exact hmod
        · rw [e2, Nat.add_mod_right]; exact hmod
      have hau : bits BinOp.and IntKind.u64 (u : Int) ((a : Int) - 1) = 0 := by rw [hand u hul2, humod]; rfl
      have g1 : x ≤ u := by rcases hcase with ⟨e1, e2⟩ | ⟨e1, e2, e3⟩ <;> omega
      have g2 : u - x < a := by rcases hcase with ⟨e1, e2⟩ | ⟨e1, e2, e3⟩ <;> omega
      have g3 : ((u : Int) == (d : Int)) = ((d : Int) == (x : Int)) := by
        rw [Bool.eq_iff_iff, beq_iff_eq, beq_iff_eq]
        rcases hcase with ⟨e1, e2⟩ | ⟨e1, e2, e3⟩ <;> omega
      have HU := hid hU
      clear hD hU hand hdy hul hdl hmod hgap hd hu hn hB hcase humod
      go_enter Try.func4, Try.ntmps4
      go_wp2_with (first | (go_at_call 7; refine (awake_any _).mono ?_; rintro e w1 ⟨rfl, hk⟩) | (go_at_call 12; refine (HD.out _).mono ?_; rintro e w' ⟨rfl, rfl⟩) | (go_at_call 13; refine (HU.out _).mono ?_; rintro e w' ⟨rfl, rfl⟩) | (go_at_call 9; refine (isPower_64 a ha _).mono ?_; rintro e w' ⟨rfl, rfl⟩))
      go_ret
      exact ⟨rfl, hk.below (Nat.le_refl _) (fun _ h => h.elim)⟩
end Go.Proofs.Ytahdjaocfejjeab
