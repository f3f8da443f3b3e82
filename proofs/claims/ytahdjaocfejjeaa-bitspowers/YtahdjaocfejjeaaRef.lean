/- Contracts of the document's own answers on numbers (croftref1): Cut, Power, IsPower, Log, Count, Ceil, Down, Up. -/
import Derived.Test.YtahdjaocfejjeaaNums
namespace Go.Proofs.Ytahdjaocfejjeaa
open Go.RowKit
set_option linter.unusedVariables false

def pw (k : Nat) : Nat := 2 ^ k
theorem pw_le (k j : Nat) (h : k ≤ j) : pw k ≤ pw j := (pow_le k j).2 h
theorem pw_lt64 (k : Nat) (h : k < 64) : pw k < 2 ^ 64 := (pow_lt k 64).2 h
theorem pw_succ (k : Nat) : pw (k + 1) = pw k * 2 := Nat.pow_succ ..
theorem pw_pos (k : Nat) : 0 < pw k := Nat.two_pow_pos k

theorem power_any (n : Nat) (hn : n < 64) (w : World) :
    Calls Try.prog 83 #[.int .i64 n] w fun e w' => e = .returned (.int .u64 (pw n)) ∧ w' = w := by
  go_enter Try.func83, Try.ntmps83
  go_wp2
  go_loop [3, 4] (fun x i => ∃ k : Nat, k ≤ n ∧ i = .int .i64 k ∧ x = .int .u64 (pw k)) (fun _ i => n - (intOf i).toNat)
  case atStart => exact ⟨0, by omega, rfl, rfl⟩
  case round =>
    obtain ⟨k, hk, rfl, rfl⟩ := hrel
    by_cases hlt : k < n
    · have h1 := pw_lt64 (k + 1) (by omega)
      rw [pw_succ] at h1
      have h2 : (pw k : Int) * 2 < 18446744073709551616 := by omega
      go_wp2
      go_round
      case rel => exact ⟨k + 1, by omega, by go_num, by rw [pw_succ]; go_num⟩
      case measure => simp [intOf]; omega
    · go_wp2
      go_ret
      have : k = n := by omega
      subst this
      exact ⟨rfl, rfl⟩
theorem cut_64 (x : Nat) (hx : x < 2 ^ 64) (w : World) :
    Calls Try.prog 49 #[.int .u64 x, .int .i64 64] w fun e w' => e = .returned (.int .u64 ((x % 2 ^ 64 : Nat) : Int)) ∧ w' = w := by
  have e : x % 2 ^ 64 = x := Nat.mod_eq_of_lt hx
  rw [e]
  clear e
  go_enter Try.func49, Try.ntmps49
  go_wp2
  go_ret
  exact ⟨rfl, rfl⟩
theorem cut_8 (x : Nat) (hx : x < 2 ^ 64) (w : World) :
    Calls Try.prog 49 #[.int .u64 x, .int .i64 8] w fun e w' => e = .returned (.int .u64 ((x % 2 ^ 8 : Nat) : Int)) ∧ w' = w := by
  have e : bits BinOp.and IntKind.u64 (x : Int) (256 - 1) = ((x % 2 ^ 8 : Nat) : Int) := by
    have := u64_and_nat x (2 ^ 8 - 1) (by omega) (by decide)
    rw [Nat.and_two_pow_sub_one_eq_mod] at this
    exact this
  obtain ⟨y, hy⟩ : ∃ y, y = x % 2 ^ 8 := ⟨_, rfl⟩
  rw [← hy] at e ⊢
  clear hy
  have E : Hid (bits BinOp.and IntKind.u64 (x : Int) (256 - 1) = (y : Int)) := e
  clear e
  go_enter Try.func49, Try.ntmps49
  go_wp2
  go_ret
  exact ⟨ret_int E.out, rfl⟩
theorem cut_16 (x : Nat) (hx : x < 2 ^ 64) (w : World) :
    Calls Try.prog 49 #[.int .u64 x, .int .i64 16] w fun e w' => e = .returned (.int .u64 ((x % 2 ^ 16 : Nat) : Int)) ∧ w' = w := by
  have e : bits BinOp.and IntKind.u64 (x : Int) (65536 - 1) = ((x % 2 ^ 16 : Nat) : Int) := by
    have := u64_and_nat x (2 ^ 16 - 1) (by omega) (by decide)
    rw [Nat.and_two_pow_sub_one_eq_mod] at this
    exact this
  obtain ⟨y, hy⟩ : ∃ y, y = x % 2 ^ 16 := ⟨_, rfl⟩
  rw [← hy] at e ⊢
  clear hy
  have E : Hid (bits BinOp.and IntKind.u64 (x : Int) (65536 - 1) = (y : Int)) := e
  clear e
  go_enter Try.func49, Try.ntmps49
  go_wp2
  go_ret
  exact ⟨ret_int E.out, rfl⟩
theorem cut_32 (x : Nat) (hx : x < 2 ^ 64) (w : World) :
    Calls Try.prog 49 #[.int .u64 x, .int .i64 32] w fun e w' => e = .returned (.int .u64 ((x % 2 ^ 32 : Nat) : Int)) ∧ w' = w := by
  have e : bits BinOp.and IntKind.u64 (x : Int) (4294967296 - 1) = ((x % 2 ^ 32 : Nat) : Int) := by
    have := u64_and_nat x (2 ^ 32 - 1) (by omega) (by decide)
    rw [Nat.and_two_pow_sub_one_eq_mod] at this
    exact this
  obtain ⟨y, hy⟩ : ∃ y, y = x % 2 ^ 32 := ⟨_, rfl⟩
  rw [← hy] at e ⊢
  clear hy
  have E : Hid (bits BinOp.and IntKind.u64 (x : Int) (4294967296 - 1) = (y : Int)) := e
  clear e
  go_enter Try.func49, Try.ntmps49
  go_wp2
  go_ret
  exact ⟨ret_int E.out, rfl⟩
theorem cutR_8 (x y : Nat) (hy : Hid (y = x % 2 ^ 8)) (hx : x < 2 ^ 64) (w : World) :
    Calls Try.prog 49 #[.int .u64 x, .int .i64 8] w fun e w' => e = .returned (.int .u64 y) ∧ w' = w := by
  have := cut_8 x hx w
  rw [← hy.out] at this
  exact this
theorem cutR_16 (x y : Nat) (hy : Hid (y = x % 2 ^ 16)) (hx : x < 2 ^ 64) (w : World) :
    Calls Try.prog 49 #[.int .u64 x, .int .i64 16] w fun e w' => e = .returned (.int .u64 y) ∧ w' = w := by
  have := cut_16 x hx w
  rw [← hy.out] at this
  exact this
theorem cutR_32 (x y : Nat) (hy : Hid (y = x % 2 ^ 32)) (hx : x < 2 ^ 64) (w : World) :
    Calls Try.prog 49 #[.int .u64 x, .int .i64 32] w fun e w' => e = .returned (.int .u64 y) ∧ w' = w := by
  have := cut_32 x hx w
  rw [← hy.out] at this
  exact this
theorem cutR_64 (x y : Nat) (hy : Hid (y = x % 2 ^ 64)) (hx : x < 2 ^ 64) (w : World) :
    Calls Try.prog 49 #[.int .u64 x, .int .i64 64] w fun e w' => e = .returned (.int .u64 y) ∧ w' = w := by
  have := cut_64 x hx w
  rw [← hy.out] at this
  exact this
theorem refIsPower (x W : Nat) (hx : x < 2 ^ W) (hW : W ≤ 64) (w : World) :
    Calls Try.prog 50 #[.int .u64 x, .int .i64 W] w fun e w' => e = .returned (.bool (isP x)) ∧ w' = w := by
  have HX : Hid (x < 2 ^ W) := hx
  clear hx
  go_enter Try.func50, Try.ntmps50
  go_wp2
  go_loop [5] (fun i => ∃ k : Nat, k ≤ W ∧ i = .int .i64 k ∧ Hid (∀ j, j < k → pw j ≠ x)) (fun i => W - (intOf i).toNat)
  case atStart => exact ⟨0, by omega, rfl, fun j hj => by omega⟩
  case round =>
    obtain ⟨k, hk, rfl, hp⟩ := hrel
    by_cases hlt : k < W
    · go_wp2_with (go_at_call 83; refine (power_any k (by omega) _).mono ?_; rintro e w' ⟨rfl, rfl⟩)
      · go_ret
        have h : ((pw k : Int) == (x : Int)) = true := by assumption
        have h2 : x = pw k := by have := eq_of_beq h; omega
        exact ⟨ret_bool ((isP_iff x).2 ⟨k, h2⟩).symm, rfl⟩
      · have h : ((pw k : Int) == (x : Int)) = false := by assumption
        go_round
        case rel =>
          refine ⟨k + 1, by omega, by go_num, ?_⟩
          intro j hj
          by_cases e : j < k
          · exact hp.out j e
          · have : j = k := by omega
            subst this
            intro h2
            simp [h2] at h
        case measure => simp [intOf]; omega
    · go_wp2
      go_ret
      refine ⟨ret_bool ?_, rfl⟩
      cases h : isP x with
      | false => rfl
      | true =>
        obtain ⟨n, hn⟩ := (isP_iff x).1 h
        have hh := HX.out
        rw [hn] at hh
        exact absurd hn.symm (hp.out n (by have := (pow_lt n W).1 hh; omega))
theorem lg_down (x k : Nat) (h : pw k ≤ x) (h1 : x < pw (k + 1)) : (k : Int) = lg x := by
  have h0 : x ≠ 0 := by have := pw_pos k; omega
  rw [lg_pos x h0]
  have a := (Nat.le_log2 h0).2 h
  have b := (Nat.log2_lt h0).2 h1
  omega
theorem refLog (x W : Nat) (hx : x < 2 ^ W) (hW : W ≤ 64) (w : World) :
    Calls Try.prog 51 #[.int .u64 x, .int .i64 W] w fun e w' => e = .returned (.int .i64 (lg x)) ∧ w' = w := by
  have HX : Hid (x < 2 ^ W) := hx
  clear hx
  go_enter Try.func51, Try.ntmps51
  go_wp2
  go_loop [5] (fun i => ∃ k : Nat, k ≤ W ∧ i = .int .i64 ((k : Int) - 1) ∧ Hid (x < pw k)) (fun i => (intOf i + 1).toNat)
  case atStart => exact ⟨W, by omega, rfl, HX.out⟩
  case round =>
    obtain ⟨k, hk, rfl, hp⟩ := hrel
    by_cases hlt : 0 < k
    · obtain ⟨j, rfl⟩ : ∃ j, k = j + 1 := ⟨k - 1, by omega⟩
      have ej : (((j + 1 : Nat) : Int) - 1) = (j : Int) := by omega
      rw [ej]
      clear ej
      go_wp2_with (go_at_call 83; refine (power_any j (by omega) _).mono ?_; rintro e w' ⟨rfl, rfl⟩)
      · go_ret
        have h : pw j ≤ x := by assumption
        exact ⟨ret_int (lg_down x j h hp.out), rfl⟩
      · have h : ¬ pw j ≤ x := by omega
        go_round
        case rel => exact ⟨j, by omega, rfl, (by omega : x < pw j)⟩
        case measure => (simp [intOf]) <;> omega
    · have : k = 0 := by omega
      subst this
      go_wp2
      go_ret
      have h := hp.out
      have e : x = 0 := by have : pw 0 = 1 := rfl; omega
      subst e
      exact ⟨ret_int lg_zero.symm, rfl⟩
theorem refCountF (x : Nat) (hx : x < 2 ^ 64) (w : World) :
    Calls Try.prog 52 #[.int .u64 x] w fun e w' => e = .returned (.int .i64 (cntF 64 x)) ∧ w' = w := by
  go_enter Try.func52, Try.ntmps52
  go_wp2
  go_loop [0, 3] (fun y c => ∃ z n j : Nat, j ≤ 64 ∧ n ≤ 64 - j ∧ y = .int .u64 z ∧ c = .int .i64 n ∧ z < 18446744073709551616 ∧ Hid (z < 2 ^ j) ∧ Hid (n + cntF j z = cntF 64 x)) (fun y _ => (intOf y).toNat)
  case atStart => exact ⟨x, 0, 64, by omega, by omega, rfl, rfl, hx, hx, (by simp : 0 + cntF 64 x = cntF 64 x)⟩
  case round =>
    obtain ⟨z, n, j, hj, hn, rfl, rfl, hz, hzj, hp⟩ := hrel
    by_cases h0 : z = 0
    · subst h0
      go_wp2
      go_ret
      have h := hp.out
      rw [cntF_zero] at h
      exact ⟨ret_int (by rw [← h]; rfl), rfl⟩
    · have hj0 : j ≠ 0 := by
        intro e; subst e; have := hzj.out; omega
      obtain ⟨i, rfl⟩ : ∃ i, j = i + 1 := ⟨j - 1, by omega⟩
      have hs : cntF (i + 1) z = z % 2 + cntF i (z / 2) := rfl
      have HS : Hid (cntF (i + 1) z = z % 2 + cntF i (z / 2)) := hs
      clear hs
      have hlo : z / 2 < 2 ^ i := by have := hzj.out; rw [Nat.pow_succ] at this; omega
      have HL : Hid (z / 2 < 2 ^ i) := hlo
      clear hlo
      by_cases h2 : z % 2 = 1
      · have ht : ((z : Int) % 2 == 1) = true := by rw [beq_iff_eq]; omega
        have H2 : Hid (z % 2 = 1) := h2
        clear h2
        go_wp2
        go_round
        case rel => exact ⟨z / 2, n + 1, i, by omega, by omega, by go_num, by go_num, by omega, HL, (by have := hp.out; have := HS.out; have := H2.out; omega : n + 1 + cntF i (z / 2) = cntF 64 x)⟩
        case measure => simp [intOf]; omega
      · have ht : ((z : Int) % 2 == 1) = false := by rw [beq_eq_false_iff_ne]; omega
        have H2 : Hid (¬ z % 2 = 1) := h2
        clear h2
        go_wp2
        go_round
        case rel => exact ⟨z / 2, n, i, by omega, by omega, by go_num, rfl, by omega, HL, (by have := hp.out; have := HS.out; have := H2.out; omega : n + cntF i (z / 2) = cntF 64 x)⟩
        case measure => simp [intOf]; omega
theorem refCount (x : Nat) (hx : x < 2 ^ 64) (w : World) :
    Calls Try.prog 52 #[.int .u64 x] w fun e w' => e = .returned (.int .i64 (cnt x)) ∧ w' = w := by
  rw [cnt_eq 64 x hx]
  exact refCountF x hx w
theorem refCeil (x W : Nat) (hx : x < 2 ^ W) (hW : W ≤ 64) (w : World) :
    Calls Try.prog 53 #[.int .u64 x, .int .i64 W] w fun e w' => e = .returned (.tuple #[.int .u64 (ceilV W x), .bool (ceilB W x)]) ∧ w' = w := by
  have HX : Hid (x < 2 ^ W) := hx
  clear hx
  go_enter Try.func53, Try.ntmps53
  go_wp2
  go_loop [6] (fun i => ∃ k : Nat, k ≤ W ∧ i = .int .i64 k ∧ Hid (∀ j, j < k → ¬ x ≤ pw j)) (fun i => W - (intOf i).toNat)
  case atStart => exact ⟨0, by omega, rfl, fun j hj => by omega⟩
  case round =>
    obtain ⟨k, hk, rfl, hp⟩ := hrel
    by_cases hlt : k < W
    · by_cases hc : x ≤ pw k
      · have hck : cl x = k := by
          have h1 := (cl_spec x k).1 hc
          by_cases h2 : cl x < k
          · exact absurd ((cl_spec x (cl x)).2 (Nat.le_refl _)) (hp.out _ h2)
          · omega
        have hv : pw k = ceilV W x := by unfold ceilV; rw [if_pos (by omega), hck]; rfl
        have hb : true = ceilB W x := by unfold ceilB; rw [decide_eq_true (by omega)]
        have HV : Hid (pw k = ceilV W x) := hv
        have HB : Hid (true = ceilB W x) := hb
        clear hv hb hck
        go_wp2_with (go_at_call 83; refine (power_any k (by omega) _).mono ?_; rintro e w' ⟨rfl, rfl⟩)
        go_ret2
        exact ⟨ret_pair (by rw [HV.out]) HB.out, rfl⟩
      · go_wp2_with (go_at_call 83; refine (power_any k (by omega) _).mono ?_; rintro e w' ⟨rfl, rfl⟩)
        go_round
        case rel =>
          refine ⟨k + 1, by omega, by go_num, ?_⟩
          intro j hj
          by_cases e : j < k
          · exact hp.out j e
          · have : j = k := by omega
            subst this
            exact hc
        case measure => simp [intOf]; omega
    · have hck : ¬ cl x < W := by
        intro h2
        exact absurd ((cl_spec x (cl x)).2 (Nat.le_refl _)) (hp.out _ (by omega))
      have HV : Hid (0 = ceilV W x) := by show _ = _; unfold ceilV; rw [if_neg hck]
      have HB : Hid (false = ceilB W x) := by show _ = _; unfold ceilB; rw [decide_eq_false hck]
      clear hck
      go_wp2
      go_ret2
      exact ⟨ret_pair (by rw [← HV.out]; rfl) HB.out, rfl⟩
theorem refDown (x a W : Nat) (hx : x < 2 ^ W) (ha : a < 2 ^ W) (hW : W ≤ 64) (w : World) :
    Calls Try.prog 71 #[.int .u64 x, .int .u64 a, .int .i64 W] w fun e w' => e = .returned (.tuple #[.int .u64 (downV x a), .bool (isP a)]) ∧ w' = w := by
  have h64 : 2 ^ W ≤ 2 ^ 64 := (pow_le W 64).2 hW
  have hx64 : x < 18446744073709551616 := by omega
  have ha64 : a < 18446744073709551616 := by omega
  have HX : Hid (x < 2 ^ W) := hx
  have HA : Hid (a < 2 ^ W) := ha
  clear hx ha h64
  by_cases h : isP a = true
  · have hp := isP_pos a h
    have hd := downV_yes x a h
    have hl := downV_le x a
    rw [hd] at hl
    have hq : (x : Int) / (a : Int) = ((x / a : Nat) : Int) := by simp
    have hql : x / a ≤ x := Nat.div_le_self x a
    have E : Hid (IntKind.u64.wrap (IntKind.u64.wrap ((x : Int) / (a : Int)) * (a : Int)) = ((downV x a : Nat) : Int)) := by
      show _ = _
      obtain ⟨q, hqd⟩ : ∃ q, x / a = q := ⟨_, rfl⟩
      rw [hqd] at hq hql hd hl
      have g1 : IntKind.u64.wrap ((x : Int) / (a : Int)) = (q : Int) := by rw [hq, wrap_u64]; omega
      have g2 : (q : Int) * (a : Int) = ((q * a : Nat) : Int) := (Int.natCast_mul _ _).symm
      rw [g1, g2, hd, wrap_u64]
      obtain ⟨p, hp2⟩ : ∃ p, q * a = p := ⟨_, rfl⟩
      rw [hp2] at hl ⊢
      omega
    have h0 : ((a : Int) == 0) = false := by rw [beq_eq_false_iff_ne]; omega
    clear hd hl hq hql
    go_enter Try.func71, Try.ntmps71
    go_wp2_with (go_at_call 50; refine (refIsPower a W HA.out hW _).mono ?_; rintro e w' ⟨rfl, rfl⟩)
    go_ret2
    exact ⟨ret_pair E.out h.symm, rfl⟩
  · have h : isP a = false := by simpa using h
    have HD : Hid (downV x a = 0) := downV_no x a h
    go_enter Try.func71, Try.ntmps71
    go_wp2_with (go_at_call 50; refine (refIsPower a W HA.out hW _).mono ?_; rintro e w' ⟨rfl, rfl⟩)
    go_ret2
    exact ⟨ret_pair (by rw [HD.out]; rfl) h.symm, rfl⟩
theorem refUp_8 (x a : Nat) (hx : x < 2 ^ 8) (ha : a < 2 ^ 8) (w : World) :
    Calls Try.prog 70 #[.int .u64 x, .int .u64 a, .int .i64 8] w fun e w' => e = .returned (.tuple #[.int .u64 (upV 8 x a), .bool (upB 8 x a)]) ∧ w' = w := by
  have hD : ∀ w, Calls Try.prog 71 #[.int .u64 x, .int .u64 a, .int .i64 8] w fun e w' => e = .returned (.tuple #[.int .u64 (downV x a), .bool (isP a)]) ∧ w' = w := fun w => refDown x a 8 hx ha (by decide) w
  have hC : ∀ w, Calls Try.prog 49 #[.int .u64 18446744073709551615, .int .i64 8] w fun e w' => e = .returned (.int .u64 (256 - 1)) ∧ w' = w := fun w => cut_8 18446744073709551615 (by decide) w
  have HDn : Hid (∀ w, Calls Try.prog 71 #[.int .u64 x, .int .u64 a, .int .i64 8] w fun e w' => e = .returned (.tuple #[.int .u64 (downV x a), .bool (isP a)]) ∧ w' = w) := hD
  have HCt : Hid (∀ w, Calls Try.prog 49 #[.int .u64 18446744073709551615, .int .i64 8] w fun e w' => e = .returned (.int .u64 (256 - 1)) ∧ w' = w) := hC
  clear hD hC
  have hl := downV_le x a
  by_cases h : isP a = true
  · by_cases h1 : downV x a = x
    · have b := upB_eq 8 x a h h1
      have v := upV_eq 8 x a h h1
      have h2 : (((downV x a : Nat) : Int) == (x : Int)) = true := by rw [h1]; simp
      clear hl h1
      go_enter Try.func70, Try.ntmps70
      go_wp2_with (go_at_call 71; refine (HDn.out _).mono ?_; rintro e w' ⟨rfl, rfl⟩)
      go_ret2
      exact ⟨ret_pair (by rw [v]; exact eq_of_beq h2) b.symm, rfl⟩
    · have h2 : (((downV x a : Nat) : Int) == (x : Int)) = false := by
        rw [beq_eq_false_iff_ne]; omega
      by_cases h3 : downV x a + a < 2 ^ 8
      · have b := upB_in 8 x a h h1 h3
        have v := upV_in 8 x a h h1 h3
        clear h1
        go_enter Try.func70, Try.ntmps70
        go_wp2_with (first | (go_at_call 71; refine (HDn.out _).mono ?_; rintro e w' ⟨rfl, rfl⟩) | (go_at_call 49; refine (HCt.out _).mono ?_; rintro e w' ⟨rfl, rfl⟩))
        go_ret2
        exact ⟨ret_pair (by rw [v]; omega) b.symm, rfl⟩
      · have b := upB_out 8 x a h h1 h3
        have v := upV_out 8 x a h h1 h3
        clear h1
        go_enter Try.func70, Try.ntmps70
        go_wp2_with (first | (go_at_call 71; refine (HDn.out _).mono ?_; rintro e w' ⟨rfl, rfl⟩) | (go_at_call 49; refine (HCt.out _).mono ?_; rintro e w' ⟨rfl, rfl⟩))
        go_ret2
        exact ⟨ret_pair (by rw [v]; rfl) b.symm, rfl⟩
  · have h : isP a = false := by simpa using h
    have b := upB_no 8 x a h
    have v := upV_no 8 x a h
    have d := downV_no x a h
    go_enter Try.func70, Try.ntmps70
    go_wp2_with (go_at_call 71; refine (HDn.out _).mono ?_; rintro e w' ⟨rfl, rfl⟩)
    go_ret2
    exact ⟨ret_pair (by rw [v]; rfl) (by rw [b]), rfl⟩
theorem refUp_16 (x a : Nat) (hx : x < 2 ^ 16) (ha : a < 2 ^ 16) (w : World) :
    Calls Try.prog 70 #[.int .u64 x, .int .u64 a, .int .i64 16] w fun e w' => e = .returned (.tuple #[.int .u64 (upV 16 x a), .bool (upB 16 x a)]) ∧ w' = w := by
  have hD : ∀ w, Calls Try.prog 71 #[.int .u64 x, .int .u64 a, .int .i64 16] w fun e w' => e = .returned (.tuple #[.int .u64 (downV x a), .bool (isP a)]) ∧ w' = w := fun w => refDown x a 16 hx ha (by decide) w
  have hC : ∀ w, Calls Try.prog 49 #[.int .u64 18446744073709551615, .int .i64 16] w fun e w' => e = .returned (.int .u64 (65536 - 1)) ∧ w' = w := fun w => cut_16 18446744073709551615 (by decide) w
  have HDn : Hid (∀ w, Calls Try.prog 71 #[.int .u64 x, .int .u64 a, .int .i64 16] w fun e w' => e = .returned (.tuple #[.int .u64 (downV x a), .bool (isP a)]) ∧ w' = w) := hD
  have HCt : Hid (∀ w, Calls Try.prog 49 #[.int .u64 18446744073709551615, .int .i64 16] w fun e w' => e = .returned (.int .u64 (65536 - 1)) ∧ w' = w) := hC
  clear hD hC
  have hl := downV_le x a
  by_cases h : isP a = true
  · by_cases h1 : downV x a = x
    · have b := upB_eq 16 x a h h1
      have v := upV_eq 16 x a h h1
      have h2 : (((downV x a : Nat) : Int) == (x : Int)) = true := by rw [h1]; simp
      clear hl h1
      go_enter Try.func70, Try.ntmps70
      go_wp2_with (go_at_call 71; refine (HDn.out _).mono ?_; rintro e w' ⟨rfl, rfl⟩)
      go_ret2
      exact ⟨ret_pair (by rw [v]; exact eq_of_beq h2) b.symm, rfl⟩
    · have h2 : (((downV x a : Nat) : Int) == (x : Int)) = false := by
        rw [beq_eq_false_iff_ne]; omega
      by_cases h3 : downV x a + a < 2 ^ 16
      · have b := upB_in 16 x a h h1 h3
        have v := upV_in 16 x a h h1 h3
        clear h1
        go_enter Try.func70, Try.ntmps70
        go_wp2_with (first | (go_at_call 71; refine (HDn.out _).mono ?_; rintro e w' ⟨rfl, rfl⟩) | (go_at_call 49; refine (HCt.out _).mono ?_; rintro e w' ⟨rfl, rfl⟩))
        go_ret2
        exact ⟨ret_pair (by rw [v]; omega) b.symm, rfl⟩
      · have b := upB_out 16 x a h h1 h3
        have v := upV_out 16 x a h h1 h3
        clear h1
        go_enter Try.func70, Try.ntmps70
        go_wp2_with (first | (go_at_call 71; refine (HDn.out _).mono ?_; rintro e w' ⟨rfl, rfl⟩) | (go_at_call 49; refine (HCt.out _).mono ?_; rintro e w' ⟨rfl, rfl⟩))
        go_ret2
        exact ⟨ret_pair (by rw [v]; rfl) b.symm, rfl⟩
  · have h : isP a = false := by simpa using h
    have b := upB_no 16 x a h
    have v := upV_no 16 x a h
    have d := downV_no x a h
    go_enter Try.func70, Try.ntmps70
    go_wp2_with (go_at_call 71; refine (HDn.out _).mono ?_; rintro e w' ⟨rfl, rfl⟩)
    go_ret2
    exact ⟨ret_pair (by rw [v]; rfl) (by rw [b]), rfl⟩
theorem refUp_32 (x a : Nat) (hx : x < 2 ^ 32) (ha : a < 2 ^ 32) (w : World) :
    Calls Try.prog 70 #[.int .u64 x, .int .u64 a, .int .i64 32] w fun e w' => e = .returned (.tuple #[.int .u64 (upV 32 x a), .bool (upB 32 x a)]) ∧ w' = w := by
  have hD : ∀ w, Calls Try.prog 71 #[.int .u64 x, .int .u64 a, .int .i64 32] w fun e w' => e = .returned (.tuple #[.int .u64 (downV x a), .bool (isP a)]) ∧ w' = w := fun w => refDown x a 32 hx ha (by decide) w
  have hC : ∀ w, Calls Try.prog 49 #[.int .u64 18446744073709551615, .int .i64 32] w fun e w' => e = .returned (.int .u64 (4294967296 - 1)) ∧ w' = w := fun w => cut_32 18446744073709551615 (by decide) w
  have HDn : Hid (∀ w, Calls Try.prog 71 #[.int .u64 x, .int .u64 a, .int .i64 32] w fun e w' => e = .returned (.tuple #[.int .u64 (downV x a), .bool (isP a)]) ∧ w' = w) := hD
  have HCt : Hid (∀ w, Calls Try.prog 49 #[.int .u64 18446744073709551615, .int .i64 32] w fun e w' => e = .returned (.int .u64 (4294967296 - 1)) ∧ w' = w) := hC
  clear hD hC
  have hl := downV_le x a
  by_cases h : isP a = true
  · by_cases h1 : downV x a = x
    · have b := upB_eq 32 x a h h1
      have v := upV_eq 32 x a h h1
      have h2 : (((downV x a : Nat) : Int) == (x : Int)) = true := by rw [h1]; simp
      clear hl h1
      go_enter Try.func70, Try.ntmps70
      go_wp2_with (go_at_call 71; refine (HDn.out _).mono ?_; rintro e w' ⟨rfl, rfl⟩)
      go_ret2
      exact ⟨ret_pair (by rw [v]; exact eq_of_beq h2) b.symm, rfl⟩
    · have h2 : (((downV x a : Nat) : Int) == (x : Int)) = false := by
        rw [beq_eq_false_iff_ne]; omega
      by_cases h3 : downV x a + a < 2 ^ 32
      · have b := upB_in 32 x a h h1 h3
        have v := upV_in 32 x a h h1 h3
        clear h1
        go_enter Try.func70, Try.ntmps70
        go_wp2_with (first | (go_at_call 71; refine (HDn.out _).mono ?_; rintro e w' ⟨rfl, rfl⟩) | (go_at_call 49; refine (HCt.out _).mono ?_; rintro e w' ⟨rfl, rfl⟩))
        go_ret2
        exact ⟨ret_pair (by rw [v]; omega) b.symm, rfl⟩
      · have b := upB_out 32 x a h h1 h3
        have v := upV_out 32 x a h h1 h3
        clear h1
        go_enter Try.func70, Try.ntmps70
        go_wp2_with (first | (go_at_call 71; refine (HDn.out _).mono ?_; rintro e w' ⟨rfl, rfl⟩) | (go_at_call 49; refine (HCt.out _).mono ?_; rintro e w' ⟨rfl, rfl⟩))
        go_ret2
        exact ⟨ret_pair (by rw [v]; rfl) b.symm, rfl⟩
  · have h : isP a = false := by simpa using h
    have b := upB_no 32 x a h
    have v := upV_no 32 x a h
    have d := downV_no x a h
    go_enter Try.func70, Try.ntmps70
    go_wp2_with (go_at_call 71; refine (HDn.out _).mono ?_; rintro e w' ⟨rfl, rfl⟩)
    go_ret2
    exact ⟨ret_pair (by rw [v]; rfl) (by rw [b]), rfl⟩
theorem refUp_64 (x a : Nat) (hx : x < 2 ^ 64) (ha : a < 2 ^ 64) (w : World) :
    Calls Try.prog 70 #[.int .u64 x, .int .u64 a, .int .i64 64] w fun e w' => e = .returned (.tuple #[.int .u64 (upV 64 x a), .bool (upB 64 x a)]) ∧ w' = w := by
  have hD : ∀ w, Calls Try.prog 71 #[.int .u64 x, .int .u64 a, .int .i64 64] w fun e w' => e = .returned (.tuple #[.int .u64 (downV x a), .bool (isP a)]) ∧ w' = w := fun w => refDown x a 64 hx ha (by decide) w
  have hC : ∀ w, Calls Try.prog 49 #[.int .u64 18446744073709551615, .int .i64 64] w fun e w' => e = .returned (.int .u64 (18446744073709551616 - 1)) ∧ w' = w := fun w => cut_64 18446744073709551615 (by decide) w
  have HDn : Hid (∀ w, Calls Try.prog 71 #[.int .u64 x, .int .u64 a, .int .i64 64] w fun e w' => e = .returned (.tuple #[.int .u64 (downV x a), .bool (isP a)]) ∧ w' = w) := hD
  have HCt : Hid (∀ w, Calls Try.prog 49 #[.int .u64 18446744073709551615, .int .i64 64] w fun e w' => e = .returned (.int .u64 (18446744073709551616 - 1)) ∧ w' = w) := hC
  clear hD hC
  have hl := downV_le x a
  by_cases h : isP a = true
  · by_cases h1 : downV x a = x
    · have b := upB_eq 64 x a h h1
      have v := upV_eq 64 x a h h1
      have h2 : (((downV x a : Nat) : Int) == (x : Int)) = true := by rw [h1]; simp
      clear hl h1
      go_enter Try.func70, Try.ntmps70
      go_wp2_with (go_at_call 71; refine (HDn.out _).mono ?_; rintro e w' ⟨rfl, rfl⟩)
      go_ret2
      exact ⟨ret_pair (by rw [v]; exact eq_of_beq h2) b.symm, rfl⟩
    · have h2 : (((downV x a : Nat) : Int) == (x : Int)) = false := by
        rw [beq_eq_false_iff_ne]; omega
      by_cases h3 : downV x a + a < 2 ^ 64
      · have b := upB_in 64 x a h h1 h3
        have v := upV_in 64 x a h h1 h3
        clear h1
        go_enter Try.func70, Try.ntmps70
        go_wp2_with (first | (go_at_call 71; refine (HDn.out _).mono ?_; rintro e w' ⟨rfl, rfl⟩) | (go_at_call 49; refine (HCt.out _).mono ?_; rintro e w' ⟨rfl, rfl⟩))
        go_ret2
        exact ⟨ret_pair (by rw [v]; omega) b.symm, rfl⟩
      · have b := upB_out 64 x a h h1 h3
        have v := upV_out 64 x a h h1 h3
        clear h1
        go_enter Try.func70, Try.ntmps70
        go_wp2_with (first | (go_at_call 71; refine (HDn.out _).mono ?_; rintro e w' ⟨rfl, rfl⟩) | (go_at_call 49; refine (HCt.out _).mono ?_; rintro e w' ⟨rfl, rfl⟩))
        go_ret2
        exact ⟨ret_pair (by rw [v]; rfl) b.symm, rfl⟩
  · have h : isP a = false := by simpa using h
    have b := upB_no 64 x a h
    have v := upV_no 64 x a h
    have d := downV_no x a h
    go_enter Try.func70, Try.ntmps70
    go_wp2_with (go_at_call 71; refine (HDn.out _).mono ?_; rintro e w' ⟨rfl, rfl⟩)
    go_ret2
    exact ⟨ret_pair (by rw [v]; rfl) (by rw [b]), rfl⟩
end Go.Proofs.Ytahdjaocfejjeaa
