/- oracle.Round, Product, Bound. -/
import Derived.Test.YtibljocjdlgfbaaOrC
import Derived.Test.YtibljocjdlgfbaaOrH
namespace Go.Proofs.Ytibljocjdlgfbaa
open Go.RowKit
set_option linter.unusedVariables false

/-- What is asked for at least. -/
def askN (s a : Nat) : Nat := max (max s a) 16
/-- What Round tells. -/
def rdK (base : Nat) (lim ord : Int) (s a : Nat) : Bool := ceilB 64 (askN s a) && decide (ceilV 64 (askN s a) ≤ RS ord.toNat)
def rdE (base : Nat) (lim ord : Int) (s a : Nat) : Int := if mayB base lim ord && isP a then (if rdK base lim ord s a then 0 else 3) else 1
def rdV (base : Nat) (lim ord : Int) (s a : Nat) : Nat := if mayB base lim ord && isP a && rdK base lim ord s a then ceilV 64 (askN s a) else 0

set_option maxRecDepth 4000 in
theorem Round_any (base : Nat) (hb64 : base < 18446744073709551616) (lim ord : Int) (hl1 : -9223372036854775808 ≤ lim) (hl2 : lim ≤ 9223372036854775807) (ho1 : -9223372036854775808 ≤ ord) (ho2 : ord ≤ 9223372036854775807) (s a : Nat) (hs : s < 2 ^ 64) (ha : a < 2 ^ 64) (w : World) :
    Calls Try.prog 11 #[cfgV base lim ord, .int .u64 (s : Int), .int .u64 (a : Int)] w fun e w' => e = .returned (.tuple #[.int .u64 ((rdV base lim ord s a : Nat) : Int), .int .i64 (rdE base lim ord s a)]) ∧ Kept none' w w' := by
  have HM := hid (fun W => mayBe_any base hb64 lim ord hl1 hl2 ho1 ho2 W)
  have HP := hid (fun W => isPower_64 a ha W)
  have C0 := hid (show CB (w.alloc (.cells #[.int .u64 (base : Int), .int .i64 lim, .int .i64 ord] 24)) w.heap.size base lim ord from heap_new w _)
  have K0 := hid (show Kept none' w (w.alloc (.cells #[.int .u64 (base : Int), .int .i64 lim, .int .i64 ord] 24)) from (Kept.refl _ w).alloc _)
  have FIN := hid (show ∀ (v : Nat) (er : Int) w1, rdV base lim ord s a = v → rdE base lim ord s a = er → Kept none' w w1 → (Ending.returned (.tuple #[.int .u64 (v : Int), .int .i64 er]) = .returned (.tuple #[.int .u64 ((rdV base lim ord s a : Nat) : Int), .int .i64 (rdE base lim ord s a)]) ∧ Kept none' w w1) from fun v er w1 h1 h2 h3 => ⟨by rw [h1, h2], h3⟩)
  cases hm : mayB base lim ord with
  | false =>
    rw [hm] at HM
    have E1 := hid (show rdV base lim ord s a = 0 by simp [rdV, hm])
    have E2 := hid (show rdE base lim ord s a = 1 by simp [rdE, hm])
    clear hm
    go_enter Try.func11, Try.ntmps11
    go_wp2_with fail
    generalize w.alloc (.cells #[.int .u64 (base : Int), .int .i64 lim, .int .i64 ord] 24) = W0 at *
    refine (HM.out _).mono ?_
    rintro e w1 ⟨rfl, hk⟩
    have K1 := hid (none_trans K0.out hk)
    clear hk
    go_wp2_with fail
    exact ⟨rfl, .tuple #[.int .u64 0, .int .i64 1], by simp [results, Try.results11, go_sem], FIN.out 0 1 _ E1.out E2.out K1.out⟩
  | true =>
    rw [hm] at HM
    cases hp : isP a with
    | false =>
      rw [hp] at HP
      have E1 := hid (show rdV base lim ord s a = 0 by simp [rdV, hp])
      have E2 := hid (show rdE base lim ord s a = 1 by simp [rdE, hp])
      clear hm hp
      go_enter Try.func11, Try.ntmps11
      go_wp2_with fail
      generalize w.alloc (.cells #[.int .u64 (base : Int), .int .i64 lim, .int .i64 ord] 24) = W0 at *
      refine (HM.out _).mono ?_
      rintro e w1 ⟨rfl, hk⟩
      have K1 := hid (none_trans K0.out hk)
      clear hk
      go_wp2_with (go_at_call 32; refine (HP.out _).mono ?_; rintro e w' ⟨rfl, rfl⟩)
      exact ⟨rfl, .tuple #[.int .u64 0, .int .i64 1], by simp [results, Try.results11, go_sem], FIN.out 0 1 _ E1.out E2.out K1.out⟩
    | true =>
      rw [hp] at HP
      have hB : 0 ≤ ord ∧ ord ≤ 8 := by
        have h := hm
        simp only [mayB, Bool.and_eq_true] at h
        have h2 := of_decide_eq_true h.1.1
        unfold Bounds at h2
        exact ⟨h2.1, h2.2.1⟩
      obtain ⟨k, rfl⟩ := Int.eq_ofNat_of_zero_le hB.1
      obtain ⟨x, hx⟩ : ∃ x, x = askN s a := ⟨_, rfl⟩
      have hxb : x < 2 ^ 64 := by rw [hx]; unfold askN; omega
      have hmx : max (max (s : Int) (a : Int)) 16 = (x : Int) := by rw [hx]; unfold askN; omega
      have HC := hid (fun W => ceil_64 x hxb W)
      obtain ⟨cv, hcv⟩ : ∃ cv, cv = ceilV 64 x := ⟨_, rfl⟩
      have hcvb : cv < 2 ^ 64 := by rw [hcv]; exact ceilV_lt 64 x
      obtain ⟨R, hR⟩ : ∃ R, R = RS k := ⟨_, rfl⟩
      have hRl := RS_le k (by omega)
      have HR := hid (fun W => regionSize_any (base : Int) lim k (by omega) W)
      rw [← hR] at hRl HR
      rw [← hcv] at HC
      have E0 := hid (show rdK base lim (k : Int) s a = (ceilB 64 x && decide (cv ≤ R)) by unfold rdK; rw [Int.toNat_natCast, ← hx, ← hcv, ← hR])
      have E1 := hid (show rdV base lim (k : Int) s a = if rdK base lim (k : Int) s a then cv else 0 by unfold rdV; rw [hm, hp, ← hx, ← hcv]; rfl)
      have E2 := hid (show rdE base lim (k : Int) s a = if rdK base lim (k : Int) s a then 0 else 3 by unfold rdE; rw [hm, hp]; rfl)
      have X3 : (((s : Int) < (a : Int)) ∧ ((a : Int) < 16) ∧ x = 16) ∨ (((s : Int) < (a : Int)) ∧ ¬ ((a : Int) < 16) ∧ x = a) ∨ (¬ ((s : Int) < (a : Int)) ∧ ((s : Int) < 16) ∧ x = 16) ∨ (¬ ((s : Int) < (a : Int)) ∧ ¬ ((s : Int) < 16) ∧ x = s) := by
        rw [hx]; unfold askN; omega
      clear hm hp hx hcv hR hmx
      have key : ∀ w1, Kept none' w w1 → CB w1 w.heap.size base lim (k : Int) → True := fun _ _ _ => trivial
      clear key
      cases hcb : ceilB 64 x with
      | false =>
        rw [hcb] at HC E0
        rw [show rdK base lim (k : Int) s a = false by rw [E0.out]; rfl] at E1 E2
        clear hcb
        rcases X3 with ⟨x1, x2, rfl⟩ | ⟨x1, x2, rfl⟩ | ⟨x1, x2, rfl⟩ | ⟨x1, x2, rfl⟩
        all_goals
          go_enter Try.func11, Try.ntmps11
          go_wp2_with fail
          generalize w.alloc (.cells #[.int .u64 (base : Int), .int .i64 lim, .int .i64 (k : Int)] 24) = W0 at *
          refine (HM.out _).mono ?_
          rintro e w1 ⟨rfl, hk⟩
          have K1 := hid (none_trans K0.out hk)
          clear hk
          go_wp2_with (first | (go_at_call 32; refine (HP.out _).mono ?_; rintro e w' ⟨rfl, rfl⟩) | (go_at_call 33; refine (HC.out _).mono ?_; rintro e w' ⟨rfl, rfl⟩))
          exact ⟨rfl, .tuple #[.int .u64 0, .int .i64 3], by simp [results, Try.results11, go_sem], FIN.out 0 3 _ E1.out E2.out K1.out⟩
      | true =>
        rw [hcb] at HC E0
        clear hcb
        by_cases hle : (R : Int) < (cv : Int)
        · rw [show rdK base lim (k : Int) s a = false by rw [E0.out]; exact decide_eq_false (by omega)] at E1 E2
          rcases X3 with ⟨x1, x2, rfl⟩ | ⟨x1, x2, rfl⟩ | ⟨x1, x2, rfl⟩ | ⟨x1, x2, rfl⟩
          all_goals
            go_enter Try.func11, Try.ntmps11
            go_wp2_with fail
            generalize w.alloc (.cells #[.int .u64 (base : Int), .int .i64 lim, .int .i64 (k : Int)] 24) = W0 at *
            refine (HM.out _).mono ?_
            rintro e w1 ⟨rfl, hk⟩
            have K1 := hid (none_trans K0.out hk)
            obtain ⟨c0, c1, c2⟩ := (C0.out.keep hk (fun x => x)).cells
            clear hk
            go_wp2_with (first | (go_at_call 32; refine (HP.out _).mono ?_; rintro e w' ⟨rfl, rfl⟩) | (go_at_call 33; refine (HC.out _).mono ?_; rintro e w' ⟨rfl, rfl⟩))
            refine (HR.out _).mono ?_
            rintro e w2 ⟨rfl, hk⟩
            have K2 := hid (none_trans K1.out hk)
            clear hk
            go_wp2_with fail
            exact ⟨rfl, .tuple #[.int .u64 0, .int .i64 3], by simp [results, Try.results11, go_sem], FIN.out 0 3 _ E1.out E2.out K2.out⟩
        · rw [show rdK base lim (k : Int) s a = true by rw [E0.out]; exact decide_eq_true (by omega)] at E1 E2
          rcases X3 with ⟨x1, x2, rfl⟩ | ⟨x1, x2, rfl⟩ | ⟨x1, x2, rfl⟩ | ⟨x1, x2, rfl⟩
          all_goals
            go_enter Try.func11, Try.ntmps11
            go_wp2_with fail
            generalize w.alloc (.cells #[.int .u64 (base : Int), .int .i64 lim, .int .i64 (k : Int)] 24) = W0 at *
            refine (HM.out _).mono ?_
            rintro e w1 ⟨rfl, hk⟩
            have K1 := hid (none_trans K0.out hk)
            obtain ⟨c0, c1, c2⟩ := (C0.out.keep hk (fun x => x)).cells
            clear hk
            go_wp2_with (first | (go_at_call 32; refine (HP.out _).mono ?_; rintro e w' ⟨rfl, rfl⟩) | (go_at_call 33; refine (HC.out _).mono ?_; rintro e w' ⟨rfl, rfl⟩))
            refine (HR.out _).mono ?_
            rintro e w2 ⟨rfl, hk⟩
            have K2 := hid (none_trans K1.out hk)
            clear hk
            go_wp2_with fail
            exact ⟨rfl, .tuple #[.int .u64 (cv : Int), .int .i64 0], by simp [results, Try.results11, go_sem], FIN.out cv 0 _ E1.out E2.out K2.out⟩

/-- What Product tells. -/
def prE (n s : Nat) : Int := if n ≠ 0 ∧ 18446744073709551615 / n < s then 3 else 0
def prV (n s : Nat) : Nat := if n ≠ 0 ∧ 18446744073709551615 / n < s then 0 else n * s % 18446744073709551616
theorem Product_any (n s : Nat) (hn : n < 2 ^ 64) (hs : s < 2 ^ 64) (w : World) :
    Calls Try.prog 12 #[.int .u64 (n : Int), .int .u64 (s : Int)] w fun e w' => e = .returned (.tuple #[.int .u64 ((prV n s : Nat) : Int), .int .i64 (prE n s)]) ∧ w' = w := by
  obtain ⟨p, hp⟩ : ∃ p, p = n * s % 18446744073709551616 := ⟨_, rfl⟩
  have hpp : ((n : Int) * (s : Int)) % 18446744073709551616 = (p : Int) := by rw [hp]; simp
  have hpw : IntKind.u64.wrap ((n : Int) * (s : Int)) = (p : Int) := by rw [wrap_u64]; exact hpp
  by_cases h0 : n = 0
  · subst h0
    have E1 := hid (show prV 0 s = 0 by simp [prV])
    have E2 := hid (show prE 0 s = 0 by simp [prE])
    clear hp hpp hpw
    go_enter Try.func12, Try.ntmps12
    go_wp2_with fail
    exact ⟨rfl, .tuple #[.int .u64 0, .int .i64 0], by simp [results, Try.results12, go_sem], by rw [E1.out, E2.out]; rfl, rfl⟩
  · have hn0 : ((n : Int) != 0) = true := by rw [bne_iff_ne]; omega
    have hn1 : ¬ (n : Int) = 0 := by omega
    obtain ⟨q, hq⟩ : ∃ q, q = 18446744073709551615 / n := ⟨_, rfl⟩
    have hq1 : (18446744073709551615 : Int) / (n : Int) = (q : Int) := by rw [hq]; simp
    have hqb : q < 2 ^ 64 := by rw [hq]; have := Nat.div_le_self 18446744073709551615 n; omega
    by_cases h1 : (q : Int) < (s : Int)
    · have E1 := hid (show prV n s = 0 by unfold prV; rw [if_pos ⟨h0, by rw [← hq]; omega⟩])
      have E2 := hid (show prE n s = 3 by unfold prE; rw [if_pos ⟨h0, by rw [← hq]; omega⟩])
      clear hp hpp hpw hq h0
      go_enter Try.func12, Try.ntmps12
      go_wp2_with fail
      exact ⟨rfl, .tuple #[.int .u64 0, .int .i64 3], by simp [results, Try.results12, go_sem], by rw [E1.out, E2.out]; rfl, rfl⟩
    · have E1 := hid (show prV n s = p by unfold prV; rw [if_neg (by rw [← hq]; omega), hp])
      have E2 := hid (show prE n s = 0 by unfold prE; rw [if_neg (by rw [← hq]; omega)])
      clear hp hq h0
      go_enter Try.func12, Try.ntmps12
      go_wp2_with fail
      exact ⟨rfl, .tuple #[.int .u64 (p : Int), .int .i64 0], by simp [results, Try.results12, go_sem], by rw [E1.out, E2.out], rfl⟩

/-- What Bound tells. -/
def bdC (r : Nat) : Nat := if r < 4096 then 4096 else r
def bdM (r : Nat) : Nat := if r = 16 then 32 else 16
theorem Bound_any (r : Nat) (hr : r < 2 ^ 64) (w : World) :
    Calls Try.prog 16 #[.int .u64 (r : Int)] w fun e w' => e = .returned (.tuple #[.int .u64 ((bdC r : Nat) : Int), .int .u64 ((bdM r : Nat) : Int)]) ∧ w' = w := by
  by_cases h16 : r = 16
  · subst h16
    go_enter Try.func16, Try.ntmps16
    go_wp2_with fail
    exact ⟨rfl, .tuple #[.int .u64 4096, .int .u64 32], by simp [results, Try.results16, go_sem], rfl, rfl⟩
  · have h16' : ((r : Int) == 16) = false := by rw [beq_eq_false_iff_ne]; omega
    have E2 := hid (show bdM r = 16 by unfold bdM; rw [if_neg h16])
    clear h16
    by_cases h1 : (r : Int) < 4096
    · have E1 := hid (show bdC r = 4096 by unfold bdC; rw [if_pos (by omega)])
      go_enter Try.func16, Try.ntmps16
      go_wp2_with fail
      exact ⟨rfl, .tuple #[.int .u64 4096, .int .u64 16], by simp [results, Try.results16, go_sem], by rw [E1.out, E2.out]; rfl, rfl⟩
    · have E1 := hid (show bdC r = r by unfold bdC; rw [if_neg (by omega)])
      go_enter Try.func16, Try.ntmps16
      go_wp2_with fail
      exact ⟨rfl, .tuple #[.int .u64 (r : Int), .int .u64 16], by simp [results, Try.results16, go_sem], by rw [E1.out, E2.out]; rfl, rfl⟩
end Go.Proofs.Ytibljocjdlgfbaa
