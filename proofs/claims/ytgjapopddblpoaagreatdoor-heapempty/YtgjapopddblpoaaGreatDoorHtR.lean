import Derived.Test.YtgjapopddblpoaaGreatDoorHpM
/- croftref11's R, Power, May, Bound; croftlaw8.config. (Written by mk8t.py off RfA, BoB.) -/
namespace Go.Proofs.YtgjapopddblpoaaGreatDoor
open Go.RowKit
open Go.Proofs.YtgjapopddblpoaaGreatDoor.M (RS Bounds mayB pow8)
set_option linter.unusedVariables false

def bdC (r : Nat) : Nat := if r < 4096 then 4096 else r
def bdM (r : Nat) : Nat := if r = 16 then 32 else 16
theorem refR (base lim : Int) (k : Nat) (hk : k ≤ 8) (w : World) :
    Calls Tryz.prog 25 #[.agg #[.int .u64 base, .int .i64 lim, .int .i64 (k : Int)]] w fun e w' => e = .returned (.int .u64 ((RS k : Nat) : Int)) ∧ Kept none' w w' := by
  have E := hid (show IntKind.u64.wrap (4096 * 2 ^ k) = ((RS k : Nat) : Int) by
    have := pow8 k hk
    have e : ((2 : Int) ^ k) = ((2 ^ k : Nat) : Int) := by simp
    rw [wrap_u64, e]
    unfold RS
    generalize 2 ^ k = p at this
    omega)
  go_enter Tryz.func25, Tryz.ntmps25
  go_wp2
  go_ret
  exact ⟨ret_int E.out, (Kept.refl _ w).alloc _⟩

theorem refPower (x : Nat) (hx : x < 2 ^ 64) (w : World) : Calls Tryz.prog 26 #[.int .u64 (x : Int)] w fun e w' => e = .returned (.bool (isP x)) ∧ w' = w := by
  by_cases h : x = 0
  · subst h
    go_enter Tryz.func26, Tryz.ntmps26
    go_wp2
    go_ret
    exact ⟨rfl, rfl⟩
  · have h0 : ((x : Int) != 0) = true := by rw [bne_iff_ne]; omega
    have h1 : ¬ (x : Int) = 0 := by omega
    have E := hid (isP_walk64 x hx h)
    clear h
    go_enter Tryz.func26, Tryz.ntmps26
    go_wp2
    go_ret
    exact ⟨ret_bool (by have := E.out; rw [h0, Bool.true_and] at this; exact this), rfl⟩

/-- The reference's Config's box. -/
def CR8 (W : World) (x base : Nat) (lim ord : Int) : Prop := W.heap[x]? = some (.cells #[.int .u64 (base : Int), .int .i64 lim, .int .i64 ord] 43)
theorem CR8.cells {W : World} {x base : Nat} {lim ord : Int} (h : CR8 W x base lim ord) : W.cell? ⟨x, 0, none⟩ = some (.int .u64 (base : Int)) ∧ W.cell? ⟨x, 1, none⟩ = some (.int .i64 lim) ∧ W.cell? ⟨x, 2, none⟩ = some (.int .i64 ord) := by
  unfold CR8 at h
  refine ⟨?_, ?_, ?_⟩ <;> simp [World.cell?, h]
theorem CR8.keep {W W' : World} {x base : Nat} {lim ord : Int} (h : CR8 W x base lim ord) {S : Nat → Prop} (k : Kept S W W') (hS : ¬ S x) : CR8 W' x base lim ord := (k.block _ (heap_lt h) hS).trans h
theorem CR8.all {W : World} {x base : Nat} {lim ord : Int} (h : CR8 W x base lim ord) : (∀ y : KW W, y.v.cell? ⟨x, 0, none⟩ = some (.int .u64 (base : Int))) ∧ (∀ y : KW W, y.v.cell? ⟨x, 1, none⟩ = some (.int .i64 lim)) ∧ (∀ y : KW W, y.v.cell? ⟨x, 2, none⟩ = some (.int .i64 ord)) :=
  ⟨fun y => (h.keep y.k (fun e => e)).cells.1, fun y => (h.keep y.k (fun e => e)).cells.2.1, fun y => (h.keep y.k (fun e => e)).cells.2.2⟩

theorem config8 (base : Nat) (lim ord : Int) (w : World) : Calls Tryz.prog 21 #[cfgV base lim ord] w fun e w' => e = .returned (cfgV base lim ord) ∧ Kept none' w w' := by
  go_enter Tryz.func21, Tryz.ntmps21
  go_wp2
  exact ⟨rfl, .agg #[.int .u64 (base : Int), .int .i64 lim, .int .i64 ord], by simp [results, Tryz.results21, go_sem], rfl, ((Kept.refl _ w).alloc _).alloc _⟩

theorem refMay_bad (base : Nat) (lim ord : Int) (hl1 : -9223372036854775808 ≤ lim) (hl2 : lim ≤ 9223372036854775807) (ho1 : -9223372036854775808 ≤ ord) (ho2 : ord ≤ 9223372036854775807) (h : ¬ Bounds lim ord) (w : World) :
    Calls Tryz.prog 22 #[.agg #[.int .u64 (base : Int), .int .i64 lim, .int .i64 ord]] w fun e w' => e = .returned (.bool false) ∧ Kept none' w w' := by
  by_cases h1 : ord < 0
  · clear h
    go_enter Tryz.func22, Tryz.ntmps22
    go_wp2_with fail
    go_ret
    exact ⟨rfl, (Kept.refl _ w).alloc _⟩
  · by_cases h2 : 8 < ord
    · clear h
      go_enter Tryz.func22, Tryz.ntmps22
      go_wp2_with fail
      go_ret
      exact ⟨rfl, (Kept.refl _ w).alloc _⟩
    · by_cases h3 : lim < 1
      · clear h
        go_enter Tryz.func22, Tryz.ntmps22
        go_wp2_with fail
        go_ret
        exact ⟨rfl, (Kept.refl _ w).alloc _⟩
      · have h4 : 64 < lim := by unfold Bounds at h; omega
        clear h
        go_enter Tryz.func22, Tryz.ntmps22
        go_wp2_with fail
        go_ret
        exact ⟨rfl, (Kept.refl _ w).alloc _⟩

set_option maxHeartbeats 2000000 in
theorem refMay_in (base : Nat) (hb64 : base < 18446744073709551616) (lim k : Nat) (hk : k ≤ 8) (hl1 : 1 ≤ lim) (hl2 : lim ≤ 64) (w : World) :
    Calls Tryz.prog 22 #[.agg #[.int .u64 (base : Int), .int .i64 (lim : Int), .int .i64 (k : Int)]] w fun e w' => e = .returned (.bool (mayB base lim k)) ∧ Kept none' w w' := by
  obtain ⟨P, hP⟩ : ∃ P, P = 2 ^ k := ⟨_, rfl⟩
  have hP8 := pow8 k hk
  rw [← hP] at hP8
  obtain ⟨lp, hlp⟩ : ∃ lp, lp = lim * P := ⟨_, rfl⟩
  have hlp2 : lp ≤ 16384 := by
    rw [hlp]
    exact Nat.le_trans (Nat.mul_le_mul hl2 hP8.2) (by decide)
  have hw1 : wrap64 ((lim : Int) * 2 ^ k) = (lp : Int) := by
    have e : ((2 : Int) ^ k) = ((2 ^ k : Nat) : Int) := by simp
    have e2 : (lim : Int) * ((P : Nat) : Int) = (lp : Int) := by rw [hlp]; simp
    rw [e, ← hP, e2]
    unfold wrap64
    omega
  have hB : Bounds (lim : Int) (k : Int) := by unfold Bounds; omega
  have hmay : mayB base lim k = (decide (lp ≤ 1024) && (decide (base ≠ 0) && decide (base % RS k = 0) && decide (base + lim * RS k ≤ 9223372036854775808))) := by
    unfold mayB
    rw [decide_eq_true hB, Int.toNat_natCast, Int.toNat_natCast, ← hP, ← hlp, Bool.true_and]
  rw [hmay]
  clear hmay hB
  obtain ⟨R, hR⟩ : ∃ R, R = RS k := ⟨_, rfl⟩
  have hR2 : R = 4096 * P := by rw [hR, RS, hP]
  obtain ⟨lr, hlr⟩ : ∃ lr, lr = lim * R := ⟨_, rfl⟩
  have hlr2 : lr = 4096 * lp := by rw [hlr, hR2, hlp, Nat.mul_left_comm]
  have hmul : (lim : Int) * (R : Int) = (lr : Int) := by rw [hlr]; simp
  rw [← hR, ← hlr]
  have HRS := hid (show ∀ w, Calls Tryz.prog 25 #[.agg #[.int .u64 (base : Int), .int .i64 (lim : Int), .int .i64 (k : Int)]] w fun e w' => e = .returned (.int .u64 (R : Int)) ∧ Kept none' w w' from fun w => by
    rw [hR]; exact refR base lim k hk w)
  have hR0 : ¬ (R : Int) = 0 := by omega
  have hRl : R ≤ 1048576 := by omega
  have C0 := hid (show CR8 (w.alloc (.cells #[.int .u64 (base : Int), .int .i64 (lim : Int), .int .i64 (k : Int)] 43)) w.heap.size base lim k from heap_new w _)
  have K0 := hid (show Kept none' w (w.alloc (.cells #[.int .u64 (base : Int), .int .i64 (lim : Int), .int .i64 (k : Int)] 43)) from (Kept.refl _ w).alloc _)
  by_cases h1 : lp ≤ 1024
  · have h1' : ¬ (1024 : Int) < lp := by omega
    rw [decide_eq_true h1, Bool.true_and]
    clear hP hlp hR
    by_cases h0 : base = 0
    · have hb0 : ((base : Int) == 0) = true := by rw [h0]; rfl
      have H0 := hid h0
      clear hR2 hlr hlr2 h0
      go_enter Tryz.func22, Tryz.ntmps22
      go_wp2_with fail
      refine (HRS.out _).mono ?_
      rintro e w1 ⟨rfl, hK⟩
      obtain ⟨c0, c1, c2⟩ := (C0.out.keep hK (fun x => x)).cells
      have HK := hid (none_trans K0.out hK)
      clear hK
      go_wp2_with fail
      go_ret
      exact ⟨ret_bool (by rw [H0.out]; simp), HK.out⟩
    · have hb0 : ((base : Int) == 0) = false := by rw [beq_eq_false_iff_ne]; omega
      have hbz : ¬ (base : Int) = 0 := by omega
      rw [decide_eq_true h0, Bool.true_and]
      by_cases h2 : base % R = 0
      · have hm : ((base : Int) % (R : Int) != 0) = false := by rw [bne_eq_false_iff_eq]; omega
        rw [decide_eq_true h2, Bool.true_and]
        by_cases h3 : (9223372036854775808 : Int) < (base : Int)
        · rw [decide_eq_false (by omega : ¬ base + lr ≤ 9223372036854775808)]
          clear hR2 hlr h2 h0
          go_enter Tryz.func22, Tryz.ntmps22
          go_wp2_with fail
          refine (HRS.out _).mono ?_
          rintro e w1 ⟨rfl, hK⟩
          obtain ⟨c0, c1, c2⟩ := (C0.out.keep hK (fun x => x)).cells
          have HK := hid (none_trans K0.out hK)
          clear hK
          go_wp2_with fail
          go_ret
          exact ⟨rfl, HK.out⟩
        · clear hR2 hlr h2 h0
          go_enter Tryz.func22, Tryz.ntmps22
          go_wp2_with fail
          refine (HRS.out _).mono ?_
          rintro e w1 ⟨rfl, hK⟩
          obtain ⟨c0, c1, c2⟩ := (C0.out.keep hK (fun x => x)).cells
          have HK := hid (none_trans K0.out hK)
          clear hK
          go_wp2_with fail
          go_ret
          exact ⟨ret_bool (by rw [decide_eq_decide]; omega), HK.out⟩
      · have hm : ((base : Int) % (R : Int) != 0) = true := by rw [bne_iff_ne]; omega
        rw [decide_eq_false h2, Bool.false_and]
        clear hR2 hlr hlr2 h2 h0
        go_enter Tryz.func22, Tryz.ntmps22
        go_wp2_with fail
        refine (HRS.out _).mono ?_
        rintro e w1 ⟨rfl, hK⟩
        obtain ⟨c0, c1, c2⟩ := (C0.out.keep hK (fun x => x)).cells
        have HK := hid (none_trans K0.out hK)
        clear hK
        go_wp2_with fail
        go_ret
        exact ⟨rfl, HK.out⟩
  · rw [decide_eq_false h1, Bool.false_and]
    have h1' : (1024 : Int) < lp := by omega
    clear hP hlp hR hR2 hlr hlr2 h1
    go_enter Tryz.func22, Tryz.ntmps22
    go_wp2_with fail
    go_ret
    exact ⟨rfl, K0.out⟩

theorem refMay (base : Nat) (hb64 : base < 18446744073709551616) (lim ord : Int) (hl1 : -9223372036854775808 ≤ lim) (hl2 : lim ≤ 9223372036854775807) (ho1 : -9223372036854775808 ≤ ord) (ho2 : ord ≤ 9223372036854775807) (w : World) :
    Calls Tryz.prog 22 #[cfgV base lim ord] w fun e w' => e = .returned (.bool (mayB base lim ord)) ∧ Kept none' w w' := by
  by_cases h : Bounds lim ord
  · have h' := h
    unfold Bounds at h'
    obtain ⟨l, rfl⟩ := Int.eq_ofNat_of_zero_le (by omega : 0 ≤ lim)
    obtain ⟨k, rfl⟩ := Int.eq_ofNat_of_zero_le h'.1
    exact refMay_in base hb64 l k (by omega) (by omega) (by omega) w
  · have e : mayB base lim ord = false := by unfold mayB; rw [decide_eq_false h, Bool.false_and, Bool.false_and]
    rw [e]
    exact refMay_bad base lim ord hl1 hl2 ho1 ho2 h w

theorem refBound (r : Nat) (hr : r < 2 ^ 64) (w : World) :
    Calls Tryz.prog 27 #[.int .u64 (r : Int)] w fun e w' => e = .returned (.tuple #[.int .u64 ((bdC r : Nat) : Int), .int .u64 ((bdM r : Nat) : Int)]) ∧ w' = w := by
  by_cases h16 : r = 16
  · subst h16
    go_enter Tryz.func27, Tryz.ntmps27
    go_wp2_with fail
    exact ⟨rfl, .tuple #[.int .u64 4096, .int .u64 32], by simp [results, Tryz.results27, go_sem], rfl, rfl⟩
  · have h16' : ((r : Int) == 16) = false := by rw [beq_eq_false_iff_ne]; omega
    have E2 := hid (show bdM r = 16 by unfold bdM; rw [if_neg h16])
    clear h16
    by_cases h1 : (r : Int) < 4096
    · have E1 := hid (show bdC r = 4096 by unfold bdC; rw [if_pos (by omega)])
      go_enter Tryz.func27, Tryz.ntmps27
      go_wp2_with fail
      exact ⟨rfl, .tuple #[.int .u64 4096, .int .u64 16], by simp [results, Tryz.results27, go_sem], by rw [E1.out, E2.out]; rfl, rfl⟩
    · have E1 := hid (show bdC r = r by unfold bdC; rw [if_neg (by omega)])
      go_enter Tryz.func27, Tryz.ntmps27
      go_wp2_with fail
      exact ⟨rfl, .tuple #[.int .u64 (r : Int), .int .u64 16], by simp [results, Tryz.results27, go_sem], by rw [E1.out, E2.out]; rfl, rfl⟩

end Go.Proofs.YtgjapopddblpoaaGreatDoor
