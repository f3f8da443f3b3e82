/- The links of an address, where they are not; what leads to an address; a link that is written; a new list. -/
import Derived.Test.YthglogiglimebaaLinA
namespace Go.Proofs.Ythglogiglimebaa.M
open Go.RowKit
set_option linter.unusedVariables false

theorem at_not (c b ao base R lim n f hd) (p : Nat) (hp : p < 18446744073709551616) (w : World) (hS : SpaceAt w b ao base R lim n f) (hL : ListAt w c b hd) (hin : ¬ In base n p 16) :
    Calls Try.prog 70 #[.pointer (some ⟨c, 0, none⟩), .int .u64 (p : Int)] w fun e w' => e = .returned (.tuple #[.agg #[.int .u64 0, .int .u64 0], .bool false]) ∧ Kept none' w w' := by
  have hend := hS.end_le
  by_cases i1 : In base n p 8
  · have hp64 : p + 8 < 18446744073709551616 := by unfold In at i1; omega
    have i2 : ¬ In base n (p + 8) 8 := by unfold In at hin i1 ⊢; omega
    have W1 := hid (fun w' (k : Kept none' w w') => Word_any b ao base R lim n f p (by omega) w' (hS.keep k))
    have W2 := hid (fun w' (k : Kept none' w w') => Word_any b ao base R lim n f (p + 8) (by omega) w' (hS.keep k))
    rw [if_pos i1, if_pos i1] at W1
    rw [if_neg i2, if_neg i2] at W2
    have E8 := hid (show ((p + 8 : Nat) : Int) = (p : Int) + 8 by omega)
    obtain ⟨x, hx⟩ : ∃ x, x = nx base f p := ⟨_, rfl⟩
    have ex : word f (p - base) = x := hx.symm
    rw [ex] at W1
    rw [E8.out] at W2
    have HL := hid hL
    have hc0 := (hL.keep ((Kept.refl _ w).alloc (.cells #[.int .u64 0, .int .u64 0] 123))).c0
    clear hS hL hin i1 i2 ex hx E8 hend
    go_enter Try.func70, Try.ntmps70
    go_wp2_with fail
    refine (W1.out _ ((Kept.refl _ w).alloc _)).mono ?_
    rintro e w1 ⟨rfl, k1⟩
    have K1 := hid k1
    have hc1 := (HL.out.keep ((Kept.refl _ w).alloc _)).keep k1 |>.c0
    clear k1 hc0
    go_wp2_with fail
    refine (W2.out _ (none_trans ((Kept.refl _ w).alloc _) K1.out)).mono ?_
    rintro e w2 ⟨rfl, k2⟩
    have hP := ((PairB.new w).keep K1.out).keep k2
    have K2 := hid (none_trans (none_trans ((Kept.refl none' w).alloc _) K1.out) k2)
    have hz0 := hP.fz 0
    have hz1 := hP.fz 1
    have hd0 := hP.c0
    have hd1 := hP.c1
    have HP := hid hP
    clear k2 hP
    go_wp2_with fail
    have h2 := HP.out.set 0 0
    exact ⟨rfl, _, by simp [results, Try.results70, go_sem, hd0, hd1], rfl, K2.out.new2 w.heap.size (Nat.le_refl _) _ _⟩
  · have W1 := hid (fun w' (k : Kept none' w w') => Word_any b ao base R lim n f p hp w' (hS.keep k))
    rw [if_neg i1, if_neg i1] at W1
    have hc0 := (hL.keep ((Kept.refl _ w).alloc (.cells #[.int .u64 0, .int .u64 0] 123))).c0
    clear hS hL hin i1 hend
    go_enter Try.func70, Try.ntmps70
    go_wp2_with fail
    refine (W1.out _ ((Kept.refl _ w).alloc _)).mono ?_
    rintro e w2 ⟨rfl, k2⟩
    have hP := (PairB.new w).keep k2
    have K2 := hid (none_trans ((Kept.refl none' w).alloc _) k2)
    have hz0 := hP.fz 0
    have hz1 := hP.fz 1
    have hd0 := hP.c0
    have hd1 := hP.c1
    have HP := hid hP
    clear k2 hP
    go_wp2_with fail
    have h2 := HP.out.set 0 0
    exact ⟨rfl, _, by simp [results, Try.results70, go_sem, hd0, hd1], rfl, K2.out.new2 w.heap.size (Nat.le_refl _) _ _⟩

/-- What 'at' reads: 0 where the links are not there. -/
def nxO (base n : Nat) (f : Nat → Nat) (p : Nat) : Nat := if In base n p 16 then nx base f p else 0
def pvO (base n : Nat) (f : Nat → Nat) (p : Nat) : Nat := if In base n p 16 then pv base f p else 0

theorem at_any (c b ao base R lim n f hd) (p : Nat) (hp : p < 18446744073709551616) (w : World) (hS : SpaceAt w b ao base R lim n f) (hL : ListAt w c b hd) :
    Calls Try.prog 70 #[.pointer (some ⟨c, 0, none⟩), .int .u64 (p : Int)] w fun e w' => e = .returned (.tuple #[.agg #[.int .u64 (nxO base n f p : Int), .int .u64 (pvO base n f p : Int)], .bool (decide (In base n p 16))]) ∧ Kept none' w w' := by
  by_cases hin : In base n p 16
  · refine (at_there c b ao base R lim n f hd p w hS hL hin).mono ?_
    rintro e w' ⟨rfl, k⟩
    refine ⟨?_, k⟩
    unfold nxO pvO
    rw [if_pos hin, if_pos hin, decide_eq_true hin]
  · refine (at_not c b ao base R lim n f hd p hp w hS hL hin).mono ?_
    rintro e w' ⟨rfl, k⟩
    refine ⟨?_, k⟩
    unfold nxO pvO
    rw [if_neg hin, if_neg hin, decide_eq_false hin]
    rfl

/-- A call's box for what 'at' has read. -/
theorem PairB.box {w : World} (x y : Nat) : PairB (w.alloc (.cells #[.int .u64 (x : Int), .int .u64 (y : Int)] 123)) w.heap.size x y := heap_new _ _

def cameB (base n : Nat) (f : Nat → Nat) (q b : Nat) : Bool := decide (q = 0 ∨ (In base n q 16 ∧ pv base f q = b))
theorem cameFrom_any (c b ao base R lim n f hd) (q x : Nat) (hq : q < 18446744073709551616) (hx : x < 18446744073709551616) (w : World) (hS : SpaceAt w b ao base R lim n f) (hL : ListAt w c b hd) :
    Calls Try.prog 72 #[.pointer (some ⟨c, 0, none⟩), .int .u64 (q : Int), .int .u64 (x : Int)] w fun e w' => e = .returned (.bool (cameB base n f q x)) ∧ Kept none' w w' := by
  by_cases h0 : q = 0
  · subst h0
    clear hS hL
    go_enter Try.func72, Try.ntmps72
    go_wp2
    go_ret
    exact ⟨by simp [cameB], Kept.refl _ _⟩
  · have A := hid (at_any c b ao base R lim n f hd q hq w hS hL)
    have h0i : ((q : Int) == 0) = false := beq_eq_false_iff_ne.2 (by omega)
    obtain ⟨u, hu⟩ : ∃ u, u = nxO base n f q := ⟨_, rfl⟩
    obtain ⟨v, hv⟩ : ∃ v, v = pvO base n f q := ⟨_, rfl⟩
    have HB := hid (show cameB base n f q x = decide (In base n q 16 ∧ v = x) by
      unfold cameB
      congr 1
      rw [hv]
      unfold pvO
      by_cases hi : In base n q 16
      · simp [h0, hi]
      · simp [h0, hi])
    obtain ⟨t, ht⟩ : ∃ t, t = decide (In base n q 16) := ⟨_, rfl⟩
    have HT := hid (show decide (In base n q 16 ∧ v = x) = (t && decide (v = x)) by rw [ht]; simp)
    rw [← hu, ← hv, ← ht] at A
    clear hS hL hu hv ht
    rw [HB.out, HT.out]
    clear HB HT
    by_cases hvx : v = x
    · have hvxi : ((v : Int) == (x : Int)) = true := beq_iff_eq.2 (by omega)
      cases t
      all_goals
        go_enter Try.func72, Try.ntmps72
        go_wp2_with fail
        refine A.out.mono ?_
        rintro e w1 ⟨rfl, k1⟩
        have HK := hid k1
        have hP := PairB.box (w := w1) u v
        have hp0 := hP.c0
        have hp1 := hP.c1
        clear k1 hP
        go_wp2_with fail
        go_ret
        exact ⟨by simp [hvx], HK.out.alloc _⟩
    · have hvxi : ((v : Int) == (x : Int)) = false := beq_eq_false_iff_ne.2 (by omega)
      cases t
      all_goals
        go_enter Try.func72, Try.ntmps72
        go_wp2_with fail
        refine A.out.mono ?_
        rintro e w1 ⟨rfl, k1⟩
        have HK := hid k1
        have hP := PairB.box (w := w1) u v
        have hp0 := hP.c0
        have hp1 := hP.c1
        clear k1 hP
        go_wp2_with fail
        go_ret
        exact ⟨by simp [hvx], HK.out.alloc _⟩

/-- Behind 0 comes the head, and the head behind nothing else. -/
def leadsB (base n : Nat) (f : Nat → Nat) (hd q p : Nat) : Bool := if q = 0 ∨ p = hd then decide (q = 0 ∧ p = hd) else decide (In base n q 16 ∧ nx base f q = p)
theorem leadsTo_any (c b ao base R lim n f hd) (q p : Nat) (hq : q < 18446744073709551616) (hp : p < 18446744073709551616) (w : World) (hS : SpaceAt w b ao base R lim n f) (hL : ListAt w c b hd) :
    Calls Try.prog 71 #[.pointer (some ⟨c, 0, none⟩), .int .u64 (q : Int), .int .u64 (p : Int)] w fun e w' => e = .returned (.bool (leadsB base n f hd q p)) ∧ Kept none' w w' := by
  have hc1 := hL.c1
  have h64 := hL.h64
  by_cases h0 : q = 0
  · subst h0
    obtain ⟨t, ht⟩ : ∃ t, ((p : Int) == (hd : Int)) = t := ⟨_, rfl⟩
    have HT := hid (show leadsB base n f hd 0 p = t by
      rw [← ht]
      by_cases hph : p = hd
      · simp [leadsB, hph]
      · have : ((p : Int) == (hd : Int)) = false := beq_eq_false_iff_ne.2 (by omega)
        simp [leadsB, hph, this])
    rw [HT.out]
    clear hS hL HT
    go_enter Try.func71, Try.ntmps71
    go_wp2
    go_ret
    exact ⟨rfl, Kept.refl _ _⟩
  · have h0i : ((q : Int) == 0) = false := beq_eq_false_iff_ne.2 (by omega)
    by_cases hph : p = hd
    · subst hph
      clear hS hL
      go_enter Try.func71, Try.ntmps71
      go_wp2
      go_ret
      exact ⟨by simp [leadsB, h0], Kept.refl _ _⟩
    · have hphi : ((p : Int) == (hd : Int)) = false := beq_eq_false_iff_ne.2 (by omega)
      have A := hid (at_any c b ao base R lim n f hd q hq w hS hL)
      obtain ⟨u, hu⟩ : ∃ u, u = nxO base n f q := ⟨_, rfl⟩
      obtain ⟨v, hv⟩ : ∃ v, v = pvO base n f q := ⟨_, rfl⟩
      obtain ⟨t, ht⟩ : ∃ t, t = decide (In base n q 16) := ⟨_, rfl⟩
      have HB := hid (show leadsB base n f hd q p = (t && decide (u = p)) by
        unfold leadsB
        rw [if_neg (by simp [h0, hph]), hu, ht]
        unfold nxO
        by_cases hi : In base n q 16
        · simp [hi]
        · simp [hi])
      rw [← hu, ← hv, ← ht] at A
      clear hS hL hu hv ht
      rw [HB.out]
      clear HB
      by_cases hvx : u = p
      · have hvxi : ((u : Int) == (p : Int)) = true := beq_iff_eq.2 (by omega)
        cases t
        all_goals
          go_enter Try.func71, Try.ntmps71
          go_wp2_with fail
          refine A.out.mono ?_
          rintro e w1 ⟨rfl, k1⟩
          have HK := hid k1
          have hP := PairB.box (w := w1) u v
          have hp0 := hP.c0
          have hp1 := hP.c1
          clear k1 hP
          go_wp2_with fail
          go_ret
          exact ⟨by simp [hvx], HK.out.alloc _⟩
      · have hvxi : ((u : Int) == (p : Int)) = false := beq_eq_false_iff_ne.2 (by omega)
        cases t
        all_goals
          go_enter Try.func71, Try.ntmps71
          go_wp2_with fail
          refine A.out.mono ?_
          rintro e w1 ⟨rfl, k1⟩
          have HK := hid k1
          have hP := PairB.box (w := w1) u v
          have hp0 := hP.c0
          have hp1 := hP.c1
          clear k1 hP
          go_wp2_with fail
          go_ret
          exact ⟨by simp [hvx], HK.out.alloc _⟩

theorem setNext_in (c b g base R lim n f hd) (p v : Nat) (hv : v < 18446744073709551616) (w : World) (hS : SpaceAt w b (some g) base R lim n f) (hL : ListAt w c b hd) (hin : In base n p 8) :
    Calls Try.prog 73 #[.pointer (some ⟨c, 0, none⟩), .int .u64 (p : Int), .int .u64 (v : Int)] w fun e w' => e = .returned (.tuple #[]) ∧ SpaceAt w' b (some g) base R lim n (stw base f p v) ∧ Kept (own b (some g)) w w' := by
  have hc0 := hL.c0
  have A := hid (SetWord_in b g base R lim n f p v hv w hS hin)
  clear hS hL hin
  go_enter Try.func73, Try.ntmps73
  go_wp2_with fail
  refine A.out.mono ?_
  rintro e w1 ⟨rfl, hS, hK⟩
  have HS := hid hS
  have HK := hid hK
  clear hS hK
  go_wp2_with fail
  first | go_ret | skip
  first | exact ⟨rfl, HS.out, HK.out⟩ | exact ⟨rfl, _, by simp [results, Try.results73, go_sem], rfl, HS.out, HK.out⟩

theorem setPrev_in (c b g base R lim n f hd) (p v : Nat) (hv : v < 18446744073709551616) (w : World) (hS : SpaceAt w b (some g) base R lim n f) (hL : ListAt w c b hd) (hin : In base n (p + 8) 8) :
    Calls Try.prog 74 #[.pointer (some ⟨c, 0, none⟩), .int .u64 (p : Int), .int .u64 (v : Int)] w fun e w' => e = .returned (.tuple #[]) ∧ SpaceAt w' b (some g) base R lim n (stw base f (p + 8) v) ∧ Kept (own b (some g)) w w' := by
  have hc0 := hL.c0
  have hend := hS.end_le
  have hp64 : p + 8 < 18446744073709551616 := by unfold In at hin; omega
  have A := hid (SetWord_in b g base R lim n f (p + 8) v hv w hS hin)
  rw [show ((p + 8 : Nat) : Int) = (p : Int) + 8 by omega] at A
  clear hS hL hin hend
  go_enter Try.func74, Try.ntmps74
  go_wp2_with fail
  refine A.out.mono ?_
  rintro e w1 ⟨rfl, hS, hK⟩
  have HS := hid hS
  have HK := hid hK
  clear hS hK
  go_wp2_with fail
  first | go_ret | skip
  first | exact ⟨rfl, HS.out, HK.out⟩ | exact ⟨rfl, _, by simp [results, Try.results74, go_sem], rfl, HS.out, HK.out⟩

theorem newList_any (b hd : Nat) (h64 : hd < 18446744073709551616) (w : World) :
    Calls Try.prog 80 #[.pointer (some ⟨b, 0, none⟩), .int .u64 (hd : Int)] w fun e w' => ∃ c, e = .returned (.pointer (some ⟨c, 0, none⟩)) ∧ ListAt w' c b hd ∧ Kept none' w w' ∧ w.heap.size ≤ c := by
  go_enter Try.func80, Try.ntmps80
  go_wp2
  go_ret
  exact ⟨_, rfl, ⟨heap_new _ _, h64⟩, (Kept.refl _ _).alloc _, Nat.le_refl _⟩

theorem Head_any (c b hd : Nat) (w : World) (hL : ListAt w c b hd) :
    Calls Try.prog 32 #[.pointer (some ⟨c, 0, none⟩)] w fun e w' => e = .returned (.int .u64 (hd : Int)) ∧ w' = w := by
  have hc1 := hL.c1
  clear hL
  go_enter Try.func32, Try.ntmps32
  go_wp2
  go_ret
  exact ⟨rfl, rfl⟩
end Go.Proofs.Ythglogiglimebaa.M
