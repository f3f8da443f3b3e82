/- croftref3.Remove. -/
import Derived.Test.YtnkoheanjaapjaaRef3B
namespace Go.Proofs.Ytnkoheanjaapjaa
open Go.RowKit
set_option linter.unusedVariables false

theorem MemAt.word_lt {w h n cap f} (H : MemAt w h n cap f) (o : Nat) (ho : o + 8 ≤ n) : word f o < 18446744073709551616 := Go.Proofs.Ytnkoheanjaapjaa.word_lt f o (fun i hi => H.f256 _ (by omega))
theorem MemAt.nx_lt {w h n cap f base} (H : MemAt w h n cap f) (p : Nat) (hp : In base n p 16) : nx base f p < 18446744073709551616 := H.word_lt _ (by unfold In at hp; omega)
theorem MemAt.pv_lt {w h n cap f base} (H : MemAt w h n cap f) (p : Nat) (hp : In base n p 16) : pv base f p < 18446744073709551616 := H.word_lt _ (by unfold In at hp; omega)

theorem R3Remove_b0 (base R lim n cap h : Nat) (f : Nat → Nat) (hn : n ≤ 4194304) (hbn : base + n ≤ 9223372036854775808) (hd p : Nat) (hh : hd < 18446744073709551616) (hp : p < 18446744073709551616) (w : World) (H : MemAt w h n cap f) (hin : In base n p 16) (m q : Nat) (hm : m < 18446744073709551616) (hq : q < 18446744073709551616) (em : nx base f p = m) (eq : pv base f p = q) (h0 : q = 0) (h1 : p ≠ hd) :
    Calls Try.prog 48 #[.agg #[.int .u64 (base : Int), .int .u64 (R : Int), .int .i64 (lim : Int), .slice (some ⟨h, 0, none⟩) n cap], .int .u64 (hd : Int), .int .u64 (p : Int)] w fun e w' => e = .returned (.tuple #[.int .u64 (hd : Int), .int .i64 (8 : Int)]) ∧ MemAt w' h n cap (f) ∧ Kept (fun x => x = h) w w' := by
  have HH := hid H.lt
  have H := hid H
  have HI := hid hin
  have EM := hid em
  have EQ := hid eq
  clear hin em eq
  subst h0
  have h1i : ((p : Int) == (hd : Int)) = false := beq_eq_false_iff_ne.2 (by omega)
  have h1n : ((p : Int) != (hd : Int)) = true := bne_iff_ne.2 (by omega)
  go_enter Try.func48, Try.ntmps48
  have K0 := hid (Kept.refl (fun x => x = h) (w.alloc (bx base R lim n cap h)))
  have M0 := hid (H.out.keep ((Kept.refl none' w).alloc (bx base R lim n cap h)))
  go_wp2_with fail
  refine (R3There_yes base R lim n cap _ hn hbn p hp HI.out _).mono ?_
  rintro e w1 ⟨rfl, k⟩
  have K1 := hid (h_trans K0.out (h_none k))
  have M1 := hid (M0.out.keep k)
  clear k
  obtain ⟨b0, b1, b2, b3, -⟩ := refbox w w1 base R lim n cap _ K1.out HH.out
  go_wp2_with fail
  refine (R3Next_in base R lim n cap h f hn hbn p hp _ M1.out HI.out).mono ?_
  rintro e w2 ⟨rfl, k⟩
  have K2 := hid (h_trans K1.out (h_none k))
  have M2 := hid (M1.out.keep k)
  rw [EM.out]
  clear k b0 b1 b2 b3
  obtain ⟨b0, b1, b2, b3, -⟩ := refbox w w2 base R lim n cap _ K2.out HH.out
  go_wp2_with fail
  refine (R3Prev_in base R lim n cap h f hn hbn p hp _ M2.out HI.out).mono ?_
  rintro e w3 ⟨rfl, k⟩
  have K3 := hid (h_trans K2.out (h_none k))
  have M3 := hid (M2.out.keep k)
  rw [EQ.out]
  clear k b0 b1 b2 b3
  obtain ⟨b0, b1, b2, b3, -⟩ := refbox w w3 base R lim n cap _ K3.out HH.out
  go_wp2_with fail
  exact ⟨rfl, _, by simp [results, Try.results48, go_sem], rfl, M3.out, (refbox w w3 base R lim n cap _ K3.out HH.out).2.2.2.2⟩
theorem R3Remove_bh (base R lim n cap h : Nat) (f : Nat → Nat) (hn : n ≤ 4194304) (hbn : base + n ≤ 9223372036854775808) (hd p : Nat) (hh : hd < 18446744073709551616) (hp : p < 18446744073709551616) (w : World) (H : MemAt w h n cap f) (hin : In base n p 16) (m q : Nat) (hm : m < 18446744073709551616) (hq : q < 18446744073709551616) (em : nx base f p = m) (eq : pv base f p = q) (h0 : q ≠ 0) (h1 : p = hd) :
    Calls Try.prog 48 #[.agg #[.int .u64 (base : Int), .int .u64 (R : Int), .int .i64 (lim : Int), .slice (some ⟨h, 0, none⟩) n cap], .int .u64 (hd : Int), .int .u64 (p : Int)] w fun e w' => e = .returned (.tuple #[.int .u64 (hd : Int), .int .i64 (8 : Int)]) ∧ MemAt w' h n cap (f) ∧ Kept (fun x => x = h) w w' := by
  have HH := hid H.lt
  have H := hid H
  have HI := hid hin
  have EM := hid em
  have EQ := hid eq
  clear hin em eq
  subst h1
  have h0i : ((q : Int) == 0) = false := beq_eq_false_iff_ne.2 (by omega)
  have h0n : ((q : Int) != 0) = true := bne_iff_ne.2 (by omega)
  go_enter Try.func48, Try.ntmps48
  have K0 := hid (Kept.refl (fun x => x = h) (w.alloc (bx base R lim n cap h)))
  have M0 := hid (H.out.keep ((Kept.refl none' w).alloc (bx base R lim n cap h)))
  go_wp2_with fail
  refine (R3There_yes base R lim n cap _ hn hbn p hp HI.out _).mono ?_
  rintro e w1 ⟨rfl, k⟩
  have K1 := hid (h_trans K0.out (h_none k))
  have M1 := hid (M0.out.keep k)
  clear k
  obtain ⟨b0, b1, b2, b3, -⟩ := refbox w w1 base R lim n cap _ K1.out HH.out
  go_wp2_with fail
  refine (R3Next_in base R lim n cap h f hn hbn p hp _ M1.out HI.out).mono ?_
  rintro e w2 ⟨rfl, k⟩
  have K2 := hid (h_trans K1.out (h_none k))
  have M2 := hid (M1.out.keep k)
  rw [EM.out]
  clear k b0 b1 b2 b3
  obtain ⟨b0, b1, b2, b3, -⟩ := refbox w w2 base R lim n cap _ K2.out HH.out
  go_wp2_with fail
  refine (R3Prev_in base R lim n cap h f hn hbn p hp _ M2.out HI.out).mono ?_
  rintro e w3 ⟨rfl, k⟩
  have K3 := hid (h_trans K2.out (h_none k))
  have M3 := hid (M2.out.keep k)
  rw [EQ.out]
  clear k b0 b1 b2 b3
  obtain ⟨b0, b1, b2, b3, -⟩ := refbox w w3 base R lim n cap _ K3.out HH.out
  go_wp2_with fail
  exact ⟨rfl, _, by simp [results, Try.results48, go_sem], rfl, M3.out, (refbox w w3 base R lim n cap _ K3.out HH.out).2.2.2.2⟩
theorem R3Remove_bo (base R lim n cap h : Nat) (f : Nat → Nat) (hn : n ≤ 4194304) (hbn : base + n ≤ 9223372036854775808) (hd p : Nat) (hh : hd < 18446744073709551616) (hp : p < 18446744073709551616) (w : World) (H : MemAt w h n cap f) (hin : In base n p 16) (m q : Nat) (hm : m < 18446744073709551616) (hq : q < 18446744073709551616) (em : nx base f p = m) (eq : pv base f p = q) (h0 : q ≠ 0) (h1 : p ≠ hd) (h2 : ¬ In base n q 16) :
    Calls Try.prog 48 #[.agg #[.int .u64 (base : Int), .int .u64 (R : Int), .int .i64 (lim : Int), .slice (some ⟨h, 0, none⟩) n cap], .int .u64 (hd : Int), .int .u64 (p : Int)] w fun e w' => e = .returned (.tuple #[.int .u64 (hd : Int), .int .i64 (8 : Int)]) ∧ MemAt w' h n cap (f) ∧ Kept (fun x => x = h) w w' := by
  have HH := hid H.lt
  have H := hid H
  have HI := hid hin
  have EM := hid em
  have EQ := hid eq
  clear hin em eq
  have h0i : ((q : Int) == 0) = false := beq_eq_false_iff_ne.2 (by omega)
  have h0n : ((q : Int) != 0) = true := bne_iff_ne.2 (by omega)
  have h1i : ((p : Int) == (hd : Int)) = false := beq_eq_false_iff_ne.2 (by omega)
  have h1n : ((p : Int) != (hd : Int)) = true := bne_iff_ne.2 (by omega)
  have H2 := hid h2
  clear h2
  go_enter Try.func48, Try.ntmps48
  have K0 := hid (Kept.refl (fun x => x = h) (w.alloc (bx base R lim n cap h)))
  have M0 := hid (H.out.keep ((Kept.refl none' w).alloc (bx base R lim n cap h)))
  go_wp2_with fail
  refine (R3There_yes base R lim n cap _ hn hbn p hp HI.out _).mono ?_
  rintro e w1 ⟨rfl, k⟩
  have K1 := hid (h_trans K0.out (h_none k))
  have M1 := hid (M0.out.keep k)
  clear k
  obtain ⟨b0, b1, b2, b3, -⟩ := refbox w w1 base R lim n cap _ K1.out HH.out
  go_wp2_with fail
  refine (R3Next_in base R lim n cap h f hn hbn p hp _ M1.out HI.out).mono ?_
  rintro e w2 ⟨rfl, k⟩
  have K2 := hid (h_trans K1.out (h_none k))
  have M2 := hid (M1.out.keep k)
  rw [EM.out]
  clear k b0 b1 b2 b3
  obtain ⟨b0, b1, b2, b3, -⟩ := refbox w w2 base R lim n cap _ K2.out HH.out
  go_wp2_with fail
  refine (R3Prev_in base R lim n cap h f hn hbn p hp _ M2.out HI.out).mono ?_
  rintro e w3 ⟨rfl, k⟩
  have K3 := hid (h_trans K2.out (h_none k))
  have M3 := hid (M2.out.keep k)
  rw [EQ.out]
  clear k b0 b1 b2 b3
  obtain ⟨b0, b1, b2, b3, -⟩ := refbox w w3 base R lim n cap _ K3.out HH.out
  go_wp2_with fail
  refine (R3There_no base R lim n cap _ hn hbn q hq H2.out _).mono ?_
  rintro e w4 ⟨rfl, k⟩
  have K4 := hid (h_trans K3.out (h_none k))
  have M4 := hid (M3.out.keep k)
  clear k b0 b1 b2 b3
  obtain ⟨b0, b1, b2, b3, -⟩ := refbox w w4 base R lim n cap _ K4.out HH.out
  go_wp2_with fail
  exact ⟨rfl, _, by simp [results, Try.results48, go_sem], rfl, M4.out, (refbox w w4 base R lim n cap _ K4.out HH.out).2.2.2.2⟩
theorem R3Remove_bn (base R lim n cap h : Nat) (f : Nat → Nat) (hn : n ≤ 4194304) (hbn : base + n ≤ 9223372036854775808) (hd p : Nat) (hh : hd < 18446744073709551616) (hp : p < 18446744073709551616) (w : World) (H : MemAt w h n cap f) (hin : In base n p 16) (m q : Nat) (hm : m < 18446744073709551616) (hq : q < 18446744073709551616) (em : nx base f p = m) (eq : pv base f p = q) (h0 : q ≠ 0) (h1 : p ≠ hd) (h2 : In base n q 16) (h3 : nx base f q ≠ p) :
    Calls Try.prog 48 #[.agg #[.int .u64 (base : Int), .int .u64 (R : Int), .int .i64 (lim : Int), .slice (some ⟨h, 0, none⟩) n cap], .int .u64 (hd : Int), .int .u64 (p : Int)] w fun e w' => e = .returned (.tuple #[.int .u64 (hd : Int), .int .i64 (8 : Int)]) ∧ MemAt w' h n cap (f) ∧ Kept (fun x => x = h) w w' := by
  have HH := hid H.lt
  have H := hid H
  have HI := hid hin
  have EM := hid em
  have EQ := hid eq
  clear hin em eq
  have h0i : ((q : Int) == 0) = false := beq_eq_false_iff_ne.2 (by omega)
  have h0n : ((q : Int) != 0) = true := bne_iff_ne.2 (by omega)
  have h1i : ((p : Int) == (hd : Int)) = false := beq_eq_false_iff_ne.2 (by omega)
  have h1n : ((p : Int) != (hd : Int)) = true := bne_iff_ne.2 (by omega)
  have H2 := hid h2
  obtain ⟨x, hx⟩ : ∃ x, nx base f q = x := ⟨_, rfl⟩
  have h3i : ((x : Int) == (p : Int)) = false := beq_eq_false_iff_ne.2 (by omega)
  have h3n : ((x : Int) != (p : Int)) = true := bne_iff_ne.2 (by omega)
  have HX := hid hx
  clear h2 h3 hx
  go_enter Try.func48, Try.ntmps48
  have K0 := hid (Kept.refl (fun x => x = h) (w.alloc (bx base R lim n cap h)))
  have M0 := hid (H.out.keep ((Kept.refl none' w).alloc (bx base R lim n cap h)))
  go_wp2_with fail
  refine (R3There_yes base R lim n cap _ hn hbn p hp HI.out _).mono ?_
  rintro e w1 ⟨rfl, k⟩
  have K1 := hid (h_trans K0.out (h_none k))
  have M1 := hid (M0.out.keep k)
  clear k
  obtain ⟨b0, b1, b2, b3, -⟩ := refbox w w1 base R lim n cap _ K1.out HH.out
  go_wp2_with fail
  refine (R3Next_in base R lim n cap h f hn hbn p hp _ M1.out HI.out).mono ?_
  rintro e w2 ⟨rfl, k⟩
  have K2 := hid (h_trans K1.out (h_none k))
  have M2 := hid (M1.out.keep k)
  rw [EM.out]
  clear k b0 b1 b2 b3
  obtain ⟨b0, b1, b2, b3, -⟩ := refbox w w2 base R lim n cap _ K2.out HH.out
  go_wp2_with fail
  refine (R3Prev_in base R lim n cap h f hn hbn p hp _ M2.out HI.out).mono ?_
  rintro e w3 ⟨rfl, k⟩
  have K3 := hid (h_trans K2.out (h_none k))
  have M3 := hid (M2.out.keep k)
  rw [EQ.out]
  clear k b0 b1 b2 b3
  obtain ⟨b0, b1, b2, b3, -⟩ := refbox w w3 base R lim n cap _ K3.out HH.out
  go_wp2_with fail
  refine (R3There_yes base R lim n cap _ hn hbn q hq H2.out _).mono ?_
  rintro e w4 ⟨rfl, k⟩
  have K4 := hid (h_trans K3.out (h_none k))
  have M4 := hid (M3.out.keep k)
  clear k b0 b1 b2 b3
  obtain ⟨b0, b1, b2, b3, -⟩ := refbox w w4 base R lim n cap _ K4.out HH.out
  go_wp2_with fail
  refine (R3Next_in base R lim n cap h f hn hbn q hq _ M4.out H2.out).mono ?_
  rintro e w5 ⟨rfl, k⟩
  have K5 := hid (h_trans K4.out (h_none k))
  have M5 := hid (M4.out.keep k)
  rw [HX.out]
  clear k b0 b1 b2 b3
  obtain ⟨b0, b1, b2, b3, -⟩ := refbox w w5 base R lim n cap _ K5.out HH.out
  go_wp2_with fail
  exact ⟨rfl, _, by simp [results, Try.results48, go_sem], rfl, M5.out, (refbox w w5 base R lim n cap _ K5.out HH.out).2.2.2.2⟩
theorem R3Remove_zo (base R lim n cap h : Nat) (f : Nat → Nat) (hn : n ≤ 4194304) (hbn : base + n ≤ 9223372036854775808) (hd p : Nat) (hh : hd < 18446744073709551616) (hp : p < 18446744073709551616) (w : World) (H : MemAt w h n cap f) (hin : In base n p 16) (m q : Nat) (hm : m < 18446744073709551616) (hq : q < 18446744073709551616) (em : nx base f p = m) (eq : pv base f p = q) (h0 : q = 0) (h1 : p = hd) (h4 : m ≠ 0) (h5 : ¬ In base n m 16) :
    Calls Try.prog 48 #[.agg #[.int .u64 (base : Int), .int .u64 (R : Int), .int .i64 (lim : Int), .slice (some ⟨h, 0, none⟩) n cap], .int .u64 (hd : Int), .int .u64 (p : Int)] w fun e w' => e = .returned (.tuple #[.int .u64 (hd : Int), .int .i64 (8 : Int)]) ∧ MemAt w' h n cap (f) ∧ Kept (fun x => x = h) w w' := by
  have HH := hid H.lt
  have H := hid H
  have HI := hid hin
  have EM := hid em
  have EQ := hid eq
  clear hin em eq
  subst h0
  subst h1
  have h4i : ((m : Int) == 0) = false := beq_eq_false_iff_ne.2 (by omega)
  have h4n : ((m : Int) != 0) = true := bne_iff_ne.2 (by omega)
  have H5 := hid h5
  clear h5
  go_enter Try.func48, Try.ntmps48
  have K0 := hid (Kept.refl (fun x => x = h) (w.alloc (bx base R lim n cap h)))
  have M0 := hid (H.out.keep ((Kept.refl none' w).alloc (bx base R lim n cap h)))
  go_wp2_with fail
  refine (R3There_yes base R lim n cap _ hn hbn p hp HI.out _).mono ?_
  rintro e w1 ⟨rfl, k⟩
  have K1 := hid (h_trans K0.out (h_none k))
  have M1 := hid (M0.out.keep k)
  clear k
  obtain ⟨b0, b1, b2, b3, -⟩ := refbox w w1 base R lim n cap _ K1.out HH.out
  go_wp2_with fail
  refine (R3Next_in base R lim n cap h f hn hbn p hp _ M1.out HI.out).mono ?_
  rintro e w2 ⟨rfl, k⟩
  have K2 := hid (h_trans K1.out (h_none k))
  have M2 := hid (M1.out.keep k)
  rw [EM.out]
  clear k b0 b1 b2 b3
  obtain ⟨b0, b1, b2, b3, -⟩ := refbox w w2 base R lim n cap _ K2.out HH.out
  go_wp2_with fail
  refine (R3Prev_in base R lim n cap h f hn hbn p hp _ M2.out HI.out).mono ?_
  rintro e w3 ⟨rfl, k⟩
  have K3 := hid (h_trans K2.out (h_none k))
  have M3 := hid (M2.out.keep k)
  rw [EQ.out]
  clear k b0 b1 b2 b3
  obtain ⟨b0, b1, b2, b3, -⟩ := refbox w w3 base R lim n cap _ K3.out HH.out
  go_wp2_with fail
  refine (R3There_no base R lim n cap _ hn hbn m hm H5.out _).mono ?_
  rintro e w4 ⟨rfl, k⟩
  have K4 := hid (h_trans K3.out (h_none k))
  have M4 := hid (M3.out.keep k)
  clear k b0 b1 b2 b3
  obtain ⟨b0, b1, b2, b3, -⟩ := refbox w w4 base R lim n cap _ K4.out HH.out
  go_wp2_with fail
  exact ⟨rfl, _, by simp [results, Try.results48, go_sem], rfl, M4.out, (refbox w w4 base R lim n cap _ K4.out HH.out).2.2.2.2⟩
theorem R3Remove_zn (base R lim n cap h : Nat) (f : Nat → Nat) (hn : n ≤ 4194304) (hbn : base + n ≤ 9223372036854775808) (hd p : Nat) (hh : hd < 18446744073709551616) (hp : p < 18446744073709551616) (w : World) (H : MemAt w h n cap f) (hin : In base n p 16) (m q : Nat) (hm : m < 18446744073709551616) (hq : q < 18446744073709551616) (em : nx base f p = m) (eq : pv base f p = q) (h0 : q = 0) (h1 : p = hd) (h4 : m ≠ 0) (h5 : In base n m 16) (h6 : pv base f m ≠ p) :
    Calls Try.prog 48 #[.agg #[.int .u64 (base : Int), .int .u64 (R : Int), .int .i64 (lim : Int), .slice (some ⟨h, 0, none⟩) n cap], .int .u64 (hd : Int), .int .u64 (p : Int)] w fun e w' => e = .returned (.tuple #[.int .u64 (hd : Int), .int .i64 (8 : Int)]) ∧ MemAt w' h n cap (f) ∧ Kept (fun x => x = h) w w' := by
  have HH := hid H.lt
  have H := hid H
  have HI := hid hin
  have EM := hid em
  have EQ := hid eq
  clear hin em eq
  subst h0
  subst h1
  have h4i : ((m : Int) == 0) = false := beq_eq_false_iff_ne.2 (by omega)
  have h4n : ((m : Int) != 0) = true := bne_iff_ne.2 (by omega)
  have H5 := hid h5
  obtain ⟨y, hy⟩ : ∃ y, pv base f m = y := ⟨_, rfl⟩
  have h6i : ((y : Int) == (p : Int)) = false := beq_eq_false_iff_ne.2 (by omega)
  have h6n : ((y : Int) != (p : Int)) = true := bne_iff_ne.2 (by omega)
  have HY := hid hy
  clear h5 h6 hy
  go_enter Try.func48, Try.ntmps48
  have K0 := hid (Kept.refl (fun x => x = h) (w.alloc (bx base R lim n cap h)))
  have M0 := hid (H.out.keep ((Kept.refl none' w).alloc (bx base R lim n cap h)))
  go_wp2_with fail
  refine (R3There_yes base R lim n cap _ hn hbn p hp HI.out _).mono ?_
  rintro e w1 ⟨rfl, k⟩
  have K1 := hid (h_trans K0.out (h_none k))
  have M1 := hid (M0.out.keep k)
  clear k
  obtain ⟨b0, b1, b2, b3, -⟩ := refbox w w1 base R lim n cap _ K1.out HH.out
  go_wp2_with fail
  refine (R3Next_in base R lim n cap h f hn hbn p hp _ M1.out HI.out).mono ?_
  rintro e w2 ⟨rfl, k⟩
  have K2 := hid (h_trans K1.out (h_none k))
  have M2 := hid (M1.out.keep k)
  rw [EM.out]
  clear k b0 b1 b2 b3
  obtain ⟨b0, b1, b2, b3, -⟩ := refbox w w2 base R lim n cap _ K2.out HH.out
  go_wp2_with fail
  refine (R3Prev_in base R lim n cap h f hn hbn p hp _ M2.out HI.out).mono ?_
  rintro e w3 ⟨rfl, k⟩
  have K3 := hid (h_trans K2.out (h_none k))
  have M3 := hid (M2.out.keep k)
  rw [EQ.out]
  clear k b0 b1 b2 b3
  obtain ⟨b0, b1, b2, b3, -⟩ := refbox w w3 base R lim n cap _ K3.out HH.out
  go_wp2_with fail
  refine (R3There_yes base R lim n cap _ hn hbn m hm H5.out _).mono ?_
  rintro e w4 ⟨rfl, k⟩
  have K4 := hid (h_trans K3.out (h_none k))
  have M4 := hid (M3.out.keep k)
  clear k b0 b1 b2 b3
  obtain ⟨b0, b1, b2, b3, -⟩ := refbox w w4 base R lim n cap _ K4.out HH.out
  go_wp2_with fail
  refine (R3Prev_in base R lim n cap h f hn hbn m hm _ M4.out H5.out).mono ?_
  rintro e w5 ⟨rfl, k⟩
  have K5 := hid (h_trans K4.out (h_none k))
  have M5 := hid (M4.out.keep k)
  rw [HY.out]
  clear k b0 b1 b2 b3
  obtain ⟨b0, b1, b2, b3, -⟩ := refbox w w5 base R lim n cap _ K5.out HH.out
  go_wp2_with fail
  exact ⟨rfl, _, by simp [results, Try.results48, go_sem], rfl, M5.out, (refbox w w5 base R lim n cap _ K5.out HH.out).2.2.2.2⟩
theorem R3Remove_z0 (base R lim n cap h : Nat) (f : Nat → Nat) (hn : n ≤ 4194304) (hbn : base + n ≤ 9223372036854775808) (hd p : Nat) (hh : hd < 18446744073709551616) (hp : p < 18446744073709551616) (w : World) (H : MemAt w h n cap f) (hin : In base n p 16) (m q : Nat) (hm : m < 18446744073709551616) (hq : q < 18446744073709551616) (em : nx base f p = m) (eq : pv base f p = q) (h0 : q = 0) (h1 : p = hd) (h4 : m = 0) :
    Calls Try.prog 48 #[.agg #[.int .u64 (base : Int), .int .u64 (R : Int), .int .i64 (lim : Int), .slice (some ⟨h, 0, none⟩) n cap], .int .u64 (hd : Int), .int .u64 (p : Int)] w fun e w' => e = .returned (.tuple #[.int .u64 (m : Int), .int .i64 (0 : Int)]) ∧ MemAt w' h n cap (f) ∧ Kept (fun x => x = h) w w' := by
  have HH := hid H.lt
  have H := hid H
  have HI := hid hin
  have EM := hid em
  have EQ := hid eq
  clear hin em eq
  subst h0
  subst h1
  subst h4
  go_enter Try.func48, Try.ntmps48
  have K0 := hid (Kept.refl (fun x => x = h) (w.alloc (bx base R lim n cap h)))
  have M0 := hid (H.out.keep ((Kept.refl none' w).alloc (bx base R lim n cap h)))
  go_wp2_with fail
  refine (R3There_yes base R lim n cap _ hn hbn p hp HI.out _).mono ?_
  rintro e w1 ⟨rfl, k⟩
  have K1 := hid (h_trans K0.out (h_none k))
  have M1 := hid (M0.out.keep k)
  clear k
  obtain ⟨b0, b1, b2, b3, -⟩ := refbox w w1 base R lim n cap _ K1.out HH.out
  go_wp2_with fail
  refine (R3Next_in base R lim n cap h f hn hbn p hp _ M1.out HI.out).mono ?_
  rintro e w2 ⟨rfl, k⟩
  have K2 := hid (h_trans K1.out (h_none k))
  have M2 := hid (M1.out.keep k)
  rw [EM.out]
  clear k b0 b1 b2 b3
  obtain ⟨b0, b1, b2, b3, -⟩ := refbox w w2 base R lim n cap _ K2.out HH.out
  go_wp2_with fail
  refine (R3Prev_in base R lim n cap h f hn hbn p hp _ M2.out HI.out).mono ?_
  rintro e w3 ⟨rfl, k⟩
  have K3 := hid (h_trans K2.out (h_none k))
  have M3 := hid (M2.out.keep k)
  rw [EQ.out]
  clear k b0 b1 b2 b3
  obtain ⟨b0, b1, b2, b3, -⟩ := refbox w w3 base R lim n cap _ K3.out HH.out
  go_wp2_with fail
  exact ⟨rfl, _, by simp [results, Try.results48, go_sem], rfl, M3.out, (refbox w w3 base R lim n cap _ K3.out HH.out).2.2.2.2⟩
theorem R3Remove_zm (base R lim n cap h : Nat) (f : Nat → Nat) (hn : n ≤ 4194304) (hbn : base + n ≤ 9223372036854775808) (hd p : Nat) (hh : hd < 18446744073709551616) (hp : p < 18446744073709551616) (w : World) (H : MemAt w h n cap f) (hin : In base n p 16) (m q : Nat) (hm : m < 18446744073709551616) (hq : q < 18446744073709551616) (em : nx base f p = m) (eq : pv base f p = q) (h0 : q = 0) (h1 : p = hd) (h4 : m ≠ 0) (h5 : In base n m 16) (h6 : pv base f m = p) :
    Calls Try.prog 48 #[.agg #[.int .u64 (base : Int), .int .u64 (R : Int), .int .i64 (lim : Int), .slice (some ⟨h, 0, none⟩) n cap], .int .u64 (hd : Int), .int .u64 (p : Int)] w fun e w' => e = .returned (.tuple #[.int .u64 (m : Int), .int .i64 (0 : Int)]) ∧ MemAt w' h n cap (stw base f (m + 8) q) ∧ Kept (fun x => x = h) w w' := by
  have HH := hid H.lt
  have H := hid H
  have HI := hid hin
  have EM := hid em
  have EQ := hid eq
  clear hin em eq
  subst h0
  subst h1
  have h4i : ((m : Int) == 0) = false := beq_eq_false_iff_ne.2 (by omega)
  have h4n : ((m : Int) != 0) = true := bne_iff_ne.2 (by omega)
  have H5 := hid h5
  have H6 := hid h6
  have I5 := hid (show In base n (m + 8) 8 by unfold In at h5 ⊢; omega)
  have hm8 : m + 8 < 18446744073709551616 := by unfold In at h5; omega
  clear h5 h6
  go_enter Try.func48, Try.ntmps48
  have K0 := hid (Kept.refl (fun x => x = h) (w.alloc (bx base R lim n cap h)))
  have M0 := hid (H.out.keep ((Kept.refl none' w).alloc (bx base R lim n cap h)))
  go_wp2_with fail
  refine (R3There_yes base R lim n cap _ hn hbn p hp HI.out _).mono ?_
  rintro e w1 ⟨rfl, k⟩
  have K1 := hid (h_trans K0.out (h_none k))
  have M1 := hid (M0.out.keep k)
  clear k
  obtain ⟨b0, b1, b2, b3, -⟩ := refbox w w1 base R lim n cap _ K1.out HH.out
  go_wp2_with fail
  refine (R3Next_in base R lim n cap h f hn hbn p hp _ M1.out HI.out).mono ?_
  rintro e w2 ⟨rfl, k⟩
  have K2 := hid (h_trans K1.out (h_none k))
  have M2 := hid (M1.out.keep k)
  rw [EM.out]
  clear k b0 b1 b2 b3
  obtain ⟨b0, b1, b2, b3, -⟩ := refbox w w2 base R lim n cap _ K2.out HH.out
  go_wp2_with fail
  refine (R3Prev_in base R lim n cap h f hn hbn p hp _ M2.out HI.out).mono ?_
  rintro e w3 ⟨rfl, k⟩
  have K3 := hid (h_trans K2.out (h_none k))
  have M3 := hid (M2.out.keep k)
  rw [EQ.out]
  clear k b0 b1 b2 b3
  obtain ⟨b0, b1, b2, b3, -⟩ := refbox w w3 base R lim n cap _ K3.out HH.out
  go_wp2_with fail
  refine (R3There_yes base R lim n cap _ hn hbn m hm H5.out _).mono ?_
  rintro e w4 ⟨rfl, k⟩
  have K4 := hid (h_trans K3.out (h_none k))
  have M4 := hid (M3.out.keep k)
  clear k b0 b1 b2 b3
  obtain ⟨b0, b1, b2, b3, -⟩ := refbox w w4 base R lim n cap _ K4.out HH.out
  go_wp2_with fail
  refine (R3Prev_in base R lim n cap h f hn hbn m hm _ M4.out H5.out).mono ?_
  rintro e w5 ⟨rfl, k⟩
  have K5 := hid (h_trans K4.out (h_none k))
  have M5 := hid (M4.out.keep k)
  rw [H6.out]
  clear k b0 b1 b2 b3
  obtain ⟨b0, b1, b2, b3, -⟩ := refbox w w5 base R lim n cap _ K5.out HH.out
  go_wp2_with fail
  refine (R3Set8_in base R lim n cap h _ hn hbn m 0 hm8 (by decide) _ M5.out I5.out).mono ?_
  rintro e w6 ⟨rfl, m, k⟩
  have K6 := hid (h_trans K5.out k)
  have M6 := hid m
  clear k m b0 b1 b2 b3
  obtain ⟨b0, b1, b2, b3, -⟩ := refbox w w6 base R lim n cap _ K6.out HH.out
  go_wp2_with fail
  exact ⟨rfl, _, by simp [results, Try.results48, go_sem], rfl, M6.out, (refbox w w6 base R lim n cap _ K6.out HH.out).2.2.2.2⟩
theorem R3Remove_qo (base R lim n cap h : Nat) (f : Nat → Nat) (hn : n ≤ 4194304) (hbn : base + n ≤ 9223372036854775808) (hd p : Nat) (hh : hd < 18446744073709551616) (hp : p < 18446744073709551616) (w : World) (H : MemAt w h n cap f) (hin : In base n p 16) (m q : Nat) (hm : m < 18446744073709551616) (hq : q < 18446744073709551616) (em : nx base f p = m) (eq : pv base f p = q) (h0 : q ≠ 0) (h1 : p ≠ hd) (h2 : In base n q 16) (h3 : nx base f q = p) (h4 : m ≠ 0) (h5 : ¬ In base n m 16) :
    Calls Try.prog 48 #[.agg #[.int .u64 (base : Int), .int .u64 (R : Int), .int .i64 (lim : Int), .slice (some ⟨h, 0, none⟩) n cap], .int .u64 (hd : Int), .int .u64 (p : Int)] w fun e w' => e = .returned (.tuple #[.int .u64 (hd : Int), .int .i64 (8 : Int)]) ∧ MemAt w' h n cap (f) ∧ Kept (fun x => x = h) w w' := by
  have HH := hid H.lt
  have H := hid H
  have HI := hid hin
  have EM := hid em
  have EQ := hid eq
  clear hin em eq
  have h0i : ((q : Int) == 0) = false := beq_eq_false_iff_ne.2 (by omega)
  have h0n : ((q : Int) != 0) = true := bne_iff_ne.2 (by omega)
  have h1i : ((p : Int) == (hd : Int)) = false := beq_eq_false_iff_ne.2 (by omega)
  have h1n : ((p : Int) != (hd : Int)) = true := bne_iff_ne.2 (by omega)
  have H2 := hid h2
  have H3 := hid h3
  have I2 := hid (show In base n q 8 by unfold In at h2 ⊢; omega)
  clear h2 h3
  have h4i : ((m : Int) == 0) = false := beq_eq_false_iff_ne.2 (by omega)
  have h4n : ((m : Int) != 0) = true := bne_iff_ne.2 (by omega)
  have H5 := hid h5
  clear h5
  go_enter Try.func48, Try.ntmps48
  have K0 := hid (Kept.refl (fun x => x = h) (w.alloc (bx base R lim n cap h)))
  have M0 := hid (H.out.keep ((Kept.refl none' w).alloc (bx base R lim n cap h)))
  go_wp2_with fail
  refine (R3There_yes base R lim n cap _ hn hbn p hp HI.out _).mono ?_
  rintro e w1 ⟨rfl, k⟩
  have K1 := hid (h_trans K0.out (h_none k))
  have M1 := hid (M0.out.keep k)
  clear k
  obtain ⟨b0, b1, b2, b3, -⟩ := refbox w w1 base R lim n cap _ K1.out HH.out
  go_wp2_with fail
  refine (R3Next_in base R lim n cap h f hn hbn p hp _ M1.out HI.out).mono ?_
  rintro e w2 ⟨rfl, k⟩
  have K2 := hid (h_trans K1.out (h_none k))
  have M2 := hid (M1.out.keep k)
  rw [EM.out]
  clear k b0 b1 b2 b3
  obtain ⟨b0, b1, b2, b3, -⟩ := refbox w w2 base R lim n cap _ K2.out HH.out
  go_wp2_with fail
  refine (R3Prev_in base R lim n cap h f hn hbn p hp _ M2.out HI.out).mono ?_
  rintro e w3 ⟨rfl, k⟩
  have K3 := hid (h_trans K2.out (h_none k))
  have M3 := hid (M2.out.keep k)
  rw [EQ.out]
  clear k b0 b1 b2 b3
  obtain ⟨b0, b1, b2, b3, -⟩ := refbox w w3 base R lim n cap _ K3.out HH.out
  go_wp2_with fail
  refine (R3There_yes base R lim n cap _ hn hbn q hq H2.out _).mono ?_
  rintro e w4 ⟨rfl, k⟩
  have K4 := hid (h_trans K3.out (h_none k))
  have M4 := hid (M3.out.keep k)
  clear k b0 b1 b2 b3
  obtain ⟨b0, b1, b2, b3, -⟩ := refbox w w4 base R lim n cap _ K4.out HH.out
  go_wp2_with fail
  refine (R3Next_in base R lim n cap h f hn hbn q hq _ M4.out H2.out).mono ?_
  rintro e w5 ⟨rfl, k⟩
  have K5 := hid (h_trans K4.out (h_none k))
  have M5 := hid (M4.out.keep k)
  rw [H3.out]
  clear k b0 b1 b2 b3
  obtain ⟨b0, b1, b2, b3, -⟩ := refbox w w5 base R lim n cap _ K5.out HH.out
  go_wp2_with fail
  refine (R3There_no base R lim n cap _ hn hbn m hm H5.out _).mono ?_
  rintro e w6 ⟨rfl, k⟩
  have K6 := hid (h_trans K5.out (h_none k))
  have M6 := hid (M5.out.keep k)
  clear k b0 b1 b2 b3
  obtain ⟨b0, b1, b2, b3, -⟩ := refbox w w6 base R lim n cap _ K6.out HH.out
  go_wp2_with fail
  exact ⟨rfl, _, by simp [results, Try.results48, go_sem], rfl, M6.out, (refbox w w6 base R lim n cap _ K6.out HH.out).2.2.2.2⟩
theorem R3Remove_qn (base R lim n cap h : Nat) (f : Nat → Nat) (hn : n ≤ 4194304) (hbn : base + n ≤ 9223372036854775808) (hd p : Nat) (hh : hd < 18446744073709551616) (hp : p < 18446744073709551616) (w : World) (H : MemAt w h n cap f) (hin : In base n p 16) (m q : Nat) (hm : m < 18446744073709551616) (hq : q < 18446744073709551616) (em : nx base f p = m) (eq : pv base f p = q) (h0 : q ≠ 0) (h1 : p ≠ hd) (h2 : In base n q 16) (h3 : nx base f q = p) (h4 : m ≠ 0) (h5 : In base n m 16) (h6 : pv base f m ≠ p) :
    Calls Try.prog 48 #[.agg #[.int .u64 (base : Int), .int .u64 (R : Int), .int .i64 (lim : Int), .slice (some ⟨h, 0, none⟩) n cap], .int .u64 (hd : Int), .int .u64 (p : Int)] w fun e w' => e = .returned (.tuple #[.int .u64 (hd : Int), .int .i64 (8 : Int)]) ∧ MemAt w' h n cap (f) ∧ Kept (fun x => x = h) w w' := by
  have HH := hid H.lt
  have H := hid H
  have HI := hid hin
  have EM := hid em
  have EQ := hid eq
  clear hin em eq
  have h0i : ((q : Int) == 0) = false := beq_eq_false_iff_ne.2 (by omega)
  have h0n : ((q : Int) != 0) = true := bne_iff_ne.2 (by omega)
  have h1i : ((p : Int) == (hd : Int)) = false := beq_eq_false_iff_ne.2 (by omega)
  have h1n : ((p : Int) != (hd : Int)) = true := bne_iff_ne.2 (by omega)
  have H2 := hid h2
  have H3 := hid h3
  have I2 := hid (show In base n q 8 by unfold In at h2 ⊢; omega)
  clear h2 h3
  have h4i : ((m : Int) == 0) = false := beq_eq_false_iff_ne.2 (by omega)
  have h4n : ((m : Int) != 0) = true := bne_iff_ne.2 (by omega)
  have H5 := hid h5
  obtain ⟨y, hy⟩ : ∃ y, pv base f m = y := ⟨_, rfl⟩
  have h6i : ((y : Int) == (p : Int)) = false := beq_eq_false_iff_ne.2 (by omega)
  have h6n : ((y : Int) != (p : Int)) = true := bne_iff_ne.2 (by omega)
  have HY := hid hy
  clear h5 h6 hy
  go_enter Try.func48, Try.ntmps48
  have K0 := hid (Kept.refl (fun x => x = h) (w.alloc (bx base R lim n cap h)))
  have M0 := hid (H.out.keep ((Kept.refl none' w).alloc (bx base R lim n cap h)))
  go_wp2_with fail
  refine (R3There_yes base R lim n cap _ hn hbn p hp HI.out _).mono ?_
  rintro e w1 ⟨rfl, k⟩
  have K1 := hid (h_trans K0.out (h_none k))
  have M1 := hid (M0.out.keep k)
  clear k
  obtain ⟨b0, b1, b2, b3, -⟩ := refbox w w1 base R lim n cap _ K1.out HH.out
  go_wp2_with fail
  refine (R3Next_in base R lim n cap h f hn hbn p hp _ M1.out HI.out).mono ?_
  rintro e w2 ⟨rfl, k⟩
  have K2 := hid (h_trans K1.out (h_none k))
  have M2 := hid (M1.out.keep k)
  rw [EM.out]
  clear k b0 b1 b2 b3
  obtain ⟨b0, b1, b2, b3, -⟩ := refbox w w2 base R lim n cap _ K2.out HH.out
  go_wp2_with fail
  refine (R3Prev_in base R lim n cap h f hn hbn p hp _ M2.out HI.out).mono ?_
  rintro e w3 ⟨rfl, k⟩
  have K3 := hid (h_trans K2.out (h_none k))
  have M3 := hid (M2.out.keep k)
  rw [EQ.out]
  clear k b0 b1 b2 b3
  obtain ⟨b0, b1, b2, b3, -⟩ := refbox w w3 base R lim n cap _ K3.out HH.out
  go_wp2_with fail
  refine (R3There_yes base R lim n cap _ hn hbn q hq H2.out _).mono ?_
  rintro e w4 ⟨rfl, k⟩
  have K4 := hid (h_trans K3.out (h_none k))
  have M4 := hid (M3.out.keep k)
  clear k b0 b1 b2 b3
  obtain ⟨b0, b1, b2, b3, -⟩ := refbox w w4 base R lim n cap _ K4.out HH.out
  go_wp2_with fail
  refine (R3Next_in base R lim n cap h f hn hbn q hq _ M4.out H2.out).mono ?_
  rintro e w5 ⟨rfl, k⟩
  have K5 := hid (h_trans K4.out (h_none k))
  have M5 := hid (M4.out.keep k)
  rw [H3.out]
  clear k b0 b1 b2 b3
  obtain ⟨b0, b1, b2, b3, -⟩ := refbox w w5 base R lim n cap _ K5.out HH.out
  go_wp2_with fail
  refine (R3There_yes base R lim n cap _ hn hbn m hm H5.out _).mono ?_
  rintro e w6 ⟨rfl, k⟩
  have K6 := hid (h_trans K5.out (h_none k))
  have M6 := hid (M5.out.keep k)
  clear k b0 b1 b2 b3
  obtain ⟨b0, b1, b2, b3, -⟩ := refbox w w6 base R lim n cap _ K6.out HH.out
  go_wp2_with fail
  refine (R3Prev_in base R lim n cap h f hn hbn m hm _ M6.out H5.out).mono ?_
  rintro e w7 ⟨rfl, k⟩
  have K7 := hid (h_trans K6.out (h_none k))
  have M7 := hid (M6.out.keep k)
  rw [HY.out]
  clear k b0 b1 b2 b3
  obtain ⟨b0, b1, b2, b3, -⟩ := refbox w w7 base R lim n cap _ K7.out HH.out
  go_wp2_with fail
  exact ⟨rfl, _, by simp [results, Try.results48, go_sem], rfl, M7.out, (refbox w w7 base R lim n cap _ K7.out HH.out).2.2.2.2⟩
theorem R3Remove_q0 (base R lim n cap h : Nat) (f : Nat → Nat) (hn : n ≤ 4194304) (hbn : base + n ≤ 9223372036854775808) (hd p : Nat) (hh : hd < 18446744073709551616) (hp : p < 18446744073709551616) (w : World) (H : MemAt w h n cap f) (hin : In base n p 16) (m q : Nat) (hm : m < 18446744073709551616) (hq : q < 18446744073709551616) (em : nx base f p = m) (eq : pv base f p = q) (h0 : q ≠ 0) (h1 : p ≠ hd) (h2 : In base n q 16) (h3 : nx base f q = p) (h4 : m = 0) :
    Calls Try.prog 48 #[.agg #[.int .u64 (base : Int), .int .u64 (R : Int), .int .i64 (lim : Int), .slice (some ⟨h, 0, none⟩) n cap], .int .u64 (hd : Int), .int .u64 (p : Int)] w fun e w' => e = .returned (.tuple #[.int .u64 (hd : Int), .int .i64 (0 : Int)]) ∧ MemAt w' h n cap ((stw base f q m)) ∧ Kept (fun x => x = h) w w' := by
  have HH := hid H.lt
  have H := hid H
  have HI := hid hin
  have EM := hid em
  have EQ := hid eq
  clear hin em eq
  have h0i : ((q : Int) == 0) = false := beq_eq_false_iff_ne.2 (by omega)
  have h0n : ((q : Int) != 0) = true := bne_iff_ne.2 (by omega)
  have h1i : ((p : Int) == (hd : Int)) = false := beq_eq_false_iff_ne.2 (by omega)
  have h1n : ((p : Int) != (hd : Int)) = true := bne_iff_ne.2 (by omega)
  have H2 := hid h2
  have H3 := hid h3
  have I2 := hid (show In base n q 8 by unfold In at h2 ⊢; omega)
  clear h2 h3
  subst h4
  go_enter Try.func48, Try.ntmps48
  have K0 := hid (Kept.refl (fun x => x = h) (w.alloc (bx base R lim n cap h)))
  have M0 := hid (H.out.keep ((Kept.refl none' w).alloc (bx base R lim n cap h)))
  go_wp2_with fail
  refine (R3There_yes base R lim n cap _ hn hbn p hp HI.out _).mono ?_
  rintro e w1 ⟨rfl, k⟩
  have K1 := hid (h_trans K0.out (h_none k))
  have M1 := hid (M0.out.keep k)
  clear k
  obtain ⟨b0, b1, b2, b3, -⟩ := refbox w w1 base R lim n cap _ K1.out HH.out
  go_wp2_with fail
  refine (R3Next_in base R lim n cap h f hn hbn p hp _ M1.out HI.out).mono ?_
  rintro e w2 ⟨rfl, k⟩
  have K2 := hid (h_trans K1.out (h_none k))
  have M2 := hid (M1.out.keep k)
  rw [EM.out]
  clear k b0 b1 b2 b3
  obtain ⟨b0, b1, b2, b3, -⟩ := refbox w w2 base R lim n cap _ K2.out HH.out
  go_wp2_with fail
  refine (R3Prev_in base R lim n cap h f hn hbn p hp _ M2.out HI.out).mono ?_
  rintro e w3 ⟨rfl, k⟩
  have K3 := hid (h_trans K2.out (h_none k))
  have M3 := hid (M2.out.keep k)
  rw [EQ.out]
  clear k b0 b1 b2 b3
  obtain ⟨b0, b1, b2, b3, -⟩ := refbox w w3 base R lim n cap _ K3.out HH.out
  go_wp2_with fail
  refine (R3There_yes base R lim n cap _ hn hbn q hq H2.out _).mono ?_
  rintro e w4 ⟨rfl, k⟩
  have K4 := hid (h_trans K3.out (h_none k))
  have M4 := hid (M3.out.keep k)
  clear k b0 b1 b2 b3
  obtain ⟨b0, b1, b2, b3, -⟩ := refbox w w4 base R lim n cap _ K4.out HH.out
  go_wp2_with fail
  refine (R3Next_in base R lim n cap h f hn hbn q hq _ M4.out H2.out).mono ?_
  rintro e w5 ⟨rfl, k⟩
  have K5 := hid (h_trans K4.out (h_none k))
  have M5 := hid (M4.out.keep k)
  rw [H3.out]
  clear k b0 b1 b2 b3
  obtain ⟨b0, b1, b2, b3, -⟩ := refbox w w5 base R lim n cap _ K5.out HH.out
  go_wp2_with fail
  refine (R3Set_in base R lim n cap h _ hn hbn q 0 hq (by decide) _ M5.out I2.out).mono ?_
  rintro e w6 ⟨rfl, m, k⟩
  have K6 := hid (h_trans K5.out k)
  have M6 := hid m
  clear k m b0 b1 b2 b3
  obtain ⟨b0, b1, b2, b3, -⟩ := refbox w w6 base R lim n cap _ K6.out HH.out
  go_wp2_with fail
  exact ⟨rfl, _, by simp [results, Try.results48, go_sem], rfl, M6.out, (refbox w w6 base R lim n cap _ K6.out HH.out).2.2.2.2⟩
theorem R3Remove_qm (base R lim n cap h : Nat) (f : Nat → Nat) (hn : n ≤ 4194304) (hbn : base + n ≤ 9223372036854775808) (hd p : Nat) (hh : hd < 18446744073709551616) (hp : p < 18446744073709551616) (w : World) (H : MemAt w h n cap f) (hin : In base n p 16) (m q : Nat) (hm : m < 18446744073709551616) (hq : q < 18446744073709551616) (em : nx base f p = m) (eq : pv base f p = q) (h0 : q ≠ 0) (h1 : p ≠ hd) (h2 : In base n q 16) (h3 : nx base f q = p) (h4 : m ≠ 0) (h5 : In base n m 16) (h6 : pv base f m = p) :
    Calls Try.prog 48 #[.agg #[.int .u64 (base : Int), .int .u64 (R : Int), .int .i64 (lim : Int), .slice (some ⟨h, 0, none⟩) n cap], .int .u64 (hd : Int), .int .u64 (p : Int)] w fun e w' => e = .returned (.tuple #[.int .u64 (hd : Int), .int .i64 (0 : Int)]) ∧ MemAt w' h n cap (stw base (stw base f q m) (m + 8) q) ∧ Kept (fun x => x = h) w w' := by
  have HH := hid H.lt
  have H := hid H
  have HI := hid hin
  have EM := hid em
  have EQ := hid eq
  clear hin em eq
  have h0i : ((q : Int) == 0) = false := beq_eq_false_iff_ne.2 (by omega)
  have h0n : ((q : Int) != 0) = true := bne_iff_ne.2 (by omega)
  have h1i : ((p : Int) == (hd : Int)) = false := beq_eq_false_iff_ne.2 (by omega)
  have h1n : ((p : Int) != (hd : Int)) = true := bne_iff_ne.2 (by omega)
  have H2 := hid h2
  have H3 := hid h3
  have I2 := hid (show In base n q 8 by unfold In at h2 ⊢; omega)
  clear h2 h3
  have h4i : ((m : Int) == 0) = false := beq_eq_false_iff_ne.2 (by omega)
  have h4n : ((m : Int) != 0) = true := bne_iff_ne.2 (by omega)
  have H5 := hid h5
  have H6 := hid h6
  have I5 := hid (show In base n (m + 8) 8 by unfold In at h5 ⊢; omega)
  have hm8 : m + 8 < 18446744073709551616 := by unfold In at h5; omega
  clear h5 h6
  go_enter Try.func48, Try.ntmps48
  have K0 := hid (Kept.refl (fun x => x = h) (w.alloc (bx base R lim n cap h)))
  have M0 := hid (H.out.keep ((Kept.refl none' w).alloc (bx base R lim n cap h)))
  go_wp2_with fail
  refine (R3There_yes base R lim n cap _ hn hbn p hp HI.out _).mono ?_
  rintro e w1 ⟨rfl, k⟩
  have K1 := hid (h_trans K0.out (h_none k))
  have M1 := hid (M0.out.keep k)
  clear k
  obtain ⟨b0, b1, b2, b3, -⟩ := refbox w w1 base R lim n cap _ K1.out HH.out
  go_wp2_with fail
  refine (R3Next_in base R lim n cap h f hn hbn p hp _ M1.out HI.out).mono ?_
  rintro e w2 ⟨rfl, k⟩
  have K2 := hid (h_trans K1.out (h_none k))
  have M2 := hid (M1.out.keep k)
  rw [EM.out]
  clear k b0 b1 b2 b3
  obtain ⟨b0, b1, b2, b3, -⟩ := refbox w w2 base R lim n cap _ K2.out HH.out
  go_wp2_with fail
  refine (R3Prev_in base R lim n cap h f hn hbn p hp _ M2.out HI.out).mono ?_
  rintro e w3 ⟨rfl, k⟩
  have K3 := hid (h_trans K2.out (h_none k))
  have M3 := hid (M2.out.keep k)
  rw [EQ.out]
  clear k b0 b1 b2 b3
  obtain ⟨b0, b1, b2, b3, -⟩ := refbox w w3 base R lim n cap _ K3.out HH.out
  go_wp2_with fail
  refine (R3There_yes base R lim n cap _ hn hbn q hq H2.out _).mono ?_
  rintro e w4 ⟨rfl, k⟩
  have K4 := hid (h_trans K3.out (h_none k))
  have M4 := hid (M3.out.keep k)
  clear k b0 b1 b2 b3
  obtain ⟨b0, b1, b2, b3, -⟩ := refbox w w4 base R lim n cap _ K4.out HH.out
  go_wp2_with fail
  refine (R3Next_in base R lim n cap h f hn hbn q hq _ M4.out H2.out).mono ?_
  rintro e w5 ⟨rfl, k⟩
  have K5 := hid (h_trans K4.out (h_none k))
  have M5 := hid (M4.out.keep k)
  rw [H3.out]
  clear k b0 b1 b2 b3
  obtain ⟨b0, b1, b2, b3, -⟩ := refbox w w5 base R lim n cap _ K5.out HH.out
  go_wp2_with fail
  refine (R3There_yes base R lim n cap _ hn hbn m hm H5.out _).mono ?_
  rintro e w6 ⟨rfl, k⟩
  have K6 := hid (h_trans K5.out (h_none k))
  have M6 := hid (M5.out.keep k)
  clear k b0 b1 b2 b3
  obtain ⟨b0, b1, b2, b3, -⟩ := refbox w w6 base R lim n cap _ K6.out HH.out
  go_wp2_with fail
  refine (R3Prev_in base R lim n cap h f hn hbn m hm _ M6.out H5.out).mono ?_
  rintro e w7 ⟨rfl, k⟩
  have K7 := hid (h_trans K6.out (h_none k))
  have M7 := hid (M6.out.keep k)
  rw [H6.out]
  clear k b0 b1 b2 b3
  obtain ⟨b0, b1, b2, b3, -⟩ := refbox w w7 base R lim n cap _ K7.out HH.out
  go_wp2_with fail
  refine (R3Set_in base R lim n cap h _ hn hbn q m hq hm _ M7.out I2.out).mono ?_
  rintro e w8 ⟨rfl, m, k⟩
  have K8 := hid (h_trans K7.out k)
  have M8 := hid m
  clear k m b0 b1 b2 b3
  obtain ⟨b0, b1, b2, b3, -⟩ := refbox w w8 base R lim n cap _ K8.out HH.out
  go_wp2_with fail
  refine (R3Set8_in base R lim n cap h _ hn hbn m q hm8 hq _ M8.out I5.out).mono ?_
  rintro e w9 ⟨rfl, m, k⟩
  have K9 := hid (h_trans K8.out k)
  have M9 := hid m
  clear k m b0 b1 b2 b3
  obtain ⟨b0, b1, b2, b3, -⟩ := refbox w w9 base R lim n cap _ K9.out HH.out
  go_wp2_with fail
  exact ⟨rfl, _, by simp [results, Try.results48, go_sem], rfl, M9.out, (refbox w w9 base R lim n cap _ K9.out HH.out).2.2.2.2⟩
end Go.Proofs.Ytnkoheanjaapjaa
