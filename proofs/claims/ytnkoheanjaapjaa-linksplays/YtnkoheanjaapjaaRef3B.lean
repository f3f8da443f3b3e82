/- croftref3.Push. -/
import Derived.Test.YtnkoheanjaapjaaRef3A
namespace Go.Proofs.Ytnkoheanjaapjaa
open Go.RowKit
set_option linter.unusedVariables false

abbrev bx (base R lim n cap h : Nat) : Obj := .cells #[.int .u64 (base : Int), .int .u64 (R : Int), .int .i64 (lim : Int), .slice (some ⟨h, 0, none⟩) n cap] 44
theorem h_none {h : Nat} {a b : World} (k : Kept none' a b) : Kept (fun x => x = h) a b := k.mono (fun _ _ x => x.elim)
theorem h_trans {h : Nat} {a b c : World} (k : Kept (fun x => x = h) a b) (l : Kept (fun x => x = h) b c) : Kept (fun x => x = h) a c := k.trans l (fun _ _ x => x) (fun _ _ x => x)
theorem R3There_yes (base R lim n cap : Nat) (ao : Option Addr) (hn : n ≤ 4194304) (hb : base + n ≤ 9223372036854775808) (p : Nat) (hp : p < 18446744073709551616) (hin : In base n p 16) (w : World) :
    Calls Try.prog 58 #[.agg #[.int .u64 (base : Int), .int .u64 (R : Int), .int .i64 (lim : Int), .slice ao n cap], .int .u64 (p : Int)] w fun e w' => e = .returned (.bool true) ∧ Kept none' w w' := by
  have := R3There_any base R lim n cap ao hn hb p hp w
  rwa [decide_eq_true hin] at this
theorem R3There_no (base R lim n cap : Nat) (ao : Option Addr) (hn : n ≤ 4194304) (hb : base + n ≤ 9223372036854775808) (p : Nat) (hp : p < 18446744073709551616) (hin : ¬ In base n p 16) (w : World) :
    Calls Try.prog 58 #[.agg #[.int .u64 (base : Int), .int .u64 (R : Int), .int .i64 (lim : Int), .slice ao n cap], .int .u64 (p : Int)] w fun e w' => e = .returned (.bool false) ∧ Kept none' w w' := by
  have := R3There_any base R lim n cap ao hn hb p hp w
  rwa [decide_eq_false hin] at this
theorem R3Set_in (base R lim n cap h : Nat) (f : Nat → Nat) (hn : n ≤ 4194304) (hbn : base + n ≤ 9223372036854775808) (p v : Nat) (hp : p < 18446744073709551616) (hv : v < 18446744073709551616) (w : World) (H : MemAt w h n cap f) (hin : In base n p 8) :
    Calls Try.prog 51 #[.agg #[.int .u64 (base : Int), .int .u64 (R : Int), .int .i64 (lim : Int), .slice (some ⟨h, 0, none⟩) n cap], .int .u64 (p : Int), .int .u64 (v : Int)] w fun e w' => e = .returned (.tuple #[]) ∧ MemAt w' h n cap (stw base f p v) ∧ Kept (fun x => x = h) w w' := RSetWord_in base R lim n cap h f hn p v hp hv w H hbn hin
theorem R3Set8_in (base R lim n cap h : Nat) (f : Nat → Nat) (hn : n ≤ 4194304) (hbn : base + n ≤ 9223372036854775808) (p v : Nat) (hp : p + 8 < 18446744073709551616) (hv : v < 18446744073709551616) (w : World) (H : MemAt w h n cap f) (hin : In base n (p + 8) 8) :
    Calls Try.prog 51 #[.agg #[.int .u64 (base : Int), .int .u64 (R : Int), .int .i64 (lim : Int), .slice (some ⟨h, 0, none⟩) n cap], .int .u64 ((p : Int) + 8), .int .u64 (v : Int)] w fun e w' => e = .returned (.tuple #[]) ∧ MemAt w' h n cap (stw base f (p + 8) v) ∧ Kept (fun x => x = h) w w' := by
  have := RSetWord_in base R lim n cap h f hn (p + 8) v hp hv w H hbn hin
  rwa [show ((p + 8 : Nat) : Int) = (p : Int) + 8 by omega] at this

theorem R3Push_any (base R lim n cap h : Nat) (f : Nat → Nat) (hn : n ≤ 4194304) (hbn : base + n ≤ 9223372036854775808) (hd p : Nat) (hh : hd < 18446744073709551616) (hp : p < 18446744073709551616) (w : World) (H : MemAt w h n cap f) :
    Calls Try.prog 46 #[.agg #[.int .u64 (base : Int), .int .u64 (R : Int), .int .i64 (lim : Int), .slice (some ⟨h, 0, none⟩) n cap], .int .u64 (hd : Int), .int .u64 (p : Int)] w fun e w' => e = .returned (.tuple #[.int .u64 ((pushR base n f hd p).2.1 : Int), .int .i64 ((pushR base n f hd p).2.2 : Int)]) ∧ MemAt w' h n cap (pushR base n f hd p).1 ∧ Kept (fun x => x = h) w w' := by
  have HH := hid H.lt
  have H := hid H
  by_cases hin : In base n p 16
  · have HI := hid hin
    have hp8 : p + 8 < 18446744073709551616 := by unfold In at hin; omega
    have I1 := hid (show In base n p 8 by unfold In at hin ⊢; omega)
    have I2 := hid (show In base n (p + 8) 8 by unfold In at hin ⊢; omega)
    by_cases h0 : hd = 0
    · subst h0
      have hpe : pushR base n f 0 p = (stw base (stw base f p 0) (p + 8) 0, p, 0) := by unfold pushR; rw [if_pos hin, if_pos (by simp [cameB])]; simp [pushF]
      rw [hpe]
      clear hpe hin
      go_enter Try.func46, Try.ntmps46
      have K0 := hid (Kept.refl (fun x => x = h) (w.alloc (bx base R lim n cap h)))
      have M0 := hid (H.out.keep ((Kept.refl none' w).alloc (bx base R lim n cap h)))
      go_wp2_with fail
      refine (R3There_yes base R lim n cap _ hn hbn p hp HI.out _).mono ?_
      rintro e w1 ⟨rfl, k⟩
      have K1 := hid (h_trans K0.out (h_none k))
      have M1 := hid (M0.out.keep k)
      clear k
      obtain ⟨b0, b1, b2, b3, -⟩ := refbox w w1 base R lim n cap _ K1.out HH.out
      go_wp2_with fail
      refine (R3Set_in base R lim n cap h _ hn hbn p 0 hp (by decide) _ M1.out I1.out).mono ?_
      rintro e w2 ⟨rfl, m, k⟩
      have K2 := hid (h_trans K1.out k)
      have M2 := hid m
      clear k m b0 b1 b2 b3
      obtain ⟨b0, b1, b2, b3, -⟩ := refbox w w2 base R lim n cap _ K2.out HH.out
      go_wp2_with fail
      refine (R3Set8_in base R lim n cap h _ hn hbn p 0 hp8 (by decide) _ M2.out I2.out).mono ?_
      rintro e w3 ⟨rfl, m, k⟩
      have K3 := hid (h_trans K2.out k)
      have M3 := hid m
      clear k m b0 b1 b2 b3
      obtain ⟨b0, b1, b2, b3, -⟩ := refbox w w3 base R lim n cap _ K3.out HH.out
      go_wp2_with fail
      exact ⟨rfl, _, by simp [results, Try.results46, go_sem], rfl, M3.out, (refbox w w3 base R lim n cap _ K3.out HH.out).2.2.2.2⟩
    · have h0i : ((hd : Int) == 0) = false := beq_eq_false_iff_ne.2 (by omega)
      by_cases hi2 : In base n hd 16
      · have HI2 := hid hi2
        by_cases hpv : pv base f hd = 0
        · have hd8 : hd + 8 < 18446744073709551616 := by unfold In at hi2; omega
          have I3 := hid (show In base n (hd + 8) 8 by unfold In at hi2 ⊢; omega)
          have hpe : pushR base n f hd p = (stw base (stw base (stw base f p hd) (p + 8) 0) (hd + 8) p, p, 0) := by unfold pushR; rw [if_pos hin, if_pos (by simp [cameB, hi2, hpv])]; simp [pushF, h0]
          rw [hpe]
          have HP := hid hpv
          clear hpe hin hi2 hpv
          go_enter Try.func46, Try.ntmps46
          have K0 := hid (Kept.refl (fun x => x = h) (w.alloc (bx base R lim n cap h)))
          have M0 := hid (H.out.keep ((Kept.refl none' w).alloc (bx base R lim n cap h)))
          go_wp2_with fail
          refine (R3There_yes base R lim n cap _ hn hbn p hp HI.out _).mono ?_
          rintro e w1 ⟨rfl, k⟩
          have K1 := hid (h_trans K0.out (h_none k))
          have M1 := hid (M0.out.keep k)
          clear k
          obtain ⟨b0, b1, b2, b3, -⟩ := refbox w w1 base R lim n cap _ K1.out HH.out
          go_wp2_with fail
          refine (R3There_yes base R lim n cap _ hn hbn hd hh HI2.out _).mono ?_
          rintro e w2 ⟨rfl, k⟩
          have K2 := hid (h_trans K1.out (h_none k))
          have M2 := hid (M1.out.keep k)
          clear k b0 b1 b2 b3
          obtain ⟨b0, b1, b2, b3, -⟩ := refbox w w2 base R lim n cap _ K2.out HH.out
          go_wp2_with fail
          refine (R3Prev_in base R lim n cap h f hn hbn hd hh _ M2.out HI2.out).mono ?_
          rintro e w3 ⟨rfl, k⟩
          have K3 := hid (h_trans K2.out (h_none k))
          have M3 := hid (M2.out.keep k)
          rw [HP.out]
          clear k b0 b1 b2 b3
          obtain ⟨b0, b1, b2, b3, -⟩ := refbox w w3 base R lim n cap _ K3.out HH.out
          go_wp2_with fail
          refine (R3Set_in base R lim n cap h _ hn hbn p hd hp hh _ M3.out I1.out).mono ?_
          rintro e w4 ⟨rfl, m, k⟩
          have K4 := hid (h_trans K3.out k)
          have M4 := hid m
          clear k m b0 b1 b2 b3
          obtain ⟨b0, b1, b2, b3, -⟩ := refbox w w4 base R lim n cap _ K4.out HH.out
          go_wp2_with fail
          refine (R3Set8_in base R lim n cap h _ hn hbn p 0 hp8 (by decide) _ M4.out I2.out).mono ?_
          rintro e w5 ⟨rfl, m, k⟩
          have K5 := hid (h_trans K4.out k)
          have M5 := hid m
          clear k m b0 b1 b2 b3
          obtain ⟨b0, b1, b2, b3, -⟩ := refbox w w5 base R lim n cap _ K5.out HH.out
          go_wp2_with fail
          refine (R3Set8_in base R lim n cap h _ hn hbn hd p hd8 hp _ M5.out I3.out).mono ?_
          rintro e w6 ⟨rfl, m, k⟩
          have K6 := hid (h_trans K5.out k)
          have M6 := hid m
          clear k m b0 b1 b2 b3
          obtain ⟨b0, b1, b2, b3, -⟩ := refbox w w6 base R lim n cap _ K6.out HH.out
          go_wp2_with fail
          exact ⟨rfl, _, by simp [results, Try.results46, go_sem], rfl, M6.out, (refbox w w6 base R lim n cap _ K6.out HH.out).2.2.2.2⟩
        · have hpe : pushR base n f hd p = (f, hd, 8) := by unfold pushR; rw [if_pos hin, if_neg (by simp [cameB, h0, hpv])]
          rw [hpe]
          have hpi : ((pv base f hd : Int) == 0) = false := beq_eq_false_iff_ne.2 (by omega)
          have hpn : ((pv base f hd : Int) != 0) = true := bne_iff_ne.2 (by omega)
          have h0n : ((hd : Int) != 0) = true := bne_iff_ne.2 (by omega)
          generalize hx : pv base f hd = x at *
          have HX := hid hx
          clear hpe hin hi2 hpv hx
          go_enter Try.func46, Try.ntmps46
          have K0 := hid (Kept.refl (fun x => x = h) (w.alloc (bx base R lim n cap h)))
          have M0 := hid (H.out.keep ((Kept.refl none' w).alloc (bx base R lim n cap h)))
          go_wp2_with fail
          refine (R3There_yes base R lim n cap _ hn hbn p hp HI.out _).mono ?_
          rintro e w1 ⟨rfl, k⟩
          have K1 := hid (h_trans K0.out (h_none k))
          have M1 := hid (M0.out.keep k)
          clear k
          obtain ⟨b0, b1, b2, b3, -⟩ := refbox w w1 base R lim n cap _ K1.out HH.out
          go_wp2_with fail
          refine (R3There_yes base R lim n cap _ hn hbn hd hh HI2.out _).mono ?_
          rintro e w2 ⟨rfl, k⟩
          have K2 := hid (h_trans K1.out (h_none k))
          have M2 := hid (M1.out.keep k)
          clear k b0 b1 b2 b3
          obtain ⟨b0, b1, b2, b3, -⟩ := refbox w w2 base R lim n cap _ K2.out HH.out
          go_wp2_with fail
          refine (R3Prev_in base R lim n cap h f hn hbn hd hh _ M2.out HI2.out).mono ?_
          rintro e w3 ⟨rfl, k⟩
          have K3 := hid (h_trans K2.out (h_none k))
          have M3 := hid (M2.out.keep k)
          rw [HX.out]
          clear k b0 b1 b2 b3
          obtain ⟨b0, b1, b2, b3, -⟩ := refbox w w3 base R lim n cap _ K3.out HH.out
          go_wp2_with fail
          exact ⟨rfl, _, by simp [results, Try.results46, go_sem], rfl, M3.out, (refbox w w3 base R lim n cap _ K3.out HH.out).2.2.2.2⟩
      · have hpe : pushR base n f hd p = (f, hd, 8) := by unfold pushR; rw [if_pos hin, if_neg (by simp [cameB, h0, hi2])]
        rw [hpe]
        have HI2 := hid hi2
        clear hpe hin hi2
        go_enter Try.func46, Try.ntmps46
        have K0 := hid (Kept.refl (fun x => x = h) (w.alloc (bx base R lim n cap h)))
        have M0 := hid (H.out.keep ((Kept.refl none' w).alloc (bx base R lim n cap h)))
        go_wp2_with fail
        refine (R3There_yes base R lim n cap _ hn hbn p hp HI.out _).mono ?_
        rintro e w1 ⟨rfl, k⟩
        have K1 := hid (h_trans K0.out (h_none k))
        have M1 := hid (M0.out.keep k)
        clear k
        obtain ⟨b0, b1, b2, b3, -⟩ := refbox w w1 base R lim n cap _ K1.out HH.out
        go_wp2_with fail
        refine (R3There_no base R lim n cap _ hn hbn hd hh HI2.out _).mono ?_
        rintro e w2 ⟨rfl, k⟩
        have K2 := hid (h_trans K1.out (h_none k))
        have M2 := hid (M1.out.keep k)
        clear k b0 b1 b2 b3
        obtain ⟨b0, b1, b2, b3, -⟩ := refbox w w2 base R lim n cap _ K2.out HH.out
        go_wp2_with fail
        exact ⟨rfl, _, by simp [results, Try.results46, go_sem], rfl, M2.out, (refbox w w2 base R lim n cap _ K2.out HH.out).2.2.2.2⟩
  · have hpe : pushR base n f hd p = (f, hd, 4) := by unfold pushR; rw [if_neg hin]
    rw [hpe]
    have HI := hid hin
    clear hpe hin
    go_enter Try.func46, Try.ntmps46
    have K0 := hid (Kept.refl (fun x => x = h) (w.alloc (bx base R lim n cap h)))
    have M0 := hid (H.out.keep ((Kept.refl none' w).alloc (bx base R lim n cap h)))
    go_wp2_with fail
    refine (R3There_no base R lim n cap _ hn hbn p hp HI.out _).mono ?_
    rintro e w1 ⟨rfl, k⟩
    have K1 := hid (h_trans K0.out (h_none k))
    have M1 := hid (M0.out.keep k)
    clear k
    obtain ⟨b0, b1, b2, b3, -⟩ := refbox w w1 base R lim n cap _ K1.out HH.out
    go_wp2_with fail
    exact ⟨rfl, _, by simp [results, Try.results46, go_sem], rfl, M1.out, (refbox w w1 base R lim n cap _ K1.out HH.out).2.2.2.2⟩
end Go.Proofs.Ytnkoheanjaapjaa
