import Derived.Test.YthjdjgokafkjaaaGreatDoorHtE
/- HeapTight: of any arguments. (Written by mk8u.py.) -/
namespace Go.Proofs.YthjdjgokafkjaaaGreatDoor
open Go.RowKit
open Go.Proofs.YthjdjgokafkjaaaGreatDoor.M (RS Bounds mayB pow8)
set_option linter.unusedVariables false

set_option maxRecDepth 20000 in
set_option maxHeartbeats 8000000 in
theorem tight_no (base : Nat) (hb64 : base < 18446744073709551616) (lim ord : Int) (l1 : -9223372036854775808 ≤ lim) (l2 : lim ≤ 9223372036854775807) (o1 : -9223372036854775808 ≤ ord) (o2 : ord ≤ 9223372036854775807) (hmay : mayB base lim ord = false) (k : Int) (r : Nat) (hr : r < 18446744073709551616) (great : Bool) (w : World) (hT : Tab w) :
    Calls Tryz.prog 5 #[cfgV base lim ord, .int .i64 k, .int .u64 (r : Int), .bool great] w fun e w' => e = .returned (.bool true) ∧ Kept none' w w' := by
  have K0 := hid ((Kept.refl none' w).alloc (c8O base lim ord))
  have X0 := hid (heap_new w (c8O base lim ord))
  have AW := hid (awake8 _ (fun j hj => K0.out.cell (fun e => e) (hT j hj)))
  have MY := hid (fun W => refMay base hb64 lim ord l1 l2 o1 o2 W)
  rw [hmay] at MY
  obtain ⟨c0, c1, c2⟩ := c8c X0.out
  clear hT hmay
  go_enter Tryz.func5, Tryz.ntmps5
  go_wp2_with fail
  refine AW.out.mono ?_
  rintro e V1 ⟨rfl, hk⟩
  have K1 := hid (none_trans K0.out hk)
  have X1 := hid (c8k X0.out hk)
  clear hk AW c0 c1 c2 X0 K0
  obtain ⟨c0, c1, c2⟩ := c8c X1.out
  go_wp2_with fail
  refine (MY.out _).mono ?_
  rintro e V2 ⟨rfl, hk⟩
  have K2 := hid (none_trans K1.out hk)
  have X2 := hid (c8k X1.out hk)
  clear hk MY c0 c1 c2 X1 K1
  obtain ⟨c0, c1, c2⟩ := c8c X2.out
  go_wp2_with fail
  go_ret
  exact ⟨rfl, K2.out⟩
set_option maxRecDepth 20000 in
set_option maxHeartbeats 20000000 in
theorem tight8 (base : Nat) (hb64 : base < 18446744073709551616) (lim ord : Int) (l1 : -9223372036854775808 ≤ lim) (l2 : lim ≤ 9223372036854775807) (o1 : -9223372036854775808 ≤ ord) (o2 : ord ≤ 9223372036854775807) (k : Int) (hk64 : -9223372036854775808 ≤ k ∧ k ≤ 9223372036854775807) (r : Nat) (hr : r < 18446744073709551616) (great : Bool) (w : World) (hT : Tab w) :
    Calls Tryz.prog 5 #[cfgV base lim ord, .int .i64 k, .int .u64 (r : Int), .bool great] w fun e w' => e = .returned (.bool true) ∧ Kept none' w w' := by
  cases hmay : mayB base lim ord with
  | false => exact tight_no base hb64 lim ord l1 l2 o1 o2 hmay k r hr great w hT
  | true =>
    have hB : Bounds lim ord := by
      unfold mayB at hmay
      rw [Bool.and_eq_true, Bool.and_eq_true] at hmay
      exact of_decide_eq_true hmay.1.1
    obtain ⟨b1, b2, b3, b4⟩ := hB
    obtain ⟨o, rfl⟩ := Int.eq_ofNat_of_zero_le b1
    obtain ⟨L, rfl⟩ := Int.eq_ofNat_of_zero_le (show 0 ≤ lim by omega)
    have ho : o ≤ 8 := by omega
    have hL1 : 1 ≤ L := by omega
    have hL2 : L ≤ 64 := by omega
    have K0 := hid ((Kept.refl none' w).alloc (c8O base (L : Int) (o : Int)))
    have X0 := hid (heap_new w (c8O base (L : Int) (o : Int)))
    have AW := hid (awake8 _ (fun j hj => K0.out.cell (fun e => e) (hT j hj)))
    have MY := hid (fun W => refMay_in base hb64 L o ho hL1 hL2 W)
    rw [hmay] at MY
    have RR := hid (fun W => refR (base : Int) (L : Int) o ho W)
    have PW := hid (fun W => refPower r hr W)
    obtain ⟨c0, c1, c2⟩ := c8c X0.out
    have hP8 := pow8 o ho
    obtain ⟨R, hR⟩ : ∃ R, R = RS o := ⟨_, rfl⟩
    have hRv : R = 4096 * 2 ^ o := hR
    have hRb : R ≤ 1048576 := by omega
    by_cases k1 : k < 1
    · clear hT hmay RR PW hR hRv hP8
      go_enter Tryz.func5, Tryz.ntmps5
      go_wp2_with fail
      refine AW.out.mono ?_
      rintro e V1 ⟨rfl, hk⟩
      have K1 := hid (none_trans K0.out hk)
      have X1 := hid (c8k X0.out hk)
      clear hk AW c0 c1 c2 X0 K0
      obtain ⟨c0, c1, c2⟩ := c8c X1.out
      go_wp2_with fail
      refine (MY.out _).mono ?_
      rintro e V2 ⟨rfl, hk⟩
      have K2 := hid (none_trans K1.out hk)
      have X2 := hid (c8k X1.out hk)
      clear hk MY c0 c1 c2 X1 K1
      obtain ⟨c0, c1, c2⟩ := c8c X2.out
      go_wp2_with fail
      go_ret
      exact ⟨rfl, K2.out⟩
    · by_cases k2 : (L : Int) < k
      · clear hT hmay RR PW hR hRv hP8
        go_enter Tryz.func5, Tryz.ntmps5
        go_wp2_with fail
        refine AW.out.mono ?_
        rintro e V1 ⟨rfl, hk⟩
        have K1 := hid (none_trans K0.out hk)
        have X1 := hid (c8k X0.out hk)
        clear hk AW c0 c1 c2 X0 K0
        obtain ⟨c0, c1, c2⟩ := c8c X1.out
        go_wp2_with fail
        refine (MY.out _).mono ?_
        rintro e V2 ⟨rfl, hk⟩
        have K2 := hid (none_trans K1.out hk)
        have X2 := hid (c8k X1.out hk)
        clear hk MY c0 c1 c2 X1 K1
        obtain ⟨c0, c1, c2⟩ := c8c X2.out
        go_wp2_with fail
        go_ret
        exact ⟨rfl, K2.out⟩
      · obtain ⟨kk, rfl⟩ := Int.eq_ofNat_of_zero_le (show 0 ≤ k by omega)
        have hkk : kk ≤ 64 := by omega
        obtain ⟨all, hall⟩ : ∃ all, all = kk * R := ⟨_, rfl⟩
        have hki : (kk : Int) * (R : Int) = (all : Int) := by rw [hall]; simp
        have hkw : IntKind.u64.wrap (kk : Int) = (kk : Int) := by rw [wrap_u64]; omega
        have hab : all ≤ 67108864 := by
          rw [hall]
          exact Nat.le_trans (Nat.mul_le_mul hkk hRb) (by decide)
        by_cases k3 : (65536 : Int) < (all : Int)
        · rw [← hR] at RR
          clear hT hmay PW hR hRv hP8 hall
          go_enter Tryz.func5, Tryz.ntmps5
          go_wp2_with fail
          refine AW.out.mono ?_
          rintro e V1 ⟨rfl, hk⟩
          have K1 := hid (none_trans K0.out hk)
          have X1 := hid (c8k X0.out hk)
          clear hk AW c0 c1 c2 X0 K0
          obtain ⟨c0, c1, c2⟩ := c8c X1.out
          go_wp2_with fail
          refine (MY.out _).mono ?_
          rintro e V2 ⟨rfl, hk⟩
          have K2 := hid (none_trans K1.out hk)
          have X2 := hid (c8k X1.out hk)
          clear hk MY c0 c1 c2 X1 K1
          obtain ⟨c0, c1, c2⟩ := c8c X2.out
          go_wp2_with fail
          refine (RR.out _).mono ?_
          rintro e V3 ⟨rfl, hk⟩
          have K3 := hid (none_trans K2.out hk)
          have X3 := hid (c8k X2.out hk)
          clear hk c0 c1 c2 X2 K2
          obtain ⟨c0, c1, c2⟩ := c8c X3.out
          go_wp2_with fail
          go_ret
          exact ⟨rfl, K3.out⟩
        · cases hP : isP r with
          | false =>
            rw [hP] at PW
            rw [← hR] at RR
            clear hT hmay hR hRv hP8 hall hP
            go_enter Tryz.func5, Tryz.ntmps5
            go_wp2_with fail
            refine AW.out.mono ?_
            rintro e V1 ⟨rfl, hk⟩
            have K1 := hid (none_trans K0.out hk)
            have X1 := hid (c8k X0.out hk)
            clear hk AW c0 c1 c2 X0 K0
            obtain ⟨c0, c1, c2⟩ := c8c X1.out
            go_wp2_with fail
            refine (MY.out _).mono ?_
            rintro e V2 ⟨rfl, hk⟩
            have K2 := hid (none_trans K1.out hk)
            have X2 := hid (c8k X1.out hk)
            clear hk MY c0 c1 c2 X1 K1
            obtain ⟨c0, c1, c2⟩ := c8c X2.out
            go_wp2_with fail
            refine (RR.out _).mono ?_
            rintro e V3 ⟨rfl, hk⟩
            have K3 := hid (none_trans K2.out hk)
            have X3 := hid (c8k X2.out hk)
            clear hk c0 c1 c2 X2 K2
            obtain ⟨c0, c1, c2⟩ := c8c X3.out
            go_wp2_with fail
            refine (PW.out _).mono ?_
            rintro e V9 ⟨rfl, hk⟩
            replace hk := hk.symm
            subst hk
            go_wp2_with fail
            go_ret
            exact ⟨rfl, K3.out⟩
          | true =>
            by_cases k4 : (r : Int) < 16
            · rw [hP] at PW
              rw [← hR] at RR
              clear hT hmay hR hRv hP8 hall hP
              go_enter Tryz.func5, Tryz.ntmps5
              go_wp2_with fail
              refine AW.out.mono ?_
              rintro e V1 ⟨rfl, hk⟩
              have K1 := hid (none_trans K0.out hk)
              have X1 := hid (c8k X0.out hk)
              clear hk AW c0 c1 c2 X0 K0
              obtain ⟨c0, c1, c2⟩ := c8c X1.out
              go_wp2_with fail
              refine (MY.out _).mono ?_
              rintro e V2 ⟨rfl, hk⟩
              have K2 := hid (none_trans K1.out hk)
              have X2 := hid (c8k X1.out hk)
              clear hk MY c0 c1 c2 X1 K1
              obtain ⟨c0, c1, c2⟩ := c8c X2.out
              go_wp2_with fail
              refine (RR.out _).mono ?_
              rintro e V3 ⟨rfl, hk⟩
              have K3 := hid (none_trans K2.out hk)
              have X3 := hid (c8k X2.out hk)
              clear hk c0 c1 c2 X2 K2
              obtain ⟨c0, c1, c2⟩ := c8c X3.out
              go_wp2_with fail
              refine (PW.out _).mono ?_
              rintro e V9 ⟨rfl, hk⟩
              replace hk := hk.symm
              subst hk
              go_wp2_with fail
              go_ret
              exact ⟨rfl, K3.out⟩
            · by_cases k5 : (R : Int) < (r : Int)
              · rw [hP] at PW
                rw [← hR] at RR
                clear hT hmay hR hRv hP8 hall hP
                go_enter Tryz.func5, Tryz.ntmps5
                go_wp2_with fail
                refine AW.out.mono ?_
                rintro e V1 ⟨rfl, hk⟩
                have K1 := hid (none_trans K0.out hk)
                have X1 := hid (c8k X0.out hk)
                clear hk AW c0 c1 c2 X0 K0
                obtain ⟨c0, c1, c2⟩ := c8c X1.out
                go_wp2_with fail
                refine (MY.out _).mono ?_
                rintro e V2 ⟨rfl, hk⟩
                have K2 := hid (none_trans K1.out hk)
                have X2 := hid (c8k X1.out hk)
                clear hk MY c0 c1 c2 X1 K1
                obtain ⟨c0, c1, c2⟩ := c8c X2.out
                go_wp2_with fail
                refine (RR.out _).mono ?_
                rintro e V3 ⟨rfl, hk⟩
                have K3 := hid (none_trans K2.out hk)
                have X3 := hid (c8k X2.out hk)
                clear hk c0 c1 c2 X2 K2
                obtain ⟨c0, c1, c2⟩ := c8c X3.out
                go_wp2_with fail
                refine (PW.out _).mono ?_
                rintro e V9 ⟨rfl, hk⟩
                replace hk := hk.symm
                subst hk
                go_wp2_with fail
                refine (RR.out _).mono ?_
                rintro e V4 ⟨rfl, hk⟩
                have K4 := hid (none_trans K3.out hk)
                have X4 := hid (c8k X3.out hk)
                clear hk c0 c1 c2 X3 K3
                obtain ⟨c0, c1, c2⟩ := c8c X4.out
                go_wp2_with fail
                go_ret
                exact ⟨rfl, K4.out⟩
              · clear K0 X0 AW MY RR PW c0 c1 c2
                have hm : ∃ m, (great = true ∧ m = 4096) ∨ (great = false ∧ m = bdM r) := by
                  cases great with
                  | true => exact ⟨4096, .inl ⟨rfl, rfl⟩⟩
                  | false => exact ⟨bdM r, .inr ⟨rfl, rfl⟩⟩
                obtain ⟨m, hm⟩ := hm
                exact tight_in base hb64 L o hL1 hL2 ho hmay kk r (by omega) (by omega) (by rw [← hR, ← hall]; omega) hP (by omega) (by rw [← hR]; omega) great m hm w hT
end Go.Proofs.YthjdjgokafkjaaaGreatDoor
