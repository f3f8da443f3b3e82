import Derived.Test.YtgjapopddblpoaaGreatDoorHqG
/- HeapEmpty: of any Script. -/
namespace Go.Proofs.YtgjapopddblpoaaGreatDoor
open Go.RowKit
open Go.Proofs.YtgjapopddblpoaaGreatDoor.M (RS Bounds mayB pow8)
set_option linter.unusedVariables false

set_option maxRecDepth 20000 in
set_option maxHeartbeats 8000000 in
theorem empty_no (base : Nat) (hb64 : base < 18446744073709551616) (lim ord : Int) (l1 : -9223372036854775808 ≤ lim) (l2 : lim ≤ 9223372036854775807) (o1 : -9223372036854775808 ≤ ord) (o2 : ord ≤ 9223372036854775807) (hmay : mayB base lim ord = false) (oa : Option Addr) (m oc : Nat) (w : World) (hT : Tab w) :
    Calls Tryz.prog 6 #[.agg #[.int .u64 (base : Int), .int .i64 lim, .int .i64 ord, .slice oa m oc]] w fun e w' => e = .returned (.bool true) ∧ Kept none' w w' := by
  have K0 := hid ((Kept.refl none' w).alloc (scO base lim ord oa m oc))
  have X0 := hid (heap_new w (scO base lim ord oa m oc))
  have AW := hid (awake8 _ (fun j hj => K0.out.cell (fun e => e) (hT j hj)))
  have MY := hid (fun W => refMay base hb64 lim ord l1 l2 o1 o2 W)
  rw [hmay] at MY
  have CF := hid (fun W => config8 base lim ord W)
  have NW := hid (fun W => New8_bad base hb64 lim ord l1 l2 o1 o2 hmay W)
  obtain ⟨c0, c1, c2, c3⟩ := scc X0.out
  clear hT hmay
  go_enter Tryz.func6, Tryz.ntmps6
  go_wp2_with fail
  refine AW.out.mono ?_
  rintro e V1 ⟨rfl, hk⟩
  have K1 := hid (none_trans K0.out hk)
  have X1 := hid (sck X0.out hk)
  clear hk AW c0 c1 c2 c3 X0 K0
  obtain ⟨c0, c1, c2, c3⟩ := scc X1.out
  go_wp2_with fail
  refine (CF.out _).mono ?_
  rintro e V2 ⟨rfl, hk⟩
  have K2 := hid (none_trans K1.out hk)
  have X2 := hid (sck X1.out hk)
  clear hk CF c0 c1 c2 c3 X1 K1
  obtain ⟨c0, c1, c2, c3⟩ := scc X2.out
  go_wp2_with fail
  refine (NW.out _).mono ?_
  rintro e V3 ⟨rfl, hk⟩
  have K3 := hid (none_trans K2.out hk)
  have X3 := hid (sck X2.out hk)
  clear hk NW c0 c1 c2 c3 X2 K2
  obtain ⟨c0, c1, c2, c3⟩ := scc X3.out
  go_wp2_with fail
  refine (MY.out _).mono ?_
  rintro e V4 ⟨rfl, hk⟩
  have K4 := hid (none_trans K3.out hk)
  have X4 := hid (sck X3.out hk)
  clear hk MY c0 c1 c2 c3 X3 K3
  obtain ⟨c0, c1, c2, c3⟩ := scc X4.out
  go_wp2_with fail
  go_ret
  exact ⟨rfl, K4.out⟩
theorem empty8 (base : Nat) (hb64 : base < 18446744073709551616) (lim ord : Int) (l1 : -9223372036854775808 ≤ lim) (l2 : lim ≤ 9223372036854775807) (o1 : -9223372036854775808 ≤ ord) (o2 : ord ≤ 9223372036854775807) (sv : Value) (m : Nat) (w : World) (hT : Tab w) (hC : Calls8 w sv m) :
    Calls Tryz.prog 6 #[.agg #[.int .u64 (base : Int), .int .i64 lim, .int .i64 ord, sv]] w fun e w' => e = .returned (.bool true) ∧ Kept none' w w' := by
  obtain ⟨_, oa, oc, rfl, _⟩ := id hC
  cases hmay : mayB base lim ord with
  | false => exact empty_no base hb64 lim ord l1 l2 o1 o2 hmay oa m oc w hT
  | true =>
    have hB : Bounds lim ord := by
      unfold mayB at hmay
      rw [Bool.and_eq_true, Bool.and_eq_true] at hmay
      exact of_decide_eq_true hmay.1.1
    obtain ⟨b1, b2, b3, b4⟩ := hB
    obtain ⟨o, rfl⟩ := Int.eq_ofNat_of_zero_le b1
    obtain ⟨L, rfl⟩ := Int.eq_ofNat_of_zero_le (show 0 ≤ lim by omega)
    exact empty_in base hb64 L o (by omega) (by omega) (by omega) hmay oa m oc w hC hT
end Go.Proofs.YtgjapopddblpoaaGreatDoor
