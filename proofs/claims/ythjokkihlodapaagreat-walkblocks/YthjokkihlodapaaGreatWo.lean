import Derived.Test.YthjokkihlodapaaGreatWf
import Derived.Test.YthjokkihlodapaaGreatWh
import Derived.Test.YthjokkihlodapaaGreatWi
import Derived.Test.YthjokkihlodapaaGreatWl
import Derived.Test.YthjokkihlodapaaGreatWm
import Derived.Test.YthjokkihlodapaaGreatWn
set_option maxRecDepth 1000000
set_option maxHeartbeats 80000000
/- croftref9: one, Check. -/
namespace Go.Proofs.YthjokkihlodapaaGreat
open Go.RowKit
set_option linter.unusedVariables false
set_option maxHeartbeats 8000000
set_option maxRecDepth 6000
theorem one9_2 (I : Img) (V : ImV) (pl : Int) (w : World) (hI : ImD w I V) (hcl : ∀ W, ImD W I V → Calls Tryz.prog 27 #[imA I V] W fun e w' => e = .returned (.int .i64 pl) ∧ Kept none' W w') :
    Calls Tryz.prog 16 #[imA I V, .int .i64 2] w fun e w' => e = .returned (.int .i64 pl) ∧ Kept none' w w' := by
  obtain ⟨⟨ma, mc, hm⟩, ⟨pa, pc, hp⟩, ⟨ra, rc, hr⟩, ⟨ha, hc, hh⟩, ⟨ta, tc, ht⟩, -⟩ := hI.sl
  obtain ⟨vm, vp, vr, vh, vt⟩ := V
  dsimp only at hm hp hr hh ht
  subst hm hp hr hh ht
  have IM0 := hid (show ImAt (w.alloc (imO I _)) w.heap.size I _ from ⟨heap_new _ _, hI.keep ((Kept.refl _ w).alloc _)⟩)
  have K0 := hid (show Kept none' w (w.alloc (imO I _)) from (Kept.refl _ w).alloc (imO I ⟨.slice ma I.nm mc, .slice pa I.np pc, .slice ra I.no rc, .slice ha I.hd.length hc, .slice ta I.pt.length tc⟩))
  obtain ⟨c0, c1, c2, c3, c4, c5, c6, c7, c8⟩ := IM0.out.cells
  have CC := hid hcl
  clear hI hcl
  go_enter Tryz.func16, Tryz.ntmps16
  go_wp2_with fail
  refine (CC.out _ IM0.out.d).mono ?_
  rintro e w1 ⟨rfl, k1⟩
  have K1 := hid (none_trans K0.out k1)
  clear k1 c0 c1 c2 c3 c4 c5 c6 c7 c8
  go_wp2_with fail
  go_ret
  exact ⟨rfl, K1.out⟩
theorem one9_3 (I : Img) (V : ImV) (pl : Int) (w : World) (hI : ImD w I V) (hcl : ∀ W, ImD W I V → Calls Tryz.prog 28 #[imA I V] W fun e w' => e = .returned (.int .i64 pl) ∧ Kept none' W w') :
    Calls Tryz.prog 16 #[imA I V, .int .i64 3] w fun e w' => e = .returned (.int .i64 pl) ∧ Kept none' w w' := by
  obtain ⟨⟨ma, mc, hm⟩, ⟨pa, pc, hp⟩, ⟨ra, rc, hr⟩, ⟨ha, hc, hh⟩, ⟨ta, tc, ht⟩, -⟩ := hI.sl
  obtain ⟨vm, vp, vr, vh, vt⟩ := V
  dsimp only at hm hp hr hh ht
  subst hm hp hr hh ht
  have IM0 := hid (show ImAt (w.alloc (imO I _)) w.heap.size I _ from ⟨heap_new _ _, hI.keep ((Kept.refl _ w).alloc _)⟩)
  have K0 := hid (show Kept none' w (w.alloc (imO I _)) from (Kept.refl _ w).alloc (imO I ⟨.slice ma I.nm mc, .slice pa I.np pc, .slice ra I.no rc, .slice ha I.hd.length hc, .slice ta I.pt.length tc⟩))
  obtain ⟨c0, c1, c2, c3, c4, c5, c6, c7, c8⟩ := IM0.out.cells
  have CC := hid hcl
  clear hI hcl
  go_enter Tryz.func16, Tryz.ntmps16
  go_wp2_with fail
  refine (CC.out _ IM0.out.d).mono ?_
  rintro e w1 ⟨rfl, k1⟩
  have K1 := hid (none_trans K0.out k1)
  clear k1 c0 c1 c2 c3 c4 c5 c6 c7 c8
  go_wp2_with fail
  go_ret
  exact ⟨rfl, K1.out⟩
theorem one9_4 (I : Img) (V : ImV) (pl : Int) (w : World) (hI : ImD w I V) (hcl : ∀ W, ImD W I V → Calls Tryz.prog 29 #[imA I V] W fun e w' => e = .returned (.int .i64 pl) ∧ Kept none' W w') :
    Calls Tryz.prog 16 #[imA I V, .int .i64 4] w fun e w' => e = .returned (.int .i64 pl) ∧ Kept none' w w' := by
  obtain ⟨⟨ma, mc, hm⟩, ⟨pa, pc, hp⟩, ⟨ra, rc, hr⟩, ⟨ha, hc, hh⟩, ⟨ta, tc, ht⟩, -⟩ := hI.sl
  obtain ⟨vm, vp, vr, vh, vt⟩ := V
  dsimp only at hm hp hr hh ht
  subst hm hp hr hh ht
  have IM0 := hid (show ImAt (w.alloc (imO I _)) w.heap.size I _ from ⟨heap_new _ _, hI.keep ((Kept.refl _ w).alloc _)⟩)
  have K0 := hid (show Kept none' w (w.alloc (imO I _)) from (Kept.refl _ w).alloc (imO I ⟨.slice ma I.nm mc, .slice pa I.np pc, .slice ra I.no rc, .slice ha I.hd.length hc, .slice ta I.pt.length tc⟩))
  obtain ⟨c0, c1, c2, c3, c4, c5, c6, c7, c8⟩ := IM0.out.cells
  have CC := hid hcl
  clear hI hcl
  go_enter Tryz.func16, Tryz.ntmps16
  go_wp2_with fail
  refine (CC.out _ IM0.out.d).mono ?_
  rintro e w1 ⟨rfl, k1⟩
  have K1 := hid (none_trans K0.out k1)
  clear k1 c0 c1 c2 c3 c4 c5 c6 c7 c8
  go_wp2_with fail
  go_ret
  exact ⟨rfl, K1.out⟩
theorem one9_5 (I : Img) (V : ImV) (pl : Int) (w : World) (hI : ImD w I V) (hcl : ∀ W, ImD W I V → Calls Tryz.prog 30 #[imA I V] W fun e w' => e = .returned (.int .i64 pl) ∧ Kept none' W w') :
    Calls Tryz.prog 16 #[imA I V, .int .i64 5] w fun e w' => e = .returned (.int .i64 pl) ∧ Kept none' w w' := by
  obtain ⟨⟨ma, mc, hm⟩, ⟨pa, pc, hp⟩, ⟨ra, rc, hr⟩, ⟨ha, hc, hh⟩, ⟨ta, tc, ht⟩, -⟩ := hI.sl
  obtain ⟨vm, vp, vr, vh, vt⟩ := V
  dsimp only at hm hp hr hh ht
  subst hm hp hr hh ht
  have IM0 := hid (show ImAt (w.alloc (imO I _)) w.heap.size I _ from ⟨heap_new _ _, hI.keep ((Kept.refl _ w).alloc _)⟩)
  have K0 := hid (show Kept none' w (w.alloc (imO I _)) from (Kept.refl _ w).alloc (imO I ⟨.slice ma I.nm mc, .slice pa I.np pc, .slice ra I.no rc, .slice ha I.hd.length hc, .slice ta I.pt.length tc⟩))
  obtain ⟨c0, c1, c2, c3, c4, c5, c6, c7, c8⟩ := IM0.out.cells
  have CC := hid hcl
  clear hI hcl
  go_enter Tryz.func16, Tryz.ntmps16
  go_wp2_with fail
  refine (CC.out _ IM0.out.d).mono ?_
  rintro e w1 ⟨rfl, k1⟩
  have K1 := hid (none_trans K0.out k1)
  clear k1 c0 c1 c2 c3 c4 c5 c6 c7 c8
  go_wp2_with fail
  go_ret
  exact ⟨rfl, K1.out⟩
theorem one9_6 (I : Img) (V : ImV) (pl : Int) (w : World) (hI : ImD w I V) (hcl : ∀ W, ImD W I V → Calls Tryz.prog 31 #[imA I V] W fun e w' => e = .returned (.int .i64 pl) ∧ Kept none' W w') :
    Calls Tryz.prog 16 #[imA I V, .int .i64 6] w fun e w' => e = .returned (.int .i64 pl) ∧ Kept none' w w' := by
  obtain ⟨⟨ma, mc, hm⟩, ⟨pa, pc, hp⟩, ⟨ra, rc, hr⟩, ⟨ha, hc, hh⟩, ⟨ta, tc, ht⟩, -⟩ := hI.sl
  obtain ⟨vm, vp, vr, vh, vt⟩ := V
  dsimp only at hm hp hr hh ht
  subst hm hp hr hh ht
  have IM0 := hid (show ImAt (w.alloc (imO I _)) w.heap.size I _ from ⟨heap_new _ _, hI.keep ((Kept.refl _ w).alloc _)⟩)
  have K0 := hid (show Kept none' w (w.alloc (imO I _)) from (Kept.refl _ w).alloc (imO I ⟨.slice ma I.nm mc, .slice pa I.np pc, .slice ra I.no rc, .slice ha I.hd.length hc, .slice ta I.pt.length tc⟩))
  obtain ⟨c0, c1, c2, c3, c4, c5, c6, c7, c8⟩ := IM0.out.cells
  have CC := hid hcl
  clear hI hcl
  go_enter Tryz.func16, Tryz.ntmps16
  go_wp2_with fail
  refine (CC.out _ IM0.out.d).mono ?_
  rintro e w1 ⟨rfl, k1⟩
  have K1 := hid (none_trans K0.out k1)
  clear k1 c0 c1 c2 c3 c4 c5 c6 c7 c8
  go_wp2_with fail
  go_ret
  exact ⟨rfl, K1.out⟩
theorem one9_7 (I : Img) (V : ImV) (pl : Int) (w : World) (hI : ImD w I V) (hcl : ∀ W, ImD W I V → Calls Tryz.prog 32 #[imA I V] W fun e w' => e = .returned (.int .i64 pl) ∧ Kept none' W w') :
    Calls Tryz.prog 16 #[imA I V, .int .i64 7] w fun e w' => e = .returned (.int .i64 pl) ∧ Kept none' w w' := by
  obtain ⟨⟨ma, mc, hm⟩, ⟨pa, pc, hp⟩, ⟨ra, rc, hr⟩, ⟨ha, hc, hh⟩, ⟨ta, tc, ht⟩, -⟩ := hI.sl
  obtain ⟨vm, vp, vr, vh, vt⟩ := V
  dsimp only at hm hp hr hh ht
  subst hm hp hr hh ht
  have IM0 := hid (show ImAt (w.alloc (imO I _)) w.heap.size I _ from ⟨heap_new _ _, hI.keep ((Kept.refl _ w).alloc _)⟩)
  have K0 := hid (show Kept none' w (w.alloc (imO I _)) from (Kept.refl _ w).alloc (imO I ⟨.slice ma I.nm mc, .slice pa I.np pc, .slice ra I.no rc, .slice ha I.hd.length hc, .slice ta I.pt.length tc⟩))
  obtain ⟨c0, c1, c2, c3, c4, c5, c6, c7, c8⟩ := IM0.out.cells
  have CC := hid hcl
  clear hI hcl
  go_enter Tryz.func16, Tryz.ntmps16
  go_wp2_with fail
  refine (CC.out _ IM0.out.d).mono ?_
  rintro e w1 ⟨rfl, k1⟩
  have K1 := hid (none_trans K0.out k1)
  clear k1 c0 c1 c2 c3 c4 c5 c6 c7 c8
  go_wp2_with fail
  go_ret
  exact ⟨rfl, K1.out⟩
theorem one9_8 (I : Img) (V : ImV) (pl : Int) (w : World) (hI : ImD w I V) (hcl : ∀ W, ImD W I V → Calls Tryz.prog 33 #[imA I V] W fun e w' => e = .returned (.int .i64 pl) ∧ Kept none' W w') :
    Calls Tryz.prog 16 #[imA I V, .int .i64 8] w fun e w' => e = .returned (.int .i64 pl) ∧ Kept none' w w' := by
  obtain ⟨⟨ma, mc, hm⟩, ⟨pa, pc, hp⟩, ⟨ra, rc, hr⟩, ⟨ha, hc, hh⟩, ⟨ta, tc, ht⟩, -⟩ := hI.sl
  obtain ⟨vm, vp, vr, vh, vt⟩ := V
  dsimp only at hm hp hr hh ht
  subst hm hp hr hh ht
  have IM0 := hid (show ImAt (w.alloc (imO I _)) w.heap.size I _ from ⟨heap_new _ _, hI.keep ((Kept.refl _ w).alloc _)⟩)
  have K0 := hid (show Kept none' w (w.alloc (imO I _)) from (Kept.refl _ w).alloc (imO I ⟨.slice ma I.nm mc, .slice pa I.np pc, .slice ra I.no rc, .slice ha I.hd.length hc, .slice ta I.pt.length tc⟩))
  obtain ⟨c0, c1, c2, c3, c4, c5, c6, c7, c8⟩ := IM0.out.cells
  have CC := hid hcl
  clear hI hcl
  go_enter Tryz.func16, Tryz.ntmps16
  go_wp2_with fail
  refine (CC.out _ IM0.out.d).mono ?_
  rintro e w1 ⟨rfl, k1⟩
  have K1 := hid (none_trans K0.out k1)
  clear k1 c0 c1 c2 c3 c4 c5 c6 c7 c8
  go_wp2_with fail
  go_ret
  exact ⟨rfl, K1.out⟩
theorem one9_9 (I : Img) (V : ImV) (pl : Int) (w : World) (hI : ImD w I V) (hcl : ∀ W, ImD W I V → Calls Tryz.prog 34 #[imA I V] W fun e w' => e = .returned (.int .i64 pl) ∧ Kept none' W w') :
    Calls Tryz.prog 16 #[imA I V, .int .i64 9] w fun e w' => e = .returned (.int .i64 pl) ∧ Kept none' w w' := by
  obtain ⟨⟨ma, mc, hm⟩, ⟨pa, pc, hp⟩, ⟨ra, rc, hr⟩, ⟨ha, hc, hh⟩, ⟨ta, tc, ht⟩, -⟩ := hI.sl
  obtain ⟨vm, vp, vr, vh, vt⟩ := V
  dsimp only at hm hp hr hh ht
  subst hm hp hr hh ht
  have IM0 := hid (show ImAt (w.alloc (imO I _)) w.heap.size I _ from ⟨heap_new _ _, hI.keep ((Kept.refl _ w).alloc _)⟩)
  have K0 := hid (show Kept none' w (w.alloc (imO I _)) from (Kept.refl _ w).alloc (imO I ⟨.slice ma I.nm mc, .slice pa I.np pc, .slice ra I.no rc, .slice ha I.hd.length hc, .slice ta I.pt.length tc⟩))
  obtain ⟨c0, c1, c2, c3, c4, c5, c6, c7, c8⟩ := IM0.out.cells
  have CC := hid hcl
  clear hI hcl
  go_enter Tryz.func16, Tryz.ntmps16
  go_wp2_with fail
  refine (CC.out _ IM0.out.d).mono ?_
  rintro e w1 ⟨rfl, k1⟩
  have K1 := hid (none_trans K0.out k1)
  clear k1 c0 c1 c2 c3 c4 c5 c6 c7 c8
  go_wp2_with fail
  go_ret
  exact ⟨rfl, K1.out⟩
theorem one9_10 (I : Img) (V : ImV) (pl : Int) (w : World) (hI : ImD w I V) (hcl : ∀ W, ImD W I V → Calls Tryz.prog 35 #[imA I V] W fun e w' => e = .returned (.int .i64 pl) ∧ Kept none' W w') :
    Calls Tryz.prog 16 #[imA I V, .int .i64 10] w fun e w' => e = .returned (.int .i64 pl) ∧ Kept none' w w' := by
  obtain ⟨⟨ma, mc, hm⟩, ⟨pa, pc, hp⟩, ⟨ra, rc, hr⟩, ⟨ha, hc, hh⟩, ⟨ta, tc, ht⟩, -⟩ := hI.sl
  obtain ⟨vm, vp, vr, vh, vt⟩ := V
  dsimp only at hm hp hr hh ht
  subst hm hp hr hh ht
  have IM0 := hid (show ImAt (w.alloc (imO I _)) w.heap.size I _ from ⟨heap_new _ _, hI.keep ((Kept.refl _ w).alloc _)⟩)
  have K0 := hid (show Kept none' w (w.alloc (imO I _)) from (Kept.refl _ w).alloc (imO I ⟨.slice ma I.nm mc, .slice pa I.np pc, .slice ra I.no rc, .slice ha I.hd.length hc, .slice ta I.pt.length tc⟩))
  obtain ⟨c0, c1, c2, c3, c4, c5, c6, c7, c8⟩ := IM0.out.cells
  have CC := hid hcl
  clear hI hcl
  go_enter Tryz.func16, Tryz.ntmps16
  go_wp2_with fail
  refine (CC.out _ IM0.out.d).mono ?_
  rintro e w1 ⟨rfl, k1⟩
  have K1 := hid (none_trans K0.out k1)
  clear k1 c0 c1 c2 c3 c4 c5 c6 c7 c8
  go_wp2_with fail
  go_ret
  exact ⟨rfl, K1.out⟩
theorem one9_11 (I : Img) (V : ImV) (pl : Int) (w : World) (hI : ImD w I V) (hcl : ∀ W, ImD W I V → Calls Tryz.prog 36 #[imA I V] W fun e w' => e = .returned (.int .i64 pl) ∧ Kept none' W w') :
    Calls Tryz.prog 16 #[imA I V, .int .i64 11] w fun e w' => e = .returned (.int .i64 pl) ∧ Kept none' w w' := by
  obtain ⟨⟨ma, mc, hm⟩, ⟨pa, pc, hp⟩, ⟨ra, rc, hr⟩, ⟨ha, hc, hh⟩, ⟨ta, tc, ht⟩, -⟩ := hI.sl
  obtain ⟨vm, vp, vr, vh, vt⟩ := V
  dsimp only at hm hp hr hh ht
  subst hm hp hr hh ht
  have IM0 := hid (show ImAt (w.alloc (imO I _)) w.heap.size I _ from ⟨heap_new _ _, hI.keep ((Kept.refl _ w).alloc _)⟩)
  have K0 := hid (show Kept none' w (w.alloc (imO I _)) from (Kept.refl _ w).alloc (imO I ⟨.slice ma I.nm mc, .slice pa I.np pc, .slice ra I.no rc, .slice ha I.hd.length hc, .slice ta I.pt.length tc⟩))
  obtain ⟨c0, c1, c2, c3, c4, c5, c6, c7, c8⟩ := IM0.out.cells
  have CC := hid hcl
  clear hI hcl
  go_enter Tryz.func16, Tryz.ntmps16
  go_wp2_with fail
  refine (CC.out _ IM0.out.d).mono ?_
  rintro e w1 ⟨rfl, k1⟩
  have K1 := hid (none_trans K0.out k1)
  clear k1 c0 c1 c2 c3 c4 c5 c6 c7 c8
  go_wp2_with fail
  go_ret
  exact ⟨rfl, K1.out⟩
theorem one9 (I : Img) (V : ImV) (j : Nat) (hj1 : 1 ≤ j) (hj : j < 11) (h : ∀ a, a < j → rl I a = none) (w : World) (hI : ImD w I V) :
    Calls Tryz.prog 16 #[imA I V, .int .i64 ((j + 1 : Nat) : Int)] w fun e w' => e = .returned (.int .i64 (plI (rl I j))) ∧ Kept none' w w' := by
  match j, hj1, hj with
  | 1, _, _ =>
    obtain ⟨k, L, hk, hL, k8, L64, -⟩ := may_facts (may_of (h 0 (by decide)))
    have e : rl I 1 = r2 I k := by show r2 I I.ord.toNat = _; rw [hk, Int.toNat_natCast]
    rw [e]
    exact one9_2 I V _ w hI (fun W hW => lengths9 I V k L k8 L64 hk hL W hW)
  | 2, _, _ =>
    obtain ⟨k, L, hk, hL, k8, L64, hLk, -⟩ := may_facts (may_of (h 0 (by decide)))
    have hnp : I.np ≤ 1024 := by
      have hr : r2 I k = none := by have := h 1 (by decide); rw [show rl I 1 = r2 I I.ord.toNat from rfl, hk, Int.toNat_natCast] at this; exact this
      unfold r2 at hr
      by_cases c1 : wiB I.reg 0 I.lim = false
      · rw [if_pos c1] at hr; cases hr
      rw [if_neg c1] at hr
      by_cases c2 : I.nm ≠ I.reg.toNat * 2 ^ k * 4096
      · rw [if_pos c2] at hr; cases hr
      rw [if_neg c2] at hr
      by_cases c3 : I.np ≠ I.reg.toNat * 2 ^ k
      · rw [if_pos c3] at hr; cases hr
      have c1' : 0 ≤ I.reg ∧ I.reg ≤ I.lim := by
        have : wiB I.reg 0 I.lim = true := by simpa using c1
        unfold wiB at this
        exact of_decide_eq_true this
      have hnp : I.np = I.reg.toNat * 2 ^ k := Decidable.not_not.1 c3
      have hle : I.np ≤ L * 2 ^ k := by rw [hnp]; exact Nat.mul_le_mul_right _ (by omega)
      omega
    exact one9_3 I V _ w hI (fun W hW => ranges9 I V hnp W hW)
  | 3, _, _ =>
    obtain ⟨r, hS⟩ := sn9_of (h 0 (by decide)) (h 1 (by decide)) (h 2 (by decide))
    exact one9_4 I V _ w hI (fun W hW => runs9 I V I.ord.toNat r hS W hW)
  | 4, _, _ =>
    obtain ⟨r, hS⟩ := sn9_of (h 0 (by decide)) (h 1 (by decide)) (h 2 (by decide))
    exact one9_5 I V _ w hI (fun W hW => slabs9 I V I.ord.toNat r hS W hW)
  | 5, _, _ =>
    obtain ⟨r, hS⟩ := sn9_of (h 0 (by decide)) (h 1 (by decide)) (h 2 (by decide))
    exact one9_6 I V _ w hI (fun W hW => halves9 I V I.ord.toNat r hS W hW)
  | 6, _, _ =>
    obtain ⟨r, hS⟩ := sn9_of (h 0 (by decide)) (h 1 (by decide)) (h 2 (by decide))
    exact one9_7 I V _ w hI (fun W hW => paired9 I V I.ord.toNat r hS W hW)
  | 7, _, _ =>
    obtain ⟨r, hS⟩ := sn9_of (h 0 (by decide)) (h 1 (by decide)) (h 2 (by decide))
    exact one9_8 I V _ w hI (fun W hW => free9 I V I.ord.toNat r hS W hW)
  | 8, _, _ =>
    obtain ⟨r, hS⟩ := sn9_of (h 0 (by decide)) (h 1 (by decide)) (h 2 (by decide))
    exact one9_9 I V _ w hI (fun W hW => cells9 I V I.ord.toNat r hS (h 4 (by decide)) W hW)
  | 9, _, _ =>
    obtain ⟨r, hS⟩ := sn9_of (h 0 (by decide)) (h 1 (by decide)) (h 2 (by decide))
    exact one9_10 I V _ w hI (fun W hW => partial9 I V I.ord.toNat r hS (h 4 (by decide)) W hW)
  | 10, _, _ =>
    obtain ⟨r, hS⟩ := sn9_of (h 0 (by decide)) (h 1 (by decide)) (h 2 (by decide))
    exact one9_11 I V _ w hI (fun W hW => full9 I V I.ord.toNat r hS W hW)
/-- croftref9.Check is walk.Check. -/
theorem Check9 (I : Img) (V : ImV) (w : World) (hI : ImD w I V) :
    Calls Tryz.prog 6 #[imA I V] w fun e w' => e = .returned (.tuple #[.int .i64 ((chk I).1 : Int), .int .i64 ((chk I).2 : Int)]) ∧ Kept none' w w' := by
  have hb64 := hI.b64
  obtain ⟨hl1, hl2⟩ := hI.lim
  obtain ⟨ho1, ho2⟩ := hI.ord
  obtain ⟨⟨ma, mc, hm⟩, ⟨pa, pc, hp⟩, ⟨ra, rc, hr⟩, ⟨ha, hc, hh⟩, ⟨ta, tc, ht⟩, -⟩ := hI.sl
  obtain ⟨vm, vp, vr, vh, vt⟩ := V
  dsimp only at hm hp hr hh ht
  subst hm hp hr hh ht
  have IM0 := hid (show ImAt (w.alloc (imO I _)) w.heap.size I _ from ⟨heap_new _ _, hI.keep ((Kept.refl _ w).alloc _)⟩)
  have K0 := hid (show Kept none' w (w.alloc (imO I _)) from (Kept.refl _ w).alloc (imO I ⟨.slice ma I.nm mc, .slice pa I.np pc, .slice ra I.no rc, .slice ha I.hd.length hc, .slice ta I.pt.length tc⟩))
  obtain ⟨c0, c1, c2, c3, c4, c5, c6, c7, c8⟩ := IM0.out.cells
  have MAY := hid (fun W => (M.May_any I.base hb64 I.lim I.ord hl1 hl2 ho1 ho2 W).mono (fun e w' (h : e = .returned (.bool (M.mayB I.base I.lim I.ord)) ∧ M.Kept M.none' W w') => (⟨h.1, toK9 h.2⟩ : e = .returned (.bool (M.mayB I.base I.lim I.ord)) ∧ Kept none' W w')))
  have ONE := hid (fun j hj1 hj h W hW => one9 I ⟨.slice ma I.nm mc, .slice pa I.np pc, .slice ra I.no rc, .slice ha I.hd.length hc, .slice ta I.pt.length tc⟩ j hj1 hj h W hW)
  obtain ⟨r1, hr1⟩ : ∃ r, r = (chk I).1 := ⟨_, rfl⟩
  obtain ⟨r2', hr2⟩ : ∃ r, r = (chk I).2 := ⟨_, rfl⟩
  rw [← hr1, ← hr2]
  have FB := hid (show ∀ j p, j < 11 → (∀ a, a < j → rl I a = none) → rl I j = some p → j + 1 = r1 ∧ p = r2' from fun j p h1 h2 h3 => by rw [hr1, hr2, chk_bad h1 h2 h3]; exact ⟨rfl, rfl⟩)
  have FG := hid (show (∀ a, a < 11 → rl I a = none) → 0 = r1 ∧ 0 = r2' from fun h => by rw [hr1, hr2, chk_ok h]; exact ⟨rfl, rfl⟩)
  have R0 := hid (show rl I 0 = if M.mayB I.base I.lim I.ord = true then none else some 0 from rfl)
  obtain ⟨mb, hmb⟩ : ∃ b, b = M.mayB I.base I.lim I.ord := ⟨_, rfl⟩
  rw [← hmb] at MAY R0
  clear hI hr1 hr2 hmb hb64 hl1 hl2 ho1 ho2
  go_enter Tryz.func6, Tryz.ntmps6
  go_wp2_with fail
  refine (MAY.out _).mono ?_
  rintro e w1 ⟨rfl, k1⟩
  have IM1 := hid (IM0.out.keep k1)
  have K1 := hid (none_trans K0.out k1)
  clear k1 c0 c1 c2 c3 c4 c5 c6 c7 c8
  generalize w.heap.size = ib at *
  generalize w.alloc (imO I ⟨.slice ma I.nm mc, .slice pa I.np pc, .slice ra I.no rc, .slice ha I.hd.length hc, .slice ta I.pt.length tc⟩) = W0 at *
  cases mb with
  | false =>
    obtain ⟨e1, e2⟩ := FB.out 0 0 (by decide) (fun a ha => by omega) (by rw [R0.out]; rfl)
    subst e1 e2
    go_wp2_with fail
    go_ret2
    exact ⟨rfl, K1.out⟩
  | true =>
    have N0 := hid (show rl I 0 = none by rw [R0.out]; rfl)
    go_wp2_with fail
    go_loopw [4] (fun iv W => ∃ r : Nat, 2 ≤ r ∧ r ≤ 12 ∧ iv = .int .i64 (r : Int) ∧ Hid (Kept none' w1 W ∧ ∀ a, a + 1 < r → rl I a = none)) (fun iv _ => 12 - (intOf iv).toNat)
    case atStart => exact ⟨2, by decide, by decide, rfl, hid ⟨Kept.refl _ _, fun a ha => by rw [show a = 0 by omega]; exact N0.out⟩⟩
    case round =>
      obtain ⟨r, hr2, hr12, rfl, hG⟩ := hrel
      have KG := hid hG.out.1
      have PREV := hid hG.out.2
      have IMa := hid (IM1.out.keep KG.out)
      obtain ⟨c0, c1, c2, c3, c4, c5, c6, c7, c8⟩ := IMa.out.cells
      clear hG
      by_cases hlt : r ≤ 11
      · have hri : (r : Int) ≤ 11 := by omega
        obtain ⟨j, rfl⟩ : ∃ j, r = j + 1 := ⟨r - 1, by omega⟩
        have ONEj := hid (fun W hW => ONE.out j (by omega) (by omega) (fun a ha => PREV.out a (by omega)) W hW)
        obtain ⟨r, hr⟩ : ∃ r, r = j + 1 := ⟨_, rfl⟩
        rw [← hr] at ONEj hri hr2
        rw [← hr]
        have HRE := hid (show r = j + 1 ∧ r ≤ 11 from ⟨hr, by omega⟩)
        have HW := hid (show wrap64 ((r : Int) + 1) = ((r + 1 : Nat) : Int) by rw [wrap64]; omega)
        obtain ⟨x, hx⟩ : ∃ x, x = rl I j := ⟨_, rfl⟩
        rw [← hx] at ONEj
        have HX := hid hx.symm
        clear hr hx hlt hr12
        go_wp2_with fail
        refine (ONEj.out _ IMa.out.d).mono ?_
        rintro e w2 ⟨rfl, k2⟩
        have K2 := hid (none_trans KG.out k2)
        clear k2 c0 c1 c2 c3 c4 c5 c6 c7 c8
        cases x with
        | none =>
          have P2 := hid (show ∀ a, a + 1 < r + 1 → rl I a = none from fun a ha => by
            by_cases e : a = j
            · rw [e]; exact HX.out
            · exact PREV.out a (by have := HRE.out; omega))
          have q1 : ¬ (0 : Int) ≤ plI none := by decide
          have q2 : plI none = -1 := rfl
          rw [q2]
          clear q1 q2
          go_wp2_with fail
          exact ⟨⟨r + 1, by omega, by have := HRE.out; omega, by first | go_num | rw [HW.out], hid ⟨K2.out, P2.out⟩⟩, by have := HRE.out; first | (rw [HW.out]; simp only [intOf, Int.toNat_natCast]; omega) | (simp [intOf]; omega)⟩
        | some p =>
          rw [show plI (some p) = (p : Int) from rfl]
          have q1 : (0 : Int) ≤ (p : Int) := by omega
          obtain ⟨e1, e2⟩ := FB.out j p (by have := HRE.out; omega) (fun a ha => PREV.out a (by have := HRE.out; omega)) HX.out
          rw [← HRE.out.1] at e1
          subst e1 e2
          go_wp2_with fail
          go_ret2
          exact ⟨rfl, none_trans K1.out K2.out⟩
      · have hri : ¬ (r : Int) ≤ 11 := by omega
        obtain ⟨e1, e2⟩ := FG.out (fun a ha => PREV.out a (by omega))
        subst e1 e2
        go_wp2_with fail
        go_ret2
        exact ⟨rfl, none_trans K1.out KG.out⟩
end Go.Proofs.YthjokkihlodapaaGreat
