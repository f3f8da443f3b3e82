import Derived.Test.YthjokkihlodapaaGreatWo
import Derived.Test.YthjokkihlodapaaGreatWb
import Derived.Test.YthjokkihlodapaaGreatRows
import Derived.ShutString
import Derived.ChangeOld
import Derived.Below
set_option maxRecDepth 1000000
set_option maxHeartbeats 80000000
/- WalkChecks, the walk. -/
namespace Go.Proofs.YthjokkihlodapaaGreat
open Go.RowKit
set_option linter.unusedVariables false
set_option maxHeartbeats 8000000
set_option maxRecDepth 6000
theorem walkChecks_any (I : Img) (V : ImV) (w : World) (hI : ImD w I V) :
    Calls Tryz.prog 3 #[imA I V] w fun e w' => e = .returned (.bool true) ∧ Kept none' w w' := by
  obtain ⟨⟨ma, mc, hm⟩, ⟨pa, pc, hp⟩, ⟨ra, rc, hr⟩, ⟨ha, hc, hh⟩, ⟨ta, tc, ht⟩, -⟩ := hI.sl
  obtain ⟨vm, vp, vr, vh, vt⟩ := V
  dsimp only at hm hp hr hh ht
  subst hm hp hr hh ht
  have IM0 := hid (show ImAt (w.alloc (imO I _)) w.heap.size I _ from ⟨heap_new _ _, hI.keep ((Kept.refl _ w).alloc _)⟩)
  have K0 := hid (show Kept none' w (w.alloc (imO I _)) from (Kept.refl _ w).alloc (imO I ⟨.slice ma I.nm mc, .slice pa I.np pc, .slice ra I.no rc, .slice ha I.hd.length hc, .slice ta I.pt.length tc⟩))
  obtain ⟨c0, c1, c2, c3, c4, c5, c6, c7, c8⟩ := IM0.out.cells
  have AW := hid (fun W => awake_any W)
  clear hI
  go_enter Tryz.func3, Tryz.ntmps3
  go_wp2_with fail
  refine (AW.out _).mono ?_
  rintro e w1 ⟨rfl, k1⟩
  have IM1 := hid (IM0.out.keep k1)
  have K1 := hid (none_trans K0.out k1)
  clear k1 IM0 K0 AW c0 c1 c2 c3 c4 c5 c6 c7 c8
  generalize w.heap.size = ib at *
  obtain ⟨c0, c1, c2, c3, c4, c5, c6, c7, c8⟩ := IM1.out.cells
  have CK := hid (Check9 I _ w1 IM1.out.d)
  obtain ⟨ru, hru⟩ : ∃ ru, ru = (chk I).1 := ⟨_, rfl⟩
  obtain ⟨pl, hpl⟩ : ∃ pl, pl = (chk I).2 := ⟨_, rfl⟩
  rw [← hru, ← hpl] at CK
  have HIS := hid (fun W hW => is_any I ⟨.slice ma I.nm mc, .slice pa I.np pc, .slice ra I.no rc, .slice ha I.hd.length hc, .slice ta I.pt.length tc⟩ (ru : Int) (pl : Int) W hW true (by rw [← hru, ← hpl]; simp))
  clear hru hpl
  go_wp2_with fail
  refine CK.out.mono ?_
  rintro e w2 ⟨rfl, k2⟩
  have IM2 := hid (IM1.out.keep k2)
  have K2 := hid (none_trans K1.out k2)
  clear k2 IM1 K1 CK c0 c1 c2 c3 c4 c5 c6 c7 c8
  obtain ⟨c0, c1, c2, c3, c4, c5, c6, c7, c8⟩ := IM2.out.cells
  go_wp2_with fail
  refine (HIS.out _ IM2.out.d).mono ?_
  rintro e w3 ⟨rfl, k3⟩
  have K3 := hid (none_trans K2.out k3)
  clear k3 c0 c1 c2 c3 c4 c5 c6 c7 c8
  go_wp2_with fail
  go_ret
  exact ⟨rfl, K3.out⟩
end Go.Proofs.YthjokkihlodapaaGreat
namespace Go.Proofs.YthjokkihlodapaaGreat.walkChecks
open Go.ChangeShapes Go.WideShapes Go.ChangeAt Go.RowKit Go.Deep
open Go.ChangeMaps (open_string shut_string)
set_option linter.unusedVariables false

theorem own : ownKnob Tryz.prog.godebug = none := by kernel_rfl
theorem laidOut : laidOutB Tryz.prog = true := by kernel_rfl
set_option maxRecDepth 100000 in
theorem lifted (os : Os) (started : os.Started) (H : Type) (enc : TypeId × Value → H) :
    ReturnsInHanded {} Tryz.checked os 3 .any (Rows.walkChecksSpec.pre6 enc Tryz.prog Tryz.f3 Rows.walkChecksRow.domain false) (Rows.walkChecksSpec.post enc Tryz.prog Tryz.f3 false true false false) := by
  refine returnsInHanded_of_change (C := Tryz.checked) own started (by kernel_rfl) Tryz.func3
    (ChangeSpec.witness6 (enc := enc) (C := Tryz.checked) false ⟨#[], #[.agg #[.int .u64 0, .int .i64 0, .int .i64 0, .int .i64 0, .slice none 0 0, .slice none 0 0, .slice none 0 0, .slice none 0 0, .slice none 0 0]], []⟩ 8 (by kernel_rfl) (by kernel_rfl) (by kernel_rfl) (by kernel_rfl)) ?_
  intro W base args ds gs before hval0 hW hcnd _
  have hval : ∀ (j : Nat) t v, Tryz.f3.params[j]? = some t → args[j]? = some v → Value.okWide Tryz.prog W .any base t v := hval0
  have hW' := hW
  obtain ⟨p, q, hA0, hV, rfl, hfz, hnd⟩ := hW
  have hA : DataW.TrodAll enc Tryz.prog W 0 (fun _ => true) true Tryz.f3.params.toList args.toList ds p := hA0
  rw [Tryz.params3] at hA hval
  obtain ⟨v0, vs0, d0, ds0, p0, q0, hargs, rfl, rfl, h0, r0⟩ := trodAll_cons hA
  obtain ⟨rfl, rfl, rfl⟩ := trodAll_nil r0
  obtain rfl : args = #[v0] := by cases args; simp_all
  obtain ⟨rfl, rfl⟩ := trodVars_none hV
  have k0 := h0
  have lt0 : ∀ x ∈ p0, x.block < W.heap.size := by obtain ⟨m, hm⟩ := k0; exact DataW.trod_lt m _ _ _ hm
  obtain ⟨I, V, rfl, hI⟩ := image_of (hval 0 31 v0 rfl rfl) h0
  clear hA0 hval0
  refine (walkChecks_any I V W hI).mono fun e W' ⟨he, kp⟩ => ?_
  have bel : Below W.heap.size W W' := kp.below (Nat.le_refl _) (fun x hx => hx.elim)
  subst he
  exact ⟨_, rfl, _, _, _, [], _, [], hW', trodAll_mk1 (shut_bool Tryz.underlying4 _), (trodAll_cons_mk (Below.trod laidOut (by kernel_rfl) (of_decide_eq_true (by kernel_rfl)) k0 bel lt0) trodAll_mk0), rfl, bel.frame _, fun h => by cases h⟩

theorem over : Rows.walkChecksRow.holds Tryz.pinned (OpenSpec.ofChange Rows.walkChecksSpec) :=
  OpenClaim.holds_of_wide 3 Tryz.f3 rfl rfl rfl rfl rfl rfl rfl ⟨rfl, rfl, rfl, rfl, rfl⟩ rfl rfl rfl rfl rfl (by kernel_rfl) Tryz.func3 (by kernel_rfl)
    (of_decide_eq_true (by kernel_rfl)) (by unfold Func.isWrapper; first | (rw [if_pos (by decide +kernel)]; kernel_rfl) | (rw [if_neg (by decide +kernel)]; exact ⟨rfl, rfl⟩))
    (fun os started H enc _ => lifted os started H enc)

theorem proved : Rows.WalkChecksSaid := over
end Go.Proofs.YthjokkihlodapaaGreat.walkChecks

namespace Go.Proofs.YthjokkihlodapaaGreat
theorem walkChecks_holds : Rows.WalkChecksSaid := walkChecks.proved
#print axioms walkChecks_holds
end Go.Proofs.YthjokkihlodapaaGreat
