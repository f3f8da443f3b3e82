import Derived.Test.YthjokkihlodapaaGreatWp
import Derived.Test.YthjokkihlodapaaGreatWb
set_option maxRecDepth 1000000
set_option maxHeartbeats 80000000
/- WalkBlocks, the walk. -/
namespace Go.Proofs.YthjokkihlodapaaGreat
open Go.RowKit
set_option linter.unusedVariables false
set_option maxHeartbeats 8000000
set_option maxRecDepth 6000
theorem walkBlocks_any (I : Img) (V : ImV) (w : World) (hI : ImD w I V) :
    Calls Tryz.prog 4 #[imA I V] w fun e w' => e = .returned (.bool true) ∧ Kept none' w w' := by
  obtain ⟨⟨ma, mc, hm⟩, ⟨pa, pc, hp⟩, ⟨ra, rc, hr⟩, ⟨ha, hc, hh⟩, ⟨ta, tc, ht⟩, -⟩ := hI.sl
  obtain ⟨vm, vp, vr, vh, vt⟩ := V
  dsimp only at hm hp hr hh ht
  subst hm hp hr hh ht
  have IM0 := hid (show ImAt (w.alloc (imO I _)) w.heap.size I _ from ⟨heap_new _ _, hI.keep ((Kept.refl _ w).alloc _)⟩)
  have K0 := hid (show Kept none' w (w.alloc (imO I _)) from (Kept.refl _ w).alloc (imO I ⟨.slice ma I.nm mc, .slice pa I.np pc, .slice ra I.no rc, .slice ha I.hd.length hc, .slice ta I.pt.length tc⟩))
  obtain ⟨c0, c1, c2, c3, c4, c5, c6, c7, c8⟩ := IM0.out.cells
  have AW := hid (fun W => awake_any W)
  obtain ⟨L, hL⟩ : ∃ L, L = blks I := ⟨_, rfl⟩
  obtain ⟨n, hn⟩ : ∃ n, n = L.length := ⟨_, rfl⟩
  have LEN := hid (show ∀ (W W' : World) (v : Value), GB W W' v L → L.length ≤ 9223372036854775807 from fun W W' v hB => by
    rcases hB.own.2 with ⟨_, h0⟩ | ⟨g, cap, cur, _, _, _, h1, h2, _⟩
    · omega
    · unfold maxLen at h2
      omega)
  have BW := hid (show ∀ W, ImD W I ⟨.slice ma I.nm mc, .slice pa I.np pc, .slice ra I.no rc, .slice ha I.hd.length hc, .slice ta I.pt.length tc⟩ → Calls Tryz.prog 9 #[imA I ⟨.slice ma I.nm mc, .slice pa I.np pc, .slice ra I.no rc, .slice ha I.hd.length hc, .slice ta I.pt.length tc⟩] W fun e w' => ∃ va vc, e = .returned (.slice va n vc) ∧ Kept none' W w' ∧ RBk w' (.slice va n vc) L ∧ L.length ≤ 9223372036854775807 from fun W hW => (Blocks_any I ⟨.slice ma I.nm mc, .slice pa I.np pc, .slice ra I.no rc, .slice ha I.hd.length hc, .slice ta I.pt.length tc⟩ W hW).mono fun e w' ⟨v, he, hB⟩ => by
    rw [← hL] at hB
    obtain ⟨va, vc, hv, h2⟩ := hB.rb
    subst hv
    rw [hn]
    exact ⟨va, vc, he, hB.kp, ⟨va, vc, rfl, h2⟩, LEN.out _ _ _ hB⟩)
  have BR := hid (show ∀ W, ImD W I ⟨.slice ma I.nm mc, .slice pa I.np pc, .slice ra I.no rc, .slice ha I.hd.length hc, .slice ta I.pt.length tc⟩ → Calls Tryz.prog 10 #[imA I ⟨.slice ma I.nm mc, .slice pa I.np pc, .slice ra I.no rc, .slice ha I.hd.length hc, .slice ta I.pt.length tc⟩] W fun e w' => ∃ va vc, e = .returned (.slice va n vc) ∧ Kept none' W w' ∧ RBk w' (.slice va n vc) L ∧ L.length ≤ 9223372036854775807 from fun W hW => (Blocks9 I ⟨.slice ma I.nm mc, .slice pa I.np pc, .slice ra I.no rc, .slice ha I.hd.length hc, .slice ta I.pt.length tc⟩ W hW).mono fun e w' ⟨v, he, hB⟩ => by
    rw [← hL] at hB
    obtain ⟨va, vc, hv, h2⟩ := hB.rb
    subst hv
    rw [hn]
    exact ⟨va, vc, he, hB.kp, ⟨va, vc, rfl, h2⟩, LEN.out _ _ _ hB⟩)
  have SM := hid (fun (v u : Value) (W : World) (hl : L.length ≤ 9223372036854775807) (h1 : RBk W v L) (h2 : RBk W u L) => Same9_yes v u L W hl h1 h2)
  clear hI hL hn LEN
  go_enter Tryz.func4, Tryz.ntmps4
  go_wp2_with fail
  clear c0 c1 c2 c3 c4 c5 c6 c7 c8
  generalize w.heap.size = ib at *
  generalize w.alloc (imO I ⟨.slice ma I.nm mc, .slice pa I.np pc, .slice ra I.no rc, .slice ha I.hd.length hc, .slice ta I.pt.length tc⟩) = W0 at *
  go_region_with (first
    | (go_at_call 5; refine (AW.out _).mono ?_; rintro e wA ⟨rfl, kA⟩; have KA := hid (none_trans ((Kept.refl none' W0).drew) kA); have IA := hid (IM0.out.keep KA.out); obtain ⟨c0, c1, c2, c3, c4, c5, c6, c7, c8⟩ := IA.out.cells; clear kA)
    | (go_at_call 9; (with_reducible refine (BW.out wA IA.out.d).mono ?_); rintro e wB ⟨va, vc, rfl, kB, rB, lB⟩; have KB := hid (none_trans KA.out kB); have IB := hid (IA.out.keep kB); obtain ⟨a0, a1, a2, a3, a4, a5, a6, a7, a8⟩ := IB.out.cells; have RB := hid rB; have LB := hid lB; clear kB rB lB)
    | (go_at_call 9; (with_reducible refine (BW.out wC IC.out.d).mono ?_); rintro e wB ⟨va, vc, rfl, kB, rB, lB⟩; have KE := hid (none_trans KC.out kB); have R1 := hid rB; have R2 := hid (RC.out.keep kB); have SS := hid (SM.out _ _ _ lB R1.out R2.out); clear kB rB lB)
    | (go_at_call 10; (with_reducible refine (BR.out wA IA.out.d).mono ?_); rintro e wC ⟨ua, uc, rfl, kB, rB, lB⟩; have KC := hid (none_trans KA.out kB); have IC := hid (IA.out.keep kB); obtain ⟨a0, a1, a2, a3, a4, a5, a6, a7, a8⟩ := IC.out.cells; have RC := hid rB; have LC := hid lB; clear kB rB lB)
    | (go_at_call 10; (with_reducible refine (BR.out wB IB.out.d).mono ?_); rintro e wC ⟨ua, uc, rfl, kB, rB, lB⟩; have KE := hid (none_trans KB.out kB); have R2 := hid rB; have R1 := hid (RB.out.keep kB); have SS := hid (SM.out _ _ _ lB R1.out R2.out); clear kB rB lB)
    | (go_at_call 8; (with_reducible refine SS.out.mono ?_); rintro e wD ⟨rfl, kD⟩; have KD := hid (none_trans KE.out kD); clear kD)
    | fail)
  all_goals
    go_wp2_with fail
    go_ret
    exact ⟨rfl, none_trans K0.out KD.out⟩
end Go.Proofs.YthjokkihlodapaaGreat
