/- croftref11.shares, free. (Written by mkle.py.) -/
import Derived.Test.YtibljocjdlgfbaaLeA
import Derived.Test.YtibljocjdlgfbaaRfE
namespace Go.Proofs.Ytibljocjdlgfbaa
open Go.RowKit
set_option linter.unusedVariables false

/-- Is this one of its size, on its page? -/
def sh1 (base p s : Nat) (b : Nat × Nat) : Bool := decide (s < 4096) && (b.2 == s) && ((b.1 - base) / 4096 == (p - base) / 4096)
theorem shr_sh1 (base : Nat) (l : Bls) (p s : Nat) : shrB base l p s = l.any (sh1 base p s) := rfl
set_option maxRecDepth 6000 in
set_option maxHeartbeats 8000000 in
theorem refShares (base : Nat) (lim : Int) (k : Nat) (v : Value) (l : Bls) (p s : Nat) (hpb : base ≤ p) (hp : p < 2 ^ 64) (hs : s < 2 ^ 64) (hps : p + s < 2 ^ 64) (w : World) (hbl : BL w v l) (hB : ∀ b ∈ l, base ≤ b.1 ∧ b.1 + b.2 < 2 ^ 64) :
    Calls Try.prog 58 #[cfgV base lim (k : Int), v, blkV p s] w fun e w' => e = .returned (.bool (shrB base l p s)) ∧ Kept none' w w' := by
  obtain ⟨oa, oc, rfl⟩ : ∃ oa oc, v = .slice oa l.length oc := by
    obtain ⟨_, _, oa, oc, hv, _⟩ := hbl
    exact ⟨oa, oc, hv⟩
  have BL0 := hid hbl
  have hlen := hbl.len.2
  have HBB := hid hB
  have X0 := hid (BR2.mk0 w base lim k p s)
  clear hbl hB
  go_enter Try.func58, Try.ntmps58
  go_wp2_with fail
  generalize (w.alloc (.cells #[.int .u64 (base : Int), .int .i64 lim, .int .i64 (k : Int)] 42)).alloc (.cells #[.int .u64 (p : Int), .int .u64 (s : Int)] 60) = W0 at *
  go_loopw [7] (fun i W => ∃ a : Nat, a ≤ l.length ∧ i = .int .i64 a ∧ Hid (BR2 w W base lim k p s ∧ ∀ j b, j < a → l[j]? = some b → sh1 base p s b = false)) (fun i _ => l.length - (intOf i).toNat)
  case atStart => exact ⟨0, Nat.zero_le _, rfl, hid ⟨X0.out, fun j b hj => by omega⟩⟩
  case round =>
    clear X0
    obtain ⟨a, ha, rfl, HI⟩ := hrel
    by_cases hlt : a < l.length
    · have hai : (a : Int) < (l.length : Int) := by omega
      obtain ⟨bl, o, p', s', rfl, hla, hp', hs', q0, q1⟩ := BL0.out.all HI.out.1.k a hlt
      obtain ⟨c0, c1, c2, c3, c4⟩ := HI.out.1.all
      have hpb' := HBB.out (p', s') (List.mem_of_getElem? hla)
      have HPI := hid (fun W => refPage base lim (k : Int) p hpb hp W)
      have HPJ := hid (fun W => refPage base lim (k : Int) p' hpb'.1 hp' W)
      have HLA := hid hla
      have NXJ := hid (show sh1 base p s (p', s') = false → ∀ j b, j < a + 1 → l[j]? = some b → sh1 base p s b = false from fun h j b hj hb => by
        by_cases e : j = a
        · rw [e, hla] at hb
          injection hb with hb
          rw [← hb]; exact h
        · exact HI.out.2 j b (by omega) hb)
      obtain ⟨gi, hgi⟩ : ∃ gi, gi = (p - base) / 4096 := ⟨_, rfl⟩
      obtain ⟨gj, hgj⟩ : ∃ gj, gj = (p' - base) / 4096 := ⟨_, rfl⟩
      have HGI := hid hgi
      have HGJ := hid hgj
      rw [← hgi] at HPI
      rw [← hgj] at HPJ
      have HX := hid HI.out.1
      clear hgi hgj hla
      go_wp2_with fail
      by_cases t1 : s < 4096
      · have t1' : decide ((s : Int) < 4096) = true := decide_eq_true (by omega)
        by_cases t3 : s' = s
        · have t3' : ((s' : Int) == (s : Int)) = true := by rw [beq_iff_eq]; omega
          by_cases t4 : gj = gi
          · have t4' : ((gj : Int) == (gi : Int)) = true := by rw [beq_iff_eq]; omega
            have E := hid (show shrB base l p s = true from List.any_eq_true.2 ⟨(p', s'), List.mem_of_getElem? HLA.out, by simp [t1, t3, ← HGI.out, ← HGJ.out, t4]⟩)
            refine wp_region_kept (by kernel_rfl) (by kernel_rfl) ?_
            repeat (go_big_quiet_step (first | (go_at_call_of 48 p; exact Calls.kept_of (HPI.out _)) | (go_at_call_of 48 p'; exact Calls.kept_of (HPJ.out _))))
            refine wpQuiet_nil ?_
            intro y
            have K2 := hid (HX.out.keep y.k)
            go_wp2_with fail
            go_ret
            exact ⟨ret_bool E.out.symm, K2.out.k⟩
          · have t4' : ((gj : Int) == (gi : Int)) = false := by rw [beq_eq_false_iff_ne]; omega
            have CF := hid (show sh1 base p s (p', s') = false by simp [sh1, ← HGI.out, ← HGJ.out, t4])
            refine wp_region_kept (by kernel_rfl) (by kernel_rfl) ?_
            repeat (go_big_quiet_step (first | (go_at_call_of 48 p; exact Calls.kept_of (HPI.out _)) | (go_at_call_of 48 p'; exact Calls.kept_of (HPJ.out _))))
            refine wpQuiet_nil ?_
            intro y
            have K2 := hid (HX.out.keep y.k)
            have I3 := hid (show BR2 w y.v base lim k p s ∧ _ from ⟨K2.out, NXJ.out CF.out⟩)
            go_wp2_with fail
            go_round
            case rel => exact ⟨a + 1, by omega, by go_num, I3⟩
            case measure => simp [intOf]; omega
        · have t3' : ((s' : Int) == (s : Int)) = false := by rw [beq_eq_false_iff_ne]; omega
          have CF := hid (show sh1 base p s (p', s') = false by simp [sh1, t3])
          refine wp_region_kept (by kernel_rfl) (by kernel_rfl) ?_
          repeat (go_big_quiet_step (first | (go_at_call_of 48 p; exact Calls.kept_of (HPI.out _)) | (go_at_call_of 48 p'; exact Calls.kept_of (HPJ.out _))))
          refine wpQuiet_nil ?_
          intro y
          have K2 := hid (HX.out.keep y.k)
          have I3 := hid (show BR2 w y.v base lim k p s ∧ _ from ⟨K2.out, NXJ.out CF.out⟩)
          go_wp2_with fail
          go_round
          case rel => exact ⟨a + 1, by omega, by go_num, I3⟩
          case measure => simp [intOf]; omega
      · have t1' : decide ((s : Int) < 4096) = false := decide_eq_false (by omega)
        have CF := hid (show sh1 base p s (p', s') = false by simp [sh1, t1])
        refine wp_region_kept (by kernel_rfl) (by kernel_rfl) ?_
        repeat (go_big_quiet_step (first | (go_at_call_of 48 p; exact Calls.kept_of (HPI.out _)) | (go_at_call_of 48 p'; exact Calls.kept_of (HPJ.out _))))
        refine wpQuiet_nil ?_
        intro y
        have K2 := hid (HX.out.keep y.k)
        have I3 := hid (show BR2 w y.v base lim k p s ∧ _ from ⟨K2.out, NXJ.out CF.out⟩)
        go_wp2_with fail
        go_round
        case rel => exact ⟨a + 1, by omega, by go_num, I3⟩
        case measure => simp [intOf]; omega
    · have hai : ¬ (a : Int) < (l.length : Int) := by omega
      have E := hid (show shrB base l p s = false from by
        rw [shr_sh1, Bool.eq_false_iff]
        intro h
        obtain ⟨b, hb, hb2⟩ := List.any_eq_true.1 h
        obtain ⟨j, hj⟩ := List.mem_iff_getElem?.1 hb
        have := HI.out.2 j b (by have := (List.getElem?_eq_some_iff.1 hj).1; omega) hj
        rw [this] at hb2
        cases hb2)
      go_wp2_with fail
      go_ret
      exact ⟨ret_bool E.out.symm, HI.out.1.k⟩

set_option maxRecDepth 6000 in
set_option maxHeartbeats 8000000 in
theorem refFree (base : Nat) (lim : Int) (k : Nat) (v : Value) (l : Bls) (p s : Nat) (hpb : base ≤ p) (hp : p < 2 ^ 64) (hs : s < 2 ^ 64) (hps : p + s < 2 ^ 64) (w : World) (hbl : BL w v l) (hB : ∀ b ∈ l, base ≤ b.1 ∧ b.1 + b.2 < 2 ^ 64) :
    Calls Try.prog 59 #[cfgV base lim (k : Int), v, blkV p s] w fun e w' => e = .returned (.bool (freB base l p s)) ∧ Kept none' w w' := by
  obtain ⟨oa, oc, rfl⟩ : ∃ oa oc, v = .slice oa l.length oc := by
    obtain ⟨_, _, oa, oc, hv, _⟩ := hbl
    exact ⟨oa, oc, hv⟩
  have BL0 := hid hbl
  have hlen := hbl.len.2
  have HBB := hid hB
  have X0 := hid (BR2.mk0 w base lim k p s)
  clear hbl hB
  go_enter Try.func59, Try.ntmps59
  go_wp2_with fail
  generalize (w.alloc (.cells #[.int .u64 (base : Int), .int .i64 lim, .int .i64 (k : Int)] 42)).alloc (.cells #[.int .u64 (p : Int), .int .u64 (s : Int)] 60) = W0 at *
  go_loopw [7] (fun i W => ∃ a : Nat, a ≤ l.length ∧ i = .int .i64 a ∧ Hid (BR2 w W base lim k p s ∧ ∀ j b, j < a → l[j]? = some b → confB base b.1 b.2 p s = false)) (fun i _ => l.length - (intOf i).toNat)
  case atStart => exact ⟨0, Nat.zero_le _, rfl, hid ⟨X0.out, fun j b hj => by omega⟩⟩
  case round =>
    clear X0
    obtain ⟨a, ha, rfl, HI⟩ := hrel
    by_cases hlt : a < l.length
    · have hai : (a : Int) < (l.length : Int) := by omega
      obtain ⟨bl, o, p', s', rfl, hla, hp', hs', q0, q1⟩ := BL0.out.all HI.out.1.k a hlt
      obtain ⟨c0, c1, c2, c3, c4⟩ := HI.out.1.all
      have hpb' := HBB.out (p', s') (List.mem_of_getElem? hla)
      have HPI := hid (fun W => refPage base lim (k : Int) p hpb hp W)
      have HPJ := hid (fun W => refPage base lim (k : Int) p' hpb'.1 hp' W)
      have HLA := hid hla
      have NXJ := hid (show confB base p' s' p s = false → ∀ j b, j < a + 1 → l[j]? = some b → confB base b.1 b.2 p s = false from fun h j b hj hb => by
        by_cases e : j = a
        · rw [e, hla] at hb
          injection hb with hb
          rw [← hb]; exact h
        · exact HI.out.2 j b (by omega) hb)
      obtain ⟨gi, hgi⟩ : ∃ gi, gi = (p - base) / 4096 := ⟨_, rfl⟩
      obtain ⟨gj, hgj⟩ : ∃ gj, gj = (p' - base) / 4096 := ⟨_, rfl⟩
      have HGI := hid hgi
      have HGJ := hid hgj
      rw [← hgi] at HPI
      rw [← hgj] at HPJ
      have HX := hid HI.out.1
      clear hgi hgj hla
      have HME := hid (fun W => refMeet p' s' p s hpb'.2 hps W)
      have BAD := hid (show confB base p' s' p s = true → freB base l p s = false from fun h => by
        rw [Bool.eq_false_iff]
        intro hf
        have := List.all_eq_true.1 hf (p', s') (List.mem_of_getElem? HLA.out)
        rw [h] at this
        cases this)
      go_wp2_with fail
      refine wp_region_kept (by kernel_rfl) (by kernel_rfl) ?_
      cases hme : meetB p' s' p s with
      | true =>
        rw [hme] at HME
        have E := hid (BAD.out (by unfold confB; rw [hme]; rfl))
        clear hme
        repeat (go_big_quiet_step (first | (go_at_call 47; exact Calls.kept_of (HME.out _))))
        refine wpQuiet_nil ?_
        intro y
        have K2 := hid (HX.out.keep y.k)
        go_wp2_with fail
        go_ret
        exact ⟨ret_bool E.out.symm, K2.out.k⟩
      | false =>
        rw [hme] at HME
        have MF := hid hme
        clear hme
        repeat (go_big_quiet_step (first | (go_at_call 47; exact Calls.kept_of (HME.out _))))
        refine wpQuiet_nil ?_
        intro x
        have q2 : ∀ y : KW x.v, y.v.cell? ⟨bl, o + a * 2, none⟩ = some (.int .u64 (p' : Int)) := fun y => q0 ⟨y.v, none_trans x.k y.k⟩
        have q3 : ∀ y : KW x.v, y.v.cell? ⟨bl, o + a * 2 + 1, none⟩ = some (.int .u64 (s' : Int)) := fun y => q1 ⟨y.v, none_trans x.k y.k⟩
        replace HX := hid (HX.out.keep x.k)
        clear c0 c1 c2 c3 c4 q0 q1 HME
        obtain ⟨c0, c1, c2, c3, c4⟩ := HX.out.all
        go_wp2_with fail
        by_cases t1 : s < 4096
        · have t1' : decide ((s : Int) < 4096) = true := decide_eq_true (by omega)
          by_cases t2 : s' < 4096
          · have t2' : decide ((s' : Int) < 4096) = true := decide_eq_true (by omega)
            by_cases t3 : s' = s
            · have t3' : ((s' : Int) != (s : Int)) = false := by rw [bne_eq_false_iff_eq]; omega
              have CF := hid (show confB base p' s' p s = false by unfold confB; rw [MF.out]; simp [t3])
              refine wp_region_kept (by kernel_rfl) (by kernel_rfl) ?_
              repeat (go_big_quiet_step (first | (go_at_call_of 48 p; exact Calls.kept_of (HPI.out _)) | (go_at_call_of 48 p'; exact Calls.kept_of (HPJ.out _))))
              refine wpQuiet_nil ?_
              intro y
              have K2 := hid (HX.out.keep y.k)
              have I3 := hid (show BR2 w y.v base lim k p s ∧ _ from ⟨K2.out, NXJ.out CF.out⟩)
              go_wp2_with fail
              go_round
              case rel => exact ⟨a + 1, by omega, by go_num, I3⟩
              case measure => simp [intOf]; omega
            · have t3' : ((s' : Int) != (s : Int)) = true := by rw [bne_iff_ne]; omega
              by_cases t4 : gj = gi
              · have t4' : ((gj : Int) == (gi : Int)) = true := by rw [beq_iff_eq]; omega
                have CF := hid (show confB base p' s' p s = true by unfold confB; rw [MF.out]; simp [t1, t2, t3, ← HGI.out, ← HGJ.out, t4])
                have E := hid (BAD.out CF.out)
                refine wp_region_kept (by kernel_rfl) (by kernel_rfl) ?_
                repeat (go_big_quiet_step (first | (go_at_call_of 48 p; exact Calls.kept_of (HPI.out _)) | (go_at_call_of 48 p'; exact Calls.kept_of (HPJ.out _))))
                refine wpQuiet_nil ?_
                intro y
                have K2 := hid (HX.out.keep y.k)
                go_wp2_with fail
                go_ret
                exact ⟨ret_bool E.out.symm, K2.out.k⟩
              · have t4' : ((gj : Int) == (gi : Int)) = false := by rw [beq_eq_false_iff_ne]; omega
                have CF := hid (show confB base p' s' p s = false by unfold confB; rw [MF.out]; simp [t1, t2, t3, ← HGI.out, ← HGJ.out, t4])
                refine wp_region_kept (by kernel_rfl) (by kernel_rfl) ?_
                repeat (go_big_quiet_step (first | (go_at_call_of 48 p; exact Calls.kept_of (HPI.out _)) | (go_at_call_of 48 p'; exact Calls.kept_of (HPJ.out _))))
                refine wpQuiet_nil ?_
                intro y
                have K2 := hid (HX.out.keep y.k)
                have I3 := hid (show BR2 w y.v base lim k p s ∧ _ from ⟨K2.out, NXJ.out CF.out⟩)
                go_wp2_with fail
                go_round
                case rel => exact ⟨a + 1, by omega, by go_num, I3⟩
                case measure => simp [intOf]; omega
          · have t2' : decide ((s' : Int) < 4096) = false := decide_eq_false (by omega)
            have CF := hid (show confB base p' s' p s = false by unfold confB; rw [MF.out]; simp [t2])
            refine wp_region_kept (by kernel_rfl) (by kernel_rfl) ?_
            repeat (go_big_quiet_step (first | (go_at_call_of 48 p; exact Calls.kept_of (HPI.out _)) | (go_at_call_of 48 p'; exact Calls.kept_of (HPJ.out _))))
            refine wpQuiet_nil ?_
            intro y
            have K2 := hid (HX.out.keep y.k)
            have I3 := hid (show BR2 w y.v base lim k p s ∧ _ from ⟨K2.out, NXJ.out CF.out⟩)
            go_wp2_with fail
            go_round
            case rel => exact ⟨a + 1, by omega, by go_num, I3⟩
            case measure => simp [intOf]; omega
        · have t1' : decide ((s : Int) < 4096) = false := decide_eq_false (by omega)
          have CF := hid (show confB base p' s' p s = false by unfold confB; rw [MF.out]; simp [t1])
          refine wp_region_kept (by kernel_rfl) (by kernel_rfl) ?_
          repeat (go_big_quiet_step (first | (go_at_call_of 48 p; exact Calls.kept_of (HPI.out _)) | (go_at_call_of 48 p'; exact Calls.kept_of (HPJ.out _))))
          refine wpQuiet_nil ?_
          intro y
          have K2 := hid (HX.out.keep y.k)
          have I3 := hid (show BR2 w y.v base lim k p s ∧ _ from ⟨K2.out, NXJ.out CF.out⟩)
          go_wp2_with fail
          go_round
          case rel => exact ⟨a + 1, by omega, by go_num, I3⟩
          case measure => simp [intOf]; omega
    · have hai : ¬ (a : Int) < (l.length : Int) := by omega
      have E := hid (show freB base l p s = true from List.all_eq_true.2 fun b hb => by
        obtain ⟨j, hj⟩ := List.mem_iff_getElem?.1 hb
        rw [HI.out.2 j b (by have := (List.getElem?_eq_some_iff.1 hj).1; omega) hj]
        rfl)
      go_wp2_with fail
      go_ret
      exact ⟨ret_bool E.out.symm, HI.out.1.k⟩
end Go.Proofs.Ytibljocjdlgfbaa
