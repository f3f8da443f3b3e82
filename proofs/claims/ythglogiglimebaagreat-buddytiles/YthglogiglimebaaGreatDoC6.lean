import Derived.Test.YthglogiglimebaaGreatKi
import Derived.Deep.DeepCutAuto
import Derived.Deep.RegionHeld3
import Derived.Deep.RegionHeldLaw
/- croftlaw5.do: a region comes. -/
namespace Go.Proofs.YthglogiglimebaaGreat
open Go.RowKit
set_option linter.unusedVariables false

set_option maxRecDepth 4000 in
set_option maxHeartbeats 8000000 in
theorem do_come {E w W lw c x t fa fl fc ra nv rc va n vc R} (h : BW E w W lw c x t fa fl fc ra nv rc va n vc R) (hc : c ≤ 300) (hG : ∀ g, E.G g → Lp (Lk R n) g) (op : Int) (hop : op = 6) (od wh : Int) (o1 : -9223372036854775808 ≤ od) (o2 : od ≤ 9223372036854775807) (w1 : -9223372036854775808 ≤ wh) (w2 : wh ≤ 9223372036854775807) :
    Calls Tryz.prog 16 #[.pointer (some ⟨lw, 0, none⟩), .agg #[.slice va n vc], .agg #[.int .i64 op, .int .i64 od, .int .i64 wh]] W fun e w' => DoP E R n w lw (c + 1) e w' := by
  obtain ⟨c0, c1, c2, c3, c4, c5, c6, c7, c8, c9⟩ := h.wb.lw.c
  have H := hid h
  have HOP := hid hop
  have HG0 := hid hG
  clear h hop hG
  have hx8 := H.out.wb.nums.1
  have HW0 := hid (show w.heap.size ≤ W.heap.size + 1 + 1 ∧ ∀ v, ¬ E.e (W.heap.size + 1 + 1) v from ⟨Nat.le_trans H.out.wb.lw.kp.size (by omega), fun v hv => absurd (heap_lt (H.out.wb.ex _ _ hv)) (by omega)⟩)
  have hn : n ≤ 300 := Nat.le_trans H.out.nc hc
  have D3 := hid (do3 W (.slice va n vc) op od wh)
  go_enter Tryz.func16, Tryz.ntmps16
  go_upto_region 2 with fail
  (first | go_values | go_skip | go_guarded | go_step | go_upon | go_back | go_simp)
  (first | go_values | go_skip | go_guarded | go_step | go_upon | go_back | go_simp)
  (first | go_values | go_skip | go_guarded | go_step | go_upon | go_back | go_simp)
  (first | go_values | go_skip | go_guarded | go_step | go_upon | go_back | go_simp)
  (first | go_values | go_skip | go_guarded | go_step | go_upon | go_back | go_simp)
  (first | go_values | go_skip | go_guarded | go_step | go_upon | go_back | go_simp)
  (first | go_values | go_skip | go_guarded | go_step | go_upon | go_back | go_simp)
  (first | go_values | go_skip | go_guarded | go_step | go_upon | go_back | go_simp)
  go_cut [9] (fun s9 wx => (∃ wi : Nat, s9 = .int .i64 (wi : Int) ∧ (0 < n → wi < n)) ∧ wx = doW W (.slice va n vc) op od wh)
  case first => as_aux_lemma =>
    rename_i K hK J K2 hJ hM
    clear hK K
    by_cases hn0 : 0 < n
    · by_cases hw0 : 0 < wh
      · go_wp2_with fail
        go_meet
        case rel =>
          refine ⟨⟨(wh % n).toNat, ?_, fun _ => ?_⟩, rfl⟩
          · rw [Int.toNat_of_nonneg (Int.emod_nonneg _ (by omega))]
          · have := Int.emod_lt_of_pos wh (show (0 : Int) < n by omega)
            have := Int.emod_nonneg wh (show (n : Int) ≠ 0 by omega)
            omega
      · have hw1 : wh ≤ 0 := by omega
        go_wp2_with fail
        go_meet
        case rel => exact ⟨⟨0, rfl, fun _ => hn0⟩, rfl⟩
    · go_wp2_with fail
      go_meet
      case rel => exact ⟨⟨0, rfl, fun e => absurd e hn0⟩, rfl⟩
  case rest =>
  obtain ⟨⟨wi, rfl, hwi⟩, rfl⟩ := hcut
  obtain ⟨KD, BXD⟩ := D3.out
  have HWI := hid hwi
  clear hwi
  have C3 := hid (H.out.wb.lw.keep KD).c
  go_upto_region 5 with fail
  (first | go_values | go_skip | go_guarded | go_step | go_upon | go_back | go_simp)
  (first | go_values | go_skip | go_guarded | go_step | go_upon | go_back | go_simp)
  (first | go_values | go_skip | go_guarded | go_step | go_upon | go_back | go_simp)
  (first | go_values | go_skip | go_guarded | go_step | go_upon | go_back | go_simp)
  (first | go_values | go_skip | go_guarded | go_step | go_upon | go_back | go_simp)
  (first | go_values | go_skip | go_guarded | go_step | go_upon | go_back | go_simp)
  (first | go_values | go_skip | go_guarded | go_step | go_upon | go_back | go_simp)
  (first | go_values | go_skip | go_guarded | go_step | go_upon | go_back | go_simp)
  go_cut [10] (fun s10 wx => (∃ oi : Nat, s10 = .int .i64 (oi : Int) ∧ oi ≤ x.o) ∧ Kept none' (doW W (.slice va n vc) op od wh) wx)
  case first => as_aux_lemma =>
    rename_i K hK J K2 hJ hM
    clear hK K
    clear c0 c1 c2 c3 c4 c5 c6 c7 c8 c9
    obtain ⟨c0, c1, c2, c3, c4, c5, c6, c7, c8, c9⟩ := C3.out
    obtain ⟨_, _, a0, a1, a2, a3, a4, a5, af⟩ := BXD
    have K0 := hid (Kept.refl none' (doW W (.slice va n vc) op od wh))
    clear KD
    by_cases ho0 : 0 < od
    · have hq : Hid (∃ oi : Nat, od % ((x.o : Int) + 1) = (oi : Int) ∧ oi ≤ x.o) := hid (by
        have h1 := Int.emod_lt_of_pos od (show (0 : Int) < (x.o : Int) + 1 by omega)
        have h2 := Int.emod_nonneg od (show (x.o : Int) + 1 ≠ 0 by omega)
        exact ⟨(od % ((x.o : Int) + 1)).toNat, by omega, by omega⟩)
      go_wp2_with fail
      go_quiet (fail)
      go_wp2_with fail
      go_meet
      case rel =>
        obtain ⟨oi, h1, h2⟩ := hq.out
        exact ⟨⟨oi, by rw [h1], h2⟩, K0.out.drewN _⟩
    · have ho1 : od ≤ 0 := by omega
      go_wp2_with fail
      go_meet
      case rel => exact ⟨⟨0, rfl, Nat.zero_le _⟩, K0.out⟩
  case rest =>
  obtain ⟨⟨oi, rfl, hoi⟩, hkc⟩ := hcut
  have HB := hid (H.out.keep (none_trans KD hkc))
  have BXC := hid (BXD.keep hkc)
  clear c0 c1 c2 c3 c4 c5 c6 c7 c8 c9 C3 D3 KD BXD hkc
  obtain ⟨c0, c1, c2, c3, c4, c5, c6, c7, c8, c9⟩ := HB.out.wb.lw.c
  obtain ⟨_, _, a0, a1, a2, a3, a4, a5, af⟩ := BXC.out
  have hop := HOP.out
  subst hop
  go_wp2_with fail
  obtain ⟨n1, n2, n3, n4, ⟨r, n5, n6, n7⟩, n8, n9⟩ := HB.out.wb.nums
  have hst := HB.out.wb.st
  have hR1 := HB.out.wb.lw.bd.sp.cfg.r1
  have hrr : x.n / x.R = r := by rw [n7]; exact Nat.mul_div_cancel _ (by omega)
  have HD := hid (HB.out.keep (Kept.refl none' wc).drew)
  have BD := hid (BXC.out.keep (Kept.refl none' wc).drew)
  have RG := hid (show Calls Tryz.prog 40 #[.pointer (some ⟨x.s, 0, none⟩)] wc.drew fun e w' => e = .returned (.int .i64 (r : Int)) ∧ Kept none' wc.drew w' from (M.regions_any x.s x.a x.base x.R x.lim x.n t.f wc.drew HD.out.wb.lw.bd.sp).mono (by
    rintro e w' ⟨rfl, m, rfl⟩
    exact ⟨by rw [hrr], (Kept.refl none' wc.drew).drewN m⟩))
  have hlw := H.out.wb.lw.lt lw (.inr rfl)
  have HN5 := hid n5
  have HN7 := hid n7
  have HN9 := hid n9
  have HST := hid hst
  clear c0 c1 c2 c3 c4 c5 c6 c7 c8 c9 a0 a1 a2 a3 a4 a5 af n5 n7 n9 hst hrr hR1
  have d1 := BD.out.k0
  obtain ⟨_, d2, _, d3, _, d4, _, _, _, _⟩ := HD.out.wb.lw.c
  by_cases hr : r = x.lim
  · as_aux_lemma =>
    rw [hr] at RG
    refine wp_region_noPanic ?_
    refine wp_region_held_drew (S := (fun w' => w'.cell? ⟨W.heap.size, 0, none⟩ = some (.slice va n vc) ∧ w'.cell? ⟨lw, 1, none⟩ = some (.int .i64 (x.lim : Int)) ∧ w'.cell? ⟨lw, 3, none⟩ = some (.pointer (some ⟨x.s, 0, none⟩)))) (by kernel_rfl) ⟨d1, d2, d3⟩ (fun hHeld => ?_)
    refine wpAnyH_take (i := 0) (oi := { dst := some 224, op := .load _ (.tmp 4), type := _, pos := _, after := _, guard := none }) (v := (.agg #[.slice va n vc])) rfl (by kernel_rfl) (by kernel_rfl) (by kernel_rfl) (fun _ _ _ h => h) (Or.inl ⟨by rfl, fun w hSw => by (try dsimp only at hSw); go_simp⟩) (by assumption) ?_
    simp only [Act.put, List.setIfInBounds_toArray, List.set_cons_zero, List.set_cons_succ]
    refine wpAnyH_take (i := 1) (oi := { dst := some 225, op := .move (.tmp 0), type := _, pos := _, after := _, guard := none }) (v := (.pointer (some ⟨lw, 0, none⟩))) rfl (by kernel_rfl) (by kernel_rfl) (by kernel_rfl) (fun _ _ _ h => h) (Or.inl ⟨by rfl, fun w hSw => by (try dsimp only at hSw); go_simp⟩) (by assumption) ?_
    simp only [Act.put, List.setIfInBounds_toArray, List.set_cons_zero, List.set_cons_succ]
    refine wpAnyH_take (i := 2) (oi := { dst := some 226, op := .nilCheck (.tmp 225), type := _, pos := _, after := _, guard := none }) (v := (.pointer (some ⟨lw, 0, none⟩))) rfl (by kernel_rfl) (by kernel_rfl) (by kernel_rfl) (fun _ _ _ h => h) (Or.inl ⟨by rfl, fun w hSw => by (try dsimp only at hSw); go_simp⟩) (by assumption) ?_
    simp only [Act.put, List.setIfInBounds_toArray, List.set_cons_zero, List.set_cons_succ]
    refine wpAnyH_take (i := 3) (oi := { dst := some 227, op := .fieldAddr _ (.tmp 226) 1, type := _, pos := _, after := _, guard := none }) (v := (.pointer (some ⟨lw, 3, none⟩))) rfl (by kernel_rfl) (by kernel_rfl) (by kernel_rfl) (fun _ _ _ h => h) (Or.inl ⟨by rfl, fun w hSw => by (try dsimp only at hSw); go_simp⟩) (by assumption) ?_
    simp only [Act.put, List.setIfInBounds_toArray, List.set_cons_zero, List.set_cons_succ]
    refine wpAnyH_take (i := 4) (oi := { dst := some 228, op := .load _ (.tmp 227), type := _, pos := _, after := _, guard := none }) (v := (.pointer (some ⟨x.s, 0, none⟩))) rfl (by kernel_rfl) (by kernel_rfl) (by kernel_rfl) (fun _ _ _ h => h) (Or.inl ⟨by rfl, fun w hSw => by (try dsimp only at hSw); go_simp⟩) (by assumption) ?_
    simp only [Act.put, List.setIfInBounds_toArray, List.set_cons_zero, List.set_cons_succ]
    refine wpAnyH_take (i := 6) (oi := { dst := some 230, op := .move (.tmp 0), type := _, pos := _, after := _, guard := none }) (v := (.pointer (some ⟨lw, 0, none⟩))) rfl (by kernel_rfl) (by kernel_rfl) (by kernel_rfl) (fun _ _ _ h => h) (Or.inl ⟨by rfl, fun w hSw => by (try dsimp only at hSw); go_simp⟩) (by assumption) ?_
    simp only [Act.put, List.setIfInBounds_toArray, List.set_cons_zero, List.set_cons_succ]
    refine wpAnyH_take (i := 7) (oi := { dst := some 231, op := .nilCheck (.tmp 230), type := _, pos := _, after := _, guard := none }) (v := (.pointer (some ⟨lw, 0, none⟩))) rfl (by kernel_rfl) (by kernel_rfl) (by kernel_rfl) (fun _ _ _ h => h) (Or.inl ⟨by rfl, fun w hSw => by (try dsimp only at hSw); go_simp⟩) (by assumption) ?_
    simp only [Act.put, List.setIfInBounds_toArray, List.set_cons_zero, List.set_cons_succ]
    refine wpAnyH_take (i := 8) (oi := { dst := some 232, op := .fieldAddr _ (.tmp 231) 0, type := _, pos := _, after := _, guard := none }) (v := (.pointer (some ⟨lw, 0, none⟩))) rfl (by kernel_rfl) (by kernel_rfl) (by kernel_rfl) (fun _ _ _ h => h) (Or.inl ⟨by rfl, fun w hSw => by (try dsimp only at hSw); go_simp⟩) (by assumption) ?_
    simp only [Act.put, List.setIfInBounds_toArray, List.set_cons_zero, List.set_cons_succ]
    refine wpAnyH_take (i := 9) (oi := { dst := some 233, op := .fieldAddr _ (.tmp 232) 1, type := _, pos := _, after := _, guard := none }) (v := (.pointer (some ⟨lw, 1, none⟩))) rfl (by kernel_rfl) (by kernel_rfl) (by kernel_rfl) (fun _ _ _ h => h) (Or.inl ⟨by rfl, fun w hSw => by (try dsimp only at hSw); go_simp⟩) (by assumption) ?_
    simp only [Act.put, List.setIfInBounds_toArray, List.set_cons_zero, List.set_cons_succ]
    refine wpAnyH_take (i := 10) (oi := { dst := some 234, op := .load _ (.tmp 233), type := _, pos := _, after := _, guard := none }) (v := (.int .i64 (x.lim : Int))) rfl (by kernel_rfl) (by kernel_rfl) (by kernel_rfl) (fun _ _ _ h => h) (Or.inl ⟨by rfl, fun w hSw => by (try dsimp only at hSw); go_simp⟩) (by assumption) ?_
    simp only [Act.put, List.setIfInBounds_toArray, List.set_cons_zero, List.set_cons_succ]
    refine wpAnyH_ready (rs := [5]) (by kernel_rfl) (by simp) ?_
    refine AllReadyH.cons rfl (fun K hK => ?_) AllReadyH.nil
    go_simp
    refine RG.out.mono ?_
    rintro e w2 ⟨rfl, hk⟩
    have H2 := hid (HD.out.keep hk)
    have B2 := hid (BD.out.keep hk)
    have y1 := B2.out.k0
    obtain ⟨_, y2, _, y3, _, _, _, _, _, _⟩ := H2.out.wb.lw.c
    have y5 := B2.out.rc
    have yf := B2.out.rf
    clear hk
    refine hK.out _ _ ⟨y1, y2, y3⟩ (fun hHeld2 => ?_)
    clear hK K hHeld
    try simp only [Act.put, List.setIfInBounds_toArray, List.set_cons_zero, List.set_cons_succ]
    refine wpAnyH_take (i := 11) (oi := { dst := some 235, op := .binOp .eql _ (.tmp 229) (.tmp 234) _, type := _, pos := _, after := _, guard := none }) (v := (.bool true)) rfl (by kernel_rfl) (by kernel_rfl) (by kernel_rfl) (fun _ _ _ h => h) (Or.inl ⟨by rfl, fun w hSw => by (try dsimp only at hSw); go_simp⟩) (by assumption) ?_
    simp only [Act.put, List.setIfInBounds_toArray, List.set_cons_zero, List.set_cons_succ]
    refine wpAnyH_take (i := 12) (oi := { dst := some 236, op := .move (.tmp 235), type := _, pos := _, after := _, guard := none }) (v := (.bool true)) rfl (by kernel_rfl) (by kernel_rfl) (by kernel_rfl) (fun _ _ _ h => h) (Or.inl ⟨by rfl, fun w hSw => by (try dsimp only at hSw); go_simp⟩) (by assumption) ?_
    simp only [Act.put, List.setIfInBounds_toArray, List.set_cons_zero, List.set_cons_succ]
    refine wpAnyH_take (i := 13) (oi := { dst := some 237, op := _, type := _, pos := _, after := _, guard := some (12, false) }) (v := undef) rfl (by kernel_rfl) (by kernel_rfl) (by kernel_rfl) (fun _ _ _ h => h) (Or.inr ⟨by rfl, rfl⟩) (by assumption) ?_
    simp only [Act.put, List.setIfInBounds_toArray, List.set_cons_zero, List.set_cons_succ]
    refine wpAnyH_take (i := 14) (oi := { dst := some 238, op := _, type := _, pos := _, after := _, guard := some (12, false) }) (v := undef) rfl (by kernel_rfl) (by kernel_rfl) (by kernel_rfl) (fun _ _ _ h => h) (Or.inr ⟨by rfl, rfl⟩) (by assumption) ?_
    simp only [Act.put, List.setIfInBounds_toArray, List.set_cons_zero, List.set_cons_succ]
    refine wpAnyH_take (i := 15) (oi := { dst := some 239, op := _, type := _, pos := _, after := _, guard := some (12, false) }) (v := undef) rfl (by kernel_rfl) (by kernel_rfl) (by kernel_rfl) (fun _ _ _ h => h) (Or.inr ⟨by rfl, rfl⟩) (by assumption) ?_
    simp only [Act.put, List.setIfInBounds_toArray, List.set_cons_zero, List.set_cons_succ]
    refine wpAnyH_take (i := 16) (oi := { dst := some 240, op := _, type := _, pos := _, after := _, guard := some (15, true) }) (v := undef) rfl (by kernel_rfl) (by kernel_rfl) (by kernel_rfl) (fun _ _ _ h => h) (Or.inr ⟨by rfl, rfl⟩) (by assumption) ?_
    simp only [Act.put, List.setIfInBounds_toArray, List.set_cons_zero, List.set_cons_succ]
    refine wpAnyH_take (i := 17) (oi := { dst := some 241, op := _, type := _, pos := _, after := _, guard := some (15, true) }) (v := undef) rfl (by kernel_rfl) (by kernel_rfl) (by kernel_rfl) (fun _ _ _ h => h) (Or.inr ⟨by rfl, rfl⟩) (by assumption) ?_
    simp only [Act.put, List.setIfInBounds_toArray, List.set_cons_zero, List.set_cons_succ]
    refine wpAnyH_take (i := 18) (oi := { dst := some 242, op := _, type := _, pos := _, after := _, guard := some (15, true) }) (v := undef) rfl (by kernel_rfl) (by kernel_rfl) (by kernel_rfl) (fun _ _ _ h => h) (Or.inr ⟨by rfl, rfl⟩) (by assumption) ?_
    simp only [Act.put, List.setIfInBounds_toArray, List.set_cons_zero, List.set_cons_succ]
    refine wpAnyH_take (i := 19) (oi := { dst := some 243, op := _, type := _, pos := _, after := _, guard := some (15, true) }) (v := undef) rfl (by kernel_rfl) (by kernel_rfl) (by kernel_rfl) (fun _ _ _ h => h) (Or.inr ⟨by rfl, rfl⟩) (by assumption) ?_
    simp only [Act.put, List.setIfInBounds_toArray, List.set_cons_zero, List.set_cons_succ]
    refine wpAnyH_take (i := 20) (oi := { dst := some 244, op := _, type := _, pos := _, after := _, guard := some (15, true) }) (v := undef) rfl (by kernel_rfl) (by kernel_rfl) (by kernel_rfl) (fun _ _ _ h => h) (Or.inr ⟨by rfl, rfl⟩) (by assumption) ?_
    simp only [Act.put, List.setIfInBounds_toArray, List.set_cons_zero, List.set_cons_succ]
    refine wpAnyH_take (i := 21) (oi := { dst := some 245, op := _, type := _, pos := _, after := _, guard := some (15, true) }) (v := undef) rfl (by kernel_rfl) (by kernel_rfl) (by kernel_rfl) (fun _ _ _ h => h) (Or.inr ⟨by rfl, rfl⟩) (by assumption) ?_
    simp only [Act.put, List.setIfInBounds_toArray, List.set_cons_zero, List.set_cons_succ]
    refine wpAnyH_take (i := 22) (oi := { dst := some 246, op := _, type := _, pos := _, after := _, guard := some (12, false) }) (v := undef) rfl (by kernel_rfl) (by kernel_rfl) (by kernel_rfl) (fun _ _ _ h => h) (Or.inr ⟨by rfl, rfl⟩) (by assumption) ?_
    simp only [Act.put, List.setIfInBounds_toArray, List.set_cons_zero, List.set_cons_succ]
    refine wpAnyH_take (i := 23) (oi := { dst := some 247, op := .pick (.tmp 236) (.const (.bool true)) (.tmp 246), type := _, pos := _, after := _, guard := none }) (v := (.bool true)) rfl (by kernel_rfl) (by kernel_rfl) (by kernel_rfl) (fun _ _ _ h => h) (Or.inl ⟨by rfl, fun w hSw => by (try dsimp only at hSw); go_simp⟩) (by assumption) ?_
    simp only [Act.put, List.setIfInBounds_toArray, List.set_cons_zero, List.set_cons_succ]
    refine wpAnyH_ready (rs := [24]) (by kernel_rfl) (by simp) ?_
    refine AllReadyH.cons rfl (fun K hK => ?_) AllReadyH.nil
    go_simp
    refine hK.out _ _ ⟨cell_far y1 (by omega), cell_far y2 (by omega), cell_far y3 (by omega)⟩ (fun hHeld3 => ?_)
    clear hK K hHeld2
    try simp only [Act.put, List.setIfInBounds_toArray, List.set_cons_zero, List.set_cons_succ]
    refine wpAnyH_take (i := 25) (oi := { dst := some 7, op := .assign (.tmp 247), type := _, pos := _, after := _, guard := none }) (v := (.bool true)) rfl (by kernel_rfl) (by kernel_rfl) (by kernel_rfl) (fun _ _ _ h => h) (Or.inl ⟨by rfl, fun w hSw => by (try dsimp only at hSw); go_simp⟩) (by assumption) ?_
    simp only [Act.put, List.setIfInBounds_toArray, List.set_cons_zero, List.set_cons_succ]
    refine wpAnyH_done (by kernel_rfl) ?_ _
    refine NoPanic.normal ?_
    all_goals as_aux_lemma =>
      have q0 := show (w2.setCell ⟨W.heap.size + 1 + 1, 0, none⟩ (.slice va n vc)).cell? ⟨W.heap.size + 1 + 1, 0, none⟩ = some (.slice va n vc) from setc B2.out.r0 _
      go_wp2_with fail
      exact ⟨rfl, .tuple #[.agg #[.slice va n vc], .bool true], by simp [results, Tryz.results16, go_sem, q0], _, _, _, _, _, _, _, _, _, _, _, _, Rl.refl _ _, rfl, (H2.out.set B2.out.r0 HW0.out _).mono (Nat.le_succ _)⟩
  · as_aux_lemma =>
    have hrI : ¬ (r : Int) = (x.lim : Int) := by omega
    have hrd : decide (r = x.lim) = false := decide_eq_false hr
    have hrb : ((r : Int) == (x.lim : Int)) = false := by simp; omega
    have HK := hid (show ∃ k, x.n = k * x.R ∧ k + 1 ≤ x.lim from ⟨r, HN7.out, by omega⟩)
    have hrl : r + 1 ≤ x.lim := by omega
    have HG := hid (show t.m.n + 2 ^ x.o ≤ 1024 from by
      have h1 : (r + 1) * 2 ^ x.o ≤ x.lim * 2 ^ x.o := Nat.mul_le_mul_right _ hrl
      rw [Nat.add_mul, Nat.one_mul] at h1
      have := HN5.out
      have := HN9.out
      omega)
    have HL := hid (show x.n + x.R ≤ x.lim * x.R from by
      have h1 : (r + 1) * x.R ≤ x.lim * x.R := Nat.mul_le_mul_right _ hrl
      rw [Nat.add_mul, Nat.one_mul] at h1
      have := HN7.out
      omega)
    have HNV := hid (show nv ≤ 1000 from by have := H.out.wb.nc; omega)
    go_region_held3 (fun w' => w'.cell? ⟨W.heap.size, 0, none⟩ = some (.slice va n vc) ∧ w'.cell? ⟨lw, 1, none⟩ = some (.int .i64 (x.lim : Int)) ∧ w'.cell? ⟨lw, 3, none⟩ = some (.pointer (some ⟨x.s, 0, none⟩)) ∧ w'.cell? ⟨lw, 5, none⟩ = some (.pointer (some ⟨x.b, 0, none⟩))) ((refine ⟨?_, ?_, ?_, ?_⟩ <;> first | with_reducible assumption | exact cell_far (by assumption) (by omega))) (first
      | (go_at_call 40; refine RG.out.mono ?_; rintro e w2 ⟨rfl, hk⟩; have H2 := hid (HD.out.keep hk); have B2 := hid (BD.out.keep hk); have y1 := B2.out.k0; obtain ⟨_, y2, _, y3, _, y4, _, _, _, _⟩ := H2.out.wb.lw.c; clear hk)
      | (go_at_call 14; refine (come_any lw x t t.m.n fa fl fc ra nv rc HNV.out w w2 H2.out.wb.lw H2.out.wb.rl HK.out HST.out rfl HG.out).mono ?_; rintro e w3 hq; obtain ⟨he, x3, t3, ra3, rc3, hwb3, hk3, e1, e2, e3, e4, e5, e6, e7⟩ := H2.out.wb.come HL.out HG0.out hq; subst he; have H3 := hid hwb3; have V3 := hid (H2.out.wb.lw.bks H2.out.bk hk3); have B3 := hid (B2.out.call H2.out.wb.lw hk3); have E1 := hid e1; have E2 := hid e2; have E4 := hid e4; have E6 := hid e6; have E7 := hid e7; have FD := hid (Feed_snK x3 t3 _ hwb3.sn e5 (.inr ⟨e4, e1⟩) w3 hwb3.lw.bd); rw [e6] at FD; have u1 := B3.out.k0; obtain ⟨_, u2, _, u3, _, u4, _, _, _, _⟩ := hwb3.lw.c; rw [e2] at u2; rw [e7] at u3; rw [e6] at u4; clear hq hwb3 hk3 e1 e2 e3 e4 e5 e6 e7)
      | (go_at_call 15; refine FD.out.mono ?_; rintro e w4 ⟨rfl, hd⟩; obtain ⟨t4, hwb4, hk4, hn4⟩ := H3.out.done hd (fun g h => by obtain ⟨q, i, h1, h2⟩ := HG0.out g h; exact ⟨q, i, .inl h1, h2⟩); have H4 := hid hwb4; have V4 := hid (H3.out.lw.bks V3.out (hk4.mono (fun _ _ e => .inl e))); have B4 := hid (B3.out.call H3.out.lw (hk4.mono (fun _ _ e => .inl e))); have v1 := B4.out.k0; obtain ⟨_, v2, _, v3, _, v4, _, _, _, _⟩ := hwb4.lw.c; rw [E2.out] at v2; rw [E7.out] at v3; rw [E6.out] at v4; have v5 := B4.out.rc; have vf := B4.out.rf; clear hd hwb4 hk4 hn4)
      | fail)
    all_goals as_aux_lemma =>
      have q0 := show (w4.setCell ⟨W.heap.size + 1 + 1, 0, none⟩ (.slice va n vc)).cell? ⟨W.heap.size + 1 + 1, 0, none⟩ = some (.slice va n vc) from setc B4.out.r0 _
      have h4 := H4.out
      have D := hid ((BW.mk (R := R) (h4.congr fun q i => ⟨fun e => e.1.elim (fun e => e) (fun e2 => absurd ⟨e2.1.trans E4.out.symm, e2.2.trans E1.out.symm⟩ e.2), fun e => ⟨.inl e, fun e2 => by
        have := H.out.wb.sn.al e
        have : 0 < 2 ^ i := Nat.pow_pos (by decide)
        have := E4.out
        omega⟩⟩) H.out.inj V4.out (by have := H.out.nc; omega) H.out.mr).set B4.out.r0 HW0.out (.slice va n vc))
      clear h4
      go_wp2_with fail
      exact ⟨rfl, .tuple #[.agg #[.slice va n vc], .bool true], by simp [results, Tryz.results16, go_sem, q0], _, _, _, _, _, _, _, _, _, _, _, _, Rl.refl _ _, rfl, D.out⟩
end Go.Proofs.YthglogiglimebaaGreat
