import Derived.Test.YthglogiglimebaaGreatKi
import Derived.Deep.DeepCutAuto
import Derived.Deep.RegionHeld3
import Derived.Deep.RegionHeldLaw
/- croftlaw5.do: one is shrunk. -/
namespace Go.Proofs.YthglogiglimebaaGreat
open Go.RowKit
set_option linter.unusedVariables false

set_option maxRecDepth 4000 in
set_option maxHeartbeats 8000000 in
theorem do_shrink {E w W lw c x t fa fl fc ra nv rc va n vc R} (h : BW E w W lw c x t fa fl fc ra nv rc va n vc R) (hc : c ≤ 300) (hG : ∀ g, E.G g → Lp (Lk R n) g) (op : Int) (hop : op = 5) (od wh : Int) (o1 : -9223372036854775808 ≤ od) (o2 : od ≤ 9223372036854775807) (w1 : -9223372036854775808 ≤ wh) (w2 : wh ≤ 9223372036854775807) :
    Calls Tryz.prog 16 #[.pointer (some ⟨lw, 0, none⟩), .agg #[.slice va n vc], .agg #[.int .i64 op, .int .i64 od, .int .i64 wh]] W fun e w' => DoP E R n w lw (c + 1) e w' := by
  obtain ⟨c0, c1, c2, c3, c4, c5, c6, c7, c8, c9⟩ := h.wb.lw.c
  have H := hid h
  have HOP := hid hop
  have HG0 := hid hG
  clear h hop hG
  have hx8 := H.out.wb.nums.1
  have HW0 := hid (show w.heap.size ≤ W.heap.size + 1 + 1 ∧ ∀ v, ¬ E.e (W.heap.size + 1 + 1) v from ⟨Nat.le_trans H.out.wb.lw.kp.size (by omega), fun v hv => absurd (heap_lt (H.out.wb.ex _ _ hv)) (by omega)⟩)
  have hn : n ≤ 300 := Nat.le_trans H.out.nc hc
  have D3 := hid (do3 W (.slice va n vc) op od wh)
  go_enter Tryz.func16, Tryz.ntmps16
  go_upto_region 2 with fail
  (first | go_values | go_skip | go_guarded | go_step | go_upon | go_back | go_simp)
  (first | go_values | go_skip | go_guarded | go_step | go_upon | go_back | go_simp)
  (first | go_values | go_skip | go_guarded | go_step | go_upon | go_back | go_simp)
  (first | go_values | go_skip | go_guarded | go_step | go_upon | go_back | go_simp)
  (first | go_values | go_skip | go_guarded | go_step | go_upon | go_back | go_simp)
  (first | go_values | go_skip | go_guarded | go_step | go_upon | go_back | go_simp)
  (first | go_values | go_skip | go_guarded | go_step | go_upon | go_back | go_simp)
  (first | go_values | go_skip | go_guarded | go_step | go_upon | go_back | go_simp)
  go_cut [9] (fun s9 wx => (∃ wi : Nat, s9 = .int .i64 (wi : Int) ∧ (0 < n → wi < n)) ∧ wx = doW W (.slice va n vc) op od wh)
  case first => as_aux_lemma =>
    rename_i K hK J K2 hJ hM
    clear hK K
    by_cases hn0 : 0 < n
    · by_cases hw0 : 0 < wh
      · go_wp2_with fail
        go_meet
        case rel =>
          refine ⟨⟨(wh % n).toNat, ?_, fun _ => ?_⟩, rfl⟩
          · rw [Int.toNat_of_nonneg (Int.emod_nonneg _ (by omega))]
          · have := Int.emod_lt_of_pos wh (show (0 : Int) < n by omega)
            have := Int.emod_nonneg wh (show (n : Int) ≠ 0 by omega)
            omega
      · have hw1 : wh ≤ 0 := by omega
        go_wp2_with fail
        go_meet
        case rel => exact ⟨⟨0, rfl, fun _ => hn0⟩, rfl⟩
    · go_wp2_with fail
      go_meet
      case rel => exact ⟨⟨0, rfl, fun e => absurd e hn0⟩, rfl⟩
  case rest =>
  obtain ⟨⟨wi, rfl, hwi⟩, rfl⟩ := hcut
  obtain ⟨KD, BXD⟩ := D3.out
  have HWI := hid hwi
  clear hwi
  have C3 := hid (H.out.wb.lw.keep KD).c
  go_upto_region 5 with fail
  (first | go_values | go_skip | go_guarded | go_step | go_upon | go_back | go_simp)
  (first | go_values | go_skip | go_guarded | go_step | go_upon | go_back | go_simp)
  (first | go_values | go_skip | go_guarded | go_step | go_upon | go_back | go_simp)
  (first | go_values | go_skip | go_guarded | go_step | go_upon | go_back | go_simp)
  (first | go_values | go_skip | go_guarded | go_step | go_upon | go_back | go_simp)
  (first | go_values | go_skip | go_guarded | go_step | go_upon | go_back | go_simp)
  (first | go_values | go_skip | go_guarded | go_step | go_upon | go_back | go_simp)
  (first | go_values | go_skip | go_guarded | go_step | go_upon | go_back | go_simp)
  go_cut [10] (fun s10 wx => (∃ oi : Nat, s10 = .int .i64 (oi : Int) ∧ oi ≤ x.o) ∧ Kept none' (doW W (.slice va n vc) op od wh) wx)
  case first => as_aux_lemma =>
    rename_i K hK J K2 hJ hM
    clear hK K
    clear c0 c1 c2 c3 c4 c5 c6 c7 c8 c9
    obtain ⟨c0, c1, c2, c3, c4, c5, c6, c7, c8, c9⟩ := C3.out
    obtain ⟨_, _, a0, a1, a2, a3, a4, a5, af⟩ := BXD
    have K0 := hid (Kept.refl none' (doW W (.slice va n vc) op od wh))
    clear KD
    by_cases ho0 : 0 < od
    · have hq : Hid (∃ oi : Nat, od % ((x.o : Int) + 1) = (oi : Int) ∧ oi ≤ x.o) := hid (by
        have h1 := Int.emod_lt_of_pos od (show (0 : Int) < (x.o : Int) + 1 by omega)
        have h2 := Int.emod_nonneg od (show (x.o : Int) + 1 ≠ 0 by omega)
        exact ⟨(od % ((x.o : Int) + 1)).toNat, by omega, by omega⟩)
      go_wp2_with fail
      go_quiet (fail)
      go_wp2_with fail
      go_meet
      case rel =>
        obtain ⟨oi, h1, h2⟩ := hq.out
        exact ⟨⟨oi, by rw [h1], h2⟩, K0.out.drewN _⟩
    · have ho1 : od ≤ 0 := by omega
      go_wp2_with fail
      go_meet
      case rel => exact ⟨⟨0, rfl, Nat.zero_le _⟩, K0.out⟩
  case rest =>
  obtain ⟨⟨oi, rfl, hoi⟩, hkc⟩ := hcut
  have HB := hid (H.out.keep (none_trans KD hkc))
  have BXC := hid (BXD.keep hkc)
  clear c0 c1 c2 c3 c4 c5 c6 c7 c8 c9 C3 D3 KD BXD hkc
  obtain ⟨c0, c1, c2, c3, c4, c5, c6, c7, c8, c9⟩ := HB.out.wb.lw.c
  obtain ⟨_, _, a0, a1, a2, a3, a4, a5, af⟩ := BXC.out
  have hop := HOP.out
  subst hop
  by_cases hn0 : n = 0
  · as_aux_lemma =>
    subst hn0
    have q0 := show (wc.setCell ⟨W.heap.size + 1 + 1, 0, none⟩ (.slice va 0 vc)).cell? ⟨W.heap.size + 1 + 1, 0, none⟩ = some (.slice va 0 vc) from setc BXC.out.r0 _
    go_wp2_with fail
    exact ⟨rfl, .tuple #[.agg #[.slice va 0 vc], .bool true], by simp [results, Tryz.results16, go_sem, q0], _, _, _, _, _, _, _, _, _, _, _, _, Rl.refl _ _, rfl, (HB.out.set BXC.out.r0 HW0.out _).mono (Nat.le_succ _)⟩
  · as_aux_lemma =>
    have hw := HWI.out (by omega)
    have hwI : (wi : Int) < (n : Int) := by omega
    have hnI : ¬ (n : Int) = 0 := by omega
    have hnd : decide (n = 0) = false := decide_eq_false hn0
    obtain ⟨g0, hva, r0, r1, r2⟩ := HB.out.bk.get wi hw
    subst hva
    by_cases hlt : (R wi).od < oi
    · as_aux_lemma =>
      have hltI : ((R wi).od : Int) < (oi : Int) := by omega
      have q0 := show (wc.setCell ⟨W.heap.size + 1 + 1, 0, none⟩ (.slice (some ⟨g0, 0, none⟩) n vc)).cell? ⟨W.heap.size + 1 + 1, 0, none⟩ = some (.slice (some ⟨g0, 0, none⟩) n vc) from setc BXC.out.r0 _
      go_wp2_with fail
      exact ⟨rfl, .tuple #[.agg #[.slice (some ⟨g0, 0, none⟩) n vc], .bool true], by simp [results, Tryz.results16, go_sem, q0], _, _, _, _, _, _, _, _, _, _, _, _, Rl.refl _ _, rfl, (HB.out.set BXC.out.r0 HW0.out _).mono (Nat.le_succ _)⟩
    · as_aux_lemma =>
      have hltI : ¬ ((R wi).od : Int) < (oi : Int) := by omega
      have hle : oi ≤ (R wi).od := by omega
      obtain ⟨n1, n2, n3, n4, _, n8, n9⟩ := HB.out.wb.nums
      obtain ⟨z1, z2, z3⟩ := HB.out.wb.rng wi hw
      have hst := HB.out.wb.st
      have hz0 : 0 < 2 ^ (R wi).od := Nat.pow_pos (by decide)
      have hpg1 : (R wi).pg ≤ 1024 := by omega
      have hpg2 : x.base + 4096 * (R wi).pg < 18446744073709551616 := by omega
      have hlw := H.out.wb.lw.lt lw (.inr rfl)
      have hwc : W.heap.size + 1 + 1 < wc.heap.size := heap_lt BXC.out.r0
      have LTS := hid HB.out.wb.lw.lts
      have LTR := hid (show ∀ y, (Value.slice ra nv rc).ownBlock = some y → y < wc.heap.size from fun y e => HB.out.wb.rl.lt e)
      have LTB := hid (show ∀ y, (Value.slice (some ⟨g0, 0, none⟩) n vc).ownBlock = some y → y < wc.heap.size from fun y e => (World.ownsRow.lt HB.out.bk y e).2)
      have LTE := hid (show ∀ y v, E.e y v → ¬ y = wc.heap.size from fun y v hy e => absurd (heap_lt (HB.out.wb.ex y v hy)) (by omega))
      have WWC := hid (show w.heap.size ≤ wc.heap.size from HB.out.wb.lw.kp.size)
      have K1 := ((Kept.refl none' wc).alloc (.cells #[.int .i64 ((R wi).pg : Int), .int .i64 ((R wi).od : Int), .int .u8 ((R wi).mark : Int)] 62)).drew
      have HD := hid (HB.out.keep K1)
      have BD := hid (BXC.out.keep K1)
      have XD := hid (show ((wc.alloc (.cells #[.int .i64 ((R wi).pg : Int), .int .i64 ((R wi).od : Int), .int .u8 ((R wi).mark : Int)] 62)).drew).heap[wc.heap.size]? = some (.cells #[.int .i64 ((R wi).pg : Int), .int .i64 ((R wi).od : Int), .int .u8 ((R wi).mark : Int)] 62) from heap_new wc _)
      have AT := hid (at_ok HD.out.wb.lw (R wi).pg hpg1 hpg2)
      have SH := hid (Shrink_snK x t (Lk R n) HD.out.wb.sn (R wi).pg (R wi).od oi ⟨wi, hw, rfl, rfl⟩ hle _ HD.out.wb.lw.bd)
      have HW := hid hw
      have HLT := hid H.out.wb.lw.lt
      obtain ⟨_, _, _, _, _, d2, _, _, _, _⟩ := HD.out.wb.lw.c
      obtain ⟨d3, d4, _, _⟩ := bx33 XD.out
      clear n1 n2 n3 n4 n8 n9 z1 z2 z3 hst hz0 K1 hpg1 hpg2
      go_wp2_with fail
      go_region_held3 (fun w' => w'.cell? ⟨lw, 5, none⟩ = some (.pointer (some ⟨x.b, 0, none⟩)) ∧ w'.cell? ⟨wc.heap.size, 0, none⟩ = some (.int .i64 ((R wi).pg : Int)) ∧ w'.cell? ⟨wc.heap.size, 1, none⟩ = some (.int .i64 ((R wi).od : Int))) ((refine ⟨?_, ?_, ?_⟩ <;> first | with_reducible assumption)) (first
        | (go_at_call 11; refine AT.out.mono ?_; rintro e w2 ⟨rfl, h2⟩; replace h2 := h2.symm; subst h2)
        | (go_at_call 50; refine SH.out.mono ?_; rintro e w3 ⟨rfl, hd⟩; obtain ⟨t3, hwb3, hk3, hn3⟩ := HD.out.wb.done hd HG0.out; have H3 := hid hwb3; have V3 := hid (HD.out.wb.lw.bks HD.out.bk (hk3.mono (fun _ _ e => .inl e))); have B3 := hid (BD.out.kept hk3 (fun y e => HLT.out y (.inl e))); have X3 := hid ((hk3.block _ (heap_lt XD.out) (fun e => absurd (HLT.out _ (.inl e)) (by omega))).trans XD.out); obtain ⟨_, _, _, _, _, u2, _, _, _, _⟩ := H3.out.lw.c; obtain ⟨u3, u4, _, _⟩ := bx33 X3.out; clear hd hwb3 hk3 hn3)
        | fail)
      all_goals
        have kS : Kept (fun y => y = wc.heap.size) w3 (w3.setCell ⟨wc.heap.size, 1, none⟩ (.int .i64 (oi : Int))) := (Kept.refl (fun y => y = wc.heap.size) w3).setCell (p := ⟨wc.heap.size, 1, none⟩) rfl _
        have H4 := hid (H3.out.other kS (fun y hy e => absurd (LTS.out y hy) (by have e : y = wc.heap.size := e; omega)) (fun y hy e => absurd (LTR.out y hy) (by have e : y = wc.heap.size := e; omega)) (fun y e => by have e : y = wc.heap.size := e; have := WWC.out; omega) LTE.out)
        have V4 := hid (V3.out.kept kS (fun y hy e => absurd (LTB.out y hy) (by have e : y = wc.heap.size := e; omega)))
        have B4 := hid (B3.out.keptN kS (by omega) (by omega) (by omega))
        have X4 := hid (show (w3.setCell ⟨wc.heap.size, 1, none⟩ (.int .i64 (oi : Int))).heap[wc.heap.size]? = some (.cells #[.int .i64 ((R wi).pg : Int), .int .i64 (oi : Int), .int .u8 ((R wi).mark : Int)] 62) from heap_set X3.out 1 _)
        obtain ⟨e0, e1, e2, ef⟩ := bx33 X3.out
        have f0 := B4.out.k0
        have f1 := B3.out.k0
        have WO := hid (without_any (some ⟨g0, 0, none⟩) n vc R (by omega) wi hw _ V4.out)
        clear kS u2 u3 u4 d2 d3 d4 AT SH
        go_wp2_with fail
        refine WO.out.mono ?_
        rintro e w5 ⟨va2, vc2, rfl, hk, hb⟩
        have H5 := hid (H4.out.keep hk)
        have V5 := hid hb
        have B5 := hid (B4.out.keep hk)
        have X5 := hid ((hk.block _ (heap_lt X4.out) (fun e => e)).trans X4.out)
        have hw5 : wc.heap.size < w5.heap.size := heap_lt X5.out
        clear hk hb e0 e1 e2 ef f0 f1 WO H4 V4 B4 X4 H3 V3 B3 X3 HD BD XD c0 c1 c2 c3 c4 c5 c6 c7 c8 c9 a0 a1 a2 a3 a4 a5 af r0 r1 r2
        have K6 := (Kept.refl none' w5).alloc (.cells #[.slice va2 (n - 1) vc2] 54)
        have H6 := hid (H5.out.keep K6)
        have V6 := hid (V5.out.kept K6 (fun _ _ e => e))
        have B6 := hid (B5.out.keep K6)
        have X6 := hid ((K6.block _ (heap_lt X5.out) (fun e => e)).trans X5.out)
        have Y6 := hid (show (w5.alloc (.cells #[.slice va2 (n - 1) vc2] 54)).cell? ⟨w5.heap.size, 0, none⟩ = some (.slice va2 (n - 1) vc2) from by
          have hh := heap_new w5 (.cells #[.slice va2 (n - 1) vc2] 54)
          simp only [World.cell?, hh]
          rfl)
        clear K6 H5 V5 B5 X5
        go_wp2_with fail
        generalize w5.alloc (.cells #[.slice va2 (n - 1) vc2] 54) = w6 at *
        have kd := (Kept.refl none' w6).drew
        have l0 := kd.cell (fun e => e) Y6.out
        obtain ⟨e0, e1, e2, _⟩ := bx33 ((kd.block _ (heap_lt X6.out) (fun e => e)).trans X6.out)
        clear kd
        go_region_held3 (fun w' => w'.cell? ⟨w5.heap.size, 0, none⟩ = some (.slice va2 (n - 1) vc2) ∧ w'.cell? ⟨wc.heap.size, 0, none⟩ = some (.int .i64 ((R wi).pg : Int)) ∧ w'.cell? ⟨wc.heap.size, 1, none⟩ = some (.int .i64 (oi : Int)) ∧ w'.cell? ⟨wc.heap.size, 2, none⟩ = some (.int .u8 ((R wi).mark : Int))) ((refine ⟨?_, ?_, ?_, ?_⟩ <;> first | with_reducible assumption | exact alloc_cellL (by assumption) | exact cell_far (by assumption) (by omega) | exact ((((Kept.refl none' w6).alloc _).alloc _).drew).cell (fun e => e) Y6.out | exact ((((Kept.refl none' w6).alloc _).alloc _).drew).cell (fun e => e) (bx33 X6.out).1 | exact ((((Kept.refl none' w6).alloc _).alloc _).drew).cell (fun e => e) (bx33 X6.out).2.1 | exact ((((Kept.refl none' w6).alloc _).alloc _).drew).cell (fun e => e) (bx33 X6.out).2.2.1)) (first
          | (refine step_app1 (W5 := w6) (by first | exact ((Kept.refl none' w6).alloc _).drew | exact (((Kept.refl none' w6).alloc _).alloc _).drew) V6.out (by omega) rfl (.tmp 212) (.tmp 214) rfl _ rfl (by first | exact heap_new w6 _ | exact (two5 w6 _ _).2.1 | exact heap_new2 w6 _ _) (by first | exact Nat.le_refl _ | exact Nat.le_succ _ | omega) rfl ?_; intro g cap w7 hG hkp hge; have HG := hid hG; have HKP := hid hkp; have y0 := hG.kp.cell (fun e => e) Y6.out; have y1 := hG.kp.cell (fun e => e) (bx33 X6.out).1; have y2 := hG.kp.cell (fun e => e) (bx33 X6.out).2.1; have y3 := hG.kp.cell (fun e => e) (bx33 X6.out).2.2.1; clear hG hkp)
          | (refine step_app2 (W5 := w6) (by first | exact HG.out | exact HG.out.keep ((Kept.refl none' w7).alloc _) | exact HG.out.keep (((Kept.refl none' w7).alloc _).drew)) (by omega) rfl (.tmp 215) (.tmp 217) rfl rfl _ 1 _ _ _ rfl (by first | exact heap_new w7 _ | exact HKP.out _ _ (heap_new2 w6 _ _) (by omega) | exact HKP.out _ _ (two5 w6 _ _).2.1 (by omega)) ?_; intro g2 cap2 w8 hG2 hge2; have HG2 := hid hG2; have B8 := hid (B6.out.keep hG2.kp); have z0 := hG2.kp.cell (fun e => e) Y6.out; have z1 := hG2.kp.cell (fun e => e) (bx33 X6.out).1; have z2 := hG2.kp.cell (fun e => e) (bx33 X6.out).2.1; have z3 := hG2.kp.cell (fun e => e) (bx33 X6.out).2.2.1; have z5 := B8.out.rc; have zf := B8.out.rf; clear hG2)
          | fail)
        all_goals as_aux_lemma =>
          have q0 := show (w8.setCell ⟨W.heap.size + 1 + 1, 0, none⟩ (.slice (some ⟨g2, 0, none⟩) (n - 1 + 1) cap2)).cell? ⟨W.heap.size + 1 + 1, 0, none⟩ = some (.slice (some ⟨g2, 0, none⟩) (n - 1 + 1) cap2) from setc B8.out.r0 _
          have D := hid ((put_bw H6.out (R := wo R wi) (n := n - 1) (p := (R wi).pg) (k := oi) (fun q i => by rw [Lk.wo H.out.inj HW.out]) (H.out.inj.wo HW.out) (fun hl => by
            rw [Lk.wo H.out.inj HW.out] at hl
            obtain ⟨h1, h2⟩ := hl
            have hz1 : 0 < 2 ^ oi := Nat.pow_pos (by decide)
            have hz2 : 0 < 2 ^ (R wi).od := Nat.pow_pos (by decide)
            rcases H.out.wb.sn.apart h1 ⟨wi, HW.out, rfl, rfl⟩ with e | e | e
            · exact h2 ⟨rfl, e.2⟩
            · omega
            · omega) (by have := H.out.nc; omega) ⟨by omega, by have := H.out.mr wi HW.out; omega⟩ (mr_wo HW.out H.out.mr) HG2.out).set B8.out.r0 HW0.out (.slice (some ⟨g2, 0, none⟩) (n - 1 + 1) cap2))
          have RSH := hid (Rl.sh R n wi oi HW.out hle)
          clear y0 y1 y2 y3 z0 z1 z2 z3 z5 zf l0 e0 e1 e2
          go_wp2_with fail
          exact ⟨rfl, .tuple #[.agg #[.slice (some ⟨g2, 0, none⟩) (n - 1 + 1) cap2], .bool true], by simp [results, Tryz.results16, go_sem, q0], _, _, _, _, _, _, _, _, _, _, _, _, RSH.out, rfl, D.out⟩
end Go.Proofs.YthglogiglimebaaGreat
