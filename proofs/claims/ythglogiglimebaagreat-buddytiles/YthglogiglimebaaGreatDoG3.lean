import Derived.Test.YthglogiglimebaaGreatKi
import Derived.Deep.DeepCutAuto
import Derived.Deep.RegionHeld3
import Derived.Deep.RegionHeldLaw
/- croftlaw5.do: one is given back. -/
namespace Go.Proofs.YthglogiglimebaaGreat
open Go.RowKit
set_option linter.unusedVariables false

set_option maxRecDepth 4000 in
set_option maxHeartbeats 8000000 in
theorem do_give3 {E w W lw c x t fa fl fc ra nv rc va n vc R} (h : BW E w W lw c x t fa fl fc ra nv rc va n vc R) (hc : c ≤ 300) (hG : ∀ g, E.G g → Lp (Lk R n) g) (op : Int) (hop : op = 3) (od wh : Int) (o1 : -9223372036854775808 ≤ od) (o2 : od ≤ 9223372036854775807) (w1 : -9223372036854775808 ≤ wh) (w2 : wh ≤ 9223372036854775807) :
    Calls Tryz.prog 16 #[.pointer (some ⟨lw, 0, none⟩), .agg #[.slice va n vc], .agg #[.int .i64 op, .int .i64 od, .int .i64 wh]] W fun e w' => DoP E R n w lw (c + 1) e w' := by
  obtain ⟨c0, c1, c2, c3, c4, c5, c6, c7, c8, c9⟩ := h.wb.lw.c
  have H := hid h
  have HOP := hid hop
  have HG0 := hid hG
  clear h hop hG
  have hx8 := H.out.wb.nums.1
  have HW0 := hid (show w.heap.size ≤ W.heap.size + 1 + 1 ∧ ∀ v, ¬ E.e (W.heap.size + 1 + 1) v from ⟨Nat.le_trans H.out.wb.lw.kp.size (by omega), fun v hv => absurd (heap_lt (H.out.wb.ex _ _ hv)) (by omega)⟩)
  have hn : n ≤ 300 := Nat.le_trans H.out.nc hc
  have D3 := hid (do3 W (.slice va n vc) op od wh)
  go_enter Tryz.func16, Tryz.ntmps16
  go_upto_region 2 with fail
  (first | go_values | go_skip | go_guarded | go_step | go_upon | go_back | go_simp)
  (first | go_values | go_skip | go_guarded | go_step | go_upon | go_back | go_simp)
  (first | go_values | go_skip | go_guarded | go_step | go_upon | go_back | go_simp)
  (first | go_values | go_skip | go_guarded | go_step | go_upon | go_back | go_simp)
  (first | go_values | go_skip | go_guarded | go_step | go_upon | go_back | go_simp)
  (first | go_values | go_skip | go_guarded | go_step | go_upon | go_back | go_simp)
  (first | go_values | go_skip | go_guarded | go_step | go_upon | go_back | go_simp)
  (first | go_values | go_skip | go_guarded | go_step | go_upon | go_back | go_simp)
  go_cut [9] (fun s9 wx => (∃ wi : Nat, s9 = .int .i64 (wi : Int) ∧ (0 < n → wi < n)) ∧ wx = doW W (.slice va n vc) op od wh)
  case first => as_aux_lemma =>
    rename_i K hK J K2 hJ hM
    clear hK K
    by_cases hn0 : 0 < n
    · by_cases hw0 : 0 < wh
      · go_wp2_with fail
        go_meet
        case rel =>
          refine ⟨⟨(wh % n).toNat, ?_, fun _ => ?_⟩, rfl⟩
          · rw [Int.toNat_of_nonneg (Int.emod_nonneg _ (by omega))]
          · have := Int.emod_lt_of_pos wh (show (0 : Int) < n by omega)
            have := Int.emod_nonneg wh (show (n : Int) ≠ 0 by omega)
            omega
      · have hw1 : wh ≤ 0 := by omega
        go_wp2_with fail
        go_meet
        case rel => exact ⟨⟨0, rfl, fun _ => hn0⟩, rfl⟩
    · go_wp2_with fail
      go_meet
      case rel => exact ⟨⟨0, rfl, fun e => absurd e hn0⟩, rfl⟩
  case rest =>
  obtain ⟨⟨wi, rfl, hwi⟩, rfl⟩ := hcut
  obtain ⟨KD, BXD⟩ := D3.out
  have HWI := hid hwi
  clear hwi
  have C3 := hid (H.out.wb.lw.keep KD).c
  go_upto_region 5 with fail
  (first | go_values | go_skip | go_guarded | go_step | go_upon | go_back | go_simp)
  (first | go_values | go_skip | go_guarded | go_step | go_upon | go_back | go_simp)
  (first | go_values | go_skip | go_guarded | go_step | go_upon | go_back | go_simp)
  (first | go_values | go_skip | go_guarded | go_step | go_upon | go_back | go_simp)
  (first | go_values | go_skip | go_guarded | go_step | go_upon | go_back | go_simp)
  (first | go_values | go_skip | go_guarded | go_step | go_upon | go_back | go_simp)
  (first | go_values | go_skip | go_guarded | go_step | go_upon | go_back | go_simp)
  (first | go_values | go_skip | go_guarded | go_step | go_upon | go_back | go_simp)
  go_cut [10] (fun s10 wx => (∃ oi : Nat, s10 = .int .i64 (oi : Int) ∧ oi ≤ x.o) ∧ Kept none' (doW W (.slice va n vc) op od wh) wx)
  case first => as_aux_lemma =>
    rename_i K hK J K2 hJ hM
    clear hK K
    clear c0 c1 c2 c3 c4 c5 c6 c7 c8 c9
    obtain ⟨c0, c1, c2, c3, c4, c5, c6, c7, c8, c9⟩ := C3.out
    obtain ⟨_, _, a0, a1, a2, a3, a4, a5, af⟩ := BXD
    have K0 := hid (Kept.refl none' (doW W (.slice va n vc) op od wh))
    clear KD
    by_cases ho0 : 0 < od
    · have hq : Hid (∃ oi : Nat, od % ((x.o : Int) + 1) = (oi : Int) ∧ oi ≤ x.o) := hid (by
        have h1 := Int.emod_lt_of_pos od (show (0 : Int) < (x.o : Int) + 1 by omega)
        have h2 := Int.emod_nonneg od (show (x.o : Int) + 1 ≠ 0 by omega)
        exact ⟨(od % ((x.o : Int) + 1)).toNat, by omega, by omega⟩)
      go_wp2_with fail
      go_quiet (fail)
      go_wp2_with fail
      go_meet
      case rel =>
        obtain ⟨oi, h1, h2⟩ := hq.out
        exact ⟨⟨oi, by rw [h1], h2⟩, K0.out.drewN _⟩
    · have ho1 : od ≤ 0 := by omega
      go_wp2_with fail
      go_meet
      case rel => exact ⟨⟨0, rfl, Nat.zero_le _⟩, K0.out⟩
  case rest =>
  obtain ⟨⟨oi, rfl, hoi⟩, hkc⟩ := hcut
  have HB := hid (H.out.keep (none_trans KD hkc))
  have BXC := hid (BXD.keep hkc)
  clear c0 c1 c2 c3 c4 c5 c6 c7 c8 c9 C3 D3 KD BXD hkc
  obtain ⟨c0, c1, c2, c3, c4, c5, c6, c7, c8, c9⟩ := HB.out.wb.lw.c
  obtain ⟨_, _, a0, a1, a2, a3, a4, a5, af⟩ := BXC.out
  have hop := HOP.out
  subst hop
  by_cases hn0 : n = 0
  · as_aux_lemma =>
    subst hn0
    have q0 := show (wc.setCell ⟨W.heap.size + 1 + 1, 0, none⟩ (.slice va 0 vc)).cell? ⟨W.heap.size + 1 + 1, 0, none⟩ = some (.slice va 0 vc) from setc BXC.out.r0 _
    go_wp2_with fail
    exact ⟨rfl, .tuple #[.agg #[.slice va 0 vc], .bool true], by simp [results, Tryz.results16, go_sem, q0], _, _, _, _, _, _, _, _, _, _, _, _, Rl.refl _ _, rfl, (HB.out.set BXC.out.r0 HW0.out _).mono (Nat.le_succ _)⟩
  · as_aux_lemma =>
    have hw := HWI.out (by omega)
    have hwI : (wi : Int) < (n : Int) := by omega
    have hnI : ¬ (n : Int) = 0 := by omega
    obtain ⟨g0, hva, r0, r1, r2⟩ := HB.out.bk.get wi hw
    subst hva
    obtain ⟨n1, n2, n3, n4, _, n8, n9⟩ := HB.out.wb.nums
    obtain ⟨z1, z2, z3⟩ := HB.out.wb.rng wi hw
    have hst := HB.out.wb.st
    have hz0 : 0 < 2 ^ (R wi).od := Nat.pow_pos (by decide)
    have hpg : (R wi).pg < t.m.n := by omega
    have hpg1 : (R wi).pg ≤ 1024 := by omega
    have hpg2 : x.base + 4096 * (R wi).pg < 18446744073709551616 := by omega
    have hlw := H.out.wb.lw.lt lw (.inr rfl)
    have hwc : W.heap.size + 1 + 1 < wc.heap.size := heap_lt BXC.out.r0
    have K1 := ((Kept.refl none' wc).alloc (.cells #[.int .i64 ((R wi).pg : Int), .int .i64 ((R wi).od : Int), .int .u8 ((R wi).mark : Int)] 62)).drew
    have HD := hid (HB.out.keep K1)
    have BD := hid (BXC.out.keep K1)
    have XD := hid (show ((wc.alloc (.cells #[.int .i64 ((R wi).pg : Int), .int .i64 ((R wi).od : Int), .int .u8 ((R wi).mark : Int)] 62)).drew).heap[wc.heap.size]? = some (.cells #[.int .i64 ((R wi).pg : Int), .int .i64 ((R wi).od : Int), .int .u8 ((R wi).mark : Int)] 62) from heap_new wc _)
    have WO := hid (without_any (some ⟨g0, 0, none⟩) n vc R (by omega) wi hw _ HD.out.bk)
    have HLT := hid (H.out.wb.lw.lt)
    have HW := hid hw
    have d1 := BD.out.k0
    obtain ⟨_, _, _, _, _, d2, _, _, _, _⟩ := HD.out.wb.lw.c
    obtain ⟨d3, d4⟩ := bx3 XD.out
    clear n1 n2 n3 n4 n8 n9 z1 z2 z3 hst hz0 K1
    go_wp2_with fail
    go_region_held3 (fun w' => w'.cell? ⟨W.heap.size, 0, none⟩ = some (.slice (some ⟨g0, 0, none⟩) n vc) ∧ w'.cell? ⟨lw, 5, none⟩ = some (.pointer (some ⟨x.b, 0, none⟩)) ∧ w'.cell? ⟨wc.heap.size, 0, none⟩ = some (.int .i64 ((R wi).pg : Int)) ∧ w'.cell? ⟨wc.heap.size, 1, none⟩ = some (.int .i64 ((R wi).od : Int))) ((refine ⟨?_, ?_, ?_, ?_⟩ <;> first | with_reducible assumption | exact cell_far (by assumption) (by omega))) (first
      | (go_at_call 19; refine WO.out.mono ?_; rintro e w2 ⟨va2, vc2, rfl, hk, hb⟩; have H2 := hid (HD.out.wb.keep hk); have V2 := hid hb; have B2 := hid (BD.out.keep hk); have X2 := hid ((hk.block _ (heap_lt XD.out) (fun e => e)).trans XD.out); have y1 := B2.out.k0; obtain ⟨_, _, _, _, _, y2, _, _, _, _⟩ := H2.out.lw.c; obtain ⟨y3, y4⟩ := bx3 X2.out; clear hk hb)
      | (go_at_call 11; refine (at_ok H2.out.lw (R wi).pg hpg1 hpg2).mono ?_; rintro e w3 ⟨rfl, h3⟩; replace h3 := h3.symm; subst h3)
      | (go_at_call 18; refine (Give_snK x t (Lk R n) H2.out.sn (R wi).pg (R wi).od ⟨wi, HW.out, rfl, rfl⟩ w2 H2.out.lw.bd).mono ?_; rintro e w4 ⟨rfl, hd⟩; obtain ⟨t4, hwb4, hk4, hn4⟩ := H2.out.done hd HG0.out; have H4 := hid hwb4; have N4 := hid hn4; have V4 := hid (H2.out.lw.bks V2.out (hk4.mono (fun _ _ e => .inl e))); have B4 := hid (B2.out.kept hk4 (fun y e => HLT.out y (.inl e))); have X4 := hid ((hk4.block _ (heap_lt X2.out) (fun e => absurd (HLT.out _ (.inl e)) (by omega))).trans X2.out); have u1 := B4.out.k0; obtain ⟨_, _, _, _, _, u2, _, _, _, _⟩ := H4.out.lw.c; obtain ⟨u3, u4⟩ := bx3 X4.out; clear hd hwb4 hk4 hn4)
      | (go_at_call 11; refine (at_ok H4.out.lw (R wi).pg hpg1 hpg2).mono ?_; rintro e w5 ⟨rfl, h5⟩; replace h5 := h5.symm; subst h5)
      | (go_at_call 18; refine (Give_no_sn x t4 _ H4.out.sn (R wi).pg (R wi).od (by rw [N4.out]; exact hpg) (fun e => e.2 ⟨rfl, rfl⟩) w4 H4.out.lw.bd).mono ?_; rintro e w6 ⟨rfl, hk⟩; have H6 := hid (H4.out.keep hk); have V6 := hid (V4.out.kept hk (fun _ _ e => e)); have B6 := hid (B4.out.keep hk); have X6 := hid ((hk.block _ (heap_lt X4.out) (fun e => e)).trans X4.out); have v1 := B6.out.k0; obtain ⟨_, _, _, _, _, v2, _, _, _, _⟩ := H6.out.lw.c; obtain ⟨v3, v4⟩ := bx3 X6.out; have v5 := B6.out.rc; have vf := B6.out.rf; clear hk)
      | fail)
    all_goals as_aux_lemma =>
      have q0 := show (w6.setCell ⟨W.heap.size + 1 + 1, 0, none⟩ (.slice va2 (n - 1) vc2)).cell? ⟨W.heap.size + 1 + 1, 0, none⟩ = some (.slice va2 (n - 1) vc2) from setc B6.out.r0 _
      have h6 := H6.out
      have D := hid ((BW.mk (R := wo R wi) (h6.congr fun q i => (Lk.wo H.out.inj HW.out q i).symm) (H.out.inj.wo HW.out) V6.out (by have := H.out.nc; omega) (mr_wo HW.out H.out.mr)).set B6.out.r0 HW0.out (.slice va2 (n - 1) vc2))
      clear h6
      go_wp2_with fail
      exact ⟨rfl, .tuple #[.agg #[.slice va2 (n - 1) vc2], .bool true], by simp [results, Tryz.results16, go_sem, q0], _, _, _, _, _, _, _, _, _, _, _, _, Rl.wo _ _ _ HW.out, rfl, D.out.mono (Nat.le_succ _)⟩
end Go.Proofs.YthglogiglimebaaGreat
