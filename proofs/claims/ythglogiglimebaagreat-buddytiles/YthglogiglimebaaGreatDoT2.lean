import Derived.Test.YthglogiglimebaaGreatKi
import Derived.Deep.DeepCutAuto
import Derived.Deep.RegionHeld3
import Derived.Deep.RegionHeldLaw
/- croftlaw5.do: a block is taken. -/
namespace Go.Proofs.YthglogiglimebaaGreat
open Go.RowKit
set_option linter.unusedVariables false

set_option maxRecDepth 4000 in
set_option maxHeartbeats 8000000 in
theorem do_take2 {E w W lw c x t fa fl fc ra nv rc va n vc R} (h : BW E w W lw c x t fa fl fc ra nv rc va n vc R) (hc : c ≤ 300) (hG : ∀ g, E.G g → Lp (Lk R n) g) (op : Int) (hop : op = 2) (od wh : Int) (o1 : -9223372036854775808 ≤ od) (o2 : od ≤ 9223372036854775807) (w1 : -9223372036854775808 ≤ wh) (w2 : wh ≤ 9223372036854775807) :
    Calls Tryz.prog 16 #[.pointer (some ⟨lw, 0, none⟩), .agg #[.slice va n vc], .agg #[.int .i64 op, .int .i64 od, .int .i64 wh]] W fun e w' => DoP E R n w lw (c + 1) e w' := by
  obtain ⟨c0, c1, c2, c3, c4, c5, c6, c7, c8, c9⟩ := h.wb.lw.c
  have H := hid h
  have HOP := hid hop
  have HG0 := hid hG
  clear h hop hG
  have hx8 := H.out.wb.nums.1
  have HW0 := hid (show w.heap.size ≤ W.heap.size + 1 + 1 ∧ ∀ v, ¬ E.e (W.heap.size + 1 + 1) v from ⟨Nat.le_trans H.out.wb.lw.kp.size (by omega), fun v hv => absurd (heap_lt (H.out.wb.ex _ _ hv)) (by omega)⟩)
  have hn : n ≤ 300 := Nat.le_trans H.out.nc hc
  have D3 := hid (do3 W (.slice va n vc) op od wh)
  go_enter Tryz.func16, Tryz.ntmps16
  go_upto_region 2 with fail
  (first | go_values | go_skip | go_guarded | go_step | go_upon | go_back | go_simp)
  (first | go_values | go_skip | go_guarded | go_step | go_upon | go_back | go_simp)
  (first | go_values | go_skip | go_guarded | go_step | go_upon | go_back | go_simp)
  (first | go_values | go_skip | go_guarded | go_step | go_upon | go_back | go_simp)
  (first | go_values | go_skip | go_guarded | go_step | go_upon | go_back | go_simp)
  (first | go_values | go_skip | go_guarded | go_step | go_upon | go_back | go_simp)
  (first | go_values | go_skip | go_guarded | go_step | go_upon | go_back | go_simp)
  (first | go_values | go_skip | go_guarded | go_step | go_upon | go_back | go_simp)
  go_cut [9] (fun s9 wx => (∃ wi : Nat, s9 = .int .i64 (wi : Int) ∧ (0 < n → wi < n)) ∧ wx = doW W (.slice va n vc) op od wh)
  case first => as_aux_lemma =>
    rename_i K hK J K2 hJ hM
    clear hK K
    by_cases hn0 : 0 < n
    · by_cases hw0 : 0 < wh
      · go_wp2_with fail
        go_meet
        case rel =>
          refine ⟨⟨(wh % n).toNat, ?_, fun _ => ?_⟩, rfl⟩
          · rw [Int.toNat_of_nonneg (Int.emod_nonneg _ (by omega))]
          · have := Int.emod_lt_of_pos wh (show (0 : Int) < n by omega)
            have := Int.emod_nonneg wh (show (n : Int) ≠ 0 by omega)
            omega
      · have hw1 : wh ≤ 0 := by omega
        go_wp2_with fail
        go_meet
        case rel => exact ⟨⟨0, rfl, fun _ => hn0⟩, rfl⟩
    · go_wp2_with fail
      go_meet
      case rel => exact ⟨⟨0, rfl, fun e => absurd e hn0⟩, rfl⟩
  case rest =>
  obtain ⟨⟨wi, rfl, hwi⟩, rfl⟩ := hcut
  obtain ⟨KD, BXD⟩ := D3.out
  have HWI := hid hwi
  clear hwi
  have C3 := hid (H.out.wb.lw.keep KD).c
  go_upto_region 5 with fail
  (first | go_values | go_skip | go_guarded | go_step | go_upon | go_back | go_simp)
  (first | go_values | go_skip | go_guarded | go_step | go_upon | go_back | go_simp)
  (first | go_values | go_skip | go_guarded | go_step | go_upon | go_back | go_simp)
  (first | go_values | go_skip | go_guarded | go_step | go_upon | go_back | go_simp)
  (first | go_values | go_skip | go_guarded | go_step | go_upon | go_back | go_simp)
  (first | go_values | go_skip | go_guarded | go_step | go_upon | go_back | go_simp)
  (first | go_values | go_skip | go_guarded | go_step | go_upon | go_back | go_simp)
  (first | go_values | go_skip | go_guarded | go_step | go_upon | go_back | go_simp)
  go_cut [10] (fun s10 wx => (∃ oi : Nat, s10 = .int .i64 (oi : Int) ∧ oi ≤ x.o) ∧ Kept none' (doW W (.slice va n vc) op od wh) wx)
  case first => as_aux_lemma =>
    rename_i K hK J K2 hJ hM
    clear hK K
    clear c0 c1 c2 c3 c4 c5 c6 c7 c8 c9
    obtain ⟨c0, c1, c2, c3, c4, c5, c6, c7, c8, c9⟩ := C3.out
    obtain ⟨_, _, a0, a1, a2, a3, a4, a5, af⟩ := BXD
    have K0 := hid (Kept.refl none' (doW W (.slice va n vc) op od wh))
    clear KD
    by_cases ho0 : 0 < od
    · have hq : Hid (∃ oi : Nat, od % ((x.o : Int) + 1) = (oi : Int) ∧ oi ≤ x.o) := hid (by
        have h1 := Int.emod_lt_of_pos od (show (0 : Int) < (x.o : Int) + 1 by omega)
        have h2 := Int.emod_nonneg od (show (x.o : Int) + 1 ≠ 0 by omega)
        exact ⟨(od % ((x.o : Int) + 1)).toNat, by omega, by omega⟩)
      go_wp2_with fail
      go_quiet (fail)
      go_wp2_with fail
      go_meet
      case rel =>
        obtain ⟨oi, h1, h2⟩ := hq.out
        exact ⟨⟨oi, by rw [h1], h2⟩, K0.out.drewN _⟩
    · have ho1 : od ≤ 0 := by omega
      go_wp2_with fail
      go_meet
      case rel => exact ⟨⟨0, rfl, Nat.zero_le _⟩, K0.out⟩
  case rest =>
  obtain ⟨⟨oi, rfl, hoi⟩, hkc⟩ := hcut
  have HB := hid (H.out.keep (none_trans KD hkc))
  have BXC := hid (BXD.keep hkc)
  clear c0 c1 c2 c3 c4 c5 c6 c7 c8 c9 C3 D3 KD BXD hkc
  obtain ⟨c0, c1, c2, c3, c4, c5, c6, c7, c8, c9⟩ := HB.out.wb.lw.c
  obtain ⟨_, _, a0, a1, a2, a3, a4, a5, af⟩ := BXC.out
  have hop := HOP.out
  subst hop
  have TK := hid (Take_snK x t (Lk R n) HB.out.wb.sn oi hoi wc HB.out.wb.lw.bd)
  go_wp2_with fail
  refine TK.out.mono ?_
  rintro e w2 (⟨rfl, rfl, hst⟩ | ⟨p, rfl, hd, hp1, hp2, hp3⟩)
  · as_aux_lemma =>
    obtain ⟨n1, n2, n3, n4, ⟨r, n5, n6, n7⟩, n8, n9⟩ := HB.out.wb.nums
    have SI := hid ((stuck_iff (R := R) (n := n) (P := t.m.n) hoi ⟨r, n5⟩).2 hst)
    have H2 := hid (HB.out.keep (Kept.refl none' w2).drew)
    have B2 := hid (BXC.out.keep (Kept.refl none' w2).drew)
    have SK := hid (stuck_any va n vc R (by omega) H2.out.wb.rng2 t.m.n oi n2 (by omega) w2.drew H2.out.bk)
    clear hst n5 n6 n7 TK HB BXC c0 c1 c2 c3 c4 c5 c6 c7 c8 c9 a0 a1 a2 a3 a4 a5 af
    obtain ⟨c0, c1, c2, c3, c4, c5, c6, c7, c8, c9⟩ := H2.out.wb.lw.c
    obtain ⟨_, _, a0, a1, a2, a3, a4, a5, af⟩ := B2.out
    go_wp2_with fail
    go_region_held3 (fun w' => w'.cell? ⟨W.heap.size, 0, none⟩ = some (.slice va n vc) ∧ w'.cell? ⟨lw, 7, none⟩ = some (.int .i64 (t.m.n : Int))) (first | with_reducible exact ⟨a0, c7⟩ | with_reducible exact ⟨y0, y7⟩) ((go_at_call 64; refine SK.out.mono ?_; rintro e w3 ⟨b, rfl, hb, hk⟩; have HBB := hid (hb.2 SI.out); clear hb; have H3 := hid (H2.out.keep hk); have B3 := hid (B2.out.keep hk); have y0 := B3.out.k0; obtain ⟨_, _, _, _, _, _, _, y7, _, _⟩ := H3.out.wb.lw.c; clear hk))
    all_goals
      have hbb := HBB.out
      subst hbb
      clear c0 c1 c2 c3 c4 c5 c6 c7 c8 c9 a0 a1 a2 a3 a4 a5 af y0 y7 SK H2 B2
      obtain ⟨c0, c1, c2, c3, c4, c5, c6, c7, c8, c9⟩ := H3.out.wb.lw.c
      obtain ⟨_, _, a0, a1, a2, a3, a4, a5, af⟩ := B3.out
      have q0 := show (w3.setCell ⟨W.heap.size + 1 + 1, 0, none⟩ (.slice va n vc)).cell? ⟨W.heap.size + 1 + 1, 0, none⟩ = some (.slice va n vc) from setc B3.out.r0 _
      go_wp2_with fail
      exact ⟨rfl, .tuple #[.agg #[.slice va n vc], .bool true], by simp [results, Tryz.results16, go_sem, q0], _, _, _, _, _, _, _, _, _, _, _, _, Rl.refl _ _, rfl, (H3.out.set B3.out.r0 HW0.out _).mono (Nat.le_succ _)⟩
  · as_aux_lemma =>
    obtain ⟨n1, n2, n3, n4, ⟨r, n5, n6, n7⟩, n8, n9⟩ := HB.out.wb.nums
    have SI := hid (show ¬ Stuck R n t.m.n oi from fun hs => by
      obtain ⟨q, i, h1, h2⟩ := (stuck_iff (R := R) (n := n) (P := t.m.n) hoi ⟨r, n5⟩).1 hs p hp1 hp2
      exact hp3 q i h1 h2)
    obtain ⟨t2, hwb2, hk2, hn2⟩ := HB.out.wb.done hd HG0.out
    have W2 := hid (hwb2.keep (Kept.refl none' w2).drew)
    have B2 := hid ((BXC.out.kept hk2 (fun y e => H.out.wb.lw.lt y (.inl e))).keep (Kept.refl none' w2).drew)
    have V2 := hid (show Bks w2.drew (.slice va n vc) n R from (HB.out.wb.lw.bks HB.out.bk (hk2.mono (fun _ _ e => .inl e))).kept (Kept.refl none' w2).drew (fun _ _ e => e))
    have RN := hid HB.out.wb.rng2
    have HN2 := hid hn2
    have HP1 := hid hp1
    have HP2 := hid hp2
    have HP3 := hid hp3
    have SK := hid (stuck_any va n vc R (by omega) RN.out t.m.n oi n2 (by omega) w2.drew V2.out)
    clear hp3 hd hwb2 hk2 n5 n6 n7 TK HB BXC c0 c1 c2 c3 c4 c5 c6 c7 c8 c9 a0 a1 a2 a3 a4 a5 af
    obtain ⟨c0, c1, c2, c3, c4, c5, c6, c7, c8, c9⟩ := W2.out.lw.c
    rw [hn2] at c7
    clear hn2
    obtain ⟨_, _, a0, a1, a2, a3, a4, a5, af⟩ := B2.out
    obtain ⟨a, ha⟩ : ∃ a, a = ad x p := ⟨_, rfl⟩
    have HA := hid ha
    rw [← ha]
    clear ha hp1 hp2
    go_wp2_with fail
    go_region_held3 (fun w' => w'.cell? ⟨W.heap.size, 0, none⟩ = some (.slice va n vc) ∧ w'.cell? ⟨lw, 7, none⟩ = some (.int .i64 (t.m.n : Int))) (first | with_reducible exact ⟨a0, c7⟩ | with_reducible exact ⟨y0, y7⟩) ((go_at_call 64; refine SK.out.mono ?_; rintro e w3 ⟨b, rfl, hb, hk⟩; have HBB := hid (show b = false by { cases hq : b with | false => rfl | true => exact absurd (hb.1 hq) SI.out }); clear hb; have W3 := hid (W2.out.keep hk); have B3 := hid (B2.out.keep hk); have V3 := hid (V2.out.kept hk (fun _ _ e => e)); have y0 := B3.out.k0; obtain ⟨_, _, _, _, _, _, _, y7, _, _⟩ := W3.out.lw.c; rw [HN2.out] at y7; clear hk))
    all_goals
      have hbb := HBB.out
      subst hbb
      clear c0 c1 c2 c3 c4 c5 c6 c7 c8 c9 a0 a1 a2 a3 a4 a5 af y0 y7 SK W2 B2 V2
      obtain ⟨c0, c1, c2, c3, c4, c5, c6, c7, c8, c9⟩ := W3.out.lw.c
      rw [HN2.out] at c7
      obtain ⟨_, _, a0, a1, a2, a3, a4, a5, af⟩ := B3.out
      have PG := hid (page_ok W3.out.lw p (by have := HP2.out; have : 0 < 2 ^ oi := Nat.pow_pos (by decide); rw [HN2.out]; omega) (by rw [HN2.out]; exact n2) (by rw [HN2.out]; have := W3.out.st; rw [HN2.out] at this; omega) W3.out.bm)
      rw [← HA.out] at PG
      go_wp2_with fail
      refine PG.out.mono ?_
      rintro e w4 ⟨rfl, hk⟩
      have W4 := hid (W3.out.keep hk)
      have B4 := hid (B3.out.keep hk)
      have V4 := hid (V3.out.kept hk (fun _ _ e => e))
      clear hk c0 c1 c2 c3 c4 c5 c6 c7 c8 c9 a0 a1 a2 a3 a4 a5 af PG W3 B3 V3
      obtain ⟨c0, c1, c2, c3, c4, c5, c6, c7, c8, c9⟩ := W4.out.lw.c
      rw [HN2.out] at c7
      obtain ⟨_, _, a0, a1, a2, a3, a4, a5, af⟩ := B4.out
      have MT := hid (show Calls Tryz.prog 65 #[.agg #[.slice va n vc], .int .i64 (p : Int), .int .i64 (oi : Int)] w4 fun e w' => e = .returned (.bool false) ∧ Kept none' w4 w' from by
        have hm := meets_any va n vc R (by omega) RN.out p oi (Nat.le_trans (Nat.le_trans (Nat.le_add_right _ _) HP2.out) n2) (by omega) w4 V4.out
        have e : meetsB R p oi n = false := by
          cases hq : meetsB R p oi n with
          | false => rfl
          | true =>
            obtain ⟨i, h1, h2⟩ := (meetsB_iff R p oi n).1 hq
            exact absurd h2 (HP3.out _ _ ⟨i, h1, rfl, rfl⟩)
        rw [e] at hm
        exact hm)
      obtain ⟨z, hz⟩ : ∃ z, z = 2 ^ oi := ⟨_, rfl⟩
      have hzi : (2 : Int) ^ oi = (z : Int) := by rw [hz]; simp
      have hoi8 : oi ≤ 8 := Nat.le_trans hoi hx8
      have hz2 : z ≤ 256 := by rw [hz]; exact Nat.pow_le_pow_right (n := 2) (by decide) hoi8
      have hz0 : 0 < z := by rw [hz]; exact Nat.pow_pos (by decide)
      have hpz : (p : Int) % (z : Int) = 0 := by have := HP1.out; rw [← hz] at this; omega
      have hpt : (p : Int) + (z : Int) ≤ (t.m.n : Int) := by have := HP2.out; rw [← hz] at this; omega
      have hptn : p + z ≤ t.m.n := by have := HP2.out; rw [← hz] at this; omega
      have hptd : decide ((t.m.n : Int) < (p : Int) + (z : Int)) = false := by simp; omega
      have HZ := hid hz
      clear hz
      go_wp2_with fail
      refine MT.out.mono ?_
      rintro e w5 ⟨rfl, hk⟩
      have W5 := hid (W4.out.keep hk)
      have V5 := hid (V4.out.kept hk (fun _ _ e => e))
      have B5 := hid (B4.out.keep hk)
      have D5 := hid (B5.out.keep (Kept.refl none' w5).drew)
      clear hk c0 c1 c2 c3 c4 c5 c6 c7 c8 c9 a0 a1 a2 a3 a4 a5 af MT W4 B4 V4
      obtain ⟨_, _, a0, a1, a2, a3, a4, a5, af⟩ := D5.out
      go_wp2_with fail
      go_region_held3 (fun w' => w'.cell? ⟨W.heap.size, 0, none⟩ = some (.slice va n vc) ∧ w'.cell? ⟨W.heap.size + 1, 2, none⟩ = some (.int .i64 wh)) ((refine ⟨?_, ?_⟩ <;> first | with_reducible assumption | exact alloc_cellL (by assumption) | exact cell_far (by assumption) (by omega) | exact ((((Kept.refl none' w5).alloc _).alloc _).drew).cell (fun e => e) B5.out.k0 | exact ((((Kept.refl none' w5).alloc _).alloc _).drew).cell (fun e => e) B5.out.x2)) (first
        | (refine step_app1 (W5 := w5) (by first | exact ((Kept.refl none' w5).alloc _).drew | exact (((Kept.refl none' w5).alloc _).alloc _).drew) V5.out (by omega) rfl (.tmp 117) (.tmp 119) rfl _ rfl (by first | exact heap_new w5 _ | exact (two5 w5 _ _).2.1 | exact heap_new2 w5 _ _) (by first | exact Nat.le_refl _ | exact Nat.le_succ _ | omega) rfl ?_; intro g cap w6 hG hkp hge; have HG := hid hG; have HKP := hid hkp; have y0 := hG.kp.cell (fun e => e) B5.out.k0; have y3 := hG.kp.cell (fun e => e) B5.out.x2; clear hG hkp)
        | (refine step_app2 (W5 := w5) (by first | exact HG.out | exact HG.out.keep ((Kept.refl none' w6).alloc _) | exact HG.out.keep (((Kept.refl none' w6).alloc _).drew)) (by omega) rfl (.tmp 120) (.tmp 132) rfl rfl _ 1 _ _ _ rfl (by first | exact heap_new w6 _ | exact HKP.out _ _ (heap_new2 w5 _ _) (by omega) | exact HKP.out _ _ (two5 w5 _ _).2.1 (by omega)) ?_; intro g2 cap2 w7 hG2 hge2; have HG2 := hid hG2; have B7 := hid (B5.out.keep hG2.kp); clear hG2; obtain ⟨_, _, z0, _, _, z3, _, z5, zf⟩ := B7.out)
        | fail)
      all_goals as_aux_lemma =>
        have q0 := show (w7.setCell ⟨W.heap.size + 1 + 1, 0, none⟩ (.slice (some ⟨g2, 0, none⟩) (n + 1) cap2)).cell? ⟨W.heap.size + 1 + 1, 0, none⟩ = some (.slice (some ⟨g2, 0, none⟩) (n + 1) cap2) from setc B7.out.r0 _
        have D := hid ((put_bw W5.out (fun q i => Iff.rfl) H.out.inj (fun hl => HP3.out p oi hl ⟨by have : 0 < 2 ^ oi := Nat.pow_pos (by decide); omega, by have : 0 < 2 ^ oi := Nat.pow_pos (by decide); omega⟩) H.out.nc (u8_range _) H.out.mr HG2.out).set B7.out.r0 HW0.out (.slice (some ⟨g2, 0, none⟩) (n + 1) cap2))
        clear y0 y3 z0 z3 z5 zf a0 a1 a2 a3 a4 a5 af
        go_wp2_with fail
        exact ⟨rfl, .tuple #[.agg #[.slice (some ⟨g2, 0, none⟩) (n + 1) cap2], .bool true], by simp [results, Tryz.results16, go_sem, q0], _, _, _, _, _, _, _, _, _, _, _, _, Rl.up _ _ _, rfl, D.out⟩
end Go.Proofs.YthglogiglimebaaGreat
