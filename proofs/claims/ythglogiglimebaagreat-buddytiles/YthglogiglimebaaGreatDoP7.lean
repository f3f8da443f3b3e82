import Derived.Test.YthglogiglimebaaGreatKi
import Derived.Deep.DeepCutAuto
import Derived.Deep.RegionHeld3
import Derived.Deep.RegionHeldLaw
/- croftlaw5.do: a region goes. -/
namespace Go.Proofs.YthglogiglimebaaGreat
open Go.RowKit
set_option linter.unusedVariables false

set_option maxRecDepth 4000 in
set_option maxHeartbeats 8000000 in
theorem do_pull {E w W lw c x t fa fl fc ra nv rc va n vc R} (h : BW E w W lw c x t fa fl fc ra nv rc va n vc R) (hc : c ≤ 300) (hG : ∀ g, E.G g → Lp (Lk R n) g) (op : Int) (hop : op ≠ 0 ∧ op ≠ 1 ∧ op ≠ 2 ∧ op ≠ 3 ∧ op ≠ 4 ∧ op ≠ 5 ∧ op ≠ 6) (od wh : Int) (o1 : -9223372036854775808 ≤ od) (o2 : od ≤ 9223372036854775807) (w1 : -9223372036854775808 ≤ wh) (w2 : wh ≤ 9223372036854775807) :
    Calls Tryz.prog 16 #[.pointer (some ⟨lw, 0, none⟩), .agg #[.slice va n vc], .agg #[.int .i64 op, .int .i64 od, .int .i64 wh]] W fun e w' => DoP E R n w lw (c + 1) e w' := by
  obtain ⟨c0, c1, c2, c3, c4, c5, c6, c7, c8, c9⟩ := h.wb.lw.c
  have H := hid h
  have HOP := hid hop
  have HG0 := hid hG
  clear h hop hG
  have hx8 := H.out.wb.nums.1
  have HW0 := hid (show w.heap.size ≤ W.heap.size + 1 + 1 ∧ ∀ v, ¬ E.e (W.heap.size + 1 + 1) v from ⟨Nat.le_trans H.out.wb.lw.kp.size (by omega), fun v hv => absurd (heap_lt (H.out.wb.ex _ _ hv)) (by omega)⟩)
  have hn : n ≤ 300 := Nat.le_trans H.out.nc hc
  have D3 := hid (do3 W (.slice va n vc) op od wh)
  go_enter Tryz.func16, Tryz.ntmps16
  go_upto_region 2 with fail
  (first | go_values | go_skip | go_guarded | go_step | go_upon | go_back | go_simp)
  (first | go_values | go_skip | go_guarded | go_step | go_upon | go_back | go_simp)
  (first | go_values | go_skip | go_guarded | go_step | go_upon | go_back | go_simp)
  (first | go_values | go_skip | go_guarded | go_step | go_upon | go_back | go_simp)
  (first | go_values | go_skip | go_guarded | go_step | go_upon | go_back | go_simp)
  (first | go_values | go_skip | go_guarded | go_step | go_upon | go_back | go_simp)
  (first | go_values | go_skip | go_guarded | go_step | go_upon | go_back | go_simp)
  (first | go_values | go_skip | go_guarded | go_step | go_upon | go_back | go_simp)
  go_cut [9] (fun s9 wx => (∃ wi : Nat, s9 = .int .i64 (wi : Int) ∧ (0 < n → wi < n)) ∧ wx = doW W (.slice va n vc) op od wh)
  case first => as_aux_lemma =>
    rename_i K hK J K2 hJ hM
    clear hK K
    by_cases hn0 : 0 < n
    · by_cases hw0 : 0 < wh
      · go_wp2_with fail
        go_meet
        case rel =>
          refine ⟨⟨(wh % n).toNat, ?_, fun _ => ?_⟩, rfl⟩
          · rw [Int.toNat_of_nonneg (Int.emod_nonneg _ (by omega))]
          · have := Int.emod_lt_of_pos wh (show (0 : Int) < n by omega)
            have := Int.emod_nonneg wh (show (n : Int) ≠ 0 by omega)
            omega
      · have hw1 : wh ≤ 0 := by omega
        go_wp2_with fail
        go_meet
        case rel => exact ⟨⟨0, rfl, fun _ => hn0⟩, rfl⟩
    · go_wp2_with fail
      go_meet
      case rel => exact ⟨⟨0, rfl, fun e => absurd e hn0⟩, rfl⟩
  case rest =>
  obtain ⟨⟨wi, rfl, hwi⟩, rfl⟩ := hcut
  obtain ⟨KD, BXD⟩ := D3.out
  have HWI := hid hwi
  clear hwi
  have C3 := hid (H.out.wb.lw.keep KD).c
  go_upto_region 5 with fail
  (first | go_values | go_skip | go_guarded | go_step | go_upon | go_back | go_simp)
  (first | go_values | go_skip | go_guarded | go_step | go_upon | go_back | go_simp)
  (first | go_values | go_skip | go_guarded | go_step | go_upon | go_back | go_simp)
  (first | go_values | go_skip | go_guarded | go_step | go_upon | go_back | go_simp)
  (first | go_values | go_skip | go_guarded | go_step | go_upon | go_back | go_simp)
  (first | go_values | go_skip | go_guarded | go_step | go_upon | go_back | go_simp)
  (first | go_values | go_skip | go_guarded | go_step | go_upon | go_back | go_simp)
  (first | go_values | go_skip | go_guarded | go_step | go_upon | go_back | go_simp)
  go_cut [10] (fun s10 wx => (∃ oi : Nat, s10 = .int .i64 (oi : Int) ∧ oi ≤ x.o) ∧ Kept none' (doW W (.slice va n vc) op od wh) wx)
  case first => as_aux_lemma =>
    rename_i K hK J K2 hJ hM
    clear hK K
    clear c0 c1 c2 c3 c4 c5 c6 c7 c8 c9
    obtain ⟨c0, c1, c2, c3, c4, c5, c6, c7, c8, c9⟩ := C3.out
    obtain ⟨_, _, a0, a1, a2, a3, a4, a5, af⟩ := BXD
    have K0 := hid (Kept.refl none' (doW W (.slice va n vc) op od wh))
    clear KD
    by_cases ho0 : 0 < od
    · have hq : Hid (∃ oi : Nat, od % ((x.o : Int) + 1) = (oi : Int) ∧ oi ≤ x.o) := hid (by
        have h1 := Int.emod_lt_of_pos od (show (0 : Int) < (x.o : Int) + 1 by omega)
        have h2 := Int.emod_nonneg od (show (x.o : Int) + 1 ≠ 0 by omega)
        exact ⟨(od % ((x.o : Int) + 1)).toNat, by omega, by omega⟩)
      go_wp2_with fail
      go_quiet (fail)
      go_wp2_with fail
      go_meet
      case rel =>
        obtain ⟨oi, h1, h2⟩ := hq.out
        exact ⟨⟨oi, by rw [h1], h2⟩, K0.out.drewN _⟩
    · have ho1 : od ≤ 0 := by omega
      go_wp2_with fail
      go_meet
      case rel => exact ⟨⟨0, rfl, Nat.zero_le _⟩, K0.out⟩
  case rest =>
  obtain ⟨⟨oi, rfl, hoi⟩, hkc⟩ := hcut
  have HB := hid (H.out.keep (none_trans KD hkc))
  have BXC := hid (BXD.keep hkc)
  clear c0 c1 c2 c3 c4 c5 c6 c7 c8 c9 C3 D3 KD BXD hkc
  obtain ⟨c0, c1, c2, c3, c4, c5, c6, c7, c8, c9⟩ := HB.out.wb.lw.c
  obtain ⟨_, _, a0, a1, a2, a3, a4, a5, af⟩ := BXC.out
  obtain ⟨p0, p1, p2, p3, p4, p5, p6⟩ := HOP.out
  obtain ⟨n1, n2, n3, n4, ⟨r, n5, n6, n7⟩, n8, n9⟩ := HB.out.wb.nums
  have hst := HB.out.wb.st
  obtain ⟨z, hz⟩ : ∃ z, z = 2 ^ x.o := ⟨_, rfl⟩
  have hzi : (2 : Int) ^ x.o = (z : Int) := by rw [hz]; simp
  have hz2 : z ≤ 256 := by rw [hz]; exact Nat.pow_le_pow_right (n := 2) (by decide) hx8
  have hz0 : 0 < z := by rw [hz]; exact Nat.pow_pos (by decide)
  have hlw := H.out.wb.lw.lt lw (.inr rfl)
  have HZ := hid hz
  rw [← hz] at n5
  clear hz n6 n7 n9
  by_cases ht : t.m.n < z
  · as_aux_lemma =>
    obtain ⟨tI, htI⟩ : ∃ tI : Int, (t.m.n : Int) - (z : Int) = tI := ⟨_, rfl⟩
    have htn : tI < 0 := by omega
    have htd : decide (tI < 0) = true := decide_eq_true htn
    have htb : -9223372036854775808 ≤ tI := by omega
    have PU := hid (fun W1 h1 => Pull_no_sn x t (Lk R n) HB.out.wb.sn (.inl (fun e => by
      have h1 := e.1
      have h2 : t.m.n = 0 := by
        rcases Nat.eq_zero_or_pos r with e | e
        · rw [n5, e, Nat.zero_mul]
        · have : 1 * z ≤ r * z := Nat.mul_le_mul_right _ e
          omega
      omega)) W1 h1)
    clear n5 ht
    go_wp2_with fail
    go_quiet (fail)
    have HQ := hid (HB.out.keep ((Kept.refl none' wc).drewN nq))
    have BQ := hid (BXC.out.keep ((Kept.refl none' wc).drewN nq))
    generalize wc.drewN nq = w2 at *
    clear c0 c1 c2 c3 c4 c5 c6 c7 c8 c9 a0 a1 a2 a3 a4 a5 af
    obtain ⟨c0, c1, c2, c3, c4, c5, c6, c7, c8, c9⟩ := HQ.out.wb.lw.c
    obtain ⟨_, _, a0, a1, a2, a3, a4, a5, af⟩ := BQ.out
    go_wp2_with fail
    go_quiet (fail)
    have HR := hid (HQ.out.keep ((Kept.refl none' w2).drewN nq))
    have BR := hid (BQ.out.keep ((Kept.refl none' w2).drewN nq))
    generalize w2.drewN nq = w3 at *
    have HD := hid (HR.out.keep (Kept.refl none' w3).drew)
    have BD := hid (BR.out.keep (Kept.refl none' w3).drew)
    have PD := hid (PU.out w3.drew HD.out.wb.lw.bd)
    clear c0 c1 c2 c3 c4 c5 c6 c7 c8 c9 a0 a1 a2 a3 a4 a5 af
    have d1 := BD.out.k0
    obtain ⟨_, _, _, _, _, d2, _, _, _, _⟩ := HD.out.wb.lw.c
    go_wp2_with fail
    go_region_held3 (fun w' => w'.cell? ⟨W.heap.size, 0, none⟩ = some (.slice va n vc) ∧ w'.cell? ⟨lw, 5, none⟩ = some (.pointer (some ⟨x.b, 0, none⟩))) ((refine ⟨?_, ?_⟩ <;> first | with_reducible assumption | exact cell_far (by assumption) (by omega))) (first
      | (go_at_call 43; refine PD.out.mono ?_; rintro e w4 ⟨rfl, hk⟩; have H4 := hid (HD.out.keep hk); have B4 := hid (BD.out.keep hk); have y1 := B4.out.k0; obtain ⟨_, _, _, _, _, y2, _, _, _, _⟩ := H4.out.wb.lw.c; have y5 := B4.out.rc; have yf := B4.out.rf; clear hk)
      | fail)
    all_goals as_aux_lemma =>
      have q0 := show (w4.setCell ⟨W.heap.size + 1 + 1, 0, none⟩ (.slice va n vc)).cell? ⟨W.heap.size + 1 + 1, 0, none⟩ = some (.slice va n vc) from setc B4.out.r0 _
      go_wp2_with fail
      exact ⟨rfl, .tuple #[.agg #[.slice va n vc], .bool true], by simp [results, Tryz.results16, go_sem, q0], _, _, _, _, _, _, _, _, _, _, _, _, Rl.refl _ _, rfl, (H4.out.set B4.out.r0 HW0.out _).mono (Nat.le_succ _)⟩
  · as_aux_lemma =>
    obtain ⟨tp, htp⟩ : ∃ tp, tp = t.m.n - z := ⟨_, rfl⟩
    have htI : (t.m.n : Int) - (z : Int) = (tp : Int) := by omega
    have htp2 : tp ≤ 1024 := by omega
    have htp3 : decide ((tp : Int) < 0) = false := by simp
    have htp4 : (0 : Int) ≤ (tp : Int) := by omega
    have HTP := hid (show t.m.n = tp + z from by omega)
    have TOK := hid (show topOk x t from ⟨by omega, hst⟩)
    have TOP := hid (show topP x = tp from by
      unfold topP
      rw [← hst, Nat.mul_div_cancel _ (by decide), ← HZ.out]
      omega)
    clear n5 ht htp
    go_wp2_with fail
    go_quiet (fail)
    have HQ := hid (HB.out.keep ((Kept.refl none' wc).drewN nq))
    have BQ := hid (BXC.out.keep ((Kept.refl none' wc).drewN nq))
    generalize wc.drewN nq = w2 at *
    have HD := hid (HQ.out.keep (Kept.refl none' w2).drew)
    have BD := hid (BQ.out.keep (Kept.refl none' w2).drew)
    have MT := hid (meets_any va n vc R (by omega) HD.out.wb.rng2 tp x.o htp2 hx8 w2.drew HD.out.bk)
    clear c0 c1 c2 c3 c4 c5 c6 c7 c8 c9 a0 a1 a2 a3 a4 a5 af
    have d1 := BD.out.k0
    obtain ⟨_, _, d2, _, _, _, _, _, _, _⟩ := HD.out.wb.lw.c
    go_wp2_with fail
    go_region_held3 (fun w' => w'.cell? ⟨W.heap.size, 0, none⟩ = some (.slice va n vc) ∧ w'.cell? ⟨lw, 2, none⟩ = some (.int .i64 (x.o : Int))) ((refine ⟨?_, ?_⟩ <;> first | with_reducible assumption)) (first
      | (go_at_call 65; refine MT.out.mono ?_; rintro e w3 ⟨rfl, hk⟩; have H3 := hid (HD.out.keep hk); have B3 := hid (BD.out.keep hk); have y1 := B3.out.k0; obtain ⟨_, _, y2, _, _, _, _, _, _, _⟩ := H3.out.wb.lw.c; clear hk)
      | fail)
    all_goals
      have H4 := hid (H3.out.keep (Kept.refl none' w3).drew)
      have B4 := hid (B3.out.keep (Kept.refl none' w3).drew)
      clear d1 d2 y1 y2 MT HD BD HQ BQ
      have d1 := B4.out.k0
      obtain ⟨_, _, _, _, _, d2, _, _, _, _⟩ := H4.out.wb.lw.c
      cases hm : meetsB R tp x.o n with
      | true =>
        have PU := hid (Pull_no_sn x t (Lk R n) H4.out.wb.sn (.inr (by
          obtain ⟨i, h1, h2⟩ := (meetsB_iff R tp x.o n).1 hm
          rw [TOP.out]
          exact ⟨_, _, ⟨i, h1, rfl, rfl⟩, h2⟩)) w3.drew H4.out.wb.lw.bd)
        clear hm
        go_wp2_with fail
        go_region_held3 (fun w' => w'.cell? ⟨W.heap.size, 0, none⟩ = some (.slice va n vc) ∧ w'.cell? ⟨lw, 5, none⟩ = some (.pointer (some ⟨x.b, 0, none⟩))) ((refine ⟨?_, ?_⟩ <;> first | with_reducible assumption | exact cell_far (by assumption) (by omega))) (first
          | (go_at_call 43; refine PU.out.mono ?_; rintro e w5 ⟨rfl, hk⟩; have H5 := hid (H4.out.keep hk); have B5 := hid (B4.out.keep hk); have y1 := B5.out.k0; obtain ⟨_, _, _, _, _, y2, _, _, _, _⟩ := H5.out.wb.lw.c; have y5 := B5.out.rc; have yf := B5.out.rf; clear hk)
          | fail)
        all_goals as_aux_lemma =>
          have q0 := show (w5.setCell ⟨W.heap.size + 1 + 1, 0, none⟩ (.slice va n vc)).cell? ⟨W.heap.size + 1 + 1, 0, none⟩ = some (.slice va n vc) from setc B5.out.r0 _
          go_wp2_with fail
          exact ⟨rfl, .tuple #[.agg #[.slice va n vc], .bool true], by simp [results, Tryz.results16, go_sem, q0], _, _, _, _, _, _, _, _, _, _, _, _, Rl.refl _ _, rfl, (H5.out.set B5.out.r0 HW0.out _).mono (Nat.le_succ _)⟩
      | false =>
        have NM := hid (show ∀ q i, Lk R n q i → ¬ Meet (topP x) x.o q i from by
          rintro q i ⟨j, hj, rfl, rfl⟩ h2
          rw [TOP.out] at h2
          have := (meetsB_iff R tp x.o n).2 ⟨j, hj, h2⟩
          rw [hm] at this
          cases this)
        have PU := hid (Pull_snK x t (Lk R n) H4.out.wb.sn TOK.out NM.out w3.drew H4.out.wb.lw.bd)
        have HNV := hid (show nv ≤ 1000 from by have := H.out.wb.nc; omega)
        have HRN := hid (show x.R ≤ x.n from by
          have h1 := H4.out.wb.lw.bd.hR
          have h2 := HTP.out
          have h3 := HZ.out
          rw [← h3] at h1
          omega)
        clear hm
        go_wp2_with fail
        go_region_held3 (fun w' => w'.cell? ⟨W.heap.size, 0, none⟩ = some (.slice va n vc) ∧ w'.cell? ⟨lw, 5, none⟩ = some (.pointer (some ⟨x.b, 0, none⟩))) ((refine ⟨?_, ?_⟩ <;> first | with_reducible assumption | exact cell_far (by assumption) (by omega))) (first
          | (go_at_call 43; refine PU.out.mono ?_; rintro e w5 ⟨rfl, hd⟩; obtain ⟨t5, hwb5, hk5, hn5⟩ := H4.out.wb.done hd HG0.out; have H5 := hid hwb5; have N5 := hid hn5; have V5 := hid (H4.out.wb.lw.bks H4.out.bk (hk5.mono (fun _ _ e => .inl e))); have B5 := hid (B4.out.call H4.out.wb.lw (hk5.mono (fun _ _ e => .inl e))); have y1 := B5.out.k0; obtain ⟨_, _, _, _, _, y2, _, _, _, _⟩ := hwb5.lw.c; clear hd hwb5 hk5 hn5)
          | (go_at_call 46; refine (goes_any lw x t5 t5.m.n fa fl fc ra nv rc HNV.out w w5 H5.out.lw H5.out.rl HRN.out rfl (by rw [N5.out, ← HZ.out, HTP.out]; exact Nat.le_add_left _ _)).mono ?_; rintro e w6 hq; obtain ⟨he, x6, t6, ra6, nv6, rc6, hwb6, hk6, e1, e2, e6, e7⟩ := H5.out.goes (.inr ⟨by rw [TOP.out, N5.out, ← HZ.out, HTP.out]; exact Nat.add_sub_cancel _ _, rfl⟩) (by rw [N5.out, ← HZ.out, HTP.out]; exact Nat.le_add_left _ _) hq; subst he; have H6 := hid hwb6; have V6 := hid (H5.out.lw.bks V5.out hk6); have B6 := hid (B5.out.call H5.out.lw hk6); have u1 := B6.out.k0; obtain ⟨_, _, _, _, _, u2, _, _, _, _⟩ := hwb6.lw.c; rw [e6] at u2; have u5 := B6.out.rc; have uf := B6.out.rf; clear hq hwb6 hk6 e1 e2 e6 e7)
          | fail)
        all_goals as_aux_lemma =>
          have q0 := show (w6.setCell ⟨W.heap.size + 1 + 1, 0, none⟩ (.slice va n vc)).cell? ⟨W.heap.size + 1 + 1, 0, none⟩ = some (.slice va n vc) from setc B6.out.r0 _
          have h6 := H6.out
          have ET : t5.m.n - 2 ^ x.o = topP x := by rw [TOP.out, N5.out, ← HZ.out, HTP.out]; exact Nat.add_sub_cancel _ _
          have D := hid ((BW.mk (R := R) (h6.congr fun q i => ⟨fun e => e.1.elim (fun e => e) (fun e2 => absurd ⟨e2.1.trans ET.symm, e2.2⟩ e.2), fun e => ⟨.inl e, fun e2 => by
            have h1 := NM.out q i e
            rw [← ET, ← e2.1, e2.2] at h1
            have : 0 < 2 ^ x.o := Nat.pow_pos (by decide)
            exact h1 ⟨by omega, by omega⟩⟩⟩) H.out.inj V6.out H.out.nc H.out.mr).set B6.out.r0 HW0.out (.slice va n vc))
          clear h6 ET
          go_wp2_with fail
          exact ⟨rfl, .tuple #[.agg #[.slice va n vc], .bool true], by simp [results, Tryz.results16, go_sem, q0], _, _, _, _, _, _, _, _, _, _, _, _, Rl.refl _ _, rfl, D.out.mono (Nat.le_succ _)⟩
end Go.Proofs.YthglogiglimebaaGreat
