/- croftref11.NoFit, Stuck. -/
import Derived.Test.YtibljocjdlgfbabRfO
namespace Go.Proofs.Ytibljocjdlgfbab
open Go.RowKit
set_option linter.unusedVariables false

theorem Snl.of {base k n : Nat} {l : Bls} (hb : base % RS k = 0) (hn : n * RS k ≤ 4194304) (h : sndI base k n l = -1) : Snl base k n l := by
  refine ⟨hb, hn, fun a ha => ?_⟩
  cases hg : goodB base k n l a with
  | true => rfl
  | false =>
    exfalso
    unfold sndI at h
    cases hf : (List.range l.length).find? (fun i => !goodB base k n l i) with
    | none =>
      have := List.find?_eq_none.1 hf a (List.mem_range.2 ha)
      simp [hg] at this
    | some i =>
      rw [hf] at h
      simp at h

/-- The state of NoFit's loops. -/
structure NfI (w W : World) (cx base : Nat) (lim : Int) (k : Nat) : Prop where
  cb : CR W cx base lim (k : Int)
  kp : Kept none' w W
theorem NfI.keep {w W W' : World} {cx base : Nat} {lim : Int} {k : Nat} (h : NfI w W cx base lim k) (hk : Kept none' W W') : NfI w W' cx base lim k := ⟨h.cb.keep hk (fun e => e), none_trans h.kp hk⟩

set_option maxRecDepth 40000 in
set_option maxHeartbeats 8000000 in
theorem refNoFit (base : Nat) (hb64 : base < 18446744073709551616) (lim ord n : Int) (hl1 : -9223372036854775808 ≤ lim) (hl2 : lim ≤ 9223372036854775807) (ho1 : -9223372036854775808 ≤ ord) (ho2 : ord ≤ 9223372036854775807) (v : Value) (l : Bls) (r : Nat) (hr : r < 2 ^ 64) (w : World) (hbl : BL w v l) :
    Calls Try.prog 18 #[cfgV base lim ord, .int .i64 n, v, .int .u64 (r : Int)] w fun e w' => e = .returned (.bool (nofV base lim ord n l r)) ∧ Kept none' w w' := by
  have HM := hid (fun W => refMay base hb64 lim ord hl1 hl2 ho1 ho2 W)
  have HP := hid (fun W => refPower r hr W)
  have HS := hid (fun W h => refSound base hb64 lim ord n hl1 hl2 ho1 ho2 v l W h)
  have C0 := hid (show CR (w.alloc (.cells #[.int .u64 (base : Int), .int .i64 lim, .int .i64 ord] 24)) w.heap.size base lim ord from heap_new w _)
  have K0 := hid (show Kept none' w (w.alloc (.cells #[.int .u64 (base : Int), .int .i64 lim, .int .i64 ord] 24)) from (Kept.refl _ w).alloc _)
  have BL0 := hid hbl
  clear hbl
  cases hm : mayB base lim ord with
  | false =>
    rw [hm] at HM
    have E := hid (show nofV base lim ord n l r = false by simp [nofV, mayR, hm])
    clear hm
    go_enter Try.func18, Try.ntmps18
    go_wp2_with fail
    generalize w.alloc (.cells #[.int .u64 (base : Int), .int .i64 lim, .int .i64 ord] 24) = W0 at *
    refine (HM.out _).mono ?_
    rintro e w1 ⟨rfl, hk⟩
    have K1 := hid (none_trans K0.out hk)
    clear hk
    go_wp2_with fail
    go_ret
    exact ⟨ret_bool E.out.symm, K1.out⟩
  | true =>
    rw [hm] at HM
    by_cases hsv : sndV base lim ord n l = -1
    · have hmr : mayR base lim ord n = true := by
        refine Classical.byContradiction fun h => ?_
        unfold sndV at hsv
        rw [if_neg h] at hsv
        omega
      have hsi : sndI base ord.toNat n.toNat l = -1 := by
        unfold sndV at hsv
        rw [if_pos hmr] at hsv
        exact hsv
      rw [hsv] at HS
      obtain ⟨k, rr, L, rfl, rfl, rfl, hk8, hL1, hL64, hrL, hLR, hb0, hbm, hbe⟩ := mayR_facts hmr
      have hrR : rr * RS k ≤ 4194304 := Nat.le_trans (Nat.mul_le_mul_right _ hrL) hLR
      have hrB : rr * RS k ≤ L * RS k := Nat.mul_le_mul_right _ hrL
      rw [Int.toNat_natCast, Int.toNat_natCast] at hsi
      have SN := hid (Snl.of hbm hrR hsi)
      have EV := hid (show nofV base (L : Int) (k : Int) (rr : Int) l r = (szB k r && fitU (allU base l) k rr r) by
        simp [nofV, hmr, hsi])
      obtain ⟨R, hR⟩ : ∃ R, R = RS k := ⟨_, rfl⟩
      have hRl := RS_le k hk8
      have HRR := hid (fun W => refR (base : Int) (L : Int) k hk8 W)
      rw [← hR] at hRl HRR
      clear hm hsv hmr hsi
      go_enter Try.func18, Try.ntmps18
      go_wp2_with fail
      generalize w.alloc (.cells #[.int .u64 (base : Int), .int .i64 (L : Int), .int .i64 (k : Int)] 24) = W0 at *
      refine (HM.out _).mono ?_
      rintro e w1 ⟨rfl, hk⟩
      have K1 := hid (none_trans K0.out hk)
      have C1 := hid (C0.out.keep hk (fun x => x))
      clear hk
      obtain ⟨c0, c1, c2⟩ := C1.out.cells
      go_wp2_with fail
      refine (HS.out _ (BL0.out.keep K1.out)).mono ?_
      rintro e w2 ⟨rfl, hk⟩
      have K2 := hid (none_trans K1.out hk)
      have C2 := hid (C1.out.keep hk (fun x => x))
      clear hk c0 c1 c2
      obtain ⟨c0, c1, c2⟩ := C2.out.cells
      cases hp : isP r with
      | false =>
        rw [hp] at HP
        have E := hid (show nofV base (L : Int) (k : Int) (rr : Int) l r = false by rw [EV.out]; simp [szB, hp])
        clear hp
        go_wp2_with (go_at_call 17; refine (HP.out _).mono ?_; rintro e w' ⟨rfl, rfl⟩)
        go_ret
        exact ⟨ret_bool E.out.symm, K2.out⟩
      | true =>
        rw [hp] at HP
        by_cases h16 : (r : Int) < 16
        · have E := hid (show nofV base (L : Int) (k : Int) (rr : Int) l r = false by
            rw [EV.out]
            have : ¬ 16 ≤ r := by omega
            simp [szB, this])
          go_wp2_with (go_at_call 17; refine (HP.out _).mono ?_; rintro e w' ⟨rfl, rfl⟩)
          go_ret
          exact ⟨ret_bool E.out.symm, K2.out⟩
        · have h16' : decide ((r : Int) < 16) = false := decide_eq_false h16
          go_wp2_with (go_at_call 17; refine (HP.out _).mono ?_; rintro e w' ⟨rfl, rfl⟩)
          refine (HRR.out _).mono ?_
          rintro e w3 ⟨rfl, hk⟩
          have K3 := hid (none_trans K2.out hk)
          have C3 := hid (C2.out.keep hk (fun x => x))
          clear hk c0 c1 c2
          obtain ⟨c0, c1, c2⟩ := C3.out.cells
          by_cases hle : (R : Int) < (r : Int)
          · have E := hid (show nofV base (L : Int) (k : Int) (rr : Int) l r = false by
              rw [EV.out]
              have : ¬ r ≤ RS k := by rw [← hR]; omega
              simp [szB, this])
            go_wp2_with fail
            go_ret
            exact ⟨ret_bool E.out.symm, K3.out⟩
          · have hle' : decide (R < r) = false := decide_eq_false (by omega)
            have hrs : szB k r = true := by simp [szB, hp, ← hR]; omega
            obtain ⟨hg1, hnn, M, hM1, hM2⟩ := lon_facts (n := rr) hk8 hp (by omega) (by rw [← hR]; omega)
            have SU0 := SN.out.su hk8
            have hh1 : rr * R = 4096 * (rr * 2 ^ k) := by rw [hR]; exact RS_pages k rr
            have hhb : rr * R ≤ 4194304 := by rw [hR]; exact hrR
            have hbe2 : base + rr * R ≤ 9223372036854775808 := by rw [hR]; omega
            have hPE := hid (show ∀ b ∈ l, b.1 + b.2 ≤ base + rr * R from fun b hb => by rw [hR]; exact (okO_of SN.out.bm SN.out.nr (SN.out.ok hb)).2.2)
            have EV2 := hid (show nofV base (L : Int) (k : Int) (rr : Int) l r = ((stN (allU base l) (lonN r) == M) && (rmN (allU base l) r == 0)) by
              rw [EV.out, hrs, Bool.true_and]; unfold fitU; rw [hM2])
            obtain ⟨nn, hnnd⟩ : ∃ nn, nn = 4096 * lonN r := ⟨_, rfl⟩
            have hnn4 : 4096 ≤ nn := by omega
            obtain ⟨hh, hhd⟩ : ∃ hh, hh = rr * R := ⟨_, rfl⟩
            have hhM : hh = nn * M := by rw [hhd, hh1, hM1, hnnd, Nat.mul_assoc]
            have hhi : (rr : Int) * (R : Int) = (hh : Int) := by rw [hhd]; simp
            have hhb2 : hh ≤ 4194304 := by omega
            have hMb : nn * M ≤ 4194304 := by omega
            have TK := hid (show ∀ t, takB (base + nn * t) nn l = true ↔ ∃ u ∈ allU base l, u.1 / lonN r = t from fun t => by
              have := takB_iff (t := t) SN.out (show 0 < lonN r by omega)
              rw [← Nat.mul_assoc, ← hnnd] at this
              exact this)
            have SF := hid (stN_iff SU0 (show 0 < lonN r by omega) hM1)
            have HTK := hid (fun W q (hq : q + nn < 2 ^ 64) h => refTaken q nn v l W h hq (fun b hb => by have := hPE.out b hb; omega))
            have N3 := hid (show NfI w w3 w.heap.size base (L : Int) k from ⟨C3.out, K3.out⟩)
            have hbeh : base + hh ≤ 9223372036854775808 := by omega
            clear hR hrs hh1 hhd hhb hbe2 hbm hbe hrR hrB
            generalize w.heap.size = cx at *
            clear C0 K0 C1 K1 C2 K2 C3 K3 HM HS HP
            by_cases hsm : (r : Int) < 4096
            · obtain rfl : nn = 4096 := by rw [hnnd]; rw [if_pos (by omega)] at hnn; omega
              have HHM := hid hhM
              have HNP := hid (show 4096 * lonN r = 4096 → rr * 2 ^ k = M from fun e => by rw [hM1, show lonN r = 1 by omega, Nat.one_mul])
              have HNP := hid (HNP.out hnnd.symm)
              clear hnn hnnd hM1 hM2 hhM
              go_wp2_with fail
              refine (HRR.out _).mono ?_
              rintro e w4 ⟨rfl, hk⟩
              have N4 := hid (N3.out.keep hk)
              clear hk c0 c1 c2 N3
              go_wp2_with fail
              go_loopw [11] (fun oo W => ∃ t : Nat, t ≤ M ∧ oo = .int .u64 ((4096 * t : Nat) : Int) ∧ Hid (NfI w W cx base (L : Int) k ∧ ∀ t', t' < t → takB (base + 4096 * t') 4096 l = true)) (fun oo _ => hh + 4096 - (intOf oo).toNat)
              case atStart => exact ⟨0, Nat.zero_le _, by simp, hid ⟨N4.out, fun t ht => by omega⟩⟩
              case round =>
                clear N4
                obtain ⟨t, ht, rfl, HI⟩ := hrel
                obtain ⟨oo, hoo⟩ : ∃ oo, oo = 4096 * t := ⟨_, rfl⟩
                rw [← hoo]
                obtain ⟨c0, c1, c2⟩ := HI.out.1.cb.cells
                by_cases hlt : t < M
                · have hon : oo + 4096 ≤ hh := by
                    rw [HHM.out, hoo, ← Nat.mul_succ]
                    exact Nat.mul_le_mul_left 4096 hlt
                  have hoi : (oo : Int) < (hh : Int) := by omega
                  have HT := hid (fun W h => HTK.out W (base + oo) (by omega) h)
                  have hqi : (base : Int) + (oo : Int) = ((base + oo : Nat) : Int) := by simp
                  have HOO := hid hoo
                  clear hoo
                  obtain ⟨qq, hqq⟩ : ∃ qq, qq = base + oo := ⟨_, rfl⟩
                  rw [← hqq] at HT hqi
                  have HQQ := hid hqq
                  have hqb : qq < 2 ^ 64 := by omega
                  clear hqq
                  go_wp2_with fail
                  refine (HT.out _ (BL0.out.keep HI.out.1.kp)).mono ?_
                  rintro e w5 ⟨rfl, hk⟩
                  have N5 := hid (HI.out.1.keep hk)
                  clear hk c0 c1 c2
                  cases htk : takB qq 4096 l with
                  | false =>
                    have E := hid (show nofV base (L : Int) (k : Int) (rr : Int) l r = false by
                      rw [EV2.out]
                      have hne : ¬ stN (allU base l) (lonN r) = M := fun e => by
                        have := (TK.out t).2 (SF.out.1 e t hlt)
                        rw [← HOO.out, ← HQQ.out, htk] at this
                        cases this
                      have : (stN (allU base l) (lonN r) == M) = false := by rw [beq_eq_false_iff_ne]; exact hne
                      rw [this]; rfl)
                    clear htk
                    go_wp2_with fail
                    go_ret
                    exact ⟨ret_bool E.out.symm, N5.out.kp⟩
                  | true =>
                    have NX := hid (show NfI w w5 cx base (L : Int) k ∧ ∀ t', t' < t + 1 → takB (base + 4096 * t') 4096 l = true from ⟨N5.out, fun t' ht' => by
                      by_cases e : t' = t
                      · rw [e, ← HOO.out, ← HQQ.out]; exact htk
                      · exact HI.out.2 t' (by omega)⟩)
                    clear htk
                    go_wp2_with fail
                    go_round
                    case rel => exact ⟨t + 1, by omega, by rw [Nat.mul_succ, ← HOO.out]; go_num, NX⟩
                    case measure => simp [intOf]; omega
                · obtain rfl : t = M := by omega
                  obtain rfl : oo = hh := by rw [hoo, HHM.out]
                  have hoi : ¬ (oo : Int) < (oo : Int) := by omega
                  have ST := hid (show stN (allU base l) (lonN r) = t from SF.out.2 (fun t' ht' => (TK.out t').1 (HI.out.2 t' ht')))
                  have N5 := hid HI.out.1
                  clear hoo HI
                  have RM := hid (Snl.room SN.out hk8 hp (by omega : 16 ≤ r) (by omega : r < 4096))
                  have ENP := hid (show rr * 2 ^ k = t from HNP.out)
                  have hth : oo = 4096 * t := HHM.out
                  have HTH := hid hth
                  clear hth
                  go_wp2_with fail
                  go_loopw [12] (fun q W => ∃ x : Nat, x ≤ t ∧ q = .int .u64 ((4096 * x : Nat) : Int) ∧ Hid (NfI w W cx base (L : Int) k ∧ ∀ x', x' < x → ¬ (soP base l x' r = true ∧ smP base l x' < 4096))) (fun q _ => oo + 4096 - (intOf q).toNat)
                  case atStart => exact ⟨0, Nat.zero_le _, rfl, hid ⟨N5.out, fun x hx => by omega⟩⟩
                  case round =>
                    clear N5
                    obtain ⟨x, hx, rfl, HX⟩ := hrel
                    obtain ⟨q, hq⟩ : ∃ q, q = 4096 * x := ⟨_, rfl⟩
                    rw [← hq]
                    by_cases hlt : x < t
                    · have hqn : q + 4096 ≤ oo := by have := HTH.out; omega
                      have hqi : (q : Int) < (oo : Int) := by omega
                      obtain ⟨zz, hzz⟩ : ∃ zz, zz = base + q := ⟨_, rfl⟩
                      have hzi : (base : Int) + (q : Int) = (zz : Int) := by omega
                      have hzb : zz + 4096 < 2 ^ 64 := by omega
                      have HZX := hid (show zz = base + 4096 * x by rw [hzz, hq])
                      have HQX := hid hq
                      have J0 := hid HX.out.1
                      obtain ⟨oa, oc, rfl⟩ : ∃ oa oc, v = .slice oa l.length oc := by
                        obtain ⟨_, _, oa, oc, hv, _⟩ := BL0.out
                        exact ⟨oa, oc, hv⟩
                      have hlen := BL0.out.len.2
                      clear hzz hq
                      go_wp2_with fail
                      go_loopw [13, 14, 15] (fun sb sm i W => ∃ a m : Nat, ∃ b : Bool, a ≤ l.length ∧ i = .int .i64 a ∧ sb = .bool b ∧ sm = .int .u64 ((m : Nat) : Int) ∧ Hid (b = soP base (l.take a) x r ∧ m = smP base (l.take a) x ∧ NfI w W cx base (L : Int) k)) (fun _ _ i _ => l.length - (intOf i).toNat)
                      case atStart => exact ⟨0, 0, false, Nat.zero_le _, rfl, rfl, rfl, hid ⟨by rw [List.take_zero]; rfl, by rw [List.take_zero]; rfl, J0.out⟩⟩
                      case round =>
                        clear J0
                        obtain ⟨a, m, b, ha, rfl, rfl, rfl, HJ⟩ := hrel
                        have hmb : m ≤ 268435456 := by rw [HJ.out.2.1]; exact (SN.out.take a).onP_le hk8 x
                        by_cases hal : a < l.length
                        · have hai : (a : Int) < (l.length : Int) := by omega
                          obtain ⟨bl, o, p, s, rfl, hla, hp', hs', q0, q1⟩ := BL0.out.all HJ.out.2.2.kp a hal
                          obtain ⟨c0, c1, c2⟩ := HJ.out.2.2.cb.all
                          have hpe := hPE.out (p, s) (List.mem_of_getElem? hla)
                          have HME := hid (fun W => refMeet zz 4096 p s (by omega) (by simp only at hpe; omega) W)
                          have hTK := take_succ' hla
                          have hso := soP_app base (l.take a) (p, s) x r
                          have hsu := smP_app base (l.take a) (p, s) x
                          rw [← hTK, ← HJ.out.1, ← HZX.out] at hso
                          rw [← hTK, ← HJ.out.2.1, ← HZX.out] at hsu
                          have hmb2 := (SN.out.take (a + 1)).onP_le hk8 x
                          have HSO := hid hso
                          have HSU := hid hsu
                          have HMB := hid hmb2
                          clear hla hTK hso hsu hmb2 hpe
                          go_wp2_with fail
                          refine wp_region_kept (by kernel_rfl) (by kernel_rfl) ?_
                          cases hme : meetB zz 4096 p s with
                          | true =>
                            rw [hme] at HME
                            have HSO2 := hid (show soP base (l.take (a + 1)) x r = (b || s == r) by rw [HSO.out, if_pos hme])
                            have HSU2 := hid (show smP base (l.take (a + 1)) x = m + s by rw [HSU.out, if_pos hme])
                            have hsb : m + s ≤ 268435456 := by rw [← HSU2.out]; exact HMB.out
                            clear hme
                            repeat (go_big_quiet_step (first | (go_at_call 30; exact Calls.kept_of (HME.out _))))
                            refine wpQuiet_nil ?_
                            intro y
                            have N6 := hid (HJ.out.2.2.keep y.k)
                            have r0 := q0 y
                            have r1 := q1 y
                            clear q0 q1 c0 c1 c2 HME
                            cases b with
                            | true =>
                              have NX := hid (show true = soP base (l.take (a + 1)) x r ∧ m + s = smP base (l.take (a + 1)) x ∧ NfI w y.v cx base (L : Int) k from ⟨by rw [HSO2.out]; rfl, HSU2.out.symm, N6.out⟩)
                              go_wp2_with fail
                              go_round
                              case rel => exact ⟨a + 1, m + s, true, by omega, by go_num, rfl, by go_num, NX⟩
                              case measure => simp [intOf]; omega
                            | false =>
                              by_cases hsr : s = r
                              · have hsr' : ((s : Int) == (r : Int)) = true := by rw [beq_iff_eq]; omega
                                have NX := hid (show true = soP base (l.take (a + 1)) x r ∧ m + s = smP base (l.take (a + 1)) x ∧ NfI w y.v cx base (L : Int) k from ⟨by rw [HSO2.out]; simp [hsr], HSU2.out.symm, N6.out⟩)
                                clear hsr
                                go_wp2_with fail
                                go_round
                                case rel => exact ⟨a + 1, m + s, true, by omega, by go_num, rfl, by go_num, NX⟩
                                case measure => simp [intOf]; omega
                              · have hsr' : ((s : Int) == (r : Int)) = false := by rw [beq_eq_false_iff_ne]; omega
                                have NX := hid (show false = soP base (l.take (a + 1)) x r ∧ m + s = smP base (l.take (a + 1)) x ∧ NfI w y.v cx base (L : Int) k from ⟨by rw [HSO2.out]; simp [hsr], HSU2.out.symm, N6.out⟩)
                                clear hsr
                                go_wp2_with fail
                                go_round
                                case rel => exact ⟨a + 1, m + s, false, by omega, by go_num, rfl, by go_num, NX⟩
                                case measure => simp [intOf]; omega
                          | false =>
                            rw [hme] at HME
                            have NXF := hid (show ∀ W, NfI w W cx base (L : Int) k → b = soP base (l.take (a + 1)) x r ∧ m = smP base (l.take (a + 1)) x ∧ NfI w W cx base (L : Int) k from fun W h => ⟨by rw [HSO.out, if_neg (by rw [hme]; simp)], by rw [HSU.out, if_neg (by rw [hme]; simp)], h⟩)
                            clear hme
                            repeat (go_big_quiet_step (first | (go_at_call 30; exact Calls.kept_of (HME.out _))))
                            refine wpQuiet_nil ?_
                            intro y
                            have NX := hid (NXF.out y.v (HJ.out.2.2.keep y.k))
                            clear q0 q1 c0 c1 c2 HME
                            go_wp2_with fail
                            go_round
                            case rel => exact ⟨a + 1, m, b, by omega, by go_num, rfl, rfl, NX⟩
                            case measure => simp [intOf]; omega
                        · obtain rfl : a = l.length := by omega
                          have hai : ¬ (l.length : Int) < (l.length : Int) := by omega
                          have hb1 := HJ.out.1
                          have hb2 := HJ.out.2.1
                          rw [List.take_length] at hb1 hb2
                          have HB1 := hid hb1
                          have HB2 := hid hb2
                          have N7 := hid HJ.out.2.2
                          clear hb1 hb2
                          have NXX := hid (show ¬ (b = true ∧ m < 4096) → ∀ x', x' < x + 1 → ¬ (soP base l x' r = true ∧ smP base l x' < 4096) from fun h x' hx' => by
                            by_cases e : x' = x
                            · rw [e, ← HB1.out, ← HB2.out]; exact h
                            · exact HX.out.2 x' (by omega))
                          cases b with
                          | false =>
                            have NY := hid (show NfI w wr cx base (L : Int) k ∧ ∀ x', x' < x + 1 → ¬ (soP base l x' r = true ∧ smP base l x' < 4096) from ⟨N7.out, NXX.out (by simp)⟩)
                            go_wp2_with fail
                            go_round
                            case rel => exact ⟨x + 1, by omega, by rw [Nat.mul_succ, ← HQX.out]; go_num, NY⟩
                            case measure => simp [intOf]; omega
                          | true =>
                            by_cases hm4 : (m : Int) < 4096
                            · have E := hid (show nofV base (L : Int) (k : Int) (rr : Int) l r = false by
                                rw [EV2.out]
                                have hne : ¬ rmN (allU base l) r = 0 := fun e => (RM.out.1 e) x (by rw [ENP.out]; exact hlt) ⟨HB1.out.symm, by rw [← HB2.out]; omega⟩
                                have : (rmN (allU base l) r == 0) = false := by rw [beq_eq_false_iff_ne]; exact hne
                                rw [this, Bool.and_false])
                              go_wp2_with fail
                              go_ret
                              exact ⟨ret_bool E.out.symm, N7.out.kp⟩
                            · have NY := hid (show NfI w wr cx base (L : Int) k ∧ ∀ x', x' < x + 1 → ¬ (soP base l x' r = true ∧ smP base l x' < 4096) from ⟨N7.out, NXX.out (fun h => by omega)⟩)
                              go_wp2_with fail
                              go_round
                              case rel => exact ⟨x + 1, by omega, by rw [Nat.mul_succ, ← HQX.out]; go_num, NY⟩
                              case measure => simp [intOf]; omega
                    · obtain rfl : x = t := by omega
                      obtain rfl : q = oo := by rw [hq, HTH.out]
                      have hqi : ¬ (q : Int) < (q : Int) := by omega
                      have E := hid (show nofV base (L : Int) (k : Int) (rr : Int) l r = true by
                        rw [EV2.out, ST.out, RM.out.2 (fun x' hx' => HX.out.2 x' (by rw [ENP.out] at hx'; exact hx'))]; simp)
                      clear hq
                      go_wp2_with fail
                      go_ret
                      exact ⟨ret_bool E.out.symm, HX.out.1.kp⟩
            · obtain rfl : nn = r := by rw [hnnd]; rw [if_neg (by omega)] at hnn; omega
              have HHM := hid hhM
              clear hnn hnnd hM1 hM2 hhM
              go_wp2_with fail
              refine (HRR.out _).mono ?_
              rintro e w4 ⟨rfl, hk⟩
              have N4 := hid (N3.out.keep hk)
              clear hk c0 c1 c2 N3
              go_wp2_with fail
              go_loopw [11] (fun oo W => ∃ t : Nat, t ≤ M ∧ oo = .int .u64 ((nn * t : Nat) : Int) ∧ Hid (NfI w W cx base (L : Int) k ∧ ∀ t', t' < t → takB (base + nn * t') nn l = true)) (fun oo _ => hh + nn - (intOf oo).toNat)
              case atStart => exact ⟨0, Nat.zero_le _, by simp, hid ⟨N4.out, fun t ht => by omega⟩⟩
              case round =>
                clear N4
                obtain ⟨t, ht, rfl, HI⟩ := hrel
                obtain ⟨oo, hoo⟩ : ∃ oo, oo = nn * t := ⟨_, rfl⟩
                rw [← hoo]
                obtain ⟨c0, c1, c2⟩ := HI.out.1.cb.cells
                by_cases hlt : t < M
                · have hon : oo + nn ≤ hh := by
                    rw [HHM.out, hoo, ← Nat.mul_succ]
                    exact Nat.mul_le_mul_left nn hlt
                  have hoi : (oo : Int) < (hh : Int) := by omega
                  have HT := hid (fun W h => HTK.out W (base + oo) (by omega) h)
                  have hqi : (base : Int) + (oo : Int) = ((base + oo : Nat) : Int) := by simp
                  have HOO := hid hoo
                  clear hoo
                  obtain ⟨qq, hqq⟩ : ∃ qq, qq = base + oo := ⟨_, rfl⟩
                  rw [← hqq] at HT hqi
                  have HQQ := hid hqq
                  have hqb : qq < 2 ^ 64 := by omega
                  clear hqq
                  go_wp2_with fail
                  refine (HT.out _ (BL0.out.keep HI.out.1.kp)).mono ?_
                  rintro e w5 ⟨rfl, hk⟩
                  have N5 := hid (HI.out.1.keep hk)
                  clear hk c0 c1 c2
                  cases htk : takB qq nn l with
                  | false =>
                    have E := hid (show nofV base (L : Int) (k : Int) (rr : Int) l nn = false by
                      rw [EV2.out]
                      have hne : ¬ stN (allU base l) (lonN nn) = M := fun e => by
                        have := (TK.out t).2 (SF.out.1 e t hlt)
                        rw [← HOO.out, ← HQQ.out, htk] at this
                        cases this
                      have : (stN (allU base l) (lonN nn) == M) = false := by rw [beq_eq_false_iff_ne]; exact hne
                      rw [this]; rfl)
                    clear htk
                    go_wp2_with fail
                    go_ret
                    exact ⟨ret_bool E.out.symm, N5.out.kp⟩
                  | true =>
                    have NX := hid (show NfI w w5 cx base (L : Int) k ∧ ∀ t', t' < t + 1 → takB (base + nn * t') nn l = true from ⟨N5.out, fun t' ht' => by
                      by_cases e : t' = t
                      · rw [e, ← HOO.out, ← HQQ.out]; exact htk
                      · exact HI.out.2 t' (by omega)⟩)
                    clear htk
                    go_wp2_with fail
                    go_round
                    case rel => exact ⟨t + 1, by omega, by rw [Nat.mul_succ, ← HOO.out]; go_num, NX⟩
                    case measure => simp [intOf]; omega
                · obtain rfl : t = M := by omega
                  obtain rfl : oo = hh := by rw [hoo, HHM.out]
                  have hoi : ¬ (oo : Int) < (oo : Int) := by omega
                  have ST := hid (show stN (allU base l) (lonN nn) = t from SF.out.2 (fun t' ht' => (TK.out t').1 (HI.out.2 t' ht')))
                  have N5 := hid HI.out.1
                  clear hoo HI
                  have E := hid (show nofV base (L : Int) (k : Int) (rr : Int) l nn = true by
                    rw [EV2.out, ST.out, rm_big (by omega)]; simp)
                  go_wp2_with fail
                  go_ret
                  exact ⟨ret_bool E.out.symm, N5.out.kp⟩
    · have E := hid (show nofV base lim ord n l r = false by
        unfold nofV
        cases hmr : mayR base lim ord n with
        | false => rfl
        | true =>
          unfold sndV at hsv
          rw [if_pos hmr] at hsv
          have : (sndI base ord.toNat n.toNat l == -1) = false := by rw [beq_eq_false_iff_ne]; exact hsv
          rw [this]; rfl)
      have hne : (sndV base lim ord n l != -1) = true := by rw [bne_iff_ne]; exact hsv
      generalize sndV base lim ord n l = sv at *
      clear hm hsv
      go_enter Try.func18, Try.ntmps18
      go_wp2_with fail
      generalize w.alloc (.cells #[.int .u64 (base : Int), .int .i64 lim, .int .i64 ord] 24) = W0 at *
      refine (HM.out _).mono ?_
      rintro e w1 ⟨rfl, hk⟩
      have K1 := hid (none_trans K0.out hk)
      have C1 := hid (C0.out.keep hk (fun x => x))
      clear hk
      obtain ⟨c0, c1, c2⟩ := C1.out.cells
      go_wp2_with fail
      refine (HS.out _ (BL0.out.keep K1.out)).mono ?_
      rintro e w2 ⟨rfl, hk⟩
      have K2 := hid (none_trans K1.out hk)
      clear hk c0 c1 c2
      go_wp2_with fail
      go_ret
      exact ⟨ret_bool E.out.symm, K2.out⟩
end Go.Proofs.Ytibljocjdlgfbab
