/- OracleBounds. -/
import Derived.Test.YtibljocjdlgfbaaBoB
import Derived.Test.YtibljocjdlgfbaaOrR
namespace Go.Proofs.Ytibljocjdlgfbaa
open Go.RowKit
set_option linter.unusedVariables false

set_option maxRecDepth 40000 in
set_option maxHeartbeats 2000000 in
theorem oracleBounds (base : Nat) (hb64 : base < 18446744073709551616) (lim ord : Int) (hl1 : -9223372036854775808 ≤ lim) (hl2 : lim ≤ 9223372036854775807) (ho1 : -9223372036854775808 ≤ ord) (ho2 : ord ≤ 9223372036854775807) (n : Int) (hn1 : -9223372036854775808 ≤ n) (hn2 : n ≤ 9223372036854775807) (v : Value) (l : Bls) (r : Nat) (hr : r < 2 ^ 64) (dn : Bool) (w : World) (hbl : BL w v l) (hlen : l.length ≤ 8796093022000) :
    Calls Try.prog 7 #[.agg #[.int .u64 (base : Int), .int .i64 lim, .int .i64 ord, .int .i64 n, v, .int .u64 (r : Int), .bool dn]] w fun e w' => e = .returned (.bool true) ∧ Kept none' w w' := by
  obtain ⟨oa, oc, rfl⟩ : ∃ oa oc, v = .slice oa l.length oc := by
    obtain ⟨_, _, oa, oc, hv, _⟩ := hbl
    exact ⟨oa, oc, hv⟩
  have C0 := hid (show AQ (w.alloc (.cells #[.int .u64 (base : Int), .int .i64 lim, .int .i64 ord, .int .i64 n, .slice oa l.length oc, .int .u64 (r : Int), .bool dn] 54)) w.heap.size base lim ord n (.slice oa l.length oc) r dn from heap_new w _)
  have K0 := hid (show Kept none' w (w.alloc (.cells #[.int .u64 (base : Int), .int .i64 lim, .int .i64 ord, .int .i64 n, .slice oa l.length oc, .int .u64 (r : Int), .bool dn] 54)) from (Kept.refl _ w).alloc _)
  have BL0 := hid hbl
  obtain ⟨nv, hnv⟩ : ∃ nv, nv = nofV base lim ord n l r := ⟨_, rfl⟩
  have HN := hid (show ∀ W v, BL W v l → Calls Try.prog 14 #[cfgV base lim ord, .int .i64 n, v, .int .u64 (r : Int)] W fun e w' => e = .returned (.bool nv) ∧ Kept none' W w' from fun W v h => by
    rw [hnv]; exact NoFit_any base hb64 lim ord n hl1 hl2 ho1 ho2 v l r hr W h)
  have HNV := hid hnv
  obtain ⟨cc, hcc⟩ : ∃ cc, cc = bdC r := ⟨_, rfl⟩
  obtain ⟨mm, hmm⟩ : ∃ mm, mm = bdM r := ⟨_, rfl⟩
  have HB1 := hid (show ∀ W, Calls Try.prog 16 #[.int .u64 (r : Int)] W fun e w' => e = .returned (.tuple #[.int .u64 (cc : Int), .int .u64 (mm : Int)]) ∧ w' = W from fun W => by
    rw [hcc, hmm]; exact Bound_any r hr W)
  have HB2 := hid (show ∀ W, Calls Try.prog 26 #[.int .u64 (r : Int)] W fun e w' => e = .returned (.tuple #[.int .u64 (cc : Int), .int .u64 (mm : Int)]) ∧ w' = W from fun W => by
    rw [hcc, hmm]; exact refBound r hr W)
  have HCC := hid hcc
  have HMM := hid hmm
  have HBK := hid (fun W v h => blocks_any v l W h hlen)
  clear hbl hnv hcc hmm
  go_enter Try.func7, Try.ntmps7
  go_wp2_with fail
  generalize w.alloc (.cells #[.int .u64 (base : Int), .int .i64 lim, .int .i64 ord, .int .i64 n, .slice oa l.length oc, .int .u64 (r : Int), .bool dn] 54) = W0 at *
  generalize w.heap.size = cx at *
  refine (awake_any _).mono ?_
  rintro e w1 ⟨rfl, hk⟩
  have K1 := hid (none_trans K0.out hk)
  have C1 := hid (C0.out.keep hk)
  clear hk
  obtain ⟨c0, c1, c2, c3, c4, c5, c6⟩ := C1.out.cells
  go_wp2_with fail
  refine (HB1.out _).mono ?_
  rintro e w' ⟨rfl, rfl⟩
  go_wp2_with fail
  refine (HB2.out _).mono ?_
  rintro e w' ⟨rfl, rfl⟩
  go_wp2_with fail
  refine (HBK.out _ _ (BL0.out.keep K1.out)).mono ?_
  rintro e w2 ⟨g, cap, rfl, hcap, hA, hk⟩
  have K2 := hid (none_trans K1.out hk)
  have C2 := hid (C1.out.keep hk)
  have P2 := hid (BL.pre hA)
  have hc1 : (l.length : Int) ≤ (cap : Int) := by omega
  have hc2 : ¬ (cap : Int) < (l.length : Int) := by omega
  clear hk hA HBK c0 c1 c2 c3 c4 c5 c6
  obtain ⟨c0, c1, c2, c3, c4, c5, c6⟩ := C2.out.all
  go_wp2_with fail
  refine wp_region_kept (by kernel_rfl) (by kernel_rfl) ?_
  repeat (go_big_quiet_step (first | (go_at_call 18; exact Calls.kept_of (config_any base lim ord _)) | (go_at_call 14; exact Calls.kept_of (HN.out _ _ (P2.out.keep (KW.k _))))))
  refine wpQuiet_nil ?_
  intro x
  have K3 := hid (none_trans K2.out x.k)
  have C3 := hid (C2.out.keep x.k)
  clear c0 c1 c2 c3 c4 c5 c6
  obtain ⟨w3, hw3⟩ : ∃ w3, w3 = x.v := ⟨_, rfl⟩
  rw [← hw3] at K3 C3
  cases nv with
  | false =>
    go_wp2_with fail
    rw [← hw3]
    go_ret
    exact ⟨rfl, K3.out⟩
  | true =>
    obtain ⟨k, m, hk8, hm, rfl, rfl, HF⟩ := nof_bound HNV.out.symm
    clear hn1 hn2 ho1 ho2
    obtain ⟨R, hR⟩ : ∃ R, R = RS k := ⟨_, rfl⟩
    have HRR := hid (show ∀ W, Calls Try.prog 27 #[cfgV base lim (k : Int)] W fun e w' => e = .returned (.int .u64 (R : Int)) ∧ Kept none' W w' from fun W => by
      rw [hR]; exact refR base lim k hk8 W)
    obtain ⟨hh, hhd⟩ : ∃ hh, hh = m * R := ⟨_, rfl⟩
    have hhi : (m : Int) * (R : Int) = (hh : Int) := by rw [hhd]; simp
    have hh4 : hh ≤ 4194304 := by rw [hhd, hR]; exact HF.hB
    obtain ⟨tt, htt⟩ : ∃ tt, tt = totN l := ⟨_, rfl⟩
    have HT := hid (show ∀ W v, BL W v l → Calls Try.prog 28 #[v] W fun e w' => e = .returned (.int .u64 (tt : Int)) ∧ Kept none' W w' from fun W v h => by
      rw [htt]; exact refTotal v l W h HF.tB)
    have tt4 : tt ≤ 1073741824 := by rw [htt]; exact HF.tB
    have cc4 : cc ≤ 1048576 := by rw [HCC.out]; exact HF.cB
    have mm4 : mm ≤ 32 := by rw [HMM.out]; unfold bdM; split <;> omega
    obtain ⟨ct, hct⟩ : ∃ ct, ct = cc * tt := ⟨_, rfl⟩
    obtain ⟨mh, hmh⟩ : ∃ mh, mh = mm * hh := ⟨_, rfl⟩
    have ct4 : ct ≤ 1125899906842624 := by rw [hct]; exact Nat.mul_le_mul cc4 tt4
    have mh4 : mh ≤ 134217728 := by rw [hmh]; exact Nat.mul_le_mul mm4 hh4
    have hcti : (cc : Int) * (tt : Int) = (ct : Int) := by rw [hct]; simp
    have hmhi : (mm : Int) * (hh : Int) = (mh : Int) := by rw [hmh]; simp
    have B1 : ¬ (ct : Int) < (mh : Int) := by
      have := HF.b1
      rw [← HCC.out, ← HMM.out, ← htt, ← hR, ← hhd, ← hct, ← hmh] at this
      omega
    have B2 := hid (show (∀ b ∈ l, 4096 ≤ b.2) → 4096 * hh ≤ ct from fun h => by
      have := HF.b2 h
      rw [← HCC.out, ← htt, ← hR, ← hhd, ← hct] at this
      exact this)
    clear hct hmh htt hhd hR HF HNV HCC HMM HN hb64 hl1 hl2
    obtain ⟨c0, c1, c2, c3, c4, c5, c6⟩ := C3.out.all
    go_wp2_with fail
    rw [← hw3]
    clear hw3
    refine wp_region_kept (by kernel_rfl) (by kernel_rfl) ?_
    repeat (go_big_quiet_step (first | (go_at_call 27; exact Calls.kept_of (HRR.out _))))
    refine wpQuiet_nil ?_
    intro y
    have K4 := hid (none_trans K3.out y.k)
    have C4 := hid (C3.out.keep y.k)
    clear c0 c1 c2 c3 c4 c5 c6
    obtain ⟨c0, c1, c2, c3, c4, c5, c6⟩ := C4.out.cells
    go_wp2_with fail
    generalize y.v = w4 at *
    refine (HT.out _ _ (BL0.out.keep K4.out)).mono ?_
    rintro e w5 ⟨rfl, hk⟩
    have K5 := hid (none_trans K4.out hk)
    have C5 := hid (C4.out.keep hk)
    clear hk c0 c1 c2 c3 c4 c5 c6
    obtain ⟨c0, c1, c2, c3, c4, c5, c6⟩ := C5.out.cells
    go_wp2_with fail
    go_loop [10] (fun i => ∃ a : Nat, a ≤ l.length ∧ i = .int .i64 a ∧ Hid (∀ b ∈ l.take a, 4096 ≤ b.2)) (fun i => l.length - (intOf i).toNat)
    case atStart => exact ⟨0, Nat.zero_le _, rfl, hid (fun b hb => by simp at hb)⟩
    case round =>
      obtain ⟨a, ha, rfl, HI⟩ := hrel
      by_cases hlt : a < l.length
      · have hai : (a : Int) < (l.length : Int) := by omega
        obtain ⟨bl, o, p, s, rfl, hla, hp, hs, q0, q1⟩ := (BL0.out.keep K5.out).at a hlt
        by_cases hsm : (s : Int) < 4096
        · clear hla
          go_wp2_with fail
          go_ret
          exact ⟨rfl, K5.out⟩
        · have NX := hid (show ∀ b ∈ l.take (a + 1), 4096 ≤ b.2 from fun b hb => by
            rw [List.take_add_one, hla] at hb
            rcases List.mem_append.1 hb with h | h
            · exact HI.out b h
            · rw [show b = (p, s) by simpa using h]
              show 4096 ≤ s
              omega)
          clear hla
          go_wp2_with fail
          go_round
          case rel => exact ⟨a + 1, by omega, by go_num, NX⟩
          case measure => simp [intOf]; omega
      · have hge : ¬ (a : Int) < (l.length : Int) := by omega
        have B3 : (4096 : Int) * (hh : Int) ≤ (ct : Int) := by
          have e : a = l.length := by omega
          have := B2.out (by have := HI.out; rw [e, List.take_length] at this; exact this)
          omega
        go_wp2_with fail
        go_ret
        exact ⟨rfl, K5.out⟩
end Go.Proofs.Ytibljocjdlgfbaa
