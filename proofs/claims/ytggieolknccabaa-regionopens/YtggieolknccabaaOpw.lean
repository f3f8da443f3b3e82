/- RegionOpens: the walk. -/
import Derived.Test.YtggieolknccabaaOpx
import Derived.Deep.DeepCutAuto
import Derived.Deep.CutBlock
import Derived.Deep.RegionHeld3
namespace Go.Proofs.Ytggieolknccabaa
open Go.RowKit
set_option linter.unusedVariables false

theorem drew_cell {w : World} {a : Addr} {v : Value} (h : w.cell? a = some v) : w.drew.cell? a = some v := h
/-- What stands behind the line 'right'. -/
def RtP (w : World) (l o : Nat) (rg : Int) (b np n h : Nat) (v : Value) (W : World) : Prop := ∃ rt : Bool, v = .bool rt ∧ (rt = true ↔ (sizesOk l o rg b np ∧ (n : Int) = (o : Int) ∧ (h : Int) = (o : Int) + 1)) ∧ Kept none' w W
set_option maxRecDepth 4000 in
set_option maxHeartbeats 4000000 in
theorem opens_any (b0 : Nat) (hb64 : b0 < 18446744073709551616) (l0 o0 : Int) (l1 : -9223372036854775808 ≤ l0) (l2 : l0 ≤ 9223372036854775807) (o1 : -9223372036854775808 ≤ o0) (o2 : o0 ≤ 9223372036854775807) (rg bt pg wd hd : Int) (r1 : -9223372036854775808 ≤ rg) (r2 : rg ≤ 9223372036854775807) (w : World) :
    Calls Try.prog 5 #[cfgV b0 l0 o0, .int .i64 rg, .int .i64 bt, .int .i64 pg, .int .i64 wd, .int .i64 hd] w fun e w' => e = .returned (.bool true) ∧ Kept none' w w' := by
  have K0 := hid ((Kept.refl none' w).alloc (cfgO b0 l0 o0))
  have X0 := hid (heap_new w (cfgO b0 l0 o0))
  go_enter Try.func5, Try.ntmps5
  go_wp2_with fail
  refine (awake6 _).mono ?_
  rintro e w0 ⟨rfl, hk0⟩
  have K1 := hid (none_trans K0.out hk0)
  have X1 := hid ((hk0.block _ (heap_lt X0.out) (fun e => e)).trans X0.out)
  clear hk0 K0 X0
  go_upto_block 0 with fail
  go_cut [13, 14, 15] (fun s13 s14 s15 wx => ∃ np la lc, np ≤ 2000 ∧ s13 = .slice la np lc ∧ Hid (GS w0 wx 53 11 (.slice la np lc) np (reps pg2 np)))
  case first =>
    rename_i KK hKK J KK2 hJ hM
    clear hKK KK
    go_wp2_with fail
    go_loopw [13, 14] (fun l i W' => ∃ j : Nat, j ≤ 2000 ∧ i = .int .i64 j ∧ ∃ la lc, l = .slice la j lc ∧ Hid (GS w0 W' 53 11 (.slice la j lc) j (reps pg2 j))) (fun _ i _ => 2000 - (intOf i).toNat)
    case atStart => exact ⟨0, Nat.zero_le _, rfl, none, 0, rfl, hid (GS.nil w0 w0 _ _ (Kept.refl none' w0))⟩
    case round =>
      obtain ⟨j, hj, rfl, la, lc, rfl, hG⟩ := hrel
      by_cases h1 : (j : Int) < pg
      · have d1 : decide ((j : Int) < pg) = true := decide_eq_true h1
        by_cases h2 : j < 2000
        · have h2i : (j : Int) < 2000 := by omega
          have d2 : decide ((j : Int) < 2000) = true := decide_eq_true h2i
          obtain ⟨g, cap, w', hap, hg⟩ := push_pg2 hG.out hj
          have HAP := hid hap
          have D := hid hg
          clear hap hg
          go_wp2_with (at_builtin; refine Lib.wpList_append_run _ rfl _ _ _ _ rfl (.slice la j lc) (.slice (some ⟨wr.heap.size + 1, 0, none⟩) 1 1) rfl rfl _ _ (HAP.out _) ?_)
          exact ⟨⟨j + 1, by omega, by simp, _, _, rfl, D⟩, by simp [intOf]; omega⟩
        · have h2i : ¬ (j : Int) < 2000 := by omega
          have d2 : decide ((j : Int) < 2000) = false := decide_eq_false h2i
          go_wp2_with fail
          go_meet
          case rel => exact ⟨j, la, lc, hj, rfl, hG⟩
      · have d1 : decide ((j : Int) < pg) = false := decide_eq_false h1
        go_wp2_with fail
        go_meet
        case rel => exact ⟨j, la, lc, hj, rfl, hG⟩
  case rest =>
  obtain ⟨np, la, lc, hnp, rfl, hG1⟩ := hcut
  have X2 := hid ((hG1.out.kp.block _ (heap_lt X1.out) (fun e => e)).trans X1.out)
  go_upto_block 2 with fail
  go_cut [16, 17, 18] (fun s16 s17 s18 wx => ∃ K qa qc vs, K ≤ 9 ∧ s16 = .slice qa K qc ∧ Hid ((K : Int) = min (max o0 0) 9 ∧ PR w0 wx (.slice qa K qc) np K K vs ∧ GS w0 wx 53 11 (.slice la np lc) np (reps pg2 np)))
  case first =>
    rename_i KK hKK J KK2 hJ hM
    clear hKK KK
    go_wp2_with fail
    go_loopw [16, 17] (fun q i W' => ∃ k : Nat, k ≤ 9 ∧ i = .int .i64 k ∧ ∃ qa qc vs, q = .slice qa k qc ∧ Hid ((k : Int) ≤ max o0 0 ∧ PR w0 W' (.slice qa k qc) np k k vs ∧ GS w0 W' 53 11 (.slice la np lc) np (reps pg2 np))) (fun _ i _ => 9 - (intOf i).toNat)
    case atStart => exact ⟨0, Nat.zero_le _, rfl, none, 0, [], rfl, hid ⟨by omega, PR.nil w0 wc np hG1.out.kp, hG1.out⟩⟩
    case round =>
      obtain ⟨k, hk, rfl, qa, qc, vs, rfl, hQ⟩ := hrel
      obtain ⟨q1, q2, q3⟩ := hQ.out
      have Q1 := hid q1
      have Q2 := hid q2
      have Q3 := hid q3
      obtain ⟨x0, x1, x2⟩ := cfg3 ((q3.kp.block _ (heap_lt X1.out) (fun e => e)).trans X1.out)
      clear hQ q1 q2 q3
      by_cases h1 : (k : Int) < o0
      · have d1 : decide ((k : Int) < o0) = true := decide_eq_true h1
        by_cases h2 : k < 9
        · have h2i : (k : Int) < 9 := by omega
          have d2 : decide ((k : Int) < 9) = true := decide_eq_true h2i
          obtain ⟨w1, hmk, g, cap, w', vs', hap, hg1, hg2⟩ := push_row Q3.out Q2.out hnp (by omega)
          have HAP := hid hap
          have D := hid (show (((k + 1 : Nat) : Int) ≤ max o0 0) ∧ PR w0 w' (.slice (some ⟨g, 0, none⟩) (k + 1) cap) np (k + 1) (k + 1) vs' ∧ GS w0 w' 53 11 (.slice la np lc) np (reps pg2 np) from ⟨by omega, hg1, hg2⟩)
          clear hap hg1 hg2
          go_wp2_with (at_builtin; refine Lib.wpList_append_run _ rfl _ _ _ _ rfl (.slice qa k qc) (.slice (some ⟨w1.heap.size, 0, none⟩) 1 1) rfl rfl _ _ (HAP.out _) ?_)
          exact ⟨⟨k + 1, by omega, by simp, _, _, _, rfl, D⟩, by simp [intOf]; omega⟩
        · have h2i : ¬ (k : Int) < 9 := by omega
          have d2 : decide ((k : Int) < 9) = false := decide_eq_false h2i
          have D := hid (show (k : Int) = min (max o0 0) 9 ∧ PR w0 wr (.slice qa k qc) np k k vs ∧ GS w0 wr 53 11 (.slice la np lc) np (reps pg2 np) from ⟨by have := Q1.out; omega, Q2.out, Q3.out⟩)
          go_wp2_with fail
          go_meet
          case rel => exact ⟨k, qa, qc, vs, hk, rfl, D⟩
      · have d1 : decide ((k : Int) < o0) = false := decide_eq_false h1
        have D := hid (show (k : Int) = min (max o0 0) 9 ∧ PR w0 wr (.slice qa k qc) np k k vs ∧ GS w0 wr 53 11 (.slice la np lc) np (reps pg2 np) from ⟨by have := Q1.out; omega, Q2.out, Q3.out⟩)
        go_wp2_with fail
        go_meet
        case rel => exact ⟨k, qa, qc, vs, hk, rfl, D⟩
  case rest =>
  obtain ⟨K, qa, qc, vs, hK, rfl, hG2⟩ := hcut
  obtain ⟨g1, g2, g3⟩ := hG2.out
  have HK := hid g1
  have HP := hid g2
  have HL := hid g3
  clear g1 g2 g3 hG2
  go_upto_block 4 with fail
  go_cut [16, 19] (fun s16 s19 wx => ∃ n qa qc vs, n ≤ 14 ∧ s16 = .slice qa n qc ∧ Hid (PR w0 wx (.slice qa n qc) np K n vs ∧ GS w0 wx 53 11 (.slice la np lc) np (reps pg2 np)))
  case first =>
    rename_i KK hKK J KK2 hJ hM
    clear hKK KK
    go_wp2_with fail
    go_loopw [16, 19] (fun q i W' => ∃ t : Nat, t ≤ 5 ∧ i = .int .i64 t ∧ ∃ qa qc vs, q = .slice qa (K + t) qc ∧ Hid (PR w0 W' (.slice qa (K + t) qc) np K (K + t) vs ∧ GS w0 W' 53 11 (.slice la np lc) np (reps pg2 np))) (fun _ i _ => 5 - (intOf i).toNat)
    case atStart => exact ⟨0, Nat.zero_le _, rfl, qa, qc, vs, rfl, hid ⟨HP.out, HL.out⟩⟩
    case round =>
      obtain ⟨t, ht, rfl, qa', qc', vs', rfl, hQ⟩ := hrel
      by_cases h1 : (t : Int) < wd
      · have d1 : decide ((t : Int) < wd) = true := decide_eq_true h1
        by_cases h2 : t < 5
        · have h2i : (t : Int) < 5 := by omega
          have d2 : decide ((t : Int) < 5) = true := decide_eq_true h2i
          obtain ⟨q1, q2⟩ := hQ.out
          obtain ⟨g, cap, w', vs2, hap, hg1, hg2⟩ := push_nil q2 q1 (by omega)
          have HAP := hid hap
          have D := hid (show PR w0 w' (.slice (some ⟨g, 0, none⟩) (K + (t + 1)) cap) np K (K + (t + 1)) vs2 ∧ GS w0 w' 53 11 (.slice la np lc) np (reps pg2 np) from ⟨hg1, hg2⟩)
          clear hap hg1 hg2 q1 q2
          go_wp2_with (at_builtin; refine Lib.wpList_append_run _ rfl _ _ _ _ rfl (.slice qa' (K + t) qc') (.slice (some ⟨wr.heap.size, 0, none⟩) 1 1) rfl rfl _ _ (HAP.out _) ?_)
          exact ⟨⟨t + 1, by omega, by simp, _, _, _, rfl, D⟩, by simp [intOf]; omega⟩
        · have h2i : ¬ (t : Int) < 5 := by omega
          have d2 : decide ((t : Int) < 5) = false := decide_eq_false h2i
          go_wp2_with fail
          go_meet
          case rel => exact ⟨K + t, qa', qc', vs', by omega, rfl, hQ⟩
      · have d1 : decide ((t : Int) < wd) = false := decide_eq_false h1
        go_wp2_with fail
        go_meet
        case rel => exact ⟨K + t, qa', qc', vs', by omega, rfl, hQ⟩
  case rest =>
  clear HP HL
  obtain ⟨n, qa, qc, vs, hn, rfl, hG2⟩ := hcut
  go_upto_region 24 with fail
  go_cut [84] (fun sc wx => wx = wc ∧ Hid (sc = .bool (decide (hd < 0 ∨ 100 < hd))))
  case first =>
    rename_i KK hKK J KK2 hJ hM
    clear hKK KK
    by_cases h1 : hd < 0
    · have d1 : decide (hd < 0) = true := decide_eq_true h1
      go_wp2_with fail
      go_meet
      case rel => exact ⟨rfl, hid (by rw [decide_eq_true (.inl h1)])⟩
    · have d1 : decide (hd < 0) = false := decide_eq_false h1
      by_cases h2 : 100 < hd
      · have d2 : decide (100 < hd) = true := decide_eq_true h2
        go_wp2_with fail
        go_meet
        case rel => exact ⟨rfl, hid (by rw [decide_eq_true (.inr h2)])⟩
      · have d2 : decide (100 < hd) = false := decide_eq_false h2
        go_wp2_with fail
        go_meet
        case rel => exact ⟨rfl, hid (by rw [decide_eq_false (by omega)])⟩
  case rest =>
  obtain ⟨rfl, hsc⟩ := hcut
  go_upto_region 27 with fail
  go_cut [20] (fun sc wx => wx = wc ∧ ∃ h : Nat, h ≤ 100 ∧ sc = .int .i64 (h : Int) ∧ Hid ((h : Int) = if hd < 0 ∨ 100 < hd then 0 else hd))
  case first =>
    rename_i KK hKK J KK2 hJ hM
    clear hKK KK
    have hsc2 := hsc.out
    clear hsc
    by_cases h1 : hd < 0 ∨ 100 < hd
    · rw [decide_eq_true h1] at hsc2
      subst hsc2
      go_wp2_with fail
      go_meet
      case rel => exact ⟨rfl, 0, by omega, rfl, hid (by rw [if_pos h1]; rfl)⟩
    · rw [decide_eq_false h1] at hsc2
      subst hsc2
      go_wp2_with fail
      go_meet
      case rel => exact ⟨rfl, hd.toNat, by omega, by rw [Int.toNat_of_nonneg (by omega)], hid (by rw [if_neg h1]; omega)⟩
  case rest =>
  obtain ⟨rfl, h, hh, rfl, HH⟩ := hcut
  go_upto_region 27 with fail
  go_cut [91] (fun sc wx => wx = wc ∧ Hid (sc = .bool (decide (bt < 0 ∨ 4194304 < bt))))
  case first =>
    rename_i KK hKK J KK2 hJ hM
    clear hKK KK
    by_cases h1 : bt < 0
    · have d1 : decide (bt < 0) = true := decide_eq_true h1
      go_wp2_with fail
      go_meet
      case rel => exact ⟨rfl, hid (by rw [decide_eq_true (.inl h1)])⟩
    · have d1 : decide (bt < 0) = false := decide_eq_false h1
      by_cases h2 : 4194304 < bt
      · have d2 : decide (4194304 < bt) = true := decide_eq_true h2
        go_wp2_with fail
        go_meet
        case rel => exact ⟨rfl, hid (by rw [decide_eq_true (.inr h2)])⟩
      · have d2 : decide (4194304 < bt) = false := decide_eq_false h2
        go_wp2_with fail
        go_meet
        case rel => exact ⟨rfl, hid (by rw [decide_eq_false (by omega)])⟩
  case rest =>
  obtain ⟨rfl, hsc⟩ := hcut
  go_upto_region 29 with fail
  go_cut [21] (fun sc wx => wx = wc ∧ ∃ b : Nat, b ≤ 4194304 ∧ sc = .int .i64 (b : Int) ∧ Hid ((b : Int) = if bt < 0 ∨ 4194304 < bt then 0 else bt))
  case first =>
    rename_i KK hKK J KK2 hJ hM
    clear hKK KK
    have hsc2 := hsc.out
    clear hsc
    by_cases h1 : bt < 0 ∨ 4194304 < bt
    · rw [decide_eq_true h1] at hsc2
      subst hsc2
      go_wp2_with fail
      go_meet
      case rel => exact ⟨rfl, 0, by omega, rfl, hid (by rw [if_pos h1]; rfl)⟩
    · rw [decide_eq_false h1] at hsc2
      subst hsc2
      go_wp2_with fail
      go_meet
      case rel => exact ⟨rfl, bt.toNat, by omega, by rw [Int.toNat_of_nonneg (by omega)], hid (by rw [if_neg h1]; omega)⟩
  case rest =>
  obtain ⟨rfl, b, hb, rfl, HB⟩ := hcut
  go_upto_region 29 with fail
  have X3 := hid ((hG2.out.2.kp.block _ (heap_lt X1.out) (fun e => e)).trans X1.out)
  have K3 := hid (none_trans K1.out hG2.out.2.kp)
  go_cut [22, 23] (fun s22 s23 wx => s23 = .int .i64 (wantO b0 l0 o0 rg b np n h) ∧ Hid (Kept none' w wx) ∧ Hid (wx.heap[w.heap.size]? = some (cfgO b0 l0 o0)))
  case first =>
    rename_i KK hKK J KK2 hJ hM
    clear hKK KK
    have MB := fun W => M.make_bytes b (by omega) W
    have MW := fun W => make_row (n := h) (by omega) W
    obtain ⟨c0, c1, c2⟩ := cfg3 X3.out
    have d0 := drew_cell c0
    have d1 := drew_cell c1
    have d2 := drew_cell c2
    have KA := hid ((((Kept.refl none' wc).alloc (.cells (M.bcells (M.told b fun _ => 0)) 5)).alloc (.cells (wcells (List.replicate h 0)) 23)).drew)
    have KB := hid ((((Kept.refl none' wc).alloc (.cells (wcells (List.replicate h 0)) 23)).alloc (.cells (M.bcells (M.told b fun _ => 0)) 5)).drew)
    have OA := hid (open_law b0 hb64 l0 o0 l1 l2 o1 o2 rg hb hh hnp hn HK.out (hG2.out.2.keep KA.out) (hG2.out.1.keep KA.out) wc.heap.size (wc.heap.size + 1) (((M.Blk.new wc b).bytes b).keep (ofK (((Kept.refl none' _).alloc (.cells (wcells (List.replicate h 0)) 23)).drew))) (by
      have e := heap_new (wc.alloc (.cells (M.bcells (M.told b fun _ => 0)) 5)) (.cells (wcells (List.replicate h 0)) 23)
      rw [show (wc.alloc (.cells (M.bcells (M.told b fun _ => 0)) 5)).heap.size = wc.heap.size + 1 by simp] at e
      exact e))
    have OB := hid (open_law b0 hb64 l0 o0 l1 l2 o1 o2 rg hb hh hnp hn HK.out (hG2.out.2.keep KB.out) (hG2.out.1.keep KB.out) (wc.heap.size + 1) wc.heap.size (by
      have e := (M.Blk.new (wc.alloc (.cells (wcells (List.replicate h 0)) 23)) b).bytes b
      rw [show (wc.alloc (.cells (wcells (List.replicate h 0)) 23)).heap.size = wc.heap.size + 1 by simp] at e
      exact e.keep (ofK ((Kept.refl none' _).drew))) ((((Kept.refl none' _).alloc (.cells (M.bcells (M.told b fun _ => 0)) 5)).drew.block _ (heap_lt (heap_new wc (.cells (wcells (List.replicate h 0)) 23))) (fun e => e)).trans (heap_new wc (.cells (wcells (List.replicate h 0)) 23))))
    go_wp2_with fail
    go_region_held3 (fun w' => w'.cell? ⟨w.heap.size, 0, none⟩ = some (.int .u64 (b0 : Int)) ∧ w'.cell? ⟨w.heap.size, 1, none⟩ = some (.int .i64 l0) ∧ w'.cell? ⟨w.heap.size, 2, none⟩ = some (.int .i64 o0)) ((refine ⟨?_, ?_, ?_⟩ <;> first | with_reducible assumption | with_reducible exact drew_cell (alloc_cellL (by with_reducible assumption)) | with_reducible exact drew_cell (alloc_cellL (alloc_cellL (by with_reducible assumption))))) (first
      | (go_at_call 18; (with_reducible refine OA.out.mono ?_); rintro e w2 ⟨v2, rfl, hk2⟩; have K4 := hid (none_trans K3.out (none_trans KA.out hk2)); have X4 := hid (((none_trans KA.out hk2).block _ (heap_lt X3.out) (fun e => e)).trans X3.out); obtain ⟨e0, e1, e2⟩ := cfg3 X4.out; clear hk2)
      | (go_at_call 18; (with_reducible refine OB.out.mono ?_); rintro e w2 ⟨v2, rfl, hk2⟩; have K4 := hid (none_trans K3.out (none_trans KB.out hk2)); have X4 := hid (((none_trans KB.out hk2).block _ (heap_lt X3.out) (fun e => e)).trans X3.out); obtain ⟨e0, e1, e2⟩ := cfg3 X4.out; clear hk2)
      | fail)
    all_goals
      go_wp2_with fail
      go_meet
      case rel => exact ⟨rfl, K4, X4⟩
  case rest =>
  obtain ⟨rfl, K4, X4⟩ := hcut
  clear K3 X3
  have MY := hid (fun W => M.May_any b0 hb64 l0 o0 l1 l2 o1 o2 W)
  obtain ⟨W, hW⟩ : ∃ W, W = wantO b0 l0 o0 rg b np n h := ⟨_, rfl⟩
  rw [← hW]
  replace hW := hid hW
  obtain ⟨x0, x1, x2⟩ := cfg3 X4.out
  cases hm : M.mayB b0 l0 o0 with
  | false =>
    rw [hm] at MY
    have hW1 : W = 1 := by
      rw [hW.out]
      unfold wantO
      rw [if_neg (by rw [hm]; decide)]
    subst hW1
    clear hW hm
    go_wp2_with fail
    refine (MY.out _).mono ?_
    rintro e w3 ⟨rfl, hk3⟩
    have K5 := hid (none_trans K4.out (toK hk3))
    clear hk3 x0 x1 x2 MY
    go_wp2_with fail
    go_ret
    exact ⟨rfl, K5.out⟩
  | true =>
    rw [hm] at MY
    obtain ⟨p1, p2, p3, p4, p5⟩ := may_bounds hm
    obtain ⟨l, rfl⟩ := Int.eq_ofNat_of_zero_le p1
    obtain ⟨o, rfl⟩ := Int.eq_ofNat_of_zero_le p3
    go_wp2_with fail
    refine (MY.out _).mono ?_
    rintro e w3 ⟨rfl, hk3⟩
    have K5 := hid (none_trans K4.out (toK hk3))
    have X5 := hid (((toK hk3).block _ (heap_lt X4.out) (fun e => e)).trans X4.out)
    clear hk3 x0 x1 x2 MY
    go_upto_region 32 with fail
    have RR := hid (fun W => M.R_any (b0 : Int) (l : Int) o (by omega) W)
    have PP := hid (fun W => Power6 o (by omega) W)
    obtain ⟨z, hz⟩ : ∃ z, z = 2 ^ o := ⟨_, rfl⟩
    have hz1 : z ≤ 256 := by
      rw [hz]
      exact Nat.pow_le_pow_right (n := 2) (by decide) (show o ≤ 8 by omega)
    obtain ⟨R, hR⟩ : ∃ R, R = 4096 * z := ⟨_, rfl⟩
    have hRS : M.RS o = R := by
      rw [hR, hz]
      rfl
    have hRb : R ≤ 1048576 := by omega
    rw [hRS] at RR
    rw [← hz] at PP
    have SZ := hid (show ∀ r : Nat, sizesOk l o (r : Int) b np ↔ (r ≤ l ∧ np = r * z ∧ b = np * 4096) from fun r => by
      unfold sizesOk
      rw [hz]
      constructor
      · rintro ⟨q1, q2, q3, q4⟩
        exact ⟨by omega, by exact_mod_cast q3, q4⟩
      · rintro ⟨q1, q2, q4⟩
        exact ⟨by omega, by omega, by exact_mod_cast q2, q4⟩)
    have HR := hid hR
    have HM := hid hm
    clear hz hRS hR hm
    go_cut [24] (fun s24 wx => RtP w l o rg b np n h s24 wx)
    case first =>
      rename_i KK hKK J KK2 hJ hM
      clear hKK KK
      obtain ⟨x0, x1, x2⟩ := cfg3 X5.out
      by_cases h1 : 0 ≤ rg
      · obtain ⟨r, rfl⟩ := Int.eq_ofNat_of_zero_le h1
        by_cases h2 : r ≤ l
        · have h2i : (r : Int) ≤ (l : Int) := by omega
          have hr64 : r ≤ 64 := by omega
          obtain ⟨m, hm⟩ : ∃ m, m = r * R := ⟨_, rfl⟩
          have hmi : (r : Int) * (R : Int) = (m : Int) := by rw [hm]; simp
          have hm2 : m ≤ 67108864 := by
            rw [hm]
            exact Nat.le_trans (Nat.mul_le_mul hr64 hRb) (by decide)
          obtain ⟨q, hq⟩ : ∃ q, q = r * z := ⟨_, rfl⟩
          have hqi : (r : Int) * (z : Int) = (q : Int) := by rw [hq]; simp
          have hq2 : q ≤ 16384 := by
            rw [hq]
            exact Nat.le_trans (Nat.mul_le_mul hr64 hz1) (by decide)
          have HM2 := hid (show m = q * 4096 by rw [hm, hq, HR.out, Nat.mul_assoc, Nat.mul_comm z 4096])
          have HQ := hid hq
          clear hm hq h1
          by_cases h3 : b = m
          · subst h3
            by_cases h4 : np = q
            · subst h4
              by_cases h5 : n = o
              · subst h5
                by_cases h6 : h = n + 1
                · subst h6
                  go_wp2_with fail
                  refine (RR.out _).mono ?_
                  rintro e w5 ⟨rfl, hk5⟩
                  have K6 := hid (none_trans K5.out (toK hk5))
                  have X6 := hid (((toK hk5).block _ (heap_lt X5.out) (fun e => e)).trans X5.out)
                  clear hk5 x0 x1 x2 RR
                  obtain ⟨x0, x1, x2⟩ := cfg3 X6.out
                  go_wp2_with fail
                  refine (PP.out _).mono ?_
                  rintro e w6 ⟨rfl, h6'⟩
                  subst h6'
                  clear PP
                  go_wp2_with fail
                  go_meet
                  case rel => exact ⟨true, rfl, ⟨fun _ => ⟨(SZ.out r).2 ⟨h2, HQ.out, HM2.out⟩, rfl, by omega⟩, fun _ => rfl⟩, K6.out⟩
                · have h6i : ¬ (h : Int) = (n : Int) + 1 := by omega
                  have h6b : ((h : Int) == (n : Int) + 1) = false := beq_eq_false_iff_ne.2 h6i
                  go_wp2_with fail
                  refine (RR.out _).mono ?_
                  rintro e w5 ⟨rfl, hk5⟩
                  have K6 := hid (none_trans K5.out (toK hk5))
                  have X6 := hid (((toK hk5).block _ (heap_lt X5.out) (fun e => e)).trans X5.out)
                  clear hk5 x0 x1 x2 RR
                  obtain ⟨x0, x1, x2⟩ := cfg3 X6.out
                  go_wp2_with fail
                  refine (PP.out _).mono ?_
                  rintro e w6 ⟨rfl, h6'⟩
                  subst h6'
                  clear PP
                  go_wp2_with fail
                  go_meet
                  case rel => exact ⟨false, rfl, ⟨fun e => absurd e (by decide), fun e => absurd e.2.2 (by omega)⟩, K6.out⟩
              · have h5i : ¬ (n : Int) = (o : Int) := by omega
                have h5b : ((n : Int) == (o : Int)) = false := beq_eq_false_iff_ne.2 h5i
                go_wp2_with fail
                refine (RR.out _).mono ?_
                rintro e w5 ⟨rfl, hk5⟩
                have K6 := hid (none_trans K5.out (toK hk5))
                have X6 := hid (((toK hk5).block _ (heap_lt X5.out) (fun e => e)).trans X5.out)
                clear hk5 x0 x1 x2 RR
                obtain ⟨x0, x1, x2⟩ := cfg3 X6.out
                go_wp2_with fail
                refine (PP.out _).mono ?_
                rintro e w6 ⟨rfl, h6'⟩
                subst h6'
                clear PP
                go_wp2_with fail
                go_meet
                case rel => exact ⟨false, rfl, ⟨fun e => absurd e (by decide), fun e => absurd e.2.1 (by omega)⟩, K6.out⟩
            · have h4i : ¬ (np : Int) = (q : Int) := by omega
              have h4b : ((np : Int) == (q : Int)) = false := beq_eq_false_iff_ne.2 h4i
              go_wp2_with fail
              refine (RR.out _).mono ?_
              rintro e w5 ⟨rfl, hk5⟩
              have K6 := hid (none_trans K5.out (toK hk5))
              have X6 := hid (((toK hk5).block _ (heap_lt X5.out) (fun e => e)).trans X5.out)
              clear hk5 x0 x1 x2 RR
              obtain ⟨x0, x1, x2⟩ := cfg3 X6.out
              go_wp2_with fail
              refine (PP.out _).mono ?_
              rintro e w6 ⟨rfl, h6'⟩
              subst h6'
              clear PP
              go_wp2_with fail
              go_meet
              case rel => exact ⟨false, rfl, ⟨fun e => absurd e (by decide), fun e => absurd ((SZ.out r).1 e.1).2.1 (by rw [← HQ.out]; exact h4)⟩, K6.out⟩
          · have h3i : ¬ (b : Int) = (m : Int) := by omega
            have h3b : ((b : Int) == (m : Int)) = false := beq_eq_false_iff_ne.2 h3i
            go_wp2_with fail
            refine (RR.out _).mono ?_
            rintro e w5 ⟨rfl, hk5⟩
            have K6 := hid (none_trans K5.out (toK hk5))
            have X6 := hid (((toK hk5).block _ (heap_lt X5.out) (fun e => e)).trans X5.out)
            clear hk5 x0 x1 x2 RR
            obtain ⟨x0, x1, x2⟩ := cfg3 X6.out
            go_wp2_with fail
            go_meet
            case rel => exact ⟨false, rfl, ⟨fun e => absurd e (by decide), fun e => by have e1 := (SZ.out r).1 e.1; have e2 := HQ.out; have e3 := HM2.out; omega⟩, K6.out⟩
        · have h2i : ¬ (r : Int) ≤ (l : Int) := by omega
          have h2d : decide ((r : Int) ≤ (l : Int)) = false := decide_eq_false h2i
          go_wp2_with fail
          go_meet
          case rel => exact ⟨false, rfl, ⟨fun e => absurd e (by decide), fun e => absurd ((SZ.out r).1 e.1).1 (by omega)⟩, K5.out⟩
      · have h1d : decide (0 ≤ rg) = false := decide_eq_false h1
        go_wp2_with fail
        go_meet
        case rel => exact ⟨false, rfl, ⟨fun e => absurd e (by decide), fun e => absurd e.1.1 (by omega)⟩, K5.out⟩
    case rest =>
    obtain ⟨rt, rfl, hrt0, k6⟩ := hcut
    have hrt := hid hrt0
    have K6 := hid k6
    clear hrt0 k6
    cases rt with
    | true =>
      have hW1 : W = 0 := by
        rw [hW.out]
        unfold wantO
        rw [if_pos HM.out, if_pos (by simpa using hrt.out.1 rfl)]
      subst hW1
      clear hW hrt
      go_wp2_with fail
      go_ret
      exact ⟨rfl, K6.out⟩
    | false =>
      have hW1 : W = 7 := by
        rw [hW.out]
        unfold wantO
        rw [if_pos HM.out, if_neg (fun e => by have := hrt.out.2 (by simpa using e); cases this)]
      subst hW1
      clear hW hrt
      go_wp2_with fail
      go_ret
      exact ⟨rfl, K6.out⟩
end Go.Proofs.Ytggieolknccabaa
