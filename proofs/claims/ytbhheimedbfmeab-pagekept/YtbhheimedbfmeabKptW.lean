/- PageKept: the walk. -/
import Derived.Test.YtbhheimedbfmeabKptA
import Derived.Lib.AppendZeros
namespace Go.Proofs.Ytbhheimedbfmeab
open Go.RowKit
set_option linter.unusedVariables false

theorem Told.wcell {w W gp gq m k D} (h : Told w W gp gq m k D) (j : Nat) (hj : j < k) : W.cell? ⟨gq, j, none⟩ = some (.slice (some ⟨D j, 0, none⟩) (m.wd j).length (m.wd j).length) := by
  obtain ⟨cs, hg, hs, hc⟩ := h.q
  have := hc j hj
  simp [World.cell?, hg, this]
theorem word_at {w : World} {g : Nat} {zs : List Nat} (hg : w.heap[g]? = some (.cells (wcells zs) 37 (0, 0))) (i : Nat) (hi : i < zs.length) : w.cell? ⟨g, i, none⟩ = some (.int .u64 ((zs.getD i 0 : Nat) : Int)) := by
  simp [World.cell?, hg, wcells, hi]
set_option maxRecDepth 6000 in
set_option maxHeartbeats 8000000 in
theorem kept_any (od : Int) (sv : Value) (n : Nat) (w : World) (hS : OpsIn w sv n) :
    Calls Try.prog 3 #[.int .i64 od, sv] w fun e w' => e = .returned (.bool true) ∧ Kept none' w w' := by
  obtain ⟨hn63, oa, oc, rfl, hsv⟩ := hS
  have HSV := hid hsv
  clear hsv
  have hae := arr_eq
  go_enter Try.func3, Try.ntmps3
  go_wp2_with fail
  refine (awake_any _).mono ?_
  rintro e w1 ⟨rfl, hK⟩
  have K1 := hid hK
  clear hK
  go_wp2_with fail
  refine (New_ks od w _ K1.out).mono ?_
  rintro e w2 ⟨b, rfl, hS⟩
  have HS := hid hS
  clear hS K1
  go_wp2_with fail
  refine (Grow_ks b _ w _ HS.out).mono ?_
  rintro e w3 ⟨rfl, hS⟩
  have H0 := hid (show ∃ m, KS w w3 b m ∧ Inv m from ⟨_, hS, show Inv (growM (newM (ordN od))) from inv_call (inv_new (ordN od)) 1 0 0 0 false⟩)
  clear hS HS
  go_wp2_with fail
  go_loopw [6] (fun i W => ∃ j : Nat, j ≤ n ∧ i = .int .i64 j ∧ Hid (∃ m, KS w W b m ∧ Inv m)) (fun i _ => n - (intOf i).toNat)
  case atStart => exact ⟨0, by omega, rfl, H0⟩
  case round =>
    clear H0
    obtain ⟨j, hj, rfl, hH⟩ := hrel
    obtain ⟨m, hH, hI⟩ := hH.out
    have HS := hid hH
    have HI := hid hI
    clear hH hI
    by_cases hlt : j < n
    · obtain ⟨bl, o, rfl, hbl, hrow⟩ := HSV.out.resolve_left (by omega)
      obtain ⟨k', p', x', y', l', h1, h2, h3, h4, g0, g1, g2, g3, g4⟩ := hrow j hlt
      have kk := HS.out.kp
      have g0 := kk.cell (fun x => x) g0
      have g1 := kk.cell (fun x => x) g1
      have g2 := kk.cell (fun x => x) g2
      have g3 := kk.cell (fun x => x) g3
      have g4 := kk.cell (fun x => x) g4
      have hji : (j : Int) < (n : Int) := by omega
      clear kk hrow h1 h2 h3 h4
      go_wp2_with fail
      first
        | (refine (call_ks b m k' p' x' y' l' w _ HS.out).mono ?_
           rintro e W2 ⟨rfl, hS2⟩)
        | (go_region_with ((go_at_call 7; refine (call_ks b m k' p' x' y' l' w _ (HS.out.keep (Kept.refl none' _).drew)).mono ?_; rintro e W2 ⟨rfl, hS2⟩)))
      all_goals
        have H2 := hid (show ∃ m, KS w W2 b m ∧ Inv m from ⟨_, hS2, inv_call HI.out _ _ _ _ _⟩)
        clear hS2
        go_wp2_with fail
        exact ⟨⟨j + 1, by omega, by simp, H2⟩, by simp [intOf]; omega⟩
    · have hji : ¬ (j : Int) < (n : Int) := by omega
      go_wp2_with fail
      obtain ⟨B, hM, hN, hK⟩ := HS.out
      refine (Plain_any b B m _ hM).mono ?_
      rintro e w4 ⟨gp, gq, D, rfl, hT⟩
      have HM := hid hM
      have HT := hid hT
      have KM := hid hK
      have M4 := hid (hM.keep hT.kp)
      have NB := hid (show m.n ≤ 1024 ∧ m.o ≤ 8 from ⟨hM.n1, hM.o8⟩)
      clear hM hN hT hK HS
      go_wp2_with fail
      refine (Plain_any b B m _ M4.out).mono ?_
      rintro e w5 ⟨g2, q2, D2, rfl, hT⟩
      have HT2 := hid hT
      have HT5 := hid (HT.out.keep hT.kp)
      clear hT
      by_cases hB : goneB m.n m.pg m.n = true
      · have OP := hid (back_gone b B m gp gq D wr wr w5 HM.out HI.out ((goneB_iff _ _ _).1 hB) HT5.out)
        have GO := hid (fun W (k : Kept none' w5 W) => gone_any g2 m.n m.pg NB.out.1 W (Row.kept HT2.out.row k (fun x => x)))
        rw [hB] at GO
        clear hB
        go_wp2_with fail
        refine OP.out.mono ?_
        rintro e w6 ⟨rfl, hK6⟩
        have K6 := hid hK6
        clear hK6
        go_wp2_with fail
        refine (GO.out w6 K6.out).mono ?_
        rintro e w7 ⟨rfl, hK7⟩
        have K7 := hid (none_trans (none_trans KM.out (none_trans HT.out.kp HT2.out.kp)) (none_trans K6.out hK7))
        clear hK7
        go_wp2_with fail
        exact ⟨rfl, .bool true, by simp [results, Try.results3, go_sem], rfl, K7.out⟩
      · have hB : goneB m.n m.pg m.n = false := by simpa using hB
        have hB2 : ∀ i, i < m.n → (m.pg i).nx < m.n ∧ (m.pg i).pv < m.n := fun i hi => by
          have h1 : ¬ ((m.n : Int) ≤ (m.pg i).nx ∨ (m.n : Int) ≤ (m.pg i).pv) := fun e => by
            have := (goneB_iff m.n m.pg m.n).2 ⟨i, hi, e⟩
            rw [hB] at this
            cases this
          omega
        have OP := hid ((back_open b B m gp gq D wr wr w5 HM.out HI.out hB2 HT5.out).mono (fun e w6 hq => show ∃ b', e = .returned (.tuple #[.pointer (some ⟨b', 0, none⟩), .int .i64 0]) ∧ Hid (∃ B', KW w w6 gp gq D b b' B B' m g2 q2 D2 0 0 0) ∧ Hid (Kept none' w5 w6) from by
          obtain ⟨b', he, hH⟩ := hq
          obtain ⟨B', h1, h2, h3⟩ := hH.out
          exact ⟨b', he, hid ⟨B', KW.init HM.out KM.out HT.out HT2.out h1 h2 h3⟩, hid h3⟩))
        have GO := hid (fun W (k : Kept none' w5 W) => gone_any g2 m.n m.pg NB.out.1 W (Row.kept HT2.out.row k (fun x => x)))
        rw [hB] at GO
        clear hB hB2
        go_wp2_with fail
        refine OP.out.mono ?_
        rintro e w6 ⟨b', rfl, hQ, K6⟩
        go_wp2_with fail
        refine (GO.out w6 K6.out).mono ?_
        rintro e w7 ⟨rfl, hK7⟩
        obtain ⟨B', hQ⟩ := hQ.out
        have X0 := hid (KX.init (hQ.keep hK7))
        clear hK7 hQ K6 GO OP HM HT HT2 HT5 M4 KM
        go_wp2_with fail
        obtain ⟨M, hM⟩ : ∃ M, M = w7.heap.size := ⟨_, rfl⟩
        rw [← hM] at X0 ⊢
        clear hM
        have hn1 := NB.out.1
        go_loopw [14] (fun i W => ∃ j : Nat, j ≤ m.n ∧ i = .int .i64 j ∧ Hid (KX w W M gp gq D b b' B B' m g2 q2 D2 j 0 0)) (fun i _ => m.n - (intOf i).toNat)
        case atStart => exact ⟨0, by omega, rfl, X0⟩
        case round =>
          clear X0
          obtain ⟨a, ha, rfl, hX⟩ := hrel
          by_cases hlt : a < m.n
          · have hai : (a : Int) < (m.n : Int) := by omega
            obtain ⟨x0, x1, x2, x3, x4, x5, x6, x7, x8, x9, x10⟩ := box11 hX.out.2.1
            obtain ⟨d0, d1, d2, d3, d4, d5, d6, d7, d8, d9, d10⟩ := Row.cell hX.out.1.row a hlt
            have z := RowC.froz hX.out.1.row
            have X1 := hid (hX.out.page hlt)
            go_wp2_with fail
            exact ⟨⟨a + 1, by omega, by simp, X1⟩, by simp [intOf]; omega⟩
          · have hai : ¬ (a : Int) < (m.n : Int) := by omega
            have han : a = m.n := by omega
            subst han
            have ho8 := NB.out.2
            go_wp2_with fail
            go_loopw [15] (fun i W => ∃ j : Nat, j ≤ m.o ∧ i = .int .i64 j ∧ Hid (KX w W M gp gq D b b' B B' m g2 q2 D2 m.n j 0)) (fun i _ => m.o - (intOf i).toNat)
            case atStart => exact ⟨0, by omega, rfl, hX⟩
            case round =>
              clear hX
              obtain ⟨k, hk, rfl, hX⟩ := hrel
              by_cases hlt2 : k < m.o
              · have hki : (k : Int) < (m.o : Int) := by omega
                have hL : (m.wd k).length ≤ 16 := by
                  have h1 := (hX.out.1.mb.set k hlt2).len
                  have h2 : m.n / 2 ^ (k + 1) ≤ 1024 := Nat.le_trans (Nat.div_le_self _ _) NB.out.1
                  omega
                go_wp2_with fail
                go_loopw [16] (fun i W => ∃ j : Nat, j ≤ (m.wd k).length ∧ i = .int .i64 j ∧ Hid (KX w W M gp gq D b b' B B' m g2 q2 D2 m.n k j)) (fun i _ => (m.wd k).length - (intOf i).toNat)
                case atStart => exact ⟨0, by omega, rfl, hX⟩
                case round =>
                  clear hX
                  obtain ⟨x, hx, rfl, hX⟩ := hrel
                  have e1 := hX.out.1.qc k hlt2
                  by_cases hlt3 : x < (m.wd k).length
                  · have hxi : (x : Int) < ((m.wd k).length : Int) := by omega
                    obtain ⟨y, e2, e3, _⟩ := hX.out.1.dc k hlt2 x hlt3
                    have X1 := hid (hX.out.word hlt2 hlt3)
                    go_wp2_with fail
                    exact ⟨⟨x + 1, by omega, by simp, X1⟩, by simp [intOf]; omega⟩
                  · have hxi : ¬ (x : Int) < ((m.wd k).length : Int) := by omega
                    have hxl : x = (m.wd k).length := by omega
                    rw [hxl] at hX
                    have X1 := hid hX.out.up
                    go_wp2_with fail
                    exact ⟨⟨k + 1, by omega, by simp, X1⟩, by simp [intOf]; omega⟩
              · have hki : ¬ (k : Int) < (m.o : Int) := by omega
                have hkn : k = m.o := by omega
                subst hkn
                go_wp2_with fail
                go_loopw [17] (fun i W => ∃ j : Nat, j ≤ m.o ∧ i = .int .i64 j ∧ Hid (KX w W M gp gq D b b' B B' m g2 q2 D2 m.n m.o 0)) (fun i _ => m.o - (intOf i).toNat)
                case atStart => exact ⟨0, by omega, rfl, hX⟩
                case round =>
                  clear hX
                  obtain ⟨k, hk, rfl, hX⟩ := hrel
                  by_cases hlt2 : k < m.o
                  · have hki : (k : Int) < (m.o : Int) := by omega
                    have e1 := hX.out.1.qc k hlt2
                    have hL : (m.wd k).length ≤ 16 := by
                      have h1 := (hX.out.1.mb.set k hlt2).len
                      have h2 : m.n / 2 ^ (k + 1) ≤ 1024 := Nat.le_trans (Nat.div_le_self _ _) NB.out.1
                      omega
                    have G0 := hid (hX.out.1.gs k hlt2)
                    go_wp2_with fail
                    obtain ⟨W0, hW0⟩ : ∃ W0, W0 = wr := ⟨_, rfl⟩
                    subst hW0
                    go_loopw [18, 19] (fun gv i W => ∃ t : Nat, t ≤ 5 ∧ i = .int .i64 t ∧ (∃ ga gc, gv = .slice (some ⟨ga, 0, none⟩) ((m.wd k).length + t) gc) ∧ Hid (∃ xs, GS W0 W 37 1 gv ((m.wd k).length + t) xs)) (fun _ i _ => 5 - (intOf i).toNat)
                    case atStart => exact ⟨0, by omega, rfl, ⟨_, _, rfl⟩, G0⟩
                    case round =>
                      clear G0 e1
                      obtain ⟨t, ht, rfl, ⟨ga, gc, rfl⟩, hG⟩ := hrel
                      by_cases hlt3 : t < 5
                      · have hti : (t : Int) < 5 := by omega
                        obtain ⟨xs, hG⟩ := hG.out
                        obtain ⟨g3, cap, w9, hap, hG9⟩ := push_w64 hG 77 (by omega)
                        have HAP := hid hap
                        have G9 := hid (show ∃ xs, GS W0 w9 37 1 (.slice (some ⟨g3, 0, none⟩) ((m.wd k).length + (t + 1)) cap) ((m.wd k).length + (t + 1)) xs from ⟨_, hG9⟩)
                        clear hap hG9 hG
                        go_wp2_with (at_builtin; refine Lib.wpList_append_run _ rfl _ _ _ _ rfl (.slice (some ⟨ga, 0, none⟩) ((m.wd k).length + t) gc) (.slice (some ⟨wr.heap.size, 0, none⟩) 1 1) rfl rfl _ _ (HAP.out _) ?_)
                        exact ⟨⟨t + 1, by omega, by simp, ⟨_, _, rfl⟩, G9⟩, by simp [intOf]; omega⟩
                      · have hti : ¬ (t : Int) < 5 := by omega
                        have X1 := hid (show KX w wr M gp gq D b b' B B' m g2 q2 D2 m.n m.o 0 by obtain ⟨xs, hG⟩ := hG.out; exact hX.out.keep hG.kp)
                        go_wp2_with fail
                        exact ⟨⟨k + 1, by omega, by simp, X1⟩, by simp [intOf]; omega⟩
                  · have hki : ¬ (k : Int) < (m.o : Int) := by omega
                    go_wp2_with fail
                    obtain ⟨W0, hW0⟩ : ∃ W0, W0 = wr := ⟨_, rfl⟩
                    subst hW0
                    go_loopw [20, 21] (fun gv i W => ∃ t : Nat, t ≤ 5 ∧ i = .int .i64 t ∧ (∃ ga gc, gv = .slice (some ⟨ga, 0, none⟩) (m.n + t) gc) ∧ Hid (∃ xs, GS W0 W 40 11 gv (m.n + t) xs ∧ ∀ x, x < m.n → ∀ y, y < 11 → xs[x * 11 + y]? = some (markP.fld y))) (fun _ i _ => 5 - (intOf i).toNat)
                    case atStart =>
                      obtain ⟨ms, q1, q2, q3⟩ := hX.out.1.gp
                      exact ⟨0, by omega, rfl, ⟨_, _, rfl⟩, ⟨ms, q1, q3⟩⟩
                    case round =>
                      obtain ⟨t, ht, rfl, ⟨ga, gc, rfl⟩, hG⟩ := hrel
                      have X1 := hid (show KX w wr M gp gq D b b' B B' m g2 q2 D2 m.n m.o 0 by obtain ⟨xs, hG, _⟩ := hG.out; exact hX.out.keep hG.kp)
                      by_cases hlt3 : t < 5
                      · have hti : (t : Int) < 5 := by omega
                        obtain ⟨xs, hG, hxs⟩ := hG.out
                        obtain ⟨g3, cap, w9, hap, hG9⟩ := push_page hG markP (by omega)
                        have HAP := hid hap
                        have G9 := hid (show ∃ xs, GS W0 w9 40 11 (.slice (some ⟨g3, 0, none⟩) (m.n + (t + 1)) cap) (m.n + (t + 1)) xs ∧ ∀ x, x < m.n → ∀ y, y < 11 → xs[x * 11 + y]? = some (markP.fld y) from ⟨_, hG9, fun x hx y hy => by rw [List.getElem?_append_left (by rw [hG.own.1]; omega)]; exact hxs x hx y hy⟩)
                        obtain ⟨x0, x1, x2, x3, x4, x5, x6, x7, x8, x9, x10⟩ := box11 X1.out.2.1
                        clear hap hG9 hG hxs
                        go_wp2_with (at_builtin; refine Lib.wpList_append_run _ rfl _ _ _ _ rfl (.slice (some ⟨ga, 0, none⟩) (m.n + t) gc) (.slice (some ⟨wr.heap.size, 0, none⟩) 1 1) rfl rfl _ _ (HAP.out _) ?_)
                        exact ⟨⟨t + 1, by omega, by simp, ⟨_, _, rfl⟩, G9⟩, by simp [intOf]; omega⟩
                      · have hti : ¬ (t : Int) < 5 := by omega
                        have ht5 : t = 5 := by omega
                        subst ht5
                        clear hX
                        go_wp2_with fail
                        obtain ⟨W1, hW1⟩ : ∃ W1, W1 = wr := ⟨_, rfl⟩
                        subst hW1
                        have GC := hid (show ∀ x, x < m.n → ∀ y, y < 11 → W1.cell? ⟨ga, x * 11 + y, none⟩ = some (markP.fld y) from fun x hx y hy => by
                          obtain ⟨xs, hG, hxs⟩ := hG.out
                          have h1 := hxs x hx y hy
                          rcases hG.own.2 with ⟨e, _⟩ | ⟨g', cap', cur, e, _, hg', _, _, _, htake⟩
                          · simp at e
                          · obtain rfl : ga = g' := by simpa [Value.ownBlock] using congrArg Value.ownBlock e
                            rw [← htake, List.getElem?_take] at h1
                            split at h1
                            · simp only [World.cell?, hg']
                              rw [← Array.getElem?_toList, h1]
                              rfl
                            · cases h1)
                        clear hG
                        go_loopw [22] (fun i W => ∃ j : Nat, j ≤ m.n ∧ i = .int .i64 j ∧ Hid (∃ q, W = W1.drewN q)) (fun i _ => m.n - (intOf i).toNat)
                        case atStart => exact ⟨0, by omega, rfl, ⟨0, rfl⟩⟩
                        case round =>
                          obtain ⟨x, hx, rfl, hQ⟩ := hrel
                          have kk : Kept none' W1 wr := by obtain ⟨q, hq⟩ := hQ.out; rw [hq]; exact (Kept.refl none' W1).drewN q
                          have X2 := hid (X1.out.keep kk)
                          by_cases hlt3 : x < m.n
                          · have hxi : (x : Int) < (m.n : Int) := by omega
                            have hxt : (x : Int) < (m.n : Int) + 5 := by omega
                            obtain ⟨x0, x1, x2, x3, x4, x5, x6, x7, x8, x9, x10⟩ := box11 X2.out.2.1
                            have gc : ∀ y, y < 11 → wr.cell? ⟨ga, x * 11 + y, none⟩ = some (markP.fld y) := fun y hy => kk.cell (fun x => x) (GC.out x hlt3 y hy)
                            have d0 : wr.cell? ⟨ga, x * 11, none⟩ = some (.int .i64 markP.kd) := gc 0 (by decide)
                            have d1 : wr.cell? ⟨ga, x * 11 + 1, none⟩ = some (.int .i64 markP.od) := gc 1 (by decide)
                            have d2 : wr.cell? ⟨ga, x * 11 + 2, none⟩ = some (.int .i64 markP.cl) := gc 2 (by decide)
                            have d3 : wr.cell? ⟨ga, x * 11 + 3, none⟩ = some (.int .i64 markP.lv) := gc 3 (by decide)
                            have d4 : wr.cell? ⟨ga, x * 11 + 4, none⟩ = some (.int .i64 markP.nx) := gc 4 (by decide)
                            have d5 : wr.cell? ⟨ga, x * 11 + 5, none⟩ = some (.int .i64 markP.pv) := gc 5 (by decide)
                            have d6 : wr.cell? ⟨ga, x * 11 + 6, none⟩ = some (.int .i64 markP.fs) := gc 6 (by decide)
                            have d7 : wr.cell? ⟨ga, x * 11 + 7, none⟩ = some (.int .u64 (markP.b0 : Int)) := gc 7 (by decide)
                            have d8 : wr.cell? ⟨ga, x * 11 + 8, none⟩ = some (.int .u64 (markP.b1 : Int)) := gc 8 (by decide)
                            have d9 : wr.cell? ⟨ga, x * 11 + 9, none⟩ = some (.int .u64 (markP.b2 : Int)) := gc 9 (by decide)
                            have d10 : wr.cell? ⟨ga, x * 11 + 10, none⟩ = some (.int .u64 (markP.b3 : Int)) := gc 10 (by decide)
                            clear kk gc
                            go_wp2_with fail
                            go_quiet (fail)
                            go_wp2_with fail
                            exact ⟨⟨x + 1, by omega, by simp, by obtain ⟨q, hq⟩ := hQ.out; exact ⟨q + nq, by rw [hq]; exact drewN_add W1 q nq⟩⟩, by simp [intOf]; omega⟩
                          · have hxi : ¬ (x : Int) < (m.n : Int) := by omega
                            clear kk hQ X1 GC
                            go_wp2_with fail
                            go_loop [23] (fun i => ∃ j : Nat, j ≤ m.o ∧ i = .int .i64 j) (fun i => m.o - (intOf i).toNat)
                            case atStart => exact ⟨0, by omega, rfl⟩
                            case round =>
                              obtain ⟨k, hk, rfl⟩ := hrel
                              by_cases hlt2 : k < m.o
                              · have hki : (k : Int) < (m.o : Int) := by omega
                                have e1 := X2.out.1.qc k hlt2
                                have hL : (m.wd k).length ≤ 16 := by
                                  have h1 := (X2.out.1.mb.set k hlt2).len
                                  have h2 : m.n / 2 ^ (k + 1) ≤ 1024 := Nat.le_trans (Nat.div_le_self _ _) NB.out.1
                                  omega
                                go_wp2_with fail
                                go_loop [24] (fun i => ∃ j : Nat, j ≤ (m.wd k).length ∧ i = .int .i64 j) (fun i => (m.wd k).length - (intOf i).toNat)
                                case atStart => exact ⟨0, by omega, rfl⟩
                                case round =>
                                  obtain ⟨x, hx, rfl⟩ := hrel
                                  by_cases hlt3 : x < (m.wd k).length
                                  · have hxi : (x : Int) < ((m.wd k).length : Int) := by omega
                                    obtain ⟨y, e2, e3, e4⟩ := X2.out.1.dc k hlt2 x hlt3
                                    rw [e4 hlt2] at e2
                                    clear e3 e4
                                    go_wp2_with fail
                                    exact ⟨⟨x + 1, by omega, by simp⟩, by simp [intOf]; omega⟩
                                  · have hxi : ¬ (x : Int) < ((m.wd k).length : Int) := by omega
                                    go_wp2_with fail
                                    exact ⟨⟨k + 1, by omega, by simp⟩, by simp [intOf]; omega⟩
                              · have hki : ¬ (k : Int) < (m.o : Int) := by omega
                                go_wp2_with fail
                                refine (Plain_any b' B' m _ X2.out.1.mq).mono ?_
                                rintro e w7 ⟨gp3, gq3, Da, rfl, hT⟩
                                have T7 := hid hT
                                have X3 := hid (X2.out.1.keep hT.kp)
                                clear hT X2
                                go_wp2_with fail
                                refine (Plain_any b B m _ X3.out.mb).mono ?_
                                rintro e w8 ⟨gp4, gq4, Db, rfl, hT⟩
                                have T8 := hid hT
                                have T9 := hid (T7.out.keep hT.kp)
                                have X4 := hid (X3.out.keep hT.kp)
                                clear hT X3 T7
                                have NL := hid (show ∀ k, k < m.o → (m.wd k).length ≤ 16 from fun k hk => by
                                  have h1 := (X4.out.mb.set k hk).len
                                  have h2 : m.n / 2 ^ (k + 1) ≤ 1024 := Nat.le_trans (Nat.div_le_self _ _) NB.out.1
                                  omega)
                                go_wp2_with fail
                                refine (SamePages_true g2 gp3 m.n m.n m.n m.n m.n m.pg m.pg NB.out.1 (Nat.le_refl _) (Nat.le_refl _) (fun i hi => rfl) w8 X4.out.t2.row T9.out.row).mono ?_
                                rintro e w9 ⟨rfl, q9', hq9⟩
                                have kq : Kept none' w8 w9 := by rw [hq9]; exact (Kept.refl none' w8).drewN q9'
                                have TA := hid (T9.out.keep kq)
                                have TB := hid (T8.out.keep kq)
                                have XA := hid (X4.out.keep kq)
                                clear kq hq9 T8 T9 X4
                                go_wp2_with fail
                                refine (SamePages_true g2 gp4 m.n m.n m.n m.n m.n m.pg m.pg NB.out.1 (Nat.le_refl _) (Nat.le_refl _) (fun i hi => rfl) w9 XA.out.t2.row TB.out.row).mono ?_
                                rintro e wA ⟨rfl, q9', hq9⟩
                                have kq : Kept none' w9 wA := by rw [hq9]; exact (Kept.refl none' w9).drewN q9'
                                have TC := hid (TA.out.keep kq)
                                have TD := hid (TB.out.keep kq)
                                have XB := hid (XA.out.keep kq)
                                clear kq hq9 TA TB XA
                                go_wp2_with fail
                                go_loopw [29] (fun i W => ∃ j : Nat, j ≤ m.o ∧ i = .int .i64 j ∧ Hid (∃ q, W = wA.drewN q)) (fun i _ => m.o - (intOf i).toNat)
                                case atStart => exact ⟨0, by omega, rfl, ⟨0, rfl⟩⟩
                                case round =>
                                  obtain ⟨jk, hjk, rfl, hQ⟩ := hrel
                                  have kk : Kept none' wA wr := by obtain ⟨q, hq⟩ := hQ.out; rw [hq]; exact (Kept.refl none' wA).drewN q
                                  have KK := hid kk
                                  by_cases hlt2 : jk < m.o
                                  · have hki : (jk : Int) < (m.o : Int) := by omega
                                    have hL := NL.out jk hlt2
                                    have EC := hid (fun W (k : Kept none' wA W) => And.intro ((XB.out.t2.keep k).wcell jk hlt2) (And.intro ((TC.out.keep k).wcell jk hlt2) ((TD.out.keep k).wcell jk hlt2)))
                                    have EW := hid (fun W (k : Kept none' wA W) i (hi : i < (m.wd jk).length) => And.intro (word_at ((XB.out.t2.keep k).d jk hlt2) i hi) (And.intro (word_at ((TC.out.keep k).d jk hlt2) i hi) (word_at ((TD.out.keep k).d jk hlt2) i hi)))
                                    obtain ⟨e1, e2, e3⟩ := EC.out _ kk
                                    generalize hZ : (m.wd jk).length = zl at *
                                    clear kk
                                    go_wp2_with fail
                                    go_quiet (fail)
                                    go_wp2_with fail
                                    go_loopw [30] (fun i W => ∃ j : Nat, j ≤ zl ∧ i = .int .i64 j ∧ Hid (∃ q, W = wA.drewN q)) (fun i _ => zl - (intOf i).toNat)
                                    case atStart => exact ⟨0, by omega, rfl, by obtain ⟨q, hq⟩ := hQ.out; exact ⟨q + nq, by rw [hq]; exact drewN_add wA q nq⟩⟩
                                    case round =>
                                      clear hQ KK e1 e2 e3
                                      obtain ⟨ji, hji2, rfl, hQ⟩ := hrel
                                      have kk : Kept none' wA wr := by obtain ⟨q, hq⟩ := hQ.out; rw [hq]; exact (Kept.refl none' wA).drewN q
                                      obtain ⟨e1, e2, e3⟩ := EC.out _ kk
                                      by_cases hlt3 : ji < zl
                                      · have hii : (ji : Int) < (zl : Int) := by omega
                                        obtain ⟨x1, x2, x3⟩ := EW.out wr kk ji hlt3
                                        clear kk
                                        go_wp2_with fail
                                        go_quiet (fail)
                                        go_wp2_with fail
                                        exact ⟨⟨ji + 1, by omega, by simp, by obtain ⟨q, hq⟩ := hQ.out; exact ⟨q + nq, by rw [hq]; exact drewN_add wA q nq⟩⟩, by simp [intOf]; omega⟩
                                      · have hii : ¬ (ji : Int) < (zl : Int) := by omega
                                        clear kk
                                        go_wp2_with fail
                                        exact ⟨⟨jk + 1, by omega, by simp, hQ⟩, by simp [intOf]; omega⟩
                                  · have hki : ¬ (jk : Int) < (m.o : Int) := by omega
                                    clear kk
                                    go_wp2_with fail
                                    go_ret
                                    exact ⟨rfl, none_trans XB.out.kp KK.out⟩
end Go.Proofs.Ytbhheimedbfmeab
