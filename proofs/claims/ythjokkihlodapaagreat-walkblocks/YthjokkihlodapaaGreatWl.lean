import Derived.Test.YthjokkihlodapaaGreatWk
set_option maxRecDepth 1000000
set_option maxHeartbeats 80000000
/- croftref9: rule 10. -/
namespace Go.Proofs.YthjokkihlodapaaGreat
open Go.RowKit
set_option linter.unusedVariables false
set_option maxHeartbeats 8000000
set_option maxRecDepth 6000
/-- Rule 10. -/
theorem partial9 (I : Img) (V : ImV) (k r : Nat) (hS : Sn9 I k r) (h5 : fst1 I.np (fun i => ok5 (I.pg i)) = none) (w : World) (hI : ImD w I V) :
    Calls Tryz.prog 35 #[imA I V] w fun e w' => e = .returned (.int .i64 (plI (fst1 8 (ok10 I)))) ∧ Kept none' w w' := by
  obtain ⟨⟨ma, mc, hm⟩, ⟨pa, pc, hp⟩, ⟨ra, rc, hr⟩, ⟨ha, hc, hh⟩, ⟨ta, tc, ht⟩, -⟩ := hI.sl
  obtain ⟨vm, vp, vr, vh, vt⟩ := V
  dsimp only at hm hp hr hh ht
  subst hm hp hr hh ht
  have IM0 := hid (show ImAt (w.alloc (imO I _)) w.heap.size I _ from ⟨heap_new _ _, hI.keep ((Kept.refl _ w).alloc _)⟩)
  have K0 := hid (show Kept none' w (w.alloc (imO I _)) from (Kept.refl _ w).alloc (imO I ⟨.slice ma I.nm mc, .slice pa I.np pc, .slice ra I.no rc, .slice ha I.hd.length hc, .slice ta I.pt.length tc⟩))
  obtain ⟨c0, c1, c2, c3, c4, c5, c6, c7, c8⟩ := IM0.out.cells
  have HNP := hid hS.np1
  have HTL := hid hS.tl
  have HS := hid hS
  obtain ⟨rr, hrr⟩ : ∃ rr, rr = plI (fst1 8 (ok10 I)) := ⟨_, rfl⟩
  rw [← hrr]
  have BAD := hid (show ∀ a, a < 8 → (∀ j, j < a → ok10 I j = true) → ok10 I a = false → rr = (a : Int) from fun a h1 h2 h3 => by rw [hrr, fst1_bad h1 h2 h3]; rfl)
  have GOOD := hid (show (∀ j, j < 8 → ok10 I j = true) → rr = -1 from fun h => by rw [hrr, fst1_ok h]; rfl)
  have RM := hid (show ∀ (g c : Nat), g < I.np → ∀ W, ImD W I ⟨.slice ma I.nm mc, .slice pa I.np pc, .slice ra I.no rc, .slice ha I.hd.length hc, .slice ta I.pt.length tc⟩ → Calls Tryz.prog 58 #[imA I ⟨.slice ma I.nm mc, .slice pa I.np pc, .slice ra I.no rc, .slice ha I.hd.length hc, .slice ta I.pt.length tc⟩, .int .i64 (g : Int), .int .i64 (c : Int)] W fun e w' => e = .returned (.bool (prS (c : Int) (I.pg g))) ∧ Kept none' W w' from fun g c hg W hW => by
    obtain ⟨kd, od, cc, ll, y1, y2, y3, y4, y5, y6, y7, y8, -⟩ := hS.pg g hg
    obtain ⟨-, -, -, -, hpi, -⟩ := IM0.out.page g hg
    exact Room9 I ⟨.slice ma I.nm mc, .slice pa I.np pc, .slice ra I.no rc, .slice ha I.hd.length hc, .slice ta I.pt.length tc⟩ g c cc hg y5 y6 (fun h4 => by
      obtain ⟨l, h1, h2, h3, -⟩ := ok5_lv hpi y5 y6 h4 (fst1_none h5 g hg)
      exact ⟨l, h1, h3⟩) W hW)
  clear hI hrr hS h5
  go_enter Tryz.func35, Tryz.ntmps35
  go_wp2_with fail
  clear c0 c1 c2 c3 c4 c5 c6 c7 c8
  generalize w.heap.size = ib at *
  generalize w.alloc (imO I ⟨.slice ma I.nm mc, .slice pa I.np pc, .slice ra I.no rc, .slice ha I.hd.length hc, .slice ta I.pt.length tc⟩) = W0 at *
  go_loopw [3] (fun iv W => ∃ a : Nat, a ≤ 8 ∧ iv = .int .i64 a ∧ Hid (Kept none' W0 W ∧ ∀ j, j < a → ok10 I j = true)) (fun iv _ => 8 - (intOf iv).toNat)
  case atStart => exact ⟨0, Nat.zero_le _, rfl, hid ⟨Kept.refl _ _, fun j hj => by omega⟩⟩
  case round =>
    obtain ⟨a, ha', rfl, hG⟩ := hrel
    have IMa := hid (IM0.out.keep hG.out.1)
    obtain ⟨c0, c1, c2, c3, c4, c5, c6, c7, c8⟩ := IMa.out.cells
    dsimp only at c5 c8
    by_cases hlt : a < 8
    · have hai : (a : Int) < 8 := by omega
      have HLT := hid hlt
      have BADA := hid (BAD.out a hlt hG.out.2)
      have NEXT := hid (show ok10 I a = true → ∀ j, j < a + 1 → ok10 I j = true from fun eo j hj => by
        by_cases e : j = a
        · rw [e]; exact eo
        · exact hG.out.2 j (by omega))
      have KG := hid hG.out.1
      have OKA := hid (ok10_eq I a)
      obtain ⟨S, hSS⟩ : ∃ S, S = fun i => prS (a : Int) (I.pg i) := ⟨_, rfl⟩
      have SE := hid (show ∀ i, S i = prS (a : Int) (I.pg i) from fun i => by rw [hSS])
      have LEN := hid (show (pgL I (prS (a : Int))).length = cntB S I.np by rw [pgL_len, hSS])
      rw [LEN.out, ← hSS] at OKA
      have OPa := hid (show ∀ g, g < I.np → ∀ W, ImD W I ⟨.slice ma I.nm mc, .slice pa I.np pc, .slice ra I.no rc, .slice ha I.hd.length hc, .slice ta I.pt.length tc⟩ → Calls Tryz.prog 58 #[imA I ⟨.slice ma I.nm mc, .slice pa I.np pc, .slice ra I.no rc, .slice ha I.hd.length hc, .slice ta I.pt.length tc⟩, .int .i64 (g : Int), .int .i64 (a : Int)] W fun e w' => e = .returned (.bool (S g)) ∧ Kept none' W w' from fun g hg W hW => by rw [SE.out]; exact RM.out g a hg W hW)
      have HW := hid (show wrap64 ((a : Int) + 1) = ((a + 1 : Nat) : Int) by rw [wrap64]; omega)
      obtain ⟨h0, hh0⟩ : ∃ h, h = I.pt.getD a 0 := ⟨_, rfl⟩
      have hHD := IMa.out.d.pts
      obtain ⟨_, oa, oc, hv, hr3⟩ := hHD
      rcases hr3 with hr3 | ⟨bl, o, rfl, hbl, hcc⟩
      · have := HTL.out; omega
      obtain ⟨hx1, hx2⟩ := hcc a (by have := HTL.out; omega)
      rw [← hh0] at hx1 hx2 OKA
      injection hv with e1 e2 e3
      subst e1
      clear e2 e3 hcc hbl
      have HX1 := hid hx1
      have HX2 := hid hx2
      clear hSS hlt ha' hG hh0 hx1 hx2
      go_wp2_with fail
      clear c0 c1 c2 c3 c4 c5 c6 c7 c8
      obtain ⟨wq, hwq⟩ : ∃ W, W = wr := ⟨_, rfl⟩
      rw [← hwq] at KG IMa HX2
      rw [← hwq]
      clear hwq
      go_loopw [4, 5] (fun nv iv W => ∃ j : Nat, j ≤ I.np ∧ iv = .int .i64 j ∧ nv = .int .i64 (cntB S j : Int) ∧ Hid (Kept none' wq W)) (fun _ iv _ => I.np - (intOf iv).toNat)
      case atStart => exact ⟨0, Nat.zero_le _, rfl, rfl, hid (Kept.refl _ _)⟩
      case round =>
        obtain ⟨j, hj, rfl, rfl, hJ⟩ := hrel
        have IMb := hid (IMa.out.keep hJ.out)
        obtain ⟨c0, c1, c2, c3, c4, c5, c6, c7, c8⟩ := IMb.out.cells
        dsimp only at c5 c8
        obtain ⟨C, hC⟩ : ∃ C, C = cntB S j := ⟨_, rfl⟩
        have hCm : C ≤ 1024 := by rw [hC]; exact Nat.le_trans (cntB_le _ _) (Nat.le_trans hj HNP.out)
        have HCE := hid hC
        rw [← hC]
        clear hC
        by_cases hjk : j < I.np
        · have hji : (j : Int) < (I.np : Int) := by omega
          have HJK := hid hjk
          have HW2 := hid (show wrap64 ((j : Int) + 1) = ((j + 1 : Nat) : Int) by have := HNP.out; rw [wrap64]; omega)
          have HC1 := hid hCm
          have HW3 := hid (show wrap64 ((C : Int) + 1) = ((C + 1 : Nat) : Int) by rw [wrap64]; omega)
          have KJ := hid hJ.out
          obtain ⟨b, hb⟩ : ∃ b, b = S j := ⟨_, rfl⟩
          have HB := hid hb
          have OPj := hid (fun W hW => OPa.out j hjk W hW)
          rw [← hb] at OPj
          clear hjk hj hJ hb
          go_wp2_with fail
          refine (OPj.out _ IMb.out.d).mono ?_
          rintro e w1 ⟨rfl, k1⟩
          have KJ1 := hid (none_trans KJ.out k1)
          clear k1 c0 c1 c2 c3 c4 c5 c6 c7 c8
          cases b with
          | false =>
            have C1 := hid (show cntB S (j + 1) = C by rw [cntB_false _ _ HB.out.symm]; exact HCE.out.symm)
            go_wp2_with fail
            exact ⟨⟨j + 1, HJK.out, by first | go_num | rw [HW2.out], by rw [C1.out], KJ1⟩, by have := HJK.out; have := HNP.out; first | (simp [intOf]; omega) | (rw [HW2.out]; simp only [intOf, Int.toNat_natCast]; omega)⟩
          | true =>
            have C1 := hid (show cntB S (j + 1) = C + 1 by rw [cntB_true _ _ HB.out.symm, HCE.out])
            go_wp2_with fail
            exact ⟨⟨j + 1, HJK.out, by first | go_num | rw [HW2.out], by rw [C1.out]; first | go_num | rw [HW3.out], KJ1⟩, by have := HJK.out; have := HNP.out; first | (simp [intOf]; omega) | (rw [HW2.out]; simp only [intOf, Int.toNat_natCast]; omega)⟩
        · have hji : ¬ (j : Int) < (I.np : Int) := by omega
          have CN := hid (show cntB S I.np = C by rw [HCE.out, show j = I.np by omega])
          rw [CN.out] at OKA
          have KE := hid (none_trans KG.out hJ.out)
          have hx2 := hJ.out.cell (fun x => x) HX2.out
          have HCM := hid hCm
          have hah : (a : Int) < (I.pt.length : Int) := by have := HTL.out; have := HLT.out; omega
          clear hjk hj HCE
          go_wp2_with fail
          clear c0 c1 c2 c3 c4 c5 c6 c7 c8 hx2 hah
          obtain ⟨wz, hwz⟩ : ∃ W, W = wr := ⟨_, rfl⟩
          rw [← hwz] at KE IMb
          rw [← hwz]
          clear hwz hJ
          have Q0 := hid (show ok10 I a = refL (dec10 I) (-1) (fun i => (I.pg i).nx) (fun i => (I.pg i).pv) S C h0 (-1) from OKA.out)
          go_loopw [6, 7, 8] (fun pv bv gv W => ∃ (p b : Int) (g d : Nat), g + d = C ∧ pv = .int .i64 p ∧ bv = .int .i64 b ∧ gv = .int .i64 (g : Int) ∧ Hid (Kept none' wz W ∧ ok10 I a = refL (dec10 I) (-1) (fun i => (I.pg i).nx) (fun i => (I.pg i).pv) S d p b)) (fun _ _ gv _ => C - (intOf gv).toNat)
          case atStart => exact ⟨h0, -1, 0, C, by omega, rfl, rfl, rfl, hid ⟨Kept.refl _ _, Q0.out⟩⟩
          case round =>
            obtain ⟨p, b, g, d, hgd, rfl, rfl, rfl, hL⟩ := hrel
            have IMc := hid (IMb.out.keep hL.out.1)
            have KL := hid hL.out.1
            have OKP := hid hL.out.2
            obtain ⟨c0, c1, c2, c3, c4, c5, c6, c7, c8⟩ := IMc.out.cells
            dsimp only at c5 c8
            clear hL
            by_cases hgc : g < C
            · have hgi : (g : Int) < (C : Int) := by omega
              obtain ⟨d, rfl⟩ : ∃ d', d = d' + 1 := ⟨d - 1, by omega⟩
              have HWG := hid (show wrap64 ((g : Int) + 1) = ((g + 1 : Nat) : Int) by have := HCM.out; rw [wrap64]; omega)
              have GD := hid (show g + 1 + d = C ∧ g < C from ⟨by omega, hgc⟩)
              clear hgd hgc
              by_cases p1 : p < 0
              · have hdp : dec10 I p = none := by unfold dec10; rw [if_neg (by omega)]
                have er := BADA.out (OKP.out.trans (refL_none hdp))
                have KE1 := hid (none_trans KE.out KL.out)
                clear hdp
                subst er
                go_wp2_with fail
                go_ret
                exact ⟨rfl, none_trans K0.out KE1.out⟩
              by_cases p2 : p < (I.np : Int)
              case neg =>
                have hdp : dec10 I p = none := by unfold dec10; rw [if_neg (by omega)]
                have er := BADA.out (OKP.out.trans (refL_none hdp))
                have KE1 := hid (none_trans KE.out KL.out)
                have q2 : (I.np : Int) ≤ p := by omega
                clear hdp
                subst er
                go_wp2_with fail
                go_ret
                exact ⟨rfl, none_trans K0.out KE1.out⟩
              obtain ⟨i, rfl⟩ := Int.eq_ofNat_of_zero_le (show 0 ≤ p by omega)
              have hi : i < I.np := by omega
              have hdp : dec10 I (i : Int) = some i := by unfold dec10; rw [if_pos (by omega), Int.toNat_natCast]
              have q1 : ¬ (i : Int) < 0 := by omega
              have q2 : ¬ (I.np : Int) ≤ (i : Int) := by omega
              have q3 : (i : Int) < (I.np : Int) := p2
              have OKQ := hid (OKP.out.trans (refL_some hdp))
              have OPi := hid (fun W hW => OPa.out i hi W hW)
              obtain ⟨sb, hsb⟩ : ∃ b, b = S i := ⟨_, rfl⟩
              rw [← hsb] at OKQ OPi
              have HI := hid hi
              clear hdp hsb hi p1 p2 OKP
              go_wp2_with fail
              refine (OPi.out _ IMc.out.d).mono ?_
              rintro e w2 ⟨rfl, k2⟩
              have IMe := hid (IMc.out.keep k2)
              have KL2 := hid (none_trans KL.out k2)
              clear k2 c0 c1 c2 c3 c4 c5 c6 c7 c8
              cases sb with
              | false =>
                have er := BADA.out OKQ.out
                subst er
                have KE2 := hid (none_trans KE.out KL2.out)
                go_wp2_with fail
                go_ret
                exact ⟨rfl, none_trans K0.out KE2.out⟩
              | true =>
                obtain ⟨c0, c1, c2, c3, c4, c5, c6, c7, c8⟩ := IMe.out.cells
                dsimp only at c5 c8
                obtain ⟨bl2, oo, oc, hv, -, hpc⟩ := IMe.out.page i HI.out
                injection hv with e1 e2 e3
                subst e1
                clear e2 e3
                obtain ⟨d0, d1, d2, d3, d4, d5, d6, d7, d8, d9, d10⟩ := hpc.c
                generalize I.pg i = q at *
                by_cases h3 : q.pv = b
                case neg =>
                  have q4 : (q.pv != b) = true := by rw [bne_iff_ne]; exact h3
                  have er := BADA.out (by rw [OKQ.out, decide_eq_false h3]; rfl)
                  have KE3 := hid (none_trans KE.out KL2.out)
                  clear h3
                  subst er
                  go_wp2_with fail
                  go_ret
                  exact ⟨rfl, none_trans K0.out KE3.out⟩
                have q4 : (q.pv != b) = false := by rw [bne_eq_false_iff_eq]; exact h3
                have OKS := hid (OKQ.out.trans (by rw [decide_eq_true h3, Bool.true_and, Bool.true_and]))
                clear h3
                go_wp2_with fail
                exact ⟨⟨q.nx, (i : Int), g + 1, d, GD.out.1, rfl, rfl, by first | go_num | rw [HWG.out], hid ⟨KL2.out, OKS.out⟩⟩, by have := GD.out.2; have := HCM.out; first | (simp [intOf]; omega) | (rw [HWG.out]; simp only [intOf, Int.toNat_natCast]; omega)⟩
            · have hgi : ¬ (g : Int) < (C : Int) := by omega
              obtain rfl : d = 0 := by omega
              have KE3 := hid (none_trans KE.out KL.out)
              by_cases p0 : p = -1
              case neg =>
                have q1 : (p != -1) = true := by rw [bne_iff_ne]; exact p0
                have er := BADA.out (by rw [OKP.out, refL_end, decide_eq_false p0])
                clear p0 hgd hgc
                subst er
                go_wp2_with fail
                go_ret
                exact ⟨rfl, none_trans K0.out KE3.out⟩
              have q1 : (p != -1) = false := by rw [bne_eq_false_iff_eq]; exact p0
              have EO := hid (NEXT.out (by rw [OKP.out, refL_end, decide_eq_true p0]))
              clear p0 hgd hgc
              go_wp2_with fail
              go_round
              case rel => exact ⟨a + 1, HLT.out, by first | go_num | rw [HW.out], hid ⟨KE3.out, EO.out⟩⟩
              case measure => have := HLT.out; first | (simp [intOf]; omega) | (rw [HW.out]; simp only [intOf, Int.toNat_natCast]; omega)
    · have hai : ¬ (a : Int) < 8 := by omega
      have er := GOOD.out (fun j hj => hG.out.2 j (by omega))
      subst er
      go_wp2_with fail
      go_ret
      exact ⟨rfl, none_trans K0.out hG.out.1⟩
end Go.Proofs.YthjokkihlodapaaGreat
