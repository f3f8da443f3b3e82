/- PageBack: the walk. -/
import Derived.Test.YtbhheimedbfmeaaAlnW
import Derived.Test.YtbhheimedbfmeaaBckD
namespace Go.Proofs.Ytbhheimedbfmeaa
open Go.RowKit
set_option linter.unusedVariables false

theorem Told.wcell {w W gp gq m k D} (h : Told w W gp gq m k D) (j : Nat) (hj : j < k) : W.cell? ⟨gq, j, none⟩ = some (.slice (some ⟨D j, 0, none⟩) (m.wd j).length (m.wd j).length) := by
  obtain ⟨cs, hg, hs, hc⟩ := h.q
  have := hc j hj
  simp [World.cell?, hg, this]
theorem word_at {w : World} {g : Nat} {zs : List Nat} (hg : w.heap[g]? = some (.cells (wcells zs) 27 (0, 0))) (i : Nat) (hi : i < zs.length) : w.cell? ⟨g, i, none⟩ = some (.int .u64 ((zs.getD i 0 : Nat) : Int)) := by
  simp [World.cell?, hg, wcells, hi]
set_option maxRecDepth 6000 in
set_option maxHeartbeats 8000000 in
theorem back_any (od : Int) (sv sv' : Value) (n n' : Nat) (w : World) (hS : OpsIn w sv n) (hS' : OpsIn w sv' n') :
    Calls Try.prog 6 #[.int .i64 od, sv, sv'] w fun e w' => e = .returned (.bool true) ∧ Kept none' w w' := by
  obtain ⟨hn63, oa, oc, rfl, hsv⟩ := hS
  have HSV := hid hsv
  clear hsv
  obtain ⟨hn63', oa', oc', rfl, hsv'⟩ := hS'
  have HSV' := hid hsv'
  clear hsv'
  have hae := arr_eq
  go_enter Try.func6, Try.ntmps6
  go_wp2_with fail
  refine (awake_any _).mono ?_
  rintro e w1 ⟨rfl, hK⟩
  have K1 := hid hK
  clear hK
  go_wp2_with fail
  refine (New_ks od w _ K1.out).mono ?_
  rintro e w2 ⟨b, rfl, hS⟩
  have H0 := hid (show ∃ m, KS w w2 b m ∧ Inv m ∧ m.o = ordN od from ⟨_, hS, inv_new _, rfl⟩)
  clear hS K1
  go_wp2_with fail
  go_loopw [8] (fun i W => ∃ j : Nat, j ≤ n ∧ i = .int .i64 j ∧ Hid (∃ m, KS w W b m ∧ Inv m ∧ m.o = ordN od)) (fun i _ => n - (intOf i).toNat)
  case atStart => exact ⟨0, by omega, rfl, H0⟩
  case round =>
    clear H0
    obtain ⟨j, hj, rfl, hH⟩ := hrel
    obtain ⟨m, hH, hI, hO⟩ := hH.out
    have HS := hid hH
    have HI := hid hI
    have HO := hid hO
    clear hH hI hO
    by_cases hlt : j < n
    · obtain ⟨bl, o, rfl, hbl, hrow⟩ := HSV.out.resolve_left (by omega)
      obtain ⟨k', p', x', y', l', h1, h2, h3, h4, g0, g1, g2, g3, g4⟩ := hrow j hlt
      have kk := HS.out.kp
      have g0 := kk.cell (fun x => x) g0
      have g1 := kk.cell (fun x => x) g1
      have g2 := kk.cell (fun x => x) g2
      have g3 := kk.cell (fun x => x) g3
      have g4 := kk.cell (fun x => x) g4
      have hji : (j : Int) < (n : Int) := by omega
      clear kk hrow h1 h2 h3 h4
      go_wp2_with fail
      first
        | (refine (call_ks b m k' p' x' y' l' w _ HS.out).mono ?_
           rintro e W2 ⟨rfl, hS2⟩)
        | (go_region_with ((go_at_call 27; refine (call_ks b m k' p' x' y' l' w _ (HS.out.keep (Kept.refl none' _).drew)).mono ?_; rintro e W2 ⟨rfl, hS2⟩)))
      all_goals
        have H2 := hid (show ∃ m, KS w W2 b m ∧ Inv m ∧ m.o = ordN od from ⟨_, hS2, inv_call HI.out _ _ _ _ _, (call_o _ _ _ _ _ _).trans HO.out⟩)
        clear hS2
        go_wp2_with fail
        exact ⟨⟨j + 1, by omega, by simp, H2⟩, by simp [intOf]; omega⟩
    · have hji : ¬ (j : Int) < (n : Int) := by omega
      go_wp2_with fail
      obtain ⟨B, hM, hN, hK⟩ := HS.out
      refine (Plain_any b B m _ hM).mono ?_
      rintro e w4 ⟨gp, gq, D, rfl, hT⟩
      have HM := hid hM
      have HN := hid hN
      have HT := hid hT
      have K4 := hid (none_trans hK hT.kp)
      have NB := hid hM.n1
      clear hM hN hT hK HS
      have hoo : (od < 0 ∧ m.o = 0) ∨ (8 < od ∧ m.o = 8) ∨ (¬ od < 0 ∧ ¬ 8 < od ∧ (m.o : Int) = od) := by
        rw [HO.out]; unfold ordN; split
        · omega
        · split <;> omega
      by_cases hB : goneB m.n m.pg m.n = true
      · have OP := hid (back_gone b B m gp gq D wr wr w4 HM.out HI.out ((goneB_iff _ _ _).1 hB) HT.out)
        have GO := hid (fun W (k : Kept none' w4 W) => gone_any gp m.n m.pg NB.out W (Row.kept HT.out.row k (fun x => x)))
        rw [hB] at GO
        clear hB
        rcases hoo with ⟨q1, q2⟩ | ⟨q1, q2⟩ | ⟨q1, q3, q2⟩
        all_goals
          have q9 : ¬ 8 < (0 : Int) := by decide
          rw [q2] at OP
          go_wp2_with fail
          refine OP.out.mono ?_
          rintro e w5 ⟨rfl, hK5⟩
          have K5 := hid hK5
          clear hK5
          go_wp2_with fail
          refine (GO.out w5 K5.out).mono ?_
          rintro e w6 ⟨rfl, hK6⟩
          have K6 := hid (none_trans K4.out (none_trans K5.out hK6))
          clear hK6
          go_wp2_with fail
          exact ⟨rfl, .bool true, by simp [results, Try.results6, go_sem], rfl, K6.out⟩
      · have hB : goneB m.n m.pg m.n = false := by simpa using hB
        have hB2 : ∀ i, i < m.n → (m.pg i).nx < m.n ∧ (m.pg i).pv < m.n := fun i hi => by
          have h1 : ¬ ((m.n : Int) ≤ (m.pg i).nx ∨ (m.n : Int) ≤ (m.pg i).pv) := fun e => by
            have := (goneB_iff m.n m.pg m.n).2 ⟨i, hi, e⟩
            rw [hB] at this
            cases this
          omega
        have OP := hid ((back_open b B m gp gq D wr wr w4 HM.out HI.out hB2 HT.out).mono (fun e w5 hq => show ∃ b', e = .returned (.tuple #[.pointer (some ⟨b', 0, none⟩), .int .i64 0]) ∧ Hid (KD w w5 b m b' m ∧ Kept none' w4 w5) from by
          obtain ⟨b', he, hH⟩ := hq
          obtain ⟨B', h1, h2, h3⟩ := hH.out
          have k4 := HT.out.kp
          exact ⟨b', he, hid ⟨⟨B, B', HM.out.keep (none_trans k4 h3), h1, HN.out, fun x hx => Nat.le_trans K4.out.size (h2 x hx), fun x hx hy => absurd (Nat.lt_of_lt_of_le (HM.out.own_lt x hx) (Nat.le_trans k4.size (h2 x hy))) (Nat.lt_irrefl _), none_trans K4.out h3⟩, h3⟩⟩))
        have GO := hid (fun W (k : Kept none' w4 W) => gone_any gp m.n m.pg NB.out W (Row.kept HT.out.row k (fun x => x)))
        rw [hB] at GO
        clear hB hB2
        rcases hoo with ⟨q1, q2⟩ | ⟨q1, q2⟩ | ⟨q1, q3, q2⟩
        all_goals
          have q9 : ¬ 8 < (0 : Int) := by decide
          rw [q2] at OP
          go_wp2_with fail
          refine OP.out.mono ?_
          rintro e w5 ⟨b', rfl, hD⟩
          have D5 := hid hD.out.1
          have K5 := hid hD.out.2
          clear hD
          go_wp2_with fail
          refine (GO.out w5 K5.out).mono ?_
          rintro e w6 ⟨rfl, hK6⟩
          have D6 := hid (show ∃ m, KD w w6 b m b' m from ⟨m, D5.out.keep hK6⟩)
          clear hK6 D5 K5
          go_wp2_with fail
          go_loopw [14] (fun i W => ∃ j : Nat, j ≤ n' ∧ i = .int .i64 j ∧ Hid (∃ m, KD w W b m b' m)) (fun i _ => n' - (intOf i).toNat)
          case atStart => exact ⟨0, by omega, rfl, D6⟩
          case round =>
            clear D6
            obtain ⟨j, hj, rfl, hH⟩ := hrel
            obtain ⟨m, hH⟩ := hH.out
            have DD := hid hH
            clear hH
            by_cases hlt : j < n'
            · obtain ⟨bl, o, rfl, hbl, hrow⟩ := HSV'.out.resolve_left (by omega)
              obtain ⟨k', p', x', y', l', h1, h2, h3, h4, g0, g1, g2, g3, g4⟩ := hrow j hlt
              have kk := DD.out.kp
              have G := hid (show ∀ W, Kept none' w W → W.cell? _ = _ ∧ W.cell? _ = _ ∧ W.cell? _ = _ ∧ W.cell? _ = _ ∧ W.cell? _ = _ from fun W k => ⟨k.cell (fun x => x) g0, k.cell (fun x => x) g1, k.cell (fun x => x) g2, k.cell (fun x => x) g3, k.cell (fun x => x) g4⟩)
              clear g0 g1 g2 g3 g4
              obtain ⟨g0, g1, g2, g3, g4⟩ := G.out _ kk
              have hji : (j : Int) < (n' : Int) := by omega
              clear kk hrow h1 h2 h3 h4
              go_wp2_with fail
              go_region_with (first | (go_at_call 27; have hz := D2.out; refine (call_kd2 b _ b' m k' p' x' y' l' w _ hz).mono ?_; rintro e W3 ⟨rfl, hS3⟩; have D3 := hid (show ∃ m, KD w W3 b m b' m from ⟨_, hS3⟩); clear hS3 hz) | (go_at_call 27; refine (call_kd b m b' m k' p' x' y' l' w _ (DD.out.keep (Kept.refl none' _).drew)).mono ?_; rintro e W2 ⟨rfl, hS2⟩; have D2 := hid hS2; clear hS2; clear g0 g1 g2 g3 g4; obtain ⟨g0, g1, g2, g3, g4⟩ := G.out _ D2.out.kp))
              all_goals
                go_wp2_with fail
                exact ⟨⟨j + 1, by omega, by simp, D3⟩, by simp [intOf]; omega⟩
            · have hji : ¬ (j : Int) < (n' : Int) := by omega
              have NB2 := hid (show m.n ≤ 1024 ∧ m.o ≤ 8 from by obtain ⟨B, _, h1, _⟩ := DD.out; exact ⟨h1.n1, h1.o8⟩)
              obtain ⟨B, B', hM, hM', hN, hN', hAp, hK⟩ := DD.out
              have M7 := hid hM'
              have K0 := hid hK
              go_wp2_with fail
              refine (Plain_any b B m _ hM).mono ?_
              rintro e w7 ⟨gp2, gq2, Da, rfl, hT⟩
              have T7 := hid hT
              have M8 := hid (M7.out.keep hT.kp)
              have K7 := hid (none_trans K0.out hT.kp)
              clear hM hM' hN hN' hAp hK hT DD M7 K0
              go_wp2_with fail
              refine (Plain_any b' B' m _ M8.out).mono ?_
              rintro e w8 ⟨gp3, gq3, Db, rfl, hT⟩
              have T8 := hid hT
              have T9 := hid (T7.out.keep hT.kp)
              have K8 := hid (none_trans K7.out hT.kp)
              clear hT T7 K7
              have ho8 := NB2.out.2
              have NL := hid (show ∀ k, k < m.o → (m.wd k).length ≤ 16 from fun k hk => by
                have h1 := (M8.out.set k hk).len
                have h2 : m.n / 2 ^ (k + 1) ≤ 1024 := Nat.le_trans (Nat.div_le_self _ _) NB2.out.1
                omega)
              clear M8
              go_wp2_with fail
              refine (SamePages_true gp2 gp3 m.n m.n m.n m.n m.n m.pg m.pg NB2.out.1 (Nat.le_refl _) (Nat.le_refl _) (fun i hi => rfl) w8 T9.out.row T8.out.row).mono ?_
              rintro e w9 ⟨rfl, q9', hq9⟩
              have kq : Kept none' w8 w9 := by rw [hq9]; exact (Kept.refl none' w8).drewN q9'
              have TA := hid (T9.out.keep kq)
              have TB := hid (T8.out.keep kq)
              have KA := hid (none_trans K8.out kq)
              clear kq hq9 T8 T9 K8
              go_wp2_with fail
              go_loopw [19] (fun i W => ∃ j : Nat, j ≤ m.o ∧ i = .int .i64 j ∧ Hid (∃ q, W = w9.drewN q)) (fun i _ => m.o - (intOf i).toNat)
              case atStart => exact ⟨0, by omega, rfl, ⟨0, rfl⟩⟩
              case round =>
                obtain ⟨jk, hjk, rfl, hQ⟩ := hrel
                have kk : Kept none' w9 wr := by obtain ⟨q, hq⟩ := hQ.out; rw [hq]; exact (Kept.refl none' w9).drewN q
                have KK := hid kk
                by_cases hlt2 : jk < m.o
                · have hki : (jk : Int) < (m.o : Int) := by omega
                  have hL := NL.out jk hlt2
                  have e1 := (TA.out.keep kk).wcell jk hlt2
                  have e2 := (TB.out.keep kk).wcell jk hlt2
                  have EW := hid (fun W (k : Kept none' w9 W) i (hi : i < (m.wd jk).length) => And.intro (word_at ((TA.out.keep k).d jk hlt2) i hi) (word_at ((TB.out.keep k).d jk hlt2) i hi))
                  generalize hZ : m.wd jk = zs at *
                  clear kk
                  go_wp2_with fail
                  go_quiet (fail)
                  go_wp2_with fail
                  go_loopw [20] (fun i W => ∃ j : Nat, j ≤ zs.length ∧ i = .int .i64 j ∧ Hid (∃ q, W = w9.drewN q)) (fun i _ => zs.length - (intOf i).toNat)
                  case atStart => exact ⟨0, by omega, rfl, by obtain ⟨q, hq⟩ := hQ.out; exact ⟨q + nq, by rw [hq]; exact drewN_add w9 q nq⟩⟩
                  case round =>
                    clear hQ KK e1 e2
                    obtain ⟨ji, hji2, rfl, hQ⟩ := hrel
                    have kk : Kept none' w9 wr := by obtain ⟨q, hq⟩ := hQ.out; rw [hq]; exact (Kept.refl none' w9).drewN q
                    have e1 := (TA.out.keep kk).wcell jk hlt2
                    have e2 := (TB.out.keep kk).wcell jk hlt2
                    rw [hZ] at e1 e2
                    by_cases hlt3 : ji < zs.length
                    · have hii : (ji : Int) < (zs.length : Int) := by omega
                      obtain ⟨x1, x2⟩ := EW.out wr kk ji hlt3
                      clear kk
                      go_wp2_with fail
                      go_quiet (fail)
                      go_wp2_with fail
                      exact ⟨⟨ji + 1, by omega, by simp, by obtain ⟨q, hq⟩ := hQ.out; exact ⟨q + nq, by rw [hq]; exact drewN_add w9 q nq⟩⟩, by simp [intOf]; omega⟩
                    · have hii : ¬ (ji : Int) < (zs.length : Int) := by omega
                      clear kk
                      go_wp2_with fail
                      exact ⟨⟨jk + 1, by omega, by simp, hQ⟩, by simp [intOf]; omega⟩
                · have hki : ¬ (jk : Int) < (m.o : Int) := by omega
                  clear kk
                  go_wp2_with fail
                  go_ret
                  exact ⟨rfl, none_trans KA.out KK.out⟩
end Go.Proofs.Ytbhheimedbfmeaa
