import Derived.Test.YthjokkihlodapaaGreatXb
set_option maxRecDepth 1000000
set_option maxHeartbeats 80000000
/- Rules 6 and 11. -/
namespace Go.Proofs.YthjokkihlodapaaGreat
open Go.RowKit
set_option linter.unusedVariables false

/-- Rule 6 at a page. -/
def ok6 (I : Img) (k a : Nat) : Bool := !(isF (I.pg a) (I.pg a).od && decide ((I.pg a).od < (k : Int)) && decide (a % (2 * 2 ^ (I.pg a).od.toNat) = 0)) || !isF (I.pg (a + 2 ^ (I.pg a).od.toNat)) (I.pg a).od
/-- Rule 11 at a page. -/
def ok11 (I : Img) (a : Nat) : Bool := !(decide ((I.pg a).kd = 4) && decide ((I.pg a).lv = (celN9 (I.pg a).cl.toNat : Int))) || (decide ((I.pg a).nx = -1) && decide ((I.pg a).pv = -1))

set_option maxRecDepth 6000 in
set_option maxHeartbeats 8000000 in
theorem askFullPages_any (b : Nat) (I : Img) (V : ImV) (k r : Nat) (hS : Sn9 I k r) (w : World) (hI : ImAt w b I V) :
    Calls Tryz.prog 69 #[.pointer (some ⟨b, 0, none⟩)] w fun e w' => e = askE (fst1 I.np (ok11 I)) ∧ Kept none' w w' := by
  obtain ⟨-, ⟨pa, pc, hp⟩, -, -, -, -, bp, -, -⟩ := hI.d.sl
  obtain ⟨c0, c1, c2, c3, c4, c5, c6, c7, c8⟩ := hI.cells
  rw [hp] at c5
  obtain ⟨EE, hEE⟩ : ∃ EE, EE = askE (fst1 I.np (ok11 I)) := ⟨_, rfl⟩
  rw [← hEE]
  have HE := hid hEE
  have HI := hid hI
  have HS := hid hS
  have SP := hid hp
  have hnp := hS.np1
  obtain ⟨n, hn⟩ : ∃ n, n = I.np := ⟨_, rfl⟩
  rw [← hn] at hnp c5
  have HN := hid hn
  clear hEE hI hp hS hn bp
  go_enter Tryz.func69, Tryz.ntmps69
  go_wp2_with fail
  go_loopw [9] (fun i W => ∃ a : Nat, a ≤ n ∧ i = .int .i64 a ∧ Hid (Kept none' w W ∧ ∀ x, x < a → ok11 I x = true)) (fun i _ => n - (intOf i).toNat)
  case atStart => exact ⟨0, Nat.zero_le _, rfl, hid ⟨Kept.refl _ _, fun x hx => by omega⟩⟩
  case round =>
    clear c0 c1 c2 c3 c4 c5 c6 c7 c8
    obtain ⟨a, ha, rfl, hR⟩ := hrel
    have A0 := hid (HI.out.keep hR.out.1)
    by_cases hlt : a < n
    · have hai : (a : Int) < (n : Int) := by omega
      have hlt' : a < I.np := by rw [← HN.out]; exact hlt
      obtain ⟨bl, o, oc', hv', hpi, hpc⟩ := A0.out.page a hlt'
      rw [SP.out] at hv'
      injection hv' with e1 e2 e3
      subst e1
      obtain ⟨kd, od, cc, ll, y1, y2, y3, y4, y5, y6, y7, y8, -⟩ := HS.out.pg a hlt'
      have FB := hid (show ok11 I a = false → thrE (a : Int) = EE from fun h => by rw [HE.out, fst1_bad hlt' hR.out.2 h]; rfl)
      have GA := hid (show ok11 I a = true → ∀ x, x < a + 1 → ok11 I x = true from fun h x hx => by
        by_cases e : x = a
        · rw [e]; exact h
        · exact hR.out.2 x (by omega))
      have OK := hid (show ok11 I a = (!(decide ((I.pg a).kd = 4) && decide ((I.pg a).lv = (celN9 (I.pg a).cl.toNat : Int))) || (decide ((I.pg a).nx = -1) && decide ((I.pg a).pv = -1))) from rfl)
      have PB := hid (PbI.mk' (w := w) A0.out hR.out.1 (I.pg a))
      obtain ⟨d0, d1, d2, d3, d4, d5, d6, d7, d8, d9, d10⟩ := hpc.c
      have HFU := hid (fun W => full_any (I.pg a) cc y5 y6 W)
      rw [y5, Int.toNat_natCast] at OK
      generalize ok11 I a = okv at *
      generalize I.pg a = p at *
      obtain ⟨pkd, pod, pcl, plv, pnx, ppv, pfs, pb0, pb1, pb2, pb3⟩ := p
      dsimp only at d0 d1 d2 d3 d4 d5 d6 d7 d8 d9 d10 OK y1 HFU
      generalize decide (plv = (celN9 cc : Int)) = fu at *
      clear hpi hpc e2 e3 y1 y2 y3 y4 y5 y6 y7 y8
      by_cases hk4 : pkd = 4
      · subst hk4
        cases fu with
        | false =>
          have R2 := hid (GA.out (by rw [OK.out]; simp))
          go_wp2_with fail
          generalize wr.alloc (pgO ⟨4, pod, pcl, plv, pnx, ppv, pfs, pb0, pb1, pb2, pb3⟩) = W1 at *
          generalize wr.heap.size = g at *
          refine (HFU.out _).mono ?_
          rintro e w1 ⟨rfl, hk⟩
          have K1 := hid (none_trans PB.out.k hk)
          clear hk d0 d1 d2 d3 d4 d5 d6 d7 d8 d9 d10
          go_wp2_with fail
          have R3 := hid (show Kept none' w w1 ∧ _ from ⟨K1.out, R2.out⟩)
          go_round
          case rel => exact ⟨a + 1, by omega, by go_num, R3⟩
          case measure => simp [intOf]; omega
        | true =>
          by_cases hn1 : pnx = -1
          · subst hn1
            by_cases hn2 : ppv = -1
            · subst hn2
              have R2 := hid (GA.out (by rw [OK.out]; simp))
              go_wp2_with fail
              generalize wr.alloc (pgO ⟨4, pod, pcl, plv, -1, -1, pfs, pb0, pb1, pb2, pb3⟩) = W1 at *
              generalize wr.heap.size = g at *
              refine (HFU.out _).mono ?_
              rintro e w1 ⟨rfl, hk⟩
              have PB2 := hid (PB.out.keep hk)
              obtain ⟨q0, q1, q2, q3, q4, q5, q6, q7, q8, q9, q10⟩ := pgO_c PB2.out.pb
              clear hk d0 d1 d2 d3 d4 d5 d6 d7 d8 d9 d10
              go_wp2_with fail
              refine (must_yes _ _).mono ?_
              rintro e w2 ⟨rfl, rfl⟩
              have R3 := hid (show Kept none' w w2 ∧ _ from ⟨PB2.out.k, R2.out⟩)
              go_wp2_with fail
              go_round
              case rel => exact ⟨a + 1, by omega, by go_num, R3⟩
              case measure => simp [intOf]; omega
            · have R2 := hid (FB.out (by rw [OK.out]; simp [hn2]))
              have f2 : (ppv == -1) = false := by rw [beq_eq_false_iff_ne]; exact hn2
              clear hn2
              go_wp2_with fail
              generalize wr.alloc (pgO ⟨4, pod, pcl, plv, -1, ppv, pfs, pb0, pb1, pb2, pb3⟩) = W1 at *
              generalize wr.heap.size = g at *
              refine (HFU.out _).mono ?_
              rintro e w1 ⟨rfl, hk⟩
              have PB2 := hid (PB.out.keep hk)
              obtain ⟨q0, q1, q2, q3, q4, q5, q6, q7, q8, q9, q10⟩ := pgO_c PB2.out.pb
              clear hk d0 d1 d2 d3 d4 d5 d6 d7 d8 d9 d10
              go_wp2_with fail
              refine (must_no _ _).mono ?_
              rintro e w2 ⟨rfl, rfl⟩
              exact ⟨rfl, R2.out, PB2.out.k⟩
          · have R2 := hid (FB.out (by rw [OK.out]; simp [hn1]))
            have f2 : (pnx == -1) = false := by rw [beq_eq_false_iff_ne]; exact hn1
            clear hn1
            go_wp2_with fail
            generalize wr.alloc (pgO ⟨4, pod, pcl, plv, pnx, ppv, pfs, pb0, pb1, pb2, pb3⟩) = W1 at *
            generalize wr.heap.size = g at *
            refine (HFU.out _).mono ?_
            rintro e w1 ⟨rfl, hk⟩
            have PB2 := hid (PB.out.keep hk)
            obtain ⟨q0, q1, q2, q3, q4, q5, q6, q7, q8, q9, q10⟩ := pgO_c PB2.out.pb
            clear hk d0 d1 d2 d3 d4 d5 d6 d7 d8 d9 d10
            go_wp2_with fail
            refine (must_no _ _).mono ?_
            rintro e w2 ⟨rfl, rfl⟩
            exact ⟨rfl, R2.out, PB2.out.k⟩
      · have R2 := hid (show Kept none' w (wr.alloc (pgO ⟨pkd, pod, pcl, plv, pnx, ppv, pfs, pb0, pb1, pb2, pb3⟩)) ∧ _ from ⟨hR.out.1.alloc _, GA.out (by rw [OK.out]; simp [hk4])⟩)
        have f2 : (pkd == 4) = false := by rw [beq_eq_false_iff_ne]; exact hk4
        clear hk4
        go_wp2_with fail
        go_round
        case rel => exact ⟨a + 1, by omega, by go_num, R2⟩
        case measure => simp [intOf]; omega
    · obtain rfl : a = n := by omega
      have hai : ¬ (a : Int) < (a : Int) := by omega
      have E := hid (show Ending.returned (.tuple #[]) = EE by rw [HE.out, fst1_ok (fun x hx => hR.out.2 x (by rw [HN.out]; exact hx))]; rfl)
      go_wp2_with fail
      first | go_end0 | go_ret
      exact ⟨E.out, hR.out.1⟩
end Go.Proofs.YthjokkihlodapaaGreat
