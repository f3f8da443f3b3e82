/- RegionPlays: croftref6.Trim, New, Address; croftlaw6.which. -/
import Derived.Test.YtggieolknccabaaGreatRxG
namespace Go.Proofs.YtggieolknccabaaGreat
open Go.RowKit
set_option linter.unusedVariables false

/-- In Trim's loop. -/
def Tm6Q (w : World) (b l r o N g0 fc : Nat) (va : Option Addr) (n vc : Nat) (ls : List (Nat × Nat)) (fr : Nat → List Nat) (c : Nat) (W : World) : Prop := ∃ fr', Tk6Q w b (l : Int) ((r - c : Nat) : Int) o N g0 fc va n vc ls fr' W ∧ trF o r fr = (c + (trF o (r - c) fr').1, (trF o (r - c) fr').2) ∧ ∀ j, j ≤ o → (fr' j).length ≤ 1024
/-- What Trim answers. -/
def Tr6P (w : World) (b l r o N g0 fc : Nat) (fr : Nat → List Nat) (va : Option Addr) (n vc : Nat) (ls : List (Nat × Nat)) (c : Nat) (e : Ending) (w' : World) : Prop := e = .returned (.tuple #[r6V b (l : Int) (o : Int) ((r - c : Nat) : Int) (.slice (some ⟨g0, 0, none⟩) (o + 1) fc) (.slice va n vc), .int .i64 (c : Int)]) ∧ R6 N w' g0 fc o fr va vc ls ∧ Kept (S6 g0 va) w w'
set_option maxRecDepth 4000 in
set_option maxHeartbeats 2000000 in
theorem Trim6r (b l r : Nat) (o : Nat) (ho : o ≤ 8) (hr64 : r ≤ 64) (N g0 fc : Nat) (fr : Nat → List Nat) (va : Option Addr) (vc : Nat) (ls : List (Nat × Nat)) (n : Nat) (hf : ∀ j, j ≤ o → (fr j).length ≤ 1024) (w : World) (h : R6 N w g0 fc o fr va vc ls) :
    Calls Tryz.prog 34 #[r6V b (l : Int) (o : Int) (r : Int) (.slice (some ⟨g0, 0, none⟩) (o + 1) fc) (.slice va n vc)] w fun e w' => Tr6P w b l r o N g0 fc (trF o r fr).2 va n vc ls (trF o r fr).1 e w' := by
  have T2 := two5 w (r6O b (l : Int) (o : Int) (r : Int) (.slice (some ⟨g0, 0, none⟩) (o + 1) fc) (.slice va n vc)) r6Z
  have Q0 := hid (show Tm6Q w b l r o N g0 fc va n vc ls fr 0 ((w.alloc (r6O b (l : Int) (o : Int) (r : Int) (.slice (some ⟨g0, 0, none⟩) (o + 1) fc) (.slice va n vc))).alloc r6Z) from ⟨fr, ⟨T2.1.mono (fun _ _ e => e.elim), T2.2.1, T2.2.2, h.keep T2.1⟩, by rw [Nat.sub_zero, Nat.zero_add], hf⟩)
  obtain ⟨z, hzz⟩ : ∃ z, z = 2 ^ o := ⟨_, rfl⟩
  have hz2 : z ≤ 256 := by
    rw [hzz]
    exact Nat.pow_le_pow_right (n := 2) (by decide) ho
  have PW := hid (fun W => Power6 o (by omega) W)
  rw [← hzz] at PW
  have HZ := hid hzz
  clear T2 h hf hzz
  go_enter Tryz.func34, Tryz.ntmps34
  go_upto_block 0 with fail
  generalize (w.alloc (r6O b (l : Int) (o : Int) (r : Int) (.slice (some ⟨g0, 0, none⟩) (o + 1) fc) (.slice va n vc))).alloc r6Z = W0 at *
  go_cut [4, 5, 6] (fun s4 s5 s6 wx => ∃ c : Nat, s4 = .int .i64 c ∧ Hid (c = (trF o r fr).1 ∧ Tk6Q w b (l : Int) ((r - c : Nat) : Int) o N g0 fc va n vc ls (trF o r fr).2 wx))
  case first =>
    rename_i KK hKK J' KK2 hJ hM
    clear hKK KK
    go_wp2_with fail
    go_loopw [4, 5, 6] (fun s4 s5 s6 W => ∃ c : Nat, c ≤ r ∧ s4 = .int .i64 c ∧ Hid (Tm6Q w b l r o N g0 fc va n vc ls fr c W)) (fun i _ _ _ => r - (intOf i).toNat)
    case atStart => exact ⟨0, Nat.zero_le _, rfl, Q0⟩
    case round =>
      clear Q0
      obtain ⟨c, hc, rfl, hR⟩ := hrel
      obtain ⟨fr1, hQ0, hT0, hL0⟩ := hR.out
      have hQ := hid hQ0
      have hT := hid hT0
      have hL := hid hL0
      clear hR hQ0 hT0 hL0
      obtain ⟨d, hd⟩ : ∃ d, d = r - c := ⟨_, rfl⟩
      rw [← hd] at hQ hT
      obtain ⟨x0, x1, x2, x3, x4, x5, xf⟩ := r6c hQ.out.x0
      have HD := hid hd
      clear hd
      cases d with
      | zero =>
        have D := hid (show c = (trF o r fr).1 ∧ Tk6Q w b (l : Int) ((r - c : Nat) : Int) o N g0 fc va n vc ls (trF o r fr).2 wr from by
          rw [hT.out, ← HD.out]
          exact ⟨rfl, hQ.out⟩)
        clear hT
        go_wp2_with fail
        go_meet
        case rel => exact ⟨c, rfl, D⟩
      | succ d =>
        have hd0 : (0 : Int) < ((d + 1 : Nat) : Int) := by omega
        have hd1 : (0 : Int) < (d : Int) + 1 := by omega
        have hcd : c + d + 1 = r := by have := HD.out; omega
        obtain ⟨g, A, C, hg, r1, hA⟩ := hQ.out.r6.fl.get o (Nat.le_refl _)
        injection hg with hg
        injection hg with hg
        subst hg
        obtain ⟨q, hq⟩ : ∃ q, q = d * z := ⟨_, rfl⟩
        have hqi : (d : Int) * (z : Int) = (q : Int) := by rw [hq]; simp
        have hqb : q ≤ 16384 := by
          rw [hq]
          exact Nat.le_trans (Nat.mul_le_mul (show d ≤ 64 by omega) hz2) (by decide)
        have hqw : IntKind.i64.wrap (q : Int) = (q : Int) := by rw [IntKind.wrap_i64]; omega
        have hdw : IntKind.i64.wrap (d : Int) = (d : Int) := by rw [IntKind.wrap_i64]; omega
        have hds : IntKind.i64.wrap ((d : Int) + 1 - 1) = (d : Int) := by rw [IntKind.wrap_i64]; omega
        have ho2 : (o : Int) < ((o + 1 : Nat) : Int) := by omega
        have ho3 : (o : Int) < (o : Int) + 1 := by omega
        have HQ := hid (show q = d * 2 ^ o by rw [hq, HZ.out])
        obtain ⟨m, hm⟩ : ∃ m, m = (fr1 o).length := ⟨_, rfl⟩
        have WI := hid (fun W (kk : Kept none' wr W) => without6 A C (fr1 o) (by have := hL.out o (Nat.le_refl _); omega) q W (hA.keep kk))
        rw [← hm] at r1 WI
        obtain ⟨f, hf⟩ : ∃ f, f = decide (q ∈ fr1 o) := ⟨_, rfl⟩
        obtain ⟨v, hv⟩ : ∃ v, v = (M.dropL (fr1 o) q).length := ⟨_, rfl⟩
        unfold WioP at WI
        rw [← hf, ← hv] at WI
        have HF := hid hf
        have HV := hid hv
        have KD := hid ((Kept.refl none' wr).drew)
        have Qd := hid (hQ.out.keep KD.out)
        obtain ⟨d0, d1, d2, d3, d4, d5, df⟩ := r6c Qd.out.x0
        have r1d := KD.out.cell (fun e => e) r1
        have hc4 : ((d + 1 : Nat) : Int) = (d : Int) + 1 := by omega
        rw [hc4] at x3 d3
        clear hq hm hA hf hv hc4
        go_upto_region 3 with fail
        go_region_held3 (fun w' => w'.cell? ⟨w.heap.size, 2, none⟩ = some (.int .i64 (o : Int)) ∧ w'.cell? ⟨w.heap.size, 3, none⟩ = some (.int .i64 ((d : Int) + 1)) ∧ w'.cell? ⟨w.heap.size, 4, none⟩ = some (.slice (some ⟨g0, 0, none⟩) (o + 1) fc) ∧ w'.cell? ⟨g0, o, none⟩ = some (.slice A m C)) ((refine ⟨?_, ?_, ?_, ?_⟩ <;> with_reducible assumption)) (first
          | (go_at_call 35; (with_reducible refine (PW.out _).mono ?_); rintro e w4 ⟨rfl, h4⟩; replace h4 := h4.symm; subst h4)
          | (go_at_call 59; (with_reducible refine (WI.out _ KD.out).mono ?_); rintro e w5 ⟨a2, c2, rfl, hk5, hn5⟩; have Q5 := hid (Qd.out.keep hk5); have N5 := hid hn5; obtain ⟨e0, e1, e2, e3, e4, e5, ef⟩ := r6c Q5.out.x0; rw [show ((d + 1 : Nat) : Int) = (d : Int) + 1 by omega] at e3; have r1e := hk5.cell (fun e => e) r1d; have r1f := Q5.out.r6.fl.fz o; clear hk5 hn5)
          | fail)
        all_goals
          clear x0 x1 x2 x3 x4 x5 xf d0 d1 d2 d3 d4 d5 df r1 r1d WI KD Qd hQ
          cases f with
          | false =>
            have D := hid (show c = (trF o r fr).1 ∧ Tk6Q w b (l : Int) ((r - c : Nat) : Int) o N g0 fc va n vc ls (trF o r fr).2 w5 from by
              have hni : ¬ q ∈ fr1 o := of_decide_eq_false HF.out.symm
              rw [HQ.out] at hni
              rw [hT.out, trF_no hni, ← HD.out]
              exact ⟨rfl, Q5.out⟩)
            clear hT
            go_wp2_with fail
            go_meet
            case rel => exact ⟨c, rfl, D⟩
          | true =>
            have D := hid (show Tm6Q w b l r o N g0 fc va n vc ls fr (c + 1) ((w5.setCell ⟨g0, o, none⟩ (.slice a2 v c2)).setCell ⟨w.heap.size, 3, none⟩ (.int .i64 (d : Int))) from by
              have hin : q ∈ fr1 o := of_decide_eq_true HF.out.symm
              have h5 := N5.out
              rw [HV.out] at h5
              have h6 := (Q5.out.put (Kept.refl none' w5) o (Nat.le_refl _) a2 c2 _ h5).reg (d : Int)
              rw [← HV.out] at h6
              have hrc : r - (c + 1) = d := by omega
              refine ⟨_, by rw [hrc]; exact h6, ?_, fun j hj => ?_⟩
              · have hT1 := hT.out
                rw [HQ.out] at hin
                rw [trF_yes hin] at hT1
                rw [hT1, hrc, HQ.out]
                simp only [Prod.mk.injEq, and_true]
                omega
              · unfold frU
                by_cases e : j = o
                · rw [if_pos e]; exact Nat.le_trans (List.length_filter_le _ _) (hL.out o (Nat.le_refl _))
                · rw [if_neg e]; exact hL.out j hj)
            have X6 := hid (show (w5.setCell ⟨g0, o, none⟩ (.slice a2 v c2)).heap[w.heap.size]? = some (r6O b (l : Int) (o : Int) ((d : Int) + 1) (.slice (some ⟨g0, 0, none⟩) (o + 1) fc) (.slice va n vc)) from by
              have h5 := N5.out
              rw [HV.out] at h5
              have h6 := (Q5.out.put (Kept.refl none' w5) o (Nat.le_refl _) a2 c2 _ h5).x0
              rw [← HV.out, show ((d + 1 : Nat) : Int) = (d : Int) + 1 by omega] at h6
              exact h6)
            clear hT
            go_upto_region 6 with fail
            generalize w5.setCell ⟨g0, o, none⟩ (.slice a2 v c2) = W6 at *
            clear e0 e1 e2 e3 e4 e5 ef r1e r1f
            obtain ⟨x0, x1, x2, x3, x4, x5, xf⟩ := r6c X6.out
            go_wp2_with fail
            exact ⟨⟨c + 1, by omega, by simp, D⟩, by simp [intOf]; omega⟩
  case rest =>
  obtain ⟨c, rfl, hC⟩ := hcut
  have hQ := hid hC.out.2
  obtain ⟨x0, x1, x2, x3, x4, x5, xf⟩ := r6c hQ.out.x0
  obtain ⟨y0, y1, y2, y3, y4, y5, yf⟩ := r6c (b := 0) (l := 0) (o := 0) (r := 0) hQ.out.y0
  have FIN := hid (fun u0 u1 u2 u3 u4 u5 => And.intro (set6_kept hQ.out.kp (w.heap.size + 1) (by omega) u0 u1 u2 u3 u4 u5) (hQ.out.r6.box hQ.out.y0 (set6_in _ _ u0 u1 u2 u3 u4 u5)))
  obtain ⟨rc, hrc⟩ : ∃ rc, rc = r - c := ⟨_, rfl⟩
  rw [← hrc] at x3
  have HRC := hid hrc
  clear hrc Q0
  go_wp2_with fail
  exact ⟨rfl, .tuple #[r6V b (l : Int) (o : Int) (rc : Int) (.slice (some ⟨g0, 0, none⟩) (o + 1) fc) (.slice va n vc), .int .i64 (c : Int)], by simp [results, Tryz.results34, go_sem, y0, y1, y2, y3, y4, y5], by rw [← hC.out.1, HRC.out], (FIN.out _ _ _ _ _ _).2, (FIN.out _ _ _ _ _ _).1⟩
end Go.Proofs.YtggieolknccabaaGreat
