/- RegionPlays: croftref6.enter. -/
import Derived.Test.YtggieolknccabaaGreatRxB
namespace Go.Proofs.YtggieolknccabaaGreat
open Go.RowKit
set_option linter.unusedVariables false

theorem Tk6Q.keep {w b l r o N g0 fc va n vc ls fr W W2} (h : Tk6Q w b l r o N g0 fc va n vc ls fr W) (k : Kept none' W W2) : Tk6Q w b l r o N g0 fc va n vc ls fr W2 := ⟨h.kp.trans k (fun _ _ e => e) (fun _ _ e => e.elim), (k.block _ (heap_lt h.x0) (fun e => e)).trans h.x0, (k.block _ (heap_lt h.y0) (fun e => e)).trans h.y0, h.r6.keep k⟩
theorem half_div {p k : Nat} (hp : p ≤ 1024) (hk : k ≤ 8) (hm : p % 2 ^ k = 0) : (p / 2 ^ k % 2 = 0 ∧ othN p k = p + 2 ^ k ∧ lowN p k = p ∧ p % 2 ^ (k + 1) = 0) ∨ (p / 2 ^ k % 2 = 1 ∧ 2 ^ k ≤ p ∧ othN p k = p - 2 ^ k ∧ lowN p k = p - 2 ^ k ∧ (p - 2 ^ k) % 2 ^ (k + 1) = 0) := by
  have hz : 0 < 2 ^ k := Nat.pow_pos (by decide)
  have hz2 : 2 ^ (k + 1) = 2 ^ k * 2 := by rw [Nat.pow_succ]
  rcases halves (p := p) (k := k) (by omega) hk hm with ⟨h1, h2, h3⟩ | ⟨h1, h2, h3, h4⟩
  · refine .inl ⟨?_, h2, h3, h1⟩
    rw [hz2] at h1
    have := Nat.div_add_mod p (2 ^ k * 2)
    rw [h1, Nat.add_zero] at this
    rw [← this, Nat.mul_assoc, Nat.mul_div_cancel_left _ hz]
    omega
  · refine .inr ⟨?_, h1, h3, h4, h2⟩
    rw [hz2] at h2
    obtain ⟨c, hc⟩ : ∃ c, p - 2 ^ k = 2 ^ k * 2 * c := ⟨_, by have := Nat.div_add_mod (p - 2 ^ k) (2 ^ k * 2); rw [h2, Nat.add_zero] at this; exact this.symm⟩
    have hp2 : p = 2 ^ k * (2 * c + 1) := by rw [Nat.mul_add, Nat.mul_one, ← Nat.mul_assoc]; omega
    rw [hp2, Nat.mul_div_cancel_left _ hz]
    omega
/-- Behind enter's loop. -/
def En6P (w : World) (b : Nat) (l r : Int) (o N g0 fc : Nat) (va : Option Addr) (n vc : Nat) (ls : List (Nat × Nat)) (J : (Nat → List Nat) × Nat × Nat) (v1 v7 : Value) (W : World) : Prop := ∃ p k fr, v1 = .int .i64 (p : Nat) ∧ v7 = .int .i64 (k : Nat) ∧ k ≤ o ∧ p ≤ 1024 ∧ J = (fr, p, k) ∧ (fr k).length ≤ 1024 ∧ Tk6Q w b l r o N g0 fc va n vc ls fr W
/-- In enter's loop. -/
def En6Q (w : World) (b : Nat) (l r : Int) (o N g0 fc : Nat) (va : Option Addr) (n vc : Nat) (ls : List (Nat × Nat)) (J : (Nat → List Nat) × Nat × Nat) (p k : Nat) (W : World) : Prop := ∃ fr, joinF o (o - k) fr p k = J ∧ p % 2 ^ k = 0 ∧ (∀ j, j ≤ o → (fr j).length ≤ 1024) ∧ Tk6Q w b l r o N g0 fc va n vc ls fr W
/-- What enter answers. -/
def Et6P (w : World) (b : Nat) (l r : Int) (o N g0 fc : Nat) (fr : Nat → List Nat) (va : Option Addr) (n vc : Nat) (ls : List (Nat × Nat)) (e : Ending) (w' : World) : Prop := e = .returned (r6V b l (o : Int) r (.slice (some ⟨g0, 0, none⟩) (o + 1) fc) (.slice va n vc)) ∧ R6 N w' g0 fc o fr va vc ls ∧ Kept (S6 g0 va) w w'
set_option maxRecDepth 4000 in
set_option maxHeartbeats 2000000 in
theorem enter6 (b : Nat) (l r : Int) (o : Nat) (ho : o ≤ 8) (N g0 fc : Nat) (fr : Nat → List Nat) (va : Option Addr) (vc : Nat) (ls : List (Nat × Nat)) (n : Nat) (hf : ∀ j, j ≤ o → (fr j).length ≤ 1024) (k p : Nat) (hk : k ≤ o) (hp : p ≤ 1024) (hm : p % 2 ^ k = 0) (w : World) (h : R6 N w g0 fc o fr va vc ls) :
    Calls Tryz.prog 58 #[r6V b l (o : Int) r (.slice (some ⟨g0, 0, none⟩) (o + 1) fc) (.slice va n vc), .int .i64 (p : Int), .int .i64 (k : Int)] w fun e w' => Et6P w b l r o N g0 fc (giveF o fr p k) va n vc ls e w' := by
  obtain ⟨J, hJ⟩ : ∃ J, J = joinF o (o - k) fr p k := ⟨_, rfl⟩
  have HGF := hid (show giveF o fr p k = frU J.1 J.2.2 (J.2.1 :: J.1 J.2.2) by rw [hJ]; rfl)
  have T2 := two5 w (r6O b l (o : Int) r (.slice (some ⟨g0, 0, none⟩) (o + 1) fc) (.slice va n vc)) r6Z
  have Q0 := hid (show En6Q w b l r o N g0 fc va n vc ls J p k ((w.alloc (r6O b l (o : Int) r (.slice (some ⟨g0, 0, none⟩) (o + 1) fc) (.slice va n vc))).alloc r6Z) from ⟨fr, hJ.symm, hm, hf, T2.1.mono (fun _ _ e => e.elim), T2.2.1, T2.2.2, h.keep T2.1⟩)
  clear T2 h hJ hf hm
  go_enter Tryz.func58, Tryz.ntmps58
  go_upto_block 0 with fail
  generalize (w.alloc (r6O b l (o : Int) r (.slice (some ⟨g0, 0, none⟩) (o + 1) fc) (.slice va n vc))).alloc r6Z = W0 at *
  go_cut [1, 7, 8, 9, 10, 11] (fun s1 s7 s8 s9 s10 s11 wx => En6P w b l r o N g0 fc va n vc ls J s1 s7 wx)
  case first =>
    rename_i KK hKK J' KK2 hJ hM
    clear hKK KK
    go_wp2_with fail
    go_loopw [1, 7, 8, 9, 10, 11] (fun s1 s7 s8 s9 s10 s11 W => ∃ q i : Nat, s1 = .int .i64 q ∧ s7 = .int .i64 i ∧ i ≤ o ∧ q ≤ 1024 ∧ Hid (En6Q w b l r o N g0 fc va n vc ls J q i W)) (fun _ i _ _ _ _ _ => o - (intOf i).toNat)
    case atStart => exact ⟨p, k, rfl, rfl, hk, hp, Q0⟩
    case round =>
      clear Q0
      obtain ⟨q, i, rfl, rfl, hi, hq, hR⟩ := hrel
      obtain ⟨fr1, h1, h2, h3, h4⟩ := hR.out
      obtain ⟨x0, x1, x2, x3, x4, x5, xf⟩ := r6c h4.x0
      have H1 := hid h1
      have H3 := hid h3
      have H4 := hid h4
      clear hR h1 h3 h4
      by_cases hlt : i < o
      · have hio : (i : Int) < (o : Int) := by omega
        have hc2 : (i : Int) < ((o + 1 : Nat) : Int) := by omega
        have hc3 : (i : Int) < (o : Int) + 1 := by omega
        obtain ⟨z, hz⟩ : ∃ z, z = 2 ^ i := ⟨_, rfl⟩
        have hz0 : 0 < z := by rw [hz]; exact Nat.pow_pos (by decide)
        have hz2 : z ≤ 256 := by
          rw [hz]
          exact Nat.pow_le_pow_right (n := 2) (by decide) (show i ≤ 8 by omega)
        have PW := hid (fun W => Power6 i (by omega) W)
        rw [← hz] at PW
        obtain ⟨g, A, C, hg, r1, hA⟩ := H4.out.r6.fl.get i hi
        injection hg with hg
        injection hg with hg
        subst hg
        obtain ⟨x, hx⟩ : ∃ x, x = othN q i := ⟨_, rfl⟩
        obtain ⟨y, hy⟩ : ∃ y, y = lowN q i := ⟨_, rfl⟩
        have hd := half_div hq (show i ≤ 8 by omega) h2
        rw [← hx, ← hy, ← hz] at hd
        obtain ⟨m, hm⟩ : ∃ m, m = (fr1 i).length := ⟨_, rfl⟩
        have WI := hid (without6 A C (fr1 i) (by have := H3.out i hi; omega) x wr hA)
        rw [← hm] at r1 WI
        obtain ⟨d, hd'⟩ : ∃ d, o - i = d + 1 := ⟨o - i - 1, by omega⟩
        have HJY := hid (show x ∈ fr1 i → joinF o (o - (i + 1)) (frU fr1 i (M.dropL (fr1 i) x)) y (i + 1) = J from fun e => by
          rw [← H1.out, hd', joinF, ← hx, ← hy, if_pos ⟨hlt, e⟩, show o - (i + 1) = d by omega])
        have HJN := hid (show ¬ x ∈ fr1 i → J = (fr1, q, i) from fun e => by
          rw [← H1.out, hd', joinF, ← hx, if_neg (fun e2 => e e2.2)])
        have HLY := hid (show ∀ j, j ≤ o → (frU fr1 i (M.dropL (fr1 i) x) j).length ≤ 1024 from fun j hj => by
          unfold frU
          by_cases e : j = i
          · rw [if_pos e]; exact Nat.le_trans (List.length_filter_le _ _) (H3.out i hi)
          · rw [if_neg e]; exact H3.out j hj)
        obtain ⟨f, hf⟩ : ∃ f, f = decide (x ∈ fr1 i) := ⟨_, rfl⟩
        unfold WioP at WI
        rw [← hf] at WI
        have HFF := hid hf
        clear hx hy hm hA hd' hf h2
        have hzq := hid hz
        clear hz
        have hqz : ((q : Int).tdiv (z : Int)) = ((q / z : Nat) : Int) := rfl
        obtain ⟨u, hu⟩ : ∃ u, u = q / z := ⟨_, rfl⟩
        rw [← hu] at hqz hd
        have hur : ((u : Int).tmod 2) = ((u % 2 : Nat) : Int) := rfl
        have hu2 : u ≤ 1024 := by rw [hu]; exact Nat.le_trans (Nat.div_le_self _ _) hq
        clear hu
        have hz0i : ¬ (z : Int) = 0 := by omega
        rcases hd with hd | hd
        · as_aux_lemma =>
          obtain ⟨hu0, hx, hy, hnx⟩ := hd
          replace hy := hy.symm
          subst hy
          have hb1 : ((u % 2 : Nat) : Int) = 0 := by omega
          rw [hb1] at hur
          have hxi : (q : Int) + (z : Int) = (x : Int) := by omega
          have hlo : ¬ (x : Int) < (q : Int) := by omega
          have hx1 : x ≤ 1280 := by omega
          have HNX := hid hnx
          clear hnx hb1 hu0 hx
          go_wp2_with fail
          refine (PW.out _).mono ?_
          rintro e w2 ⟨rfl, h2⟩
          replace h2 := h2.symm
          subst h2
          clear PW
          go_wp2_with fail
          refine WI.out.mono ?_
          rintro e w3 ⟨a2, c2, rfl, hk3, hn3⟩
          have K3 := hid hk3
          have N3 := hid hn3
          have hx3 := (hk3.block _ (heap_lt H4.out.x0) (fun e => e)).trans H4.out.x0
          obtain ⟨z0, z1, z2, z3, z4, z5, zf⟩ := r6c hx3
          have zg := (H4.out.r6.keep hk3).fl.fz i
          have zc := hk3.cell (fun e => e) r1
          clear hk3 hn3 hx3 WI
          obtain ⟨v, hv⟩ : ∃ v, v = (M.dropL (fr1 i) x).length := ⟨_, rfl⟩
          rw [← hv] at N3 ⊢
          replace hv := hid hv
          cases f with
          | true =>
            have hin : x ∈ fr1 i := of_decide_eq_true HFF.out.symm
            have Q3 := hid (show En6Q w b l r o N g0 fc va n vc ls J q (i + 1) (w3.setCell ⟨g0, i, none⟩ (.slice a2 v c2)) from ⟨_, HJY.out hin, HNX.out, HLY.out, by
              have h5 := N3.out
              rw [hv.out] at h5 ⊢
              exact H4.out.put K3.out i hi a2 c2 _ h5⟩)
            clear hin
            go_wp2_with fail
            exact ⟨⟨q, i + 1, rfl, by simp, by omega, by omega, Q3⟩, by simp [intOf]; omega⟩
          | false =>
            have hni : ¬ x ∈ fr1 i := of_decide_eq_false HFF.out.symm
            have D := hid (show En6P w b l r o N g0 fc va n vc ls J (.int .i64 (q : Int)) (.int .i64 (i : Int)) w3 from ⟨q, i, fr1, rfl, rfl, hi, hq, HJN.out hni, H3.out i hi, H4.out.keep K3.out⟩)
            clear hni
            go_wp2_with fail
            go_meet
            case rel => exact D.out
        · as_aux_lemma =>
          obtain ⟨hu0, hzq2, hx, hy, hnx⟩ := hd
          have hb1 : ((u % 2 : Nat) : Int) = 1 := by omega
          rw [hb1] at hur
          have hxi : (q : Int) - (z : Int) = (x : Int) := by omega
          have hlo : (x : Int) < (q : Int) := by omega
          obtain rfl : y = x := by omega
          have HNX := hid (show y % 2 ^ (i + 1) = 0 by rw [hzq.out] at hx; rw [hx]; rw [hzq.out] at hnx; exact hnx)
          have hx1 : y ≤ 1024 := by omega
          clear hnx hb1 hu0 hx hy hzq2
          go_wp2_with fail
          refine (PW.out _).mono ?_
          rintro e w2 ⟨rfl, h2⟩
          replace h2 := h2.symm
          subst h2
          clear PW
          go_wp2_with fail
          refine WI.out.mono ?_
          rintro e w3 ⟨a2, c2, rfl, hk3, hn3⟩
          have K3 := hid hk3
          have N3 := hid hn3
          have hx3 := (hk3.block _ (heap_lt H4.out.x0) (fun e => e)).trans H4.out.x0
          obtain ⟨z0, z1, z2, z3, z4, z5, zf⟩ := r6c hx3
          have zg := (H4.out.r6.keep hk3).fl.fz i
          have zc := hk3.cell (fun e => e) r1
          clear hk3 hn3 hx3 WI
          obtain ⟨v, hv⟩ : ∃ v, v = (M.dropL (fr1 i) y).length := ⟨_, rfl⟩
          rw [← hv] at N3 ⊢
          replace hv := hid hv
          cases f with
          | true =>
            have hin : y ∈ fr1 i := of_decide_eq_true HFF.out.symm
            have Q3 := hid (show En6Q w b l r o N g0 fc va n vc ls J y (i + 1) (w3.setCell ⟨g0, i, none⟩ (.slice a2 v c2)) from ⟨_, HJY.out hin, HNX.out, HLY.out, by
              have h5 := N3.out
              rw [hv.out] at h5 ⊢
              exact H4.out.put K3.out i hi a2 c2 _ h5⟩)
            clear hin
            go_wp2_with fail
            exact ⟨⟨y, i + 1, rfl, by simp, by omega, by omega, Q3⟩, by simp [intOf]; omega⟩
          | false =>
            have hni : ¬ y ∈ fr1 i := of_decide_eq_false HFF.out.symm
            have D := hid (show En6P w b l r o N g0 fc va n vc ls J (.int .i64 (q : Int)) (.int .i64 (i : Int)) w3 from ⟨q, i, fr1, rfl, rfl, hi, hq, HJN.out hni, H3.out i hi, H4.out.keep K3.out⟩)
            clear hni
            go_wp2_with fail
            go_meet
            case rel => exact D.out
      · obtain rfl : i = o := by omega
        have hio : ¬ (i : Int) < (i : Int) := by omega
        have D := hid (show En6P w b l r i N g0 fc va n vc ls J (.int .i64 (q : Int)) (.int .i64 (i : Int)) wr from ⟨q, i, fr1, rfl, rfl, hi, hq, by rw [← H1.out, Nat.sub_self]; rfl, H3.out i hi, H4.out⟩)
        go_wp2_with fail
        go_meet
        case rel => exact D.out
  case rest =>
  obtain ⟨q, i, fr1, rfl, rfl, hi, hq, rfl, hl1, hQ0⟩ := hcut
  have hQ := hid hQ0
  clear hQ0
  obtain ⟨x0, x1, x2, x3, x4, x5, xf⟩ := r6c hQ.out.x0
  have hc2 : (i : Int) < ((o + 1 : Nat) : Int) := by omega
  have hc3 : (i : Int) < (o : Int) + 1 := by omega
  obtain ⟨g, A, C, hg, r1, hA⟩ := hQ.out.r6.fl.get i hi
  injection hg with hg
  injection hg with hg
  subst hg
  obtain ⟨m, hm⟩ : ∃ m, m = (fr1 i).length := ⟨_, rfl⟩
  have PU := hid (fun W (kk : Kept none' wc W) => push6 A C (fr1 i) (by omega) q W (hA.keep kk))
  have HM := hid hm
  rw [← hm] at r1 PU
  have KD := hid ((Kept.refl none' wc).drew)
  clear hm hA Q0
  go_upto_region 13 with fail
  go_cut [55] (fun s55 wx => Hid (Tk6Q w b l r o N g0 fc va n vc ls (frU fr1 i (q :: fr1 i)) wx))
  case first =>
    rename_i KK hKK J KK2 hJ hM
    clear hKK KK
    go_wp2_with fail
    go_region_with (go_at_call 83; (with_reducible refine (PU.out _ KD.out).mono ?_); rintro e w2 ⟨a2, c2, rfl, hk2, hn2⟩; rw [← HM.out]; have H2 := hid (And.intro (none_trans KD.out hk2) hn2); obtain ⟨z0, z1, z2, z3, z4, z5, zf⟩ := r6c (((none_trans KD.out hk2).block _ (heap_lt hQ.out.x0) (fun e => e)).trans hQ.out.x0); have zg := (hQ.out.r6.keep (none_trans KD.out hk2)).fl.fz i; have zc := ((none_trans KD.out hk2).cell (fun e => e) r1); clear hk2 hn2)
    all_goals
      have Q2 := hid (show Tk6Q w b l r o N g0 fc va n vc ls (frU fr1 i (q :: fr1 i)) (w2.setCell ⟨g0, i, none⟩ (.slice (some ⟨a2, 0, none⟩) (m + 1) c2)) from by
        have h3 := H2.out.2
        have := hQ.out.put H2.out.1 i hi (some ⟨a2, 0, none⟩) c2 (q :: fr1 i) h3
        rw [show (q :: fr1 i).length = m + 1 by rw [HM.out]; rfl] at this
        exact this)
      go_wp2_with fail
      go_meet
      case rel => exact Q2
  case rest =>
  clear x0 x1 x2 x3 x4 x5 xf r1
  obtain ⟨x0, x1, x2, x3, x4, x5, xf⟩ := r6c hcut.out.x0
  obtain ⟨y0, y1, y2, y3, y4, y5, yf⟩ := r6c (b := 0) (l := 0) (o := 0) (r := 0) hcut.out.y0
  have FIN := hid (fun u0 u1 u2 u3 u4 u5 => And.intro (set6_kept hcut.out.kp (w.heap.size + 1) (by omega) u0 u1 u2 u3 u4 u5) (hcut.out.r6.box hcut.out.y0 (set6_in _ _ u0 u1 u2 u3 u4 u5)))
  go_wp2_with fail
  exact ⟨rfl, r6V b l (o : Int) r (.slice (some ⟨g0, 0, none⟩) (o + 1) fc) (.slice va n vc), by simp [results, Tryz.results58, go_sem, y0, y1, y2, y3, y4, y5], rfl, by rw [HGF.out]; exact (FIN.out _ _ _ _ _ _).2, (FIN.out _ _ _ _ _ _).1⟩
end Go.Proofs.YtggieolknccabaaGreat
