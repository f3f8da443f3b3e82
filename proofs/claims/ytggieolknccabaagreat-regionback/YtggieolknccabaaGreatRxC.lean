/- RegionPlays: croftref6.Take, where there is a block. -/
import Derived.Test.YtggieolknccabaaGreatRxB
namespace Go.Proofs.YtggieolknccabaaGreat
open Go.RowKit
set_option linter.unusedVariables false

set_option maxRecDepth 4000 in
set_option maxHeartbeats 2000000 in
theorem Take6_yes (b : Nat) (l r : Int) (o : Nat) (ho : o ≤ 8) (N g0 fc : Nat) (fr : Nat → List Nat) (va : Option Addr) (vc : Nat) (ls : List (Nat × Nat)) (hls : ls.length ≤ 1100) (hf : ∀ j, j ≤ o → (fr j).length ≤ 1024) (k : Nat) (j p : Nat) (t : List Nat) (hkj : k ≤ j) (hjo : j ≤ o) (hz : ∀ a, k ≤ a → a < j → fr a = []) (hp : fr j = p :: t) (hpb : p ≤ 1024) (w : World) (hN : N ≤ w.heap.size) (h : R6 N w g0 fc o fr va vc ls) :
    Calls Tryz.prog 57 #[r6V b l (o : Int) r (.slice (some ⟨g0, 0, none⟩) (o + 1) fc) (.slice va ls.length vc), .int .i64 (k : Int)] w fun e w' => Tk6P w b l r o N g0 fc (cutF (frU fr j (M.dropL (fr j) p)) p j k) va (ls ++ [(p, k)]) p e w' := by
  obtain ⟨n, hn⟩ : ∃ n, n = ls.length := ⟨_, rfl⟩
  have T2 := two5 w (r6O b l (o : Int) r (.slice (some ⟨g0, 0, none⟩) (o + 1) fc) (.slice va n vc)) r6Z
  have K0 := hid T2.1
  have X0 := hid T2.2.1
  have Y0 := hid T2.2.2
  have R0 := hid (h.keep T2.1)
  have HS := hid (show ((w.alloc (r6O b l (o : Int) r (.slice (some ⟨g0, 0, none⟩) (o + 1) fc) (.slice va n vc))).alloc r6Z).heap.size = w.heap.size + 2 by simp)
  rw [← hn] at hls ⊢
  have HNN := hid hn
  clear T2 h hn
  go_enter Tryz.func57, Tryz.ntmps57
  go_wp2_with fail
  generalize (w.alloc (r6O b l (o : Int) r (.slice (some ⟨g0, 0, none⟩) (o + 1) fc) (.slice va n vc))).alloc r6Z = W0 at *
  obtain ⟨x0, x1, x2, x3, x4, x5, xf⟩ := r6c X0.out
  go_loopw [6] (fun i W => ∃ a : Nat, k ≤ a ∧ a ≤ j ∧ i = .int .i64 a ∧ Hid (W = W0)) (fun i _ => o + 1 - (intOf i).toNat)
  case atStart => exact ⟨k, Nat.le_refl _, by omega, rfl, hid (by first | rfl | trivial)⟩
  case round =>
    obtain ⟨a, hka, haj, rfl, hR⟩ := hrel
    have hw := hR.out.symm
    subst hw
    clear hR
    have hji : (a : Int) ≤ (o : Int) := by omega
    have hjd : decide ((a : Int) ≤ (o : Int)) = true := decide_eq_true hji
    have hj2 : (a : Int) < ((o + 1 : Nat) : Int) := by omega
    have hj3 : (a : Int) < (o : Int) + 1 := by omega
    obtain ⟨g, A, C, hg, r1, hA⟩ := R0.out.fl.get a (by omega)
    injection hg with hg
    injection hg with hg
    subst hg
    by_cases hlt : a < j
    · rw [hz a hka hlt, List.length_nil] at r1
      go_wp2_with fail
      exact ⟨⟨a + 1, by omega, by omega, by simp, hid (by first | rfl | trivial)⟩, by simp [intOf]; omega⟩
    · obtain rfl : a = j := by omega
      have HA := hid hA
      obtain ⟨m, hm⟩ : ∃ m, m = t.length := ⟨_, rfl⟩
      have hL : (fr a).length = m + 1 := by rw [hp, hm]; rfl
      obtain ⟨g2, hg2, q1⟩ := hA.get (i := 0) (by omega)
      subst hg2
      rw [show (fr a).getD 0 0 = p by rw [hp]; rfl] at q1
      rw [hL] at r1
      have hm0 : ¬ ((m : Int) + 1 = 0) := by omega
      have hmb : ((m : Int) + 1 == 0) = false := beq_eq_false_iff_ne.2 hm0
      have hng : ¬ (o : Int) < (a : Int) := by omega
      clear hA
      go_upto_region 7 with fail
      have WI := hid (fun W (kk : Kept none' W0 W) => without6 (some ⟨g2, 0, none⟩) C (fr a) (by have := hf a hjo; omega) p W (HA.out.keep kk))
      rw [hL] at WI
      have KD := hid ((Kept.refl none' W0).drew)
      obtain ⟨d, hd⟩ : ∃ d, d = (M.dropL (fr a) p).length := ⟨_, rfl⟩
      have HD := hid hd
      clear hm hL hd
      go_cut [39] (fun s39 wx => Hid (Tk6Q w b l r o N g0 fc va n vc ls (frU fr a (M.dropL (fr a) p)) wx))
      case first =>
        rename_i KK hKK J KK2 hJ hM
        clear hKK KK
        go_wp2_with fail
        go_region_with (go_at_call 59; (with_reducible refine (WI.out _ KD.out).mono ?_); rintro e w2 ⟨a2, c2, rfl, hk2, hn2⟩; rw [← HD.out] at hn2 ⊢; have H2 := hid (And.intro (none_trans KD.out hk2) hn2); obtain ⟨z0, z1, z2, z3, z4, z5, zf⟩ := r6c (((none_trans KD.out hk2).block _ (heap_lt X0.out) (fun e => e)).trans X0.out); have zg := (R0.out.keep (none_trans KD.out hk2)).fl.fz a; have zc := ((none_trans KD.out hk2).cell (fun e => e) r1); clear hk2 hn2)
        all_goals
          have Q2 := hid (show Tk6Q w b l r o N g0 fc va n vc ls (frU fr a (M.dropL (fr a) p)) (w2.setCell ⟨g0, a, none⟩ (.slice a2 d c2)) from by
            have hg := R0.out.nf
            have hx := (H2.out.1.block _ (heap_lt X0.out) (fun e => e)).trans X0.out
            have hy := (H2.out.1.block _ (heap_lt Y0.out) (fun e => e)).trans Y0.out
            obtain ⟨cs, hc⟩ := (R0.out.keep H2.out.1).ty0
            have ks : Kept (fun y => y = g0) w2 (w2.setCell ⟨g0, a, none⟩ (.slice a2 d c2)) := (Kept.refl (fun y => y = g0) w2).setCell (p := ⟨g0, a, none⟩) rfl _
            refine ⟨(none_trans K0.out H2.out.1).trans ks (fun _ _ e => e.elim) (fun _ _ e => .inl e), (ks.block _ (heap_lt hx) (fun e => ty_ne hc hx (by decide) e.symm)).trans hx, (ks.block _ (heap_lt hy) (fun e => ty_ne hc hy (by decide) e.symm)).trans hy, ?_⟩
            have h3 := H2.out.2
            rw [HD.out] at h3 ⊢
            exact (R0.out.keep H2.out.1).put a hjo a2 c2 _ h3)
          go_wp2_with fail
          go_meet
          case rel => exact Q2
      case rest =>
      have Q0 := hcut
      clear WI KD HD HA R0 X0 Y0 K0 HS r1 q1 x0 x1 x2 x3 x4 x5 xf
      obtain ⟨F, hF⟩ : ∃ F, F = frU fr a (M.dropL (fr a) p) := ⟨_, rfl⟩
      rw [← hF] at Q0
      have hFl : ∀ i, i ≤ o → (F i).length ≤ 1024 := fun i hi => by
        rw [hF]
        unfold frU
        by_cases e : i = a
        · rw [if_pos e]; exact Nat.le_trans (List.length_filter_le _ _) (hf a hjo)
        · rw [if_neg e]; exact hf i hi
      have HFL := hid hFl
      have HFF := hid hF
      clear hF hFl hf hz hp hcut
      go_wp2_with fail
      go_loopw [8] (fun i W => ∃ (z : Int) (d : Nat), i = .int .i64 z ∧ z + 1 = (d : Int) ∧ k ≤ d ∧ d ≤ a ∧ Hid (Tk6Q w b l r o N g0 fc va n vc ls (cutF F p a d) W)) (fun i _ => (intOf i + 1).toNat)
      case atStart => exact ⟨(a : Int) - 1, a, by simp, by omega, hkj, Nat.le_refl _, hid (by rw [cutF_self]; exact Q0.out)⟩
      case round =>
        clear Q0
        obtain ⟨z, d, rfl, hzd, hkd, hda, hQ⟩ := hrel
        obtain ⟨x0, x1, x2, x3, x4, x5, xf⟩ := r6c hQ.out.x0
        by_cases hlt : k < d
        · obtain ⟨c, rfl⟩ : ∃ c, d = c + 1 := ⟨d - 1, by omega⟩
          obtain rfl : z = (c : Int) := by omega
          have hkc : (k : Int) ≤ (c : Int) := by omega
          have hc2 : (c : Int) < ((o + 1 : Nat) : Int) := by omega
          have hc3 : (c : Int) < (o : Int) + 1 := by omega
          obtain ⟨g, A, C, hg, r1, hA⟩ := hQ.out.r6.fl.get c (by omega)
          injection hg with hg
          injection hg with hg
          subst hg
          rw [cutF_low] at r1 hA
          obtain ⟨m, hm⟩ : ∃ m, m = (F c).length := ⟨_, rfl⟩
          obtain ⟨v, hv⟩ : ∃ v, v = 2 ^ c := ⟨_, rfl⟩
          have hv2 : v ≤ 256 := by
            rw [hv]
            exact Nat.pow_le_pow_right (n := 2) (by decide) (show c ≤ 8 by omega)
          obtain ⟨pv, hpv⟩ : ∃ pv, pv = p + v := ⟨_, rfl⟩
          have hpi : (p : Int) + (v : Int) = (pv : Int) := by omega
          have hpw : IntKind.i64.wrap (pv : Int) = (pv : Int) := by rw [IntKind.wrap_i64]; omega
          have PU := hid (fun W (kk : Kept none' wr W) => push6 A C (F c) (by have := HFL.out c (by omega); omega) pv W (hA.keep kk))
          have PW := hid (fun W => Power6 c (by omega) W)
          rw [← hv] at PW
          have HM := hid hm
          have HPV := hid (show pv = p + 2 ^ c by rw [hpv, hv])
          rw [← hm] at r1 PU
          have KD := hid ((Kept.refl none' wr).drew)
          clear hm hv hpv hA
          go_wp2_with fail
          go_region_with (first | (go_at_call 83; (with_reducible refine (PU.out _ KD.out).mono ?_); rintro e w2 ⟨a2, c2, rfl, hk2, hn2⟩; rw [← HM.out]; have H2 := hid (And.intro (none_trans KD.out hk2) hn2); obtain ⟨z0, z1, z2, z3, z4, z5, zf⟩ := r6c (((none_trans KD.out hk2).block _ (heap_lt hQ.out.x0) (fun e => e)).trans hQ.out.x0); have zg := (hQ.out.r6.keep (none_trans KD.out hk2)).fl.fz c; have zc := ((none_trans KD.out hk2).cell (fun e => e) r1); clear hk2 hn2) | (go_at_call 35; (with_reducible refine (PW.out _).mono ?_); rintro e w2 ⟨rfl, h2⟩; replace h2 := h2.symm; subst h2))
          all_goals
            have Q2 := hid (show Tk6Q w b l r o N g0 fc va n vc ls (cutF F p a c) (w2.setCell ⟨g0, c, none⟩ (.slice (some ⟨a2, 0, none⟩) (m + 1) c2)) from by
              have h3 := H2.out.2
              rw [show (pv :: F c).length = m + 1 by rw [HM.out]; rfl] at h3
              have := hQ.out.put H2.out.1 c (by omega) (some ⟨a2, 0, none⟩) c2 (pv :: F c) (by rw [show (pv :: F c).length = m + 1 by rw [HM.out]; rfl]; exact h3)
              rw [show (pv :: F c).length = m + 1 by rw [HM.out]; rfl, HPV.out] at this
              have e := cutF_next F p a c (by omega)
              rw [cutF_low] at e
              rw [e] at this
              exact this)
            go_wp2_with fail
            exact ⟨⟨(c : Int) - 1, c, by simp, by omega, by omega, by omega, Q2⟩, by simp [intOf]⟩
        · obtain rfl : k = d := by omega
          have hkz : ¬ (k : Int) ≤ z := by omega
          obtain ⟨ga, vc', w', hap, hr6, hk6⟩ := hQ.out.r6.live (by have := hQ.out.kp.size; omega) (by rw [← HNN.out]; exact hls) p k
          rw [← HNN.out] at hap
          have HAP := hid hap
          have hx' := (hk6.block _ (heap_lt hQ.out.x0) (fun e => by
            obtain ⟨cs, hc⟩ := hQ.out.r6.tyv e
            exact ty_ne hc hQ.out.x0 (by decide) rfl)).trans hQ.out.x0
          have hy' := (hk6.block _ (heap_lt hQ.out.y0) (fun e => by
            obtain ⟨cs, hc⟩ := hQ.out.r6.tyv e
            exact ty_ne hc hQ.out.y0 (by decide) rfl)).trans hQ.out.y0
          have ks : Kept (fun y => y = w.heap.size) w' (w'.setCell ⟨w.heap.size, 5, none⟩ (.slice (some ga) (n + 1) vc')) := (Kept.refl (fun y => y = w.heap.size) w').setCell (p := ⟨w.heap.size, 5, none⟩) rfl _
          have X2 := hid (show (w'.setCell ⟨w.heap.size, 5, none⟩ (.slice (some ga) (n + 1) vc')).heap[w.heap.size]? = some (r6O b l (o : Int) r (.slice (some ⟨g0, 0, none⟩) (o + 1) fc) (.slice (some ga) (n + 1) vc')) from heap_set hx' 5 _)
          have Y2 := hid ((ks.block _ (heap_lt hy') (by omega)).trans hy')
          have KK := hid (show Kept (S6 g0 va) w (w'.setCell ⟨w.heap.size, 5, none⟩ (.slice (some ga) (n + 1) vc')) from (hQ.out.kp.trans hk6 (fun _ _ e => e) (fun _ _ e => .inr e)).trans ks (fun _ _ e => e) (fun y hy e => by omega))
          have RR := hid (hr6.box hx' ks)
          clear x0 x1 x2 x3 x4 x5 xf
          obtain ⟨x0, x1, x2, x3, x4, x5, xf⟩ := r6c X2.out
          obtain ⟨y0, y1, y2, y3, y4, y5, yf⟩ := r6c (b := 0) (l := 0) (o := 0) (r := 0) Y2.out
          obtain ⟨t0, t1, t2, t3, t4, t5, tf⟩ := r6c hx'
          obtain ⟨s0, s1, s2, s3, s4, s5, sf⟩ := r6c hQ.out.x0
          have FIN := hid (fun u0 u1 u2 u3 u4 u5 => And.intro (set6_kept KK.out (w.heap.size + 1) (by omega) u0 u1 u2 u3 u4 u5) (RR.out.box Y2.out (set6_in _ _ u0 u1 u2 u3 u4 u5)))
          clear hap hr6 hk6 hx' hy' ks
          go_wp2_with (at_builtin; refine Lib.wpList_append_run _ rfl _ _ _ _ rfl (.slice va n vc) (.slice (some ⟨wr.heap.size, 0, none⟩) 1 1) rfl rfl _ _ (HAP.out _) ?_)
          exact ⟨rfl, .tuple #[r6V b l (o : Int) r (.slice (some ⟨g0, 0, none⟩) (o + 1) fc) (.slice (some ga) (n + 1) vc'), .int .i64 (p : Int)], by simp [results, Tryz.results57, go_sem, y0, y1, y2, y3, y4, y5], some ga, vc', by rw [List.length_append, ← HNN.out]; rfl, by rw [← HFF.out]; exact (FIN.out _ _ _ _ _ _).2, (FIN.out _ _ _ _ _ _).1⟩
end Go.Proofs.YtggieolknccabaaGreat
