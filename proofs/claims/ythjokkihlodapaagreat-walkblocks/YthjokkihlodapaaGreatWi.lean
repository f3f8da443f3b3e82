import Derived.Test.YthjokkihlodapaaGreatWc
set_option maxRecDepth 1000000
set_option maxHeartbeats 80000000
/- croftref9: rule 2. -/
namespace Go.Proofs.YthjokkihlodapaaGreat
open Go.RowKit
set_option linter.unusedVariables false
set_option maxHeartbeats 8000000
set_option maxRecDepth 6000
theorem toK9 {w w' : World} (h : M.Kept M.none' w w') : Kept none' w w' := ⟨h.os, h.tape, h.output, h.size, h.block⟩
/-- Rule 2. -/
theorem lengths9 (I : Img) (V : ImV) (k L : Nat) (hk : k ≤ 8) (hL : L ≤ 64) (hko : I.ord = (k : Int)) (hlo : I.lim = (L : Int)) (w : World) (hI : ImD w I V) :
    Calls Tryz.prog 27 #[imA I V] w fun e w' => e = .returned (.int .i64 (plI (r2 I k))) ∧ Kept none' w w' := by
  have hrg := hI.reg
  have HHD := hid hI.hds.1
  obtain ⟨-, -, -, -, -, bm, bp, br, bt⟩ := hI.sl
  obtain ⟨⟨ma, mc, hm⟩, ⟨pa, pc, hp⟩, ⟨ra, rc, hr⟩, ⟨ha, hc, hh⟩, ⟨ta, tc, ht⟩, -⟩ := hI.sl
  obtain ⟨vm, vp, vr, vh, vt⟩ := V
  dsimp only at hm hp hr hh ht
  subst hm hp hr hh ht
  have IM0 := hid (show ImAt (w.alloc (imO I _)) w.heap.size I _ from ⟨heap_new _ _, hI.keep ((Kept.refl _ w).alloc _)⟩)
  have K0 := hid (show Kept none' w (w.alloc (imO I _)) from (Kept.refl _ w).alloc (imO I ⟨.slice ma I.nm mc, .slice pa I.np pc, .slice ra I.no rc, .slice ha I.hd.length hc, .slice ta I.pt.length tc⟩))
  obtain ⟨c0, c1, c2, c3, c4, c5, c6, c7, c8⟩ := IM0.out.cells
  have L0 := hid (show LnI w ((w.alloc (imO I ⟨.slice ma I.nm mc, .slice pa I.np pc, .slice ra I.no rc, .slice ha I.hd.length hc, .slice ta I.pt.length tc⟩)).alloc (.cells #[.int .u64 (I.base : Int), .int .i64 I.lim, .int .i64 I.ord] 24 (0, 0))) w.heap.size (w.heap.size + 1) I ⟨.slice ma I.nm mc, .slice pa I.np pc, .slice ra I.no rc, .slice ha I.hd.length hc, .slice ta I.pt.length tc⟩ from ⟨IM0.out.keep ((Kept.refl _ _).alloc _), by have := heap_new (w.alloc (imO I ⟨.slice ma I.nm mc, .slice pa I.np pc, .slice ra I.no rc, .slice ha I.hd.length hc, .slice ta I.pt.length tc⟩)) (.cells #[.int .u64 (I.base : Int), .int .i64 I.lim, .int .i64 I.ord] 24 (0, 0)); rwa [World.size_alloc] at this, K0.out.alloc _⟩)
  obtain ⟨rr, hrr⟩ : ∃ rr, rr = plI (r2 I k) := ⟨_, rfl⟩
  rw [← hrr]
  have RR := hid hrr
  have HKO := hid hko
  have HLO := hid hlo
  have HP8 := hid (M.pow8 k hk)
  have BM := hid bm
  have BP := hid bp
  have BR := hid br
  have HRG := hid hrg
  clear hI hrr hko hlo IM0 K0 bm bp br hrg
  go_enter Tryz.func27, Tryz.ntmps27
  go_upto_region 2 with fail
  refine gen_world9 (P := fun W => Code.wp Tryz.prog _ _ _ W) _ ?_
  intro W0 hW
  rw [← hW] at L0
  clear hW c0 c1 c2 c3 c4 c5 c6 c7 c8
  generalize w.heap.size + 1 = g at *
  generalize w.heap.size = ib at *
  obtain ⟨c0, c1, c2, c3, c4, c5, c6, c7, c8⟩ := L0.out.im.cells
  have q1 : W0.cell? ⟨g, 1, none⟩ = some (.int .i64 I.lim) := by simp [World.cell?, L0.out.cf]
  rw [HLO.out] at q1
  have IN := hid (fun W => in9 I.reg 0 (L : Int) W)
  have hw0 : wiB I.reg 0 I.lim = wiB I.reg 0 (L : Int) := by rw [HLO.out]
  obtain ⟨b0, hb0⟩ : ∃ b, b = wiB I.reg 0 (L : Int) := ⟨_, rfl⟩
  rw [← hb0] at IN hw0
  go_wp2_with fail
  refine (IN.out _).mono ?_
  rintro e w1 ⟨rfl, rfl⟩
  clear c0 c1 c2 c3 c4 c5 c6 c7 c8 q1
  cases b0 with
  | false =>
    have er : rr = 0 := by rw [RR.out, r2, hw0, if_pos rfl]; rfl
    subst er
    clear hb0 hw0
    go_wp2_with fail
    go_ret
    exact ⟨rfl, L0.out.k⟩
  | true =>
    have hreg : 0 ≤ I.reg ∧ I.reg ≤ (L : Int) := by unfold wiB at hb0; exact of_decide_eq_true hb0.symm
    obtain ⟨r, hr⟩ := Int.eq_ofNat_of_zero_le hreg.1
    have HR := hid hr
    have hrl : r ≤ 64 := by omega
    obtain ⟨n, hn⟩ : ∃ n, n = r * 2 ^ k := ⟨_, rfl⟩
    have hn1 : n ≤ 16384 := by
      rw [hn]
      exact Nat.le_trans (Nat.mul_le_mul hrl HP8.out.2) (by decide)
    obtain ⟨P, hP⟩ : ∃ P, P = 2 ^ k := ⟨_, rfl⟩
    obtain ⟨R, hRR⟩ : ∃ R, R = M.RS k := ⟨_, rfl⟩
    have hRP : R = 4096 * P := by rw [hRR, M.RS, hP]
    have hrP : r * P = n := by rw [hP, hn]
    obtain ⟨z, hz⟩ : ∃ z, z = n * 4096 := ⟨_, rfl⟩
    have hm1 : IntKind.u64.wrap ((r : Int) * (R : Int)) = (z : Int) := by
      have e3 : r * R = z := by rw [hz, ← hrP, hRP, Nat.mul_assoc, Nat.mul_comm P]
      have e2 : (r : Int) * (R : Int) = (z : Int) := by rw [← e3, Int.natCast_mul]
      rw [e2, wrap_u64]
      omega
    have hm2 : IntKind.i64.wrap ((r : Int) * (P : Int)) = (n : Int) := by
      have e2 : (r : Int) * (P : Int) = (n : Int) := by rw [← hrP, Int.natCast_mul]
      rw [e2, IntKind.wrap_i64]
      omega
    have hm3 : wrap64 ((r : Int) * (P : Int)) = (n : Int) := by
      have e2 : (r : Int) * (P : Int) = (n : Int) := by rw [← hrP, Int.natCast_mul]
      rw [e2, wrap64]
      omega
    have HN := hid (show I.reg.toNat * 2 ^ k = n by rw [hr, Int.toNat_natCast, hn])
    have HR2 := hid (show r2 I k = (if I.nm ≠ n * 4096 then some 1 else if I.np ≠ n then some 2 else if I.no ≠ k then some 3 else if fst1 I.no (fun j => decide ((I.pr j).length = pwN I.np j)) ≠ none then some 3 else if I.hd.length ≠ k + 1 then some 4 else if I.pt.length ≠ 8 then some 5 else none) by unfold r2; rw [if_neg (by rw [hw0]; simp), HN.out])
    have RC := hid (fun W => (M.R_any (I.base : Int) (L : Int) k hk W).mono (fun e w' (h : e = .returned (.int .u64 ((M.RS k : Nat) : Int)) ∧ M.Kept M.none' W w') => (⟨h.1, toK9 h.2⟩ : e = .returned (.int .u64 ((M.RS k : Nat) : Int)) ∧ Kept none' W w')))
    rw [← hRR] at RC
    have PW := hid (fun W => power9 k (by omega) W)
    rw [← hP] at PW
    have f1 : IntKind.u64.wrap (I.nm : Int) = (I.nm : Int) := by have := BM.out; rw [wrap_u64]; omega
    have f2 : IntKind.u64.wrap (r : Int) = (r : Int) := by rw [wrap_u64]; omega
    have HZ := hid hz
    have HN1 := hid hn1
    clear hb0 hw0 hreg hr hn hP hRR hRP hrP hz hn1
    obtain ⟨c0, c1, c2, c3, c4, c5, c6, c7, c8⟩ := L0.out.im.all
    obtain ⟨q1, q2⟩ := L0.out.all
    have q0 : ∀ x : KW w1, x.v.cell? ⟨g, 0, none⟩ = some (.int .u64 (I.base : Int)) := fun x => by simp [World.cell?, (L0.out.keep x.k).cf]
    rw [HLO.out] at q1
    rw [HKO.out] at q2
    rw [HR.out] at c3
    dsimp only at c4 c5 c6 c7 c8
    by_cases h1 : I.nm = z
    case neg =>
      have g1 : ((I.nm : Int) != (z : Int)) = true := by rw [bne_iff_ne]; omega
      have er : rr = 1 := by rw [RR.out, HR2.out, ← HZ.out, if_pos h1]; rfl
      clear h1
      subst er
      go_wp2_with fail
      refine wp_region_kept (by kernel_rfl) (by kernel_rfl) ?_
      repeat (go_big_quiet_step (first | (go_at_call 53; exact Calls.kept_of (RC.out _))))
      refine wpQuiet_nil ?_
      intro x
      have KX := hid (none_trans L0.out.k x.k)
      clear c0 c1 c2 c3 c4 c5 c6 c7 c8 q0 q1 q2
      generalize x.v = W1 at *
      go_wp2_with fail
      go_ret
      exact ⟨rfl, KX.out⟩
    have g1 : ((I.nm : Int) != (z : Int)) = false := by rw [bne_eq_false_iff_eq]; omega
    have E1 := hid (show I.nm = n * 4096 from h1.trans HZ.out)
    clear h1
    go_wp2_with fail
    refine wp_region_kept (by kernel_rfl) (by kernel_rfl) ?_
    repeat (go_big_quiet_step (first | (go_at_call 53; exact Calls.kept_of (RC.out _))))
    refine wpQuiet_nil ?_
    intro x
    have L1 := hid (L0.out.keep x.k)
    clear c0 c1 c2 c3 c4 c5 c6 c7 c8 q0 q1 q2 L0 hm1 f1 f2 g1
    generalize x.v = W1 at *
    obtain ⟨c0, c1, c2, c3, c4, c5, c6, c7, c8⟩ := L1.out.im.all
    obtain ⟨q1, q2⟩ := L1.out.all
    rw [HLO.out] at q1
    rw [HKO.out] at q2
    rw [HR.out] at c3
    dsimp only at c4 c5 c6 c7 c8
    by_cases h1 : I.np = n
    case neg =>
      have g1 : ((I.np : Int) != (n : Int)) = true := by rw [bne_iff_ne]; omega
      have er : rr = 2 := by rw [RR.out, HR2.out, if_neg (not_not_intro E1.out), if_pos h1]; rfl
      clear h1
      subst er
      go_wp2_with fail
      refine wp_region_kept (by kernel_rfl) (by kernel_rfl) ?_
      repeat (go_big_quiet_step (first | (go_at_call 20; exact Calls.kept_of ((PW.out _).mono fun _ _ ⟨h1, h2⟩ => ⟨h1, h2 ▸ Kept.refl _ _⟩))))
      refine wpQuiet_nil ?_
      intro x
      have KX := hid (none_trans L1.out.k x.k)
      clear c0 c1 c2 c3 c4 c5 c6 c7 c8 q1 q2
      generalize x.v = W1 at *
      go_wp2_with fail
      go_ret
      exact ⟨rfl, KX.out⟩
    have g1 : ((I.np : Int) != (n : Int)) = false := by rw [bne_eq_false_iff_eq]; omega
    have E2 := hid h1
    clear h1
    go_wp2_with fail
    refine wp_region_kept (by kernel_rfl) (by kernel_rfl) ?_
    repeat (go_big_quiet_step (first | (go_at_call 20; exact Calls.kept_of ((PW.out _).mono fun _ _ ⟨h1, h2⟩ => ⟨h1, h2 ▸ Kept.refl _ _⟩))))
    refine wpQuiet_nil ?_
    intro x
    have L2 := hid (L1.out.keep x.k)
    clear c0 c1 c2 c3 c4 c5 c6 c7 c8 q1 q2 L1 hm2 hm3 g1
    generalize x.v = W2 at *
    obtain ⟨c0, c1, c2, c3, c4, c5, c6, c7, c8⟩ := L2.out.im.cells
    have q2 : W2.cell? ⟨g, 2, none⟩ = some (.int .i64 I.ord) := by simp [World.cell?, L2.out.cf]
    rw [HKO.out] at q2
    dsimp only at c4 c5 c6 c7 c8
    by_cases h1 : I.no = k
    case neg =>
      have g1 : ((I.no : Int) != (k : Int)) = true := by rw [bne_iff_ne]; omega
      have er : rr = 3 := by rw [RR.out, HR2.out, if_neg (not_not_intro E1.out), if_neg (not_not_intro E2.out), if_pos h1]; rfl
      clear h1
      subst er
      go_wp2_with fail
      go_ret
      exact ⟨rfl, L2.out.k⟩
    have g1 : ((I.no : Int) != (k : Int)) = false := by rw [bne_eq_false_iff_eq]; omega
    have E3 := hid h1
    clear h1
    go_wp2_with fail
    clear c0 c1 c2 c3 c4 c5 c6 c7 c8 q2 g1
    go_loopw [4] (fun iv W => ∃ j : Nat, j ≤ k ∧ iv = .int .i64 j ∧ Hid (LnI w W ib g I ⟨.slice ma I.nm mc, .slice pa I.np pc, .slice ra I.no rc, .slice ha I.hd.length hc, .slice ta I.pt.length tc⟩ ∧ ∀ x, x < j → decide ((I.pr x).length = pwN I.np x) = true)) (fun iv _ => k - (intOf iv).toNat)
    case atStart => exact ⟨0, Nat.zero_le _, rfl, hid ⟨L2.out, fun x hx => by omega⟩⟩
    case round =>
      clear L2
      obtain ⟨j, hj, rfl, hR⟩ := hrel
      have L3 := hid hR.out.1
      have PREV := hid hR.out.2
      clear hR
      obtain ⟨c0, c1, c2, c3, c4, c5, c6, c7, c8⟩ := L3.out.im.cells
      have q2 : wr.cell? ⟨g, 2, none⟩ = some (.int .i64 I.ord) := by simp [World.cell?, L3.out.cf]
      rw [HKO.out] at q2
      dsimp only at c4 c5 c6 c7 c8
      by_cases hlt : j < k
      · have hji : (j : Int) < (k : Int) := by omega
        have HJ := hid hlt
        have HJ2 := hid (show j + 1 ≤ k from hlt)
        have HW := hid (show wrap64 ((j : Int) + 1) = ((j + 1 : Nat) : Int) by rw [wrap64]; omega)
        clear hlt hj
        obtain ⟨Q, hQ⟩ : ∃ Q, Q = 2 ^ (j + 1) := ⟨_, rfl⟩
        have PJ := hid (fun W => power9 (j + 1) (by have := HJ.out; omega) W)
        rw [← hQ] at PJ
        have hQ1 : 1 ≤ Q := by rw [hQ]; exact Nat.two_pow_pos _
        have hQ2 : Q ≤ 512 := by rw [hQ]; exact pow_9 _ (by have := HJ.out; omega)
        obtain ⟨pn, hpn⟩ : ∃ pn, pn = I.np / Q := ⟨_, rfl⟩
        have PN := hid (show (pn + 63) / 64 = pwN I.np j by rw [pwN, hpn, hQ])
        have hpnl : pn ≤ 16384 := by have := HN1.out; rw [hpn, E2.out]; exact Nat.le_trans (Nat.div_le_self _ _) this
        have s1 : IntKind.i64.wrap ((j : Int) + 1) = ((j + 1 : Nat) : Int) := by have := HJ.out; rw [IntKind.wrap_i64]; omega
        have s2 : (I.np : Int).tdiv (Q : Int) = (pn : Int) := by rw [hpn]; rfl
        have s3 : (I.np : Int) / (Q : Int) = (pn : Int) := by rw [hpn]; simp
        have s4 : IntKind.i64.wrap (pn : Int) = (pn : Int) := by rw [IntKind.wrap_i64]; omega
        have s5 : ¬ (Q : Int) = 0 := by omega
        have s6 : ((Q : Int) == 0) = false := by rw [beq_eq_false_iff_ne]; omega
        have s7 : ¬ (Q : Int) = -1 := by omega
        obtain ⟨j1, hj1⟩ : ∃ j1, j1 = j + 1 := ⟨_, rfl⟩
        rw [← hj1] at s1 PJ
        clear hQ hpn hj1
        go_wp2_with fail
        clear c0 c1 c2 c3 c4 c5 c6 c7 c8 q2
        obtain ⟨c0, c1, c2, c3, c4, c5, c6, c7, c8⟩ := L3.out.im.all
        dsimp only at c4 c5 c6 c7 c8
        refine wp_region_kept (by kernel_rfl) (by kernel_rfl) ?_
        repeat (go_big_quiet_step (first | (go_at_call 20; exact Calls.kept_of ((PJ.out _).mono fun _ _ ⟨h1, h2⟩ => ⟨h1, h2 ▸ Kept.refl _ _⟩))))
        refine wpQuiet_nil ?_
        intro x
        have L4 := hid (L3.out.keep x.k)
        clear c0 c1 c2 c3 c4 c5 c6 c7 c8 s1 s2 s3 s4 s5 s6 s7 L3
        generalize x.v = W4 at *
        obtain ⟨c0, c1, c2, c3, c4, c5, c6, c7, c8⟩ := L4.out.im.cells
        dsimp only at c4 c5 c6 c7 c8
        obtain ⟨ws, _, ra', rc', hrv, hr3⟩ := L4.out.im.d.prs
        injection hrv with e1 e2 e3
        subst e1
        have hjno : j < I.no := by rw [E3.out]; exact HJ.out
        rcases hr3 with hr3 | ⟨bl, o, rfl, _, hcc⟩
        · omega
        obtain ⟨d0, hz, za, zc, hzv, _⟩ := hcc j hjno
        rw [hzv] at d0
        have hjn : (j : Int) < (I.no : Int) := by omega
        obtain ⟨zl, hzl⟩ : ∃ zl, zl = (I.pr j).length := ⟨_, rfl⟩
        rw [← hzl] at d0
        obtain ⟨q, hq⟩ : ∃ q, q = pwN I.np j := ⟨_, rfl⟩
        have t1 : ((pn : Int) + 63) / 64 = (q : Int) := by rw [hq, ← PN.out]; omega
        have HQ := hid hq
        have HZL := hid hzl
        clear hcc hz hzv hzl hq e2 e3 hjno
        by_cases h4 : zl = q
        case neg =>
          have g4 : ((zl : Int) != (q : Int)) = true := by rw [bne_iff_ne]; omega
          have er : rr = 3 := by
            rw [RR.out, HR2.out, if_neg (not_not_intro E1.out), if_neg (not_not_intro E2.out), if_neg (not_not_intro E3.out), if_pos]
            · rfl
            · rw [fst1_bad (i := j) (by rw [E3.out]; exact HJ.out) PREV.out (decide_eq_false (by rw [← HZL.out, ← HQ.out]; exact h4))]
              exact Option.some_ne_none _
          clear h4
          subst er
          go_wp2_with fail
          go_ret
          exact ⟨rfl, L4.out.k⟩
        have g4 : ((zl : Int) != (q : Int)) = false := by rw [bne_eq_false_iff_eq]; omega
        have NEXT := hid (show ∀ x, x < j + 1 → decide ((I.pr x).length = pwN I.np x) = true from fun x hx => by
          by_cases e : x = j
          · rw [e, ← HZL.out, ← HQ.out]; exact decide_eq_true h4
          · exact PREV.out x (by omega))
        clear h4
        go_wp2_with fail
        go_round
        case rel => exact ⟨j + 1, HJ2.out, by first | rw [HW.out] | go_num, hid ⟨L4.out, NEXT.out⟩⟩
        case measure => first | (rw [HW.out]; have := HJ.out; simp only [intOf, Int.toNat_natCast]; omega) | (have := HJ.out; simp [intOf]; omega)
      · have hji : ¬ (j : Int) < (k : Int) := by omega
        have hjk : j = k := by omega
        have E4 := hid (show ¬ fst1 I.no (fun j => decide ((I.pr j).length = pwN I.np j)) ≠ none from fun h => h (fst1_ok (fun x hx => PREV.out x (by rw [hjk, ← E3.out]; exact hx))))
        clear hlt hj hjk
        by_cases h5 : I.hd.length = k + 1
        case neg =>
          have g5 : ((I.hd.length : Int) != (k : Int) + 1) = true := by rw [bne_iff_ne]; omega
          have er : rr = 4 := by rw [RR.out, HR2.out, if_neg (not_not_intro E1.out), if_neg (not_not_intro E2.out), if_neg (not_not_intro E3.out), if_neg E4.out, if_pos h5]; rfl
          clear h5
          subst er
          go_wp2_with fail
          go_ret
          exact ⟨rfl, L3.out.k⟩
        have g5 : ((I.hd.length : Int) != (k : Int) + 1) = false := by rw [bne_eq_false_iff_eq]; omega
        have E5 := hid h5
        clear h5
        by_cases h6 : I.pt.length = 8
        case neg =>
          have g6 : ((I.pt.length : Int) != 8) = true := by rw [bne_iff_ne]; omega
          have er : rr = 5 := by rw [RR.out, HR2.out, if_neg (not_not_intro E1.out), if_neg (not_not_intro E2.out), if_neg (not_not_intro E3.out), if_neg E4.out, if_neg (not_not_intro E5.out), if_pos h6]; rfl
          clear h6
          subst er
          go_wp2_with fail
          go_ret
          exact ⟨rfl, L3.out.k⟩
        have g6 : ((I.pt.length : Int) != 8) = false := by rw [bne_eq_false_iff_eq]; omega
        have er : rr = -1 := by rw [RR.out, HR2.out, if_neg (not_not_intro E1.out), if_neg (not_not_intro E2.out), if_neg (not_not_intro E3.out), if_neg E4.out, if_neg (not_not_intro E5.out), if_neg (not_not_intro h6)]; rfl
        clear h6
        subst er
        go_wp2_with fail
        go_ret
        exact ⟨rfl, L3.out.k⟩
end Go.Proofs.YthjokkihlodapaaGreat
