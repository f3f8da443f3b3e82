import Derived.Test.YthjokkihlodapaaGreatWo
set_option maxRecDepth 1000000
set_option maxHeartbeats 80000000
/- croftref9: Blocks. -/
namespace Go.Proofs.YthjokkihlodapaaGreat
open Go.RowKit
set_option linter.unusedVariables false
set_option maxHeartbeats 8000000
set_option maxRecDepth 6000
theorem bk_add {g : Nat} {l : List (Nat × Nat)} {W W' : World} {w1 : World} {v : Value} {pb : Nat} {p : Pg} (h : GB w1 W v l) (hx : W.heap[pb]? = some (pgO p)) (k : Kept (fun b => v.ownBlock = some b) W W') : W'.heap[pb]? = some (pgO p) :=
  (k.block pb (heap_lt hx) (fun e => by
    obtain ⟨cs, hcs⟩ := gb_ty h e
    rw [hx] at hcs
    simp at hcs)).trans hx
theorem GS.from9 {w w1 W : World} {e : TypeId} {size n : Nat} {v : Value} {xs : List Value} (k : Kept none' w w1) (h : GS w1 W e size v n xs) : GS w W e size v n xs :=
  ⟨h.own, fun g cap e => Nat.le_trans k.size (h.new g cap e), none_trans k h.kp⟩
theorem Blocks9 (I : Img) (V : ImV) (w : World) (hI : ImD w I V) :
    Calls Tryz.prog 10 #[imA I V] w fun e w' => ∃ v, e = .returned v ∧ GB w w' v (blks I) := by
  obtain ⟨⟨ma, mc, hm⟩, ⟨pa, pc, hp⟩, ⟨ra, rc, hr⟩, ⟨ha, hc, hh⟩, ⟨ta, tc, ht⟩, -⟩ := hI.sl
  obtain ⟨vm, vp, vr, vh, vt⟩ := V
  dsimp only at hm hp hr hh ht
  subst hm hp hr hh ht
  have IM0 := hid (show ImAt (w.alloc (imO I _)) w.heap.size I _ from ⟨heap_new _ _, hI.keep ((Kept.refl _ w).alloc _)⟩)
  have K0 := hid (show Kept none' w (w.alloc (imO I _)) from (Kept.refl _ w).alloc (imO I ⟨.slice ma I.nm mc, .slice pa I.np pc, .slice ra I.no rc, .slice ha I.hd.length hc, .slice ta I.pt.length tc⟩))
  obtain ⟨c0, c1, c2, c3, c4, c5, c6, c7, c8⟩ := IM0.out.cells
  have HCK := hid (Check9 I ⟨.slice ma I.nm mc, .slice pa I.np pc, .slice ra I.no rc, .slice ha I.hd.length hc, .slice ta I.pt.length tc⟩ (w.alloc (imO I ⟨.slice ma I.nm mc, .slice pa I.np pc, .slice ra I.no rc, .slice ha I.hd.length hc, .slice ta I.pt.length tc⟩)) IM0.out.d)
  obtain ⟨bL, hbL⟩ : ∃ bL, bL = blks I := ⟨_, rfl⟩
  rw [← hbL]
  have BAD := hid (show (chk I).1 ≠ 0 → bL = [] from fun h => by rw [hbL, blks, if_neg h])
  have GOOD := hid (show (chk I).1 = 0 → bL = bkL I I.np from fun h => by rw [hbL, blks, if_pos h])
  obtain ⟨ru, hru⟩ : ∃ ru, ru = (chk I).1 := ⟨_, rfl⟩
  obtain ⟨pl, hpl⟩ : ∃ pl, pl = (chk I).2 := ⟨_, rfl⟩
  rw [← hru, ← hpl] at HCK
  have HRU := hid hru
  clear hbL hru hpl hI
  go_enter Tryz.func10, Tryz.ntmps10
  go_wp2_with fail
  refine HCK.out.mono ?_
  rintro e w1 ⟨rfl, hk1⟩
  have IM1 := hid (IM0.out.keep hk1)
  have K1 := hid (none_trans K0.out hk1)
  clear hk1 c0 c1 c2 c3 c4 c5 c6 c7 c8
  generalize w.alloc (imO I ⟨.slice ma I.nm mc, .slice pa I.np pc, .slice ra I.no rc, .slice ha I.hd.length hc, .slice ta I.pt.length tc⟩) = W0 at *
  generalize w.heap.size = ib at *
  by_cases h0 : ru = 0
  case neg =>
    have f0 : ((ru : Int) != 0) = true := by rw [bne_iff_ne]; omega
    have E := hid (BAD.out (by rw [← HRU.out]; exact h0))
    clear h0
    go_wp2_with fail
    go_ret
    exact ⟨_, rfl, by rw [E.out]; exact GS.nil _ _ _ _ K1.out⟩
  have f0 : ((ru : Int) != 0) = false := by rw [bne_eq_false_iff_eq]; omega
  have hz : (chk I).1 = 0 := by rw [← HRU.out]; exact h0
  have E := hid (GOOD.out hz)
  obtain ⟨r, hS⟩ := sn9_chk hz
  have HS := hid hS
  have HNP := hid hS.np1
  have HBE := hid hS.be
  have HNM := hid hS.nm
  have F0 : bkL I 0 = [] := rfl
  have FS := hid (show ∀ j, bkL I (j + 1) = bkL I j ++ pgB I j from fun j => rfl)
  have FL := hid (show ∀ j, j ≤ I.np → (bkL I j).length ≤ 300000 from fun j hj => by
    have := bkL_len hS j (by omega)
    have := hS.np1
    omega)
  generalize bkL I = f at *
  clear h0 hz hS
  go_wp2_with fail
  go_loopw [5, 6] (fun lv iv W => ∃ a : Nat, a ≤ I.np ∧ iv = .int .i64 (a : Int) ∧ Hid (GB w1 W lv (f a))) (fun _ iv _ => I.np - (intOf iv).toNat)
  case atStart => exact ⟨0, Nat.zero_le _, rfl, hid (by rw [F0]; exact GS.nil _ _ _ _ (Kept.refl _ _))⟩
  case round =>
    obtain ⟨a, ha', rfl, hG⟩ := hrel
    have IMa := hid (IM1.out.keep hG.out.kp)
    obtain ⟨va, vc, hva⟩ := own_val hG.out.own
    obtain ⟨c0, c1, c2, c3, c4, c5, c6, c7, c8⟩ := IMa.out.cells
    dsimp only at c5
    by_cases hlt : a < I.np
    · have hai : (a : Int) < (I.np : Int) := by omega
      obtain ⟨bl, oo, oc, hv, hpi, hpc⟩ := IMa.out.page a hlt
      injection hv with e1 e2 e3
      subst e1
      clear e2 e3
      obtain ⟨d0, d1, d2, d3, d4, d5, d6, d7, d8, d9, d10⟩ := hpc.c
      obtain ⟨kd, od, cc, ll, y1, y2, y3, y4, y5, y6, -⟩ := HS.out.pg a hlt
      have hod8 : od ≤ 8 := by have := HS.out.k8; omega
      have PW := hid (fun W => power9 od (by omega) W)
      have CE := hid (fun W => Cells9 (I.pg a) cc y5 y6 W)
      have HA9 := hid (fun c hc W => Has9 (I.pg a) hpi c hc W)
      have PGE := hid (show pgB I a = if (I.pg a).kd = 2 then [(I.base + a * 4096, 4096 * 2 ^ od)] else if (I.pg a).kd = 4 then ceB I.base a (16 * 2 ^ cc) (wsP (I.pg a)) (celN9 cc) else [] by unfold pgB; rw [y3, y5, Int.toNat_natCast, Int.toNat_natCast])
      have CEL := hid (ceB_len I.base a (16 * 2 ^ cc) (wsP (I.pg a)))
      have CE0 : ceB I.base a (16 * 2 ^ cc) (wsP (I.pg a)) 0 = [] := rfl
      have CES := hid (show ∀ j, ceB I.base a (16 * 2 ^ cc) (wsP (I.pg a)) (j + 1) = if bit (wsP (I.pg a)) j = true then ceB I.base a (16 * 2 ^ cc) (wsP (I.pg a)) j ++ [(I.base + a * 4096 + j * (16 * 2 ^ cc), 16 * 2 ^ cc)] else ceB I.base a (16 * 2 ^ cc) (wsP (I.pg a)) j from fun j => rfl)
      have CA := hid (cel_all cc y6)
      have CB := hid (cel_256 cc y6)
      have FA := hid (FS.out a)
      have FLA := hid (FL.out a ha')
      have HLT := hid hlt
      obtain ⟨P, hP⟩ : ∃ P, P = 2 ^ od := ⟨_, rfl⟩
      have hP1 : P ≤ 512 := by rw [hP]; exact pow_9 od (by omega)
      rw [← hP] at PW PGE
      obtain ⟨m, hm⟩ : ∃ m, m = I.base + a * 4096 := ⟨_, rfl⟩
      rw [← hm] at PGE CES
      have HMB := hid (show m + 4096 ≤ 9223372036854775808 by have := HBE.out; have := HNM.out; omega)
      have HW := hid (show wrap64 ((a : Int) + 1) = ((a + 1 : Nat) : Int) by have := HNP.out; rw [wrap64]; omega)
      obtain ⟨a4, ha4⟩ : ∃ x, x = 4096 * a := ⟨_, rfl⟩
      have t1 : IntKind.u64.wrap (a : Int) = (a : Int) := by have := HNP.out; rw [wrap_u64]; omega
      have t2 : 4096 * (a : Int) = (a4 : Int) := by omega
      have t3 : IntKind.u64.wrap (a4 : Int) = (a4 : Int) := by have := HNP.out; rw [wrap_u64]; omega
      have t4 : (I.base : Int) + (a4 : Int) = (m : Int) := by omega
      have t5 : IntKind.u64.wrap (m : Int) = (m : Int) := by have := HMB.out; rw [wrap_u64]; omega
      generalize ceB I.base a (16 * 2 ^ cc) (wsP (I.pg a)) = cB at *
      generalize pgB I a = pB at *
      generalize bit (wsP (I.pg a)) = B at *
      generalize I.pg a = p at *
      generalize 16 * 2 ^ cc = sz at *
      generalize celN9 cc = cn at *
      have HG := hid hG.out
      subst hva
      clear hpi hpc y1 y2 y4 y5 y6 hm ha4 hP hG hlt ha'
      obtain ⟨pkd, pod, pcl, plv, pnx, ppv, pfs, pb0, pb1, pb2, pb3⟩ := p
      dsimp only at y3 d0 d1 d2 d3 d4 d5 d6 d7 d8 d9 d10 PGE CE HA9
      subst y3
      go_upto_region 9 with fail
      refine gen_world9 (P := fun W => Code.wp Tryz.prog _ _ _ W) _ ?_
      intro W1 hW
      have k1 : Kept none' wr W1 := by subst hW; exact (Kept.refl _ wr).alloc _
      have X1 := hid (show W1.heap[wr.heap.size]? = some (pgO ⟨pkd, od, pcl, plv, pnx, ppv, pfs, pb0, pb1, pb2, pb3⟩) by subst hW; exact heap_new _ _)
      have IM2 := hid (IMa.out.keep k1)
      have G1 := hid (GS.keep HG.out k1)
      generalize wr.heap.size = pb at *
      clear hW k1 c0 c1 c2 c3 c4 c5 c6 c7 c8 d0 d1 d2 d3 d4 d5 d6 d7 d8 d9 d10 IMa HG
      obtain ⟨e0, e1, e2, e3, e4, e5, e6, e7, e8, e9, e10⟩ := pgO_c X1.out
      dsimp only at e0 e1 e2 e3 e4 e5 e6 e7 e8 e9 e10
      obtain ⟨c0, c1, c2, c3, c4, c5, c6, c7, c8⟩ := IM2.out.cells
      by_cases k2 : pkd = 2
      · have q1 : (pkd == 2) = true := by rw [beq_iff_eq]; exact k2
        have q2 : (pkd == 4) = false := by rw [beq_eq_false_iff_ne]; omega
        obtain ⟨z, hz⟩ : ∃ z, z = 4096 * P := ⟨_, rfl⟩
        have FA2 := hid (show f (a + 1) = f a ++ [(m, z)] by rw [FA.out, PGE.out, if_pos k2, hz])
        have u1 : IntKind.u64.wrap (P : Int) = (P : Int) := by rw [wrap_u64]; omega
        have u2 : 4096 * (P : Int) = (z : Int) := by omega
        have u3 : IntKind.u64.wrap (z : Int) = (z : Int) := by rw [wrap_u64]; omega
        clear k2 hz hP1
        go_wp2_with fail
        refine (PW.out _).mono ?_
        rintro e w3 ⟨rfl, rfl⟩
        obtain ⟨gg, cap, w8, HAP, G8, K8⟩ := GB.push G1.out m z (by have := FLA.out; omega)
        have X8 := bk_add (g := 0) G1.out X1.out K8
        obtain ⟨b0, b1, b2, b3, b4, b5, b6, b7, b8, b9, b10⟩ := pgO_c X8
        dsimp only at b0
        have G9 := hid (show GB w1 w8 (.slice (some ⟨gg, 0, none⟩) ((f a).length + 1) cap) (f (a + 1)) by rw [FA2.out]; exact G8)
        replace HAP := hid HAP
        clear G8 K8 X8 b1 b2 b3 b4 b5 b6 b7 b8 b9 b10
        go_wp2_with (at_builtin; refine Lib.wpList_append_run _ rfl _ _ _ _ rfl _ _ rfl rfl _ _ (HAP.out _) ?_)
        exact ⟨⟨a + 1, HLT.out, by first | go_num | rw [HW.out], G9⟩, by have := HLT.out; have := HNP.out; first | (rw [HW.out]; simp only [intOf, Int.toNat_natCast]; omega) | (simp [intOf]; omega)⟩
      · have q1 : (pkd == 2) = false := by rw [beq_eq_false_iff_ne]; exact k2
        by_cases k4 : pkd = 4
        case neg =>
          have q2 : (pkd == 4) = false := by rw [beq_eq_false_iff_ne]; exact k4
          have G9 := hid (show GB w1 W1 (.slice va (f a).length vc) (f (a + 1)) by rw [FA.out, PGE.out, if_neg k2, if_neg k4, List.append_nil]; exact G1.out)
          clear k2 k4 hP1
          go_wp2_with fail
          exact ⟨⟨a + 1, HLT.out, by first | go_num | rw [HW.out], G9⟩, by have := HLT.out; have := HNP.out; first | (rw [HW.out]; simp only [intOf, Int.toNat_natCast]; omega) | (simp [intOf]; omega)⟩
        have q2 : (pkd == 4) = true := by rw [beq_iff_eq]; exact k4
        have FA4 := hid (show f (a + 1) = f a ++ cB cn by rw [FA.out, PGE.out, if_neg k2, if_pos k4])
        clear k2 k4 hP1
        go_wp2_with fail
        refine (CE.out _).mono ?_
        rintro e w3 ⟨rfl, k3⟩
        have X3 := hid ((k3.block _ (heap_lt X1.out) (fun y => y)).trans X1.out)
        have G3 := hid (GS.keep G1.out k3)
        clear k3 e0 e1 e2 e3 e4 e5 e6 e7 e8 e9 e10 c0 c1 c2 c3 c4 c5 c6 c7 c8 t1 t2 t3 t4 t5 q1 q2
        go_wp2_with fail
        go_loopw [5, 10] (fun lv kv W => ∃ j : Nat, j ≤ cn ∧ kv = .int .i64 (j : Int) ∧ Hid (GB w1 W lv (f a ++ cB j) ∧ W.heap[pb]? = some (pgO ⟨pkd, od, pcl, plv, pnx, ppv, pfs, pb0, pb1, pb2, pb3⟩))) (fun _ kv _ => cn - (intOf kv).toNat)
        case atStart => exact ⟨0, Nat.zero_le _, rfl, hid ⟨by rw [CE0, List.append_nil]; exact G3.out, X3.out⟩⟩
        case round =>
          obtain ⟨j, hj, rfl, hJ⟩ := hrel
          obtain ⟨LL, hLL⟩ : ∃ L, L = f a ++ cB j := ⟨_, rfl⟩
          have GJ := hid hJ.out.1
          have XJ := hid hJ.out.2
          have HLE := hid hLL
          rw [← hLL] at GJ
          clear hJ hLL
          obtain ⟨vb, vd, hvb⟩ := own_val GJ.out.own
          subst hvb
          by_cases hjc : j < cn
          · have hji : (j : Int) < (cn : Int) := by omega
            have HJ := hid (show j < cn ∧ j < 256 from ⟨hjc, by have := CB.out.1; omega⟩)
            have HW2 := hid (show wrap64 ((j : Int) + 1) = ((j + 1 : Nat) : Int) by have := HJ.out; rw [wrap64]; omega)
            obtain ⟨b, hb⟩ : ∃ b, b = B j := ⟨_, rfl⟩
            have HAj := hid (fun W => HA9.out j HJ.out.2 W)
            rw [← hb] at HAj
            have HB := hid hb.symm
            obtain ⟨e0, e1, e2, e3, e4, e5, e6, e7, e8, e9, e10⟩ := pgO_c XJ.out
            dsimp only at e0 e1 e2 e3 e4 e5 e6 e7 e8 e9 e10
            clear hb hjc hj
            go_wp2_with fail
            refine (HAj.out _).mono ?_
            rintro e w4 ⟨rfl, k4⟩
            have X4 := hid ((k4.block _ (heap_lt XJ.out) (fun y => y)).trans XJ.out)
            have G4 := hid (GS.keep GJ.out k4)
            clear k4 e0 e1 e2 e3 e4 e5 e6 e7 e8 e9 e10
            cases b with
            | false =>
              have C1 := hid (show f a ++ cB (j + 1) = LL by rw [HLE.out, CES.out, HB.out]; rfl)
              go_wp2_with fail
              exact ⟨⟨j + 1, HJ.out.1, by first | go_num | rw [HW2.out], hid ⟨by rw [C1.out]; exact G4.out, X4.out⟩⟩, by have := HJ.out; first | (rw [HW2.out]; simp only [intOf, Int.toNat_natCast]; omega) | (simp [intOf]; omega)⟩
            | true =>
              obtain ⟨kj, hkj⟩ : ∃ x, x = j * sz := ⟨_, rfl⟩
              have hkb : kj + sz ≤ 4096 := by
                have h1 : (j + 1) * sz ≤ cn * sz := Nat.mul_le_mul_right _ HJ.out.1
                rw [CA.out.1, Nat.add_mul, Nat.one_mul, ← hkj] at h1
                exact h1
              obtain ⟨ad, had⟩ : ∃ x, x = m + kj := ⟨_, rfl⟩
              have C1 := hid (show f a ++ cB (j + 1) = LL ++ [(ad, sz)] by rw [HLE.out, CES.out, HB.out, had, hkj, if_pos rfl, List.append_assoc])
              have LLL := hid (show LL.length ≤ 4000000 by have h1 := CEL.out j; have := FLA.out; have := HJ.out; rw [HLE.out, List.length_append]; omega)
              have hcb1 := CB.out.1
              have hcb2 := CB.out.2
              have hdv : 4096 / cn = sz := by rw [← CA.out.1]; exact Nat.mul_div_cancel_left _ (by omega)
              have hszl := CA.out.2.2
              have s1 : (4096 : Int).tdiv (cn : Int) = (sz : Int) := by rw [← hdv]; rfl
              have s2 : (4096 : Int) / (cn : Int) = (sz : Int) := by rw [← hdv]; simp
              have s3 : IntKind.i64.wrap (sz : Int) = (sz : Int) := by rw [IntKind.wrap_i64]; omega
              have s4 : (sz : Int) * (j : Int) = (kj : Int) := by rw [hkj, Int.natCast_mul, Int.mul_comm]
              have s5 : IntKind.i64.wrap (kj : Int) = (kj : Int) := by rw [IntKind.wrap_i64]; omega
              have s6 : IntKind.u64.wrap (kj : Int) = (kj : Int) := by rw [wrap_u64]; omega
              have s7 : (m : Int) + (kj : Int) = (ad : Int) := by omega
              have s8 : IntKind.u64.wrap (ad : Int) = (ad : Int) := by have := HMB.out; rw [wrap_u64]; omega
              have s9 : IntKind.u64.wrap (sz : Int) = (sz : Int) := by rw [wrap_u64]; omega
              have z1 : ¬ (cn : Int) = 0 := by omega
              have z2 : ¬ (cn : Int) = -1 := by omega
              have z3 : ((cn : Int) == 0) = false := by rw [beq_eq_false_iff_ne]; omega
              have z4 : ¬ cn = 0 := by omega
              have z5 : decide ((cn : Int) = 0) = false := decide_eq_false z1
              have z6 : (cn == 0) = false := by rw [beq_eq_false_iff_ne]; exact z4
              have z7 : decide (cn = 0) = false := decide_eq_false z4
              have G4d := hid (GS.keep G4.out (show Kept none' w4 w4.drew from (Kept.refl none' w4).drew))
              obtain ⟨gg, cap, w8, HAP, G8, K8⟩ := GB.push G4d.out ad sz LLL.out
              have X8 := hid (bk_add (g := 0) G4d.out (show w4.drew.heap[pb]? = _ from X4.out) K8)
              have G9 := hid (show GB w1 w8 (.slice (some ⟨gg, 0, none⟩) (LL.length + 1) cap) (f a ++ cB (j + 1)) by rw [C1.out]; exact G8)
              have HAP := hid (show ∀ t, (Builtin.append_ #[38, 38] t #[.slice vb LL.length vd, .slice (some ⟨w4.heap.size, 0, none⟩) 1 1]).run Tryz.prog (w4.alloc (bkO ad sz)).drew = .ok (.slice (some ⟨gg, 0, none⟩) (LL.length + 1) cap) w8 from HAP)
              clear G8 K8 hkj hkb had hcb1 hcb2 hdv hszl
              go_wp2_with fail
              go_region_held3 (fun w' => True) (trivial) (first
                | (refine step_pushB rfl (.tmp 63) (.tmp 75) rfl rfl rfl HAP.out ?_)
                | fail)
              all_goals
                go_wp2_with fail
                exact ⟨⟨j + 1, HJ.out.1, by first | go_num | rw [HW2.out], hid ⟨G9.out, X8.out⟩⟩, by have := HJ.out; first | (rw [HW2.out]; simp only [intOf, Int.toNat_natCast]; omega) | (simp [intOf]; omega)⟩
          · have hji : ¬ (j : Int) < (cn : Int) := by omega
            have G9 := hid (show GB w1 wr _ (f (a + 1)) from by rw [FA4.out, show cn = j by omega, ← HLE.out]; exact GJ.out)
            clear hjc hj
            go_wp2_with fail
            go_round
            case rel => exact ⟨a + 1, HLT.out, by first | go_num | rw [HW.out], G9⟩
            case measure => have := HLT.out; have := HNP.out; first | (rw [HW.out]; simp only [intOf, Int.toNat_natCast]; omega) | (simp [intOf]; omega)
    · have hai : ¬ (a : Int) < (I.np : Int) := by omega
      have EE := hid (show bL = f a by rw [E.out, show a = I.np by omega])
      have HG := hid hG.out
      subst hva
      clear hlt ha' hG
      go_wp2_with fail
      go_ret
      exact ⟨_, rfl, by rw [EE.out]; exact GS.from9 K1.out HG.out⟩
end Go.Proofs.YthjokkihlodapaaGreat
