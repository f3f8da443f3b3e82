import Derived.Test.YtcgbefmjnhkdgaaVf
set_option maxRecDepth 1000000
set_option maxHeartbeats 80000000
/- WalkKept, the walk. -/
namespace Go.Proofs.Ytcgbefmjnhkdgaa
open Go.RowKit
set_option linter.unusedVariables false
set_option maxHeartbeats 8000000
set_option maxRecDepth 6000
/-- The row a of WalkKept, and what grew of it: blocks of 7, 7. -/
structure KpR (w4 w9 W : World) (va vg : Value) (n m : Nat) : Prop where
  g : GB w4 W vg (List.replicate (n + m) (7, 7))
  a : RBk W va (List.replicate n (7, 7))
  k : Kept (fun y => va.ownBlock = some y) w9 W
  o : ∀ y, vg.ownBlock = some y → va.ownBlock = some y ∨ w9.heap.size ≤ y
theorem KpR.push {w4 w9 W : World} {va vg : Value} {n m : Nat} (h : KpR w4 w9 W va vg n m) (hn : n + m ≤ 4000000) :
    ∃ g cap w', (∀ t, (Builtin.append_ #[34, 34] t #[vg, .slice (some ⟨W.heap.size, 0, none⟩) 1 1]).run Try.prog (W.alloc (bkO 7 7)) = .ok (.slice (some ⟨g, 0, none⟩) (n + m + 1) cap) w') ∧ KpR w4 w9 w' va (.slice (some ⟨g, 0, none⟩) (n + m + 1) cap) n (m + 1) := by
  obtain ⟨i, hi, hzz⟩ := Option.map_eq_some_iff.1 info_blk
  simp only [Prod.mk.injEq] at hzz
  have hlen : (List.replicate (n + m) ((7, 7) : Nat × Nat)).length = n + m := by simp
  have ka := (Kept.refl none' W).alloc (bkO 7 7)
  obtain ⟨g, cap, w', h1, h2, h5⟩ := (GS.keep h.g ka).pushT 34 i (.agg #[.int .u64 0, .int .u64 0]) 16 Try.underlying34 hi hzz.1 hzz.2.1 hzz.2.2 rfl (by decide) ⟨W.heap.size, 0, none⟩ 1 1 (by decide) [.int .u64 ((7 : Nat) : Int), .int .u64 ((7 : Nat) : Int)] rfl (fun j u hj => cells_new (cs := #[.int .u64 ((7 : Nat) : Int), .int .u64 ((7 : Nat) : Int)]) j u hj) (by simp [Value.oneCell']) (by simp only [maxLen]; omega) (by omega)
  rw [hlen] at h1 h2
  have er : List.replicate (n + (m + 1)) ((7, 7) : Nat × Nat) = List.replicate (n + m) (7, 7) ++ [(7, 7)] := by
    rw [show n + (m + 1) = n + m + 1 by omega, List.replicate_succ']
  have hG : GB w4 w' (.slice (some ⟨g, 0, none⟩) (n + m + 1) cap) (List.replicate (n + (m + 1)) (7, 7)) := by
    rw [er]
    show GS _ _ _ _ _ (List.replicate (n + m) ((7, 7) : Nat × Nat) ++ [(7, 7)]).length (blV (List.replicate (n + m) ((7, 7) : Nat × Nat) ++ [(7, 7)]))
    rw [blV_app, List.length_append, hlen]
    exact h2
  have kA : Kept (fun y => va.ownBlock = some y) w9 (W.alloc (bkO 7 7)) := h.k.trans ka (fun _ _ x => x) (fun _ _ x => x.elim)
  have rA := h.a.keep ka
  refine ⟨g, cap, w', h1, hG, ?_, ?_, fun y hy => ?_⟩
  · rcases h5 with ⟨e, hk⟩ | ⟨_, hk⟩
    · by_cases eq : va.ownBlock = some g
      · obtain ⟨oa, oc, hv, hc⟩ := rA
        refine ⟨oa, oc, hv, ?_⟩
        rcases hc with hc | ⟨ga, rfl, hga, _⟩
        · exact .inl hc
        · right
          rw [hv] at eq
          have eg : ga = g := by simpa [Value.ownBlock] using eq
          subst eg
          refine ⟨ga, rfl, Nat.lt_of_lt_of_le hga hk.size, fun j hj => ?_⟩
          rw [List.length_replicate] at hj
          obtain ⟨pa, pc, q1, q2⟩ := hG.rb
          rcases q2 with q2 | ⟨gb, q3, _, q4⟩
          · exfalso
            have := congrArg List.length q2
            simp at this
          · have e1 : some ⟨ga, 0, none⟩ = pa := by
              injection q1
            have eb : ga = gb := by
              rw [q3] at e1
              injection e1 with e1
              injection e1
            subst eb
            have := q4 j (by rw [List.length_replicate]; omega)
            rw [rep_get (by omega)] at this
            rw [rep_get hj]
            exact this
      · exact rA.keepS hk fun b hb e2 => eq (by rw [hb, e2])
    · exact rA.keep hk
  · rcases h5 with ⟨e, hk⟩ | ⟨_, hk⟩
    · refine kA.trans hk (fun _ _ x => x) (fun y hy e2 => ?_)
      rcases h.o g e with o | o
      · rw [e2]; exact o
      · omega
    · exact kA.trans hk (fun _ _ x => x) (fun _ _ x => x.elim)
  · have ey : g = y := by simpa [Value.ownBlock] using hy
    subst ey
    rcases h5 with ⟨e, _⟩ | ⟨e, _⟩
    · exact h.o g e
    · right
      have := kA.size
      omega
theorem walkKept_any (I : Img) (V : ImV) (w : World) (hI : ImD w I V) (hZ : ImZ I) :
    Calls Try.prog 6 #[imA I V] w fun e w' => e = .returned (.bool true) ∧ Kept none' w w' := by
  obtain ⟨⟨ma, mc, hm⟩, ⟨pa, pc, hp⟩, ⟨ra, rc, hr⟩, ⟨ha, hc, hh⟩, ⟨ta, tc, ht⟩, -⟩ := hI.sl
  obtain ⟨vm, vp, vr, vh, vt⟩ := V
  dsimp only at hm hp hr hh ht
  subst hm hp hr hh ht
  have IM0 := hid (show ImAt (w.alloc (imO I _)) w.heap.size I _ from ⟨heap_new _ _, hI.keep ((Kept.refl _ w).alloc _)⟩)
  have K0 := hid (show Kept none' w (w.alloc (imO I _)) from (Kept.refl _ w).alloc (imO I ⟨.slice ma I.nm mc, .slice pa I.np pc, .slice ra I.no rc, .slice ha I.hd.length hc, .slice ta I.pt.length tc⟩))
  have AW := hid (fun W => awake_any W)
  have HZ := hid hZ
  clear hI hZ
  go_enter Try.func6, Try.ntmps6
  go_wp2_with fail
  refine (AW.out _).mono ?_
  rintro e w1 ⟨rfl, k1⟩
  have IM1 := hid (IM0.out.keep k1)
  have K1 := hid (none_trans K0.out k1)
  clear k1 IM0 K0 AW
  generalize w.heap.size = ib at *
  obtain ⟨c0, c1, c2, c3, c4, c5, c6, c7, c8⟩ := IM1.out.cells
  have CP := hid (Copied_any I _ w1 IM1.out.d HZ.out)
  go_wp2_with fail
  refine CP.out.mono ?_
  rintro e w2 ⟨V', xs, rfl, hC, k2⟩
  obtain ⟨bm, bc, -, x2, -⟩ := hC.m
  obtain ⟨pq, px, -, q2, -⟩ := hC.p
  obtain ⟨rq, rx, q3⟩ := own_val hC.r.own
  obtain ⟨hq, hx, -, q4, -⟩ := hC.h
  obtain ⟨tq, tx, -, q5, -⟩ := hC.t
  obtain ⟨v1, v2, v3, v4, v5⟩ := V'
  dsimp only at x2 q2 q3 q4 q5
  subst x2 q2 q3 q4 q5
  have HC := hid hC
  have K2 := hid (none_trans K1.out k2)
  have IM2 := hid (IM1.out.keep k2)
  clear hC k2 K1 IM1 CP c0 c1 c2 c3 c4 c5 c6 c7 c8
  go_upto_region 4 with fail
  refine gen_world (P := fun W => Code.wp Try.prog _ _ _ W) _ ?_
  intro W3 hW3
  have k3 : Kept none' w2 W3 := hW3 ▸ (Kept.refl _ w2).alloc _
  have X3 : W3.heap[w2.heap.size]? = some (imO I ⟨.slice (some ⟨bm, 0, none⟩) I.nm I.nm, .slice (some ⟨pq, 0, none⟩) I.np I.np, .slice rq I.no rx, .slice (some ⟨hq, 0, none⟩) I.hd.length I.hd.length, .slice (some ⟨tq, 0, none⟩) I.pt.length I.pt.length⟩) := hW3 ▸ heap_new _ _
  have IK3 := hid (show ImAt W3 w2.heap.size I _ from ⟨X3, (HC.out.keep k3).d⟩)
  have IM3 := hid (IM2.out.keep k3)
  have K3 := hid (none_trans K2.out k3)
  clear hW3 k3 X3 K2 IM2 HC
  generalize w2.heap.size = kb at *
  obtain ⟨c0, c1, c2, c3, c4, c5, c6, c7, c8⟩ := IK3.out.cells
  have CK := hid (Check_any I _ W3 IK3.out.d)
  obtain ⟨ru, hru⟩ : ∃ ru, ru = (chk I).1 := ⟨_, rfl⟩
  obtain ⟨pl, hpl⟩ : ∃ pl, pl = (chk I).2 := ⟨_, rfl⟩
  rw [← hru, ← hpl] at CK
  have HRP := hid (And.intro hru hpl)
  clear hru hpl
  go_wp2_with fail
  refine CK.out.mono ?_
  rintro e w4 ⟨rfl, k4⟩
  have IK4 := hid (IK3.out.keep k4)
  have IM4 := hid (IM3.out.keep k4)
  have K4 := hid (none_trans K3.out k4)
  clear k4 IK3 IM3 K3 CK c0 c1 c2 c3 c4 c5 c6 c7 c8
  obtain ⟨c0, c1, c2, c3, c4, c5, c6, c7, c8⟩ := IK4.out.cells
  have BL := hid (Blocks_any I _ w4 IK4.out.d)
  go_wp2_with fail
  refine BL.out.mono ?_
  rintro e w5 ⟨av, rfl, hA⟩
  have GA := hid hA
  have hlen : (blks I).length ≤ 3000000 := by
    unfold blks
    split
    · rename_i h0
      obtain ⟨r, hS⟩ := sn9_chk h0
      have := bkL_len hS I.np (Nat.le_refl _)
      have := hS.np1
      omega
    · simp
  obtain ⟨va, vc, hva, -⟩ := hA.rb
  obtain ⟨n, hn⟩ : ∃ n, n = (blks I).length := ⟨_, rfl⟩
  rw [← hn] at hva hlen
  have HN := hid hn
  have HLEN := hid hlen
  have IK5 := hid (IK4.out.keep hA.kp)
  have IM5 := hid (IM4.out.keep hA.kp)
  subst hva
  have AN := hid (show ∀ y, (Value.slice va n vc).ownBlock = some y → w4.heap.size ≤ y ∧ y < w5.heap.size from fun y hy => by
    obtain ⟨cs, hcs⟩ := gb_ty hA hy
    refine ⟨?_, heap_lt hcs⟩
    rcases hA.own.2 with ⟨e, _⟩ | ⟨g, cap, cur, e, _, _, _⟩
    · rw [e] at hy; cases hy
    · rw [e] at hy
      have eg : g = y := by simpa [Value.ownBlock] using hy
      rw [← eg]
      exact hA.new g cap e)
  clear hA hn hlen BL IM4 c0 c1 c2 c3 c4 c5 c6 c7 c8
  obtain ⟨c0, c1, c2, c3, c4, c5, c6, c7, c8⟩ := IK5.out.cells
  have BL := hid (Blocks_any I _ w5 IK5.out.d)
  go_wp2_with fail
  refine BL.out.mono ?_
  rintro e w6 ⟨bv, rfl, hB⟩
  have RB6 := hid hB.rb
  obtain ⟨vb, vd, hvb, -⟩ := hB.rb
  rw [← HN.out] at hvb
  subst hvb
  have BN := hid (show ∀ y, (Value.slice vb n vd).ownBlock = some y → w5.heap.size ≤ y from fun y hy => by
    rcases hB.own.2 with ⟨e, _⟩ | ⟨g, cap, cur, e, _, _, _⟩
    · rw [e] at hy; cases hy
    · rw [e] at hy
      have eg : g = y := by simpa [Value.ownBlock] using hy
      rw [← eg]
      exact hB.new g cap e)
  have IK6 := hid (IK5.out.keep hB.kp)
  have IM6 := hid (IM5.out.keep hB.kp)
  have K56 := hid hB.kp
  have RA6 := hid (GA.out.rb.keep hB.kp)
  have AL := hid (Alike_yes I _ _ w6 IK6.out.d IM6.out.d fun i hi => by have := HZ.out.u i hi; omega)
  clear hB BL IK5 IM5 c0 c1 c2 c3 c4 c5 c6 c7 c8
  obtain ⟨c0, c1, c2, c3, c4, c5, c6, c7, c8⟩ := IK6.out.cells
  obtain ⟨d0, d1, d2, d3, d4, d5, d6, d7, d8⟩ := IM6.out.cells
  go_wp2_with fail
  refine AL.out.mono ?_
  rintro e w7 ⟨rfl, k7⟩
  have SM := hid (Same9_yes (.slice va n vc) (.slice vb n vd) (blks I) w7 (by have := HLEN.out; have := HN.out; omega) (RA6.out.keep k7) (RB6.out.keep k7))
  have IM7 := hid (IM6.out.keep k7)
  have K67 := hid k7
  clear k7 AL IM6 RA6 c0 c1 c2 c3 c4 c5 c6 c7 c8 d0 d1 d2 d3 d4 d5 d6 d7 d8
  obtain ⟨d0, d1, d2, d3, d4, d5, d6, d7, d8⟩ := IM7.out.cells
  go_wp2_with fail
  refine SM.out.mono ?_
  rintro e w8 ⟨rfl, k8⟩
  have IM8 := hid (IM7.out.keep k8)
  have K68 := hid (none_trans K67.out k8)
  have IS := hid (is_any I _ (ru : Int) (pl : Int) w8 IM8.out.d true (by rw [HRP.out.1, HRP.out.2]; simp))
  clear k8 SM IM7 K67 d0 d1 d2 d3 d4 d5 d6 d7 d8
  obtain ⟨d0, d1, d2, d3, d4, d5, d6, d7, d8⟩ := IM8.out.cells
  go_wp2_with fail
  refine IS.out.mono ?_
  rintro e w8b ⟨rfl, k8b⟩
  have IM8b := hid (IM8.out.keep k8b)
  have K68b := hid (none_trans K68.out k8b)
  have BL := hid (Blocks_any I _ w8b IM8b.out.d)
  clear k8b IM8 K68 IS d0 d1 d2 d3 d4 d5 d6 d7 d8
  obtain ⟨d0, d1, d2, d3, d4, d5, d6, d7, d8⟩ := IM8b.out.cells
  go_wp2_with fail
  refine BL.out.mono ?_
  rintro e w9 ⟨cv, rfl, hD⟩
  have RC9 := hid hD.rb
  obtain ⟨vx, vy, hvx, -⟩ := hD.rb
  rw [← HN.out] at hvx
  subst hvx
  have K69 := hid (none_trans K68b.out hD.kp)
  have K59 := hid (none_trans K56.out K69.out)
  have CN := hid (show ∀ y, (Value.slice vx n vy).ownBlock = some y → w8b.heap.size ≤ y from fun y hy => by
    rcases hD.own.2 with ⟨e, _⟩ | ⟨g, cap, cur, e, _, _, _⟩
    · rw [e] at hy; cases hy
    · rw [e] at hy
      have eg : g = y := by simpa [Value.ownBlock] using hy
      rw [← eg]
      exact hD.new g cap e)
  have K58 := hid (none_trans K56.out K68b.out)
  have G9 := hid (GS.keep GA.out K59.out)
  clear hD BL IM8b d0 d1 d2 d3 d4 d5 d6 d7 d8
  go_wp2_with fail
  go_loopw [9] (fun iv W => ∃ j : Nat, j ≤ n ∧ iv = .int .i64 j ∧ Hid (GB w4 W (.slice va n vc) (List.replicate j (7, 7) ++ (blks I).drop j) ∧ Kept (fun y => (Value.slice va n vc).ownBlock = some y) w9 W)) (fun iv _ => n - (intOf iv).toNat)
  case atStart => exact ⟨0, Nat.zero_le _, rfl, hid ⟨by simpa using G9.out, Kept.refl _ _⟩⟩
  case round =>
    obtain ⟨j, hj, rfl, hG⟩ := hrel
    by_cases hlt : j < n
    · have hji : (j : Int) < (n : Int) := by omega
      have hll : (List.replicate j ((7, 7) : Nat × Nat) ++ (blks I).drop j).length = n := by have := HN.out; simp; omega
      obtain ⟨oa, oc, q1, q2⟩ := hG.out.1.rb
      obtain ⟨g, rfl, hcell, hfz⟩ : ∃ g, va = some ⟨g, 0, none⟩ ∧ (∃ x y, wr.cell? ⟨g, j * 2, none⟩ = some (.int .u64 x) ∧ wr.cell? ⟨g, j * 2 + 1, none⟩ = some (.int .u64 y)) ∧ ∀ i, wr.frozen? ⟨g, i, none⟩ = false := by
        rw [hll] at q1
        cases q1
        rcases q2 with q2 | ⟨g, rfl, hg, hc'⟩
        · rw [q2] at hll; simp at hll; omega
        · refine ⟨g, rfl, ⟨_, _, hc' j (by rw [hll]; exact hlt)⟩, fun i => ?_⟩
          obtain ⟨cs, hcs⟩ := gb_ty hG.out.1 (x := g) rfl
          simp [World.frozen?, hcs]
      clear q1 q2
      obtain ⟨x, y, t0, t1⟩ := hcell
      have z0 := hfz (j * 2)
      have z1 := hfz (j * 2 + 1)
      have P1 := hid (hG.out.1.put (j := j) (by rw [hll]; exact hlt) 7 7)
      rw [set_rep (by rw [← HN.out]; exact hlt)] at P1
      have P2 := hid (show Kept (fun y => (Value.slice (some ⟨g, 0, none⟩) n vc).ownBlock = some y) w9 ((wr.setCell ⟨g, j * 2, none⟩ (.int .u64 ((7 : Nat) : Int))).setCell ⟨g, j * 2 + 1, none⟩ (.int .u64 ((7 : Nat) : Int))) from (hG.out.2.setCell (p := ⟨g, j * 2, none⟩) rfl _).setCell (p := ⟨g, j * 2 + 1, none⟩) rfl _)
      have HLT := hid hlt
      clear hG hlt hj hfz hll
      go_wp2_with fail
      have hw : wrap64 ((j : Int) + 1) = ((j + 1 : Nat) : Int) := by have := HLEN.out; have := HLT.out; rw [wrap64]; omega
      rw [hw]
      exact ⟨⟨j + 1, by have := HLT.out; omega, rfl, hid ⟨P1.out, P2.out⟩⟩, by have := HLT.out; simp only [intOf, Int.toNat_natCast]; omega⟩
    · have hji : ¬ (j : Int) < (n : Int) := by omega
      have ejn : n = j := by omega
      subst ejn
      have KR := hid (show KpR w4 w9 wr (.slice va n vc) (.slice va n vc) n 0 from by
        have e1 : (List.replicate n ((7, 7) : Nat × Nat) ++ (blks I).drop n) = List.replicate n (7, 7) := by
          rw [List.drop_eq_nil_of_le (by have := HN.out; omega), List.append_nil]
        have hGo := hG.out
        rw [e1] at hGo
        exact ⟨hGo.1, hGo.1.rb, hGo.2, fun y hy => .inl hy⟩)
      clear hG hj
      go_wp2_with fail
      go_loopw [10, 11] (fun gv iv W => ∃ m : Nat, m ≤ 6 ∧ iv = .int .i64 m ∧ Hid (KpR w4 w9 W (.slice va n vc) gv n m)) (fun _ iv _ => 6 - (intOf iv).toNat)
      case atStart => exact ⟨0, Nat.zero_le _, rfl, KR⟩
      case round =>
        obtain ⟨m, hm6, rfl, hG⟩ := hrel
        obtain ⟨ga, gc, hgv⟩ : ∃ ga gc, _ = Value.slice ga (n + m) gc := by
          obtain ⟨oa, oc, q1, -⟩ := hG.out.g.rb
          rw [List.length_replicate] at q1
          exact ⟨oa, oc, q1⟩
        subst hgv
        by_cases hlt : m < 6
        · have hmi : (m : Int) < 6 := by omega
          obtain ⟨gg, cap, w', HAP, G8⟩ := hG.out.push (by have := HLEN.out; omega)
          have HAP := hid HAP
          have G8 := hid G8
          have HLT := hid hlt
          clear hG hlt hm6
          go_wp2_with (at_builtin; refine Lib.wpList_append_run _ rfl _ _ _ _ rfl _ _ rfl rfl _ _ (HAP.out _) ?_)
          have hw : wrap64 ((m : Int) + 1) = ((m + 1 : Nat) : Int) := by have := HLT.out; rw [wrap64]; omega
          go_round
          case rel => exact ⟨m + 1, by have := HLT.out; omega, by first | rw [hw] | simp, G8⟩
          case measure => have := HLT.out; simp [intOf]; omega
        · have hmi : ¬ (m : Int) < 6 := by omega
          have KX := hid hG.out
          clear hG hm6 hlt
          have K9W : Kept (fun y => (Value.slice va n vc).ownBlock = some y) w9 wr := KX.out.k
          have K4W := hid (show Kept none' w4 wr from (none_trans GA.out.kp K59.out).trans K9W (fun _ _ x => x) (fun y hy e => by have := AN.out y e; omega))
          have RBW := hid (show RBk wr (.slice vb n vd) (blks I) from (RB6.out.keep K69.out).keepS K9W fun y hy e => by have := AN.out y e; have := BN.out y hy; omega)
          have RCW := hid (show RBk wr (.slice vx n vy) (blks I) from RC9.out.keepS K9W fun y hy e => by have := AN.out y e; have := CN.out y hy; have := K58.out.size; omega)
          have IKW := hid (IK4.out.keep K4W.out)
          have RG := hid KX.out.g.rb
          have RA := hid KX.out.a
          clear K9W KX
          go_wp2_with fail
          obtain ⟨wq, hwq⟩ : ∃ W, W = wr := ⟨_, rfl⟩
          rw [← hwq] at K4W RBW RCW IKW RG RA ⊢
          clear hwq
          go_loopw [12] (fun iv W => ∃ b : Nat, b ≤ n ∧ iv = .int .i64 b ∧ Hid (Kept none' wq W)) (fun iv _ => n - (intOf iv).toNat)
          case atStart => exact ⟨0, Nat.zero_le _, rfl, hid (Kept.refl _ _)⟩
          case round =>
            obtain ⟨b, hb, rfl, hK⟩ := hrel
            by_cases hlt : b < n
            · have hbi : (b : Int) < (n : Int) := by omega
              have hbi2 : (b : Int) < (n : Int) + (m : Int) := by omega
              obtain ⟨g1, rfl, s0, s1⟩ : ∃ g, ga = some ⟨g, 0, none⟩ ∧ wr.cell? ⟨g, b * 2, none⟩ = some (.int .u64 ((7 : Nat) : Int)) ∧ wr.cell? ⟨g, b * 2 + 1, none⟩ = some (.int .u64 ((7 : Nat) : Int)) := by
                obtain ⟨oa, oc, q1, q2⟩ := RG.out
                have e1 : ga = oa := by injection q1
                rcases q2 with q2 | ⟨g, rfl, hg, hc'⟩
                · exfalso
                  have := congrArg List.length q2
                  simp at this
                  omega
                · have := hc' b (by rw [List.length_replicate]; omega)
                  rw [rep_get (by omega)] at this
                  exact ⟨g, e1, hK.out.cell (fun x => x) this.1, hK.out.cell (fun x => x) this.2⟩
              obtain ⟨g2, rfl, r0, r1⟩ : ∃ g, va = some ⟨g, 0, none⟩ ∧ wr.cell? ⟨g, b * 2, none⟩ = some (.int .u64 ((7 : Nat) : Int)) ∧ wr.cell? ⟨g, b * 2 + 1, none⟩ = some (.int .u64 ((7 : Nat) : Int)) := by
                obtain ⟨oa, oc, q1, q2⟩ := RA.out
                have e1 : va = oa := by injection q1
                rcases q2 with q2 | ⟨g, rfl, hg, hc'⟩
                · exfalso
                  have := congrArg List.length q2
                  simp at this
                  omega
                · have := hc' b (by rw [List.length_replicate]; omega)
                  rw [rep_get (by omega)] at this
                  exact ⟨g, e1, hK.out.cell (fun x => x) this.1, hK.out.cell (fun x => x) this.2⟩
              have HLT := hid hlt
              clear hlt hb
              go_wp2_with fail
              go_quiet (fail)
              go_wp2_with fail
              have hw : wrap64 ((b : Int) + 1) = ((b + 1 : Nat) : Int) := by have := HLEN.out; have := HLT.out; rw [wrap64]; omega
              rw [hw]
              exact ⟨⟨b + 1, by have := HLT.out; omega, rfl, hid (none_trans hK.out (drewN_kept wr nq))⟩, by have := HLT.out; simp only [intOf, Int.toNat_natCast]; omega⟩
            · have hbi : ¬ (b : Int) < (n : Int) := by omega
              have S1 := hid (Same9_yes (.slice vb n vd) (.slice vx n vy) (blks I) wr (by have := HLEN.out; have := HN.out; omega) (RBW.out.keep hK.out) (RCW.out.keep hK.out))
              have KE := hid hK.out
              clear hK hb hlt
              go_wp2_with fail
              refine S1.out.mono ?_
              rintro e wA ⟨rfl, kA⟩
              have KA := hid (none_trans KE.out kA)
              have IKA := hid (IKW.out.keep KA.out)
              have BL := hid (Blocks_any I _ wA IKA.out.d)
              obtain ⟨c0, c1, c2, c3, c4, c5, c6, c7, c8⟩ := IKA.out.cells
              clear kA S1 KE
              go_wp2_with fail
              refine BL.out.mono ?_
              rintro e wB ⟨ev, rfl, hE⟩
              have RE := hid hE.rb
              have KB := hid (none_trans KA.out hE.kp)
              have S2 := hid (Same9_yes ev (.slice vx n vy) (blks I) wB (by have := HLEN.out; have := HN.out; omega) RE.out (RCW.out.keep KB.out))
              clear hE BL c0 c1 c2 c3 c4 c5 c6 c7 c8
              go_wp2_with fail
              refine S2.out.mono ?_
              rintro e wC ⟨rfl, kC⟩
              go_wp2_with fail
              go_ret
              exact ⟨rfl, none_trans K4.out (none_trans K4W.out (none_trans KB.out kC))⟩
end Go.Proofs.Ytcgbefmjnhkdgaa
