import Derived.Test.YtcgbefmjnhkdgaaVc
set_option maxRecDepth 1000000
set_option maxHeartbeats 80000000
/- WalkBytes, the walk. -/
namespace Go.Proofs.Ytcgbefmjnhkdgaa
open Go.RowKit
set_option linter.unusedVariables false
set_option maxHeartbeats 8000000
set_option maxRecDepth 6000
theorem walkBytes_any (I : Img) (V : ImV) (off v : Nat) (hoff : off < 18446744073709551616) (hv : v < 256) (w : World) (hI : ImD w I V) :
    Calls Try.prog 4 #[imA I V, .int .u64 (off : Int), .int .u8 (v : Int)] w fun e w' => e = .returned (.bool true) ∧ Kept none' w w' := by
  obtain ⟨⟨ma, mc, hm⟩, ⟨pa, pc, hp⟩, ⟨ra, rc, hr⟩, ⟨ha, hc, hh⟩, ⟨ta, tc, ht⟩, -⟩ := hI.sl
  obtain ⟨vm, vp, vr, vh, vt⟩ := V
  dsimp only at hm hp hr hh ht
  subst hm hp hr hh ht
  have IM0 := hid (show ImAt (w.alloc (imO I _)) w.heap.size I _ from ⟨heap_new _ _, hI.keep ((Kept.refl _ w).alloc _)⟩)
  have K0 := hid (show Kept none' w (w.alloc (imO I _)) from (Kept.refl _ w).alloc (imO I ⟨.slice ma I.nm mc, .slice pa I.np pc, .slice ra I.no rc, .slice ha I.hd.length hc, .slice ta I.pt.length tc⟩))
  have AW := hid (fun W => awake_any W)
  have HV := hid hv
  clear hI hv
  go_enter Try.func4, Try.ntmps4
  go_wp2_with fail
  refine (AW.out _).mono ?_
  rintro e w1 ⟨rfl, k1⟩
  have IM1 := hid (IM0.out.keep k1)
  have K1 := hid (none_trans K0.out k1)
  clear k1 IM0 K0 AW
  generalize w.heap.size = ib at *
  obtain ⟨c0, c1, c2, c3, c4, c5, c6, c7, c8⟩ := IM1.out.cells
  have CK := hid (Check_any I _ w1 IM1.out.d)
  obtain ⟨ru, hru⟩ : ∃ ru, ru = (chk I).1 := ⟨_, rfl⟩
  obtain ⟨pl, hpl⟩ : ∃ pl, pl = (chk I).2 := ⟨_, rfl⟩
  rw [← hru, ← hpl] at CK
  have HRU := hid hru
  have HPL := hid hpl
  clear hru hpl
  go_wp2_with fail
  refine CK.out.mono ?_
  rintro e w2 ⟨rfl, k2⟩
  have IM2 := hid (IM1.out.keep k2)
  have K2 := hid (none_trans K1.out k2)
  clear k2 IM1 K1 CK c0 c1 c2 c3 c4 c5 c6 c7 c8
  obtain ⟨c0, c1, c2, c3, c4, c5, c6, c7, c8⟩ := IM2.out.cells
  have BL := hid (Blocks_any I _ w2 IM2.out.d)
  go_wp2_with fail
  refine BL.out.mono ?_
  rintro e w3 ⟨lv, rfl, hB⟩
  have IM3 := hid (IM2.out.keep hB.kp)
  have K3 := hid (none_trans K2.out hB.kp)
  have HRB := hid hB.rb
  obtain ⟨va, vc, hva, -⟩ := hB.rb
  have hlen : (blks I).length ≤ 9223372036854775807 := by
    rcases hB.own.2 with ⟨_, h0⟩ | ⟨g, cap, cur, _, _, _, h1, h2, _⟩
    · omega
    · unfold maxLen at h2
      omega
  clear hB IM2 K2 BL c0 c1 c2 c3 c4 c5 c6 c7 c8
  obtain ⟨n, hn⟩ : ∃ n, n = (blks I).length := ⟨_, rfl⟩
  rw [← hn] at hva hlen
  have HN := hid hn
  have HLEN := hid hlen
  clear hlen hn
  subst hva
  by_cases h0 : ru = 0
  case neg =>
    have f0 : ((ru : Int) != 0) = true := by rw [bne_iff_ne]; omega
    have n0 : 0 = n := by
      rw [HN.out]
      unfold blks
      rw [if_neg (by rw [← HRU.out]; exact h0)]
      rfl
    clear h0
    subst n0
    go_wp2_with fail
    go_ret
    exact ⟨rfl, K3.out⟩
  have f0 : ((ru : Int) != 0) = false := by rw [bne_eq_false_iff_eq]; omega
  have HZ0 := hid (show (chk I).1 = 0 by rw [← HRU.out]; exact h0)
  have p0 : pl = 0 := by
    rw [HPL.out, chk_ok fun a ha => chk_zero HZ0.out a ha]
  subst p0
  obtain ⟨r, hS⟩ := sn9_chk HZ0.out
  have HS := hid hS
  obtain ⟨nm, hnm⟩ : ∃ nm, nm = I.nm := ⟨_, rfl⟩
  obtain ⟨base, hbase⟩ : ∃ b, b = I.base := ⟨_, rfl⟩
  obtain ⟨c0, c1, c2, c3, c4, c5, c6, c7, c8⟩ := IM3.out.cells
  dsimp only at c4 c5
  rw [← hnm] at c4
  rw [← hbase] at c0
  have NM := hid hnm
  have BS := hid hbase
  have nm1 : nm ≤ 4194304 := by have := hS.nm; have := hS.np1; omega
  have be : base + nm ≤ 9223372036854775808 := by have := hS.be; omega
  clear h0 hS hnm hbase c1 c2 c3 c6 c7 c8
  by_cases hz : nm = 0
  · have n0 : 0 = n := by
      rw [HN.out]
      unfold blks
      rw [if_pos HZ0.out, show I.np = 0 by have := HS.out.nm; have := NM.out; omega]
      rfl
    subst hz n0
    go_wp2_with fail
    go_ret
    exact ⟨rfl, K3.out⟩
  have e1 : ((nm : Int) == 0) = false := by rw [beq_eq_false_iff_ne]; omega
  have e2 : ¬ (nm : Int) = 0 := by omega
  obtain ⟨a, hat⟩ : ∃ a, a = off % nm := ⟨_, rfl⟩
  have hal : a < nm := by rw [hat]; exact Nat.mod_lt _ (by omega)
  have g1 : (off : Int) % (nm : Int) = (a : Int) := by rw [hat]; rfl
  have g2 : (off : Int).tmod (nm : Int) = (a : Int) := by rw [Int.tmod_eq_emod_of_nonneg (by omega)]; exact g1
  have g3 : IntKind.u64.wrap (nm : Int) = (nm : Int) := by rw [wrap_u64]; omega
  obtain ⟨p, hp⟩ : ∃ p, p = base + a := ⟨_, rfl⟩
  have g4 : (base : Int) + (a : Int) = (p : Int) := by omega
  have g5 : (p : Int) < 18446744073709551616 := by omega
  have HP := hid hp
  have HAL := hid hal
  have NM1 := hid nm1
  have BE := hid be
  clear hz hat hp nm1 be hal
  go_upto_region 12 with fail
  obtain ⟨P, hP⟩ : ∃ P : Nat → Nat, P = fun j => ((blks I).getD j (0, 0)).1 := ⟨_, rfl⟩
  obtain ⟨S, hS'⟩ : ∃ S : Nat → Nat, S = fun j => ((blks I).getD j (0, 0)).2 := ⟨_, rfl⟩
  have RW := hid (show ∀ W, Kept none' w3 W → ∀ j, j < n → ∃ g, va = some ⟨g, 0, none⟩ ∧ W.cell? ⟨g, j * 2, none⟩ = some (.int .u64 (P j : Int)) ∧ W.cell? ⟨g, j * 2 + 1, none⟩ = some (.int .u64 (S j : Int)) from fun W hW j hj => by
    obtain ⟨oa, oc, q1, q2⟩ := HRB.out
    have hn := HN.out
    subst hn
    cases q1
    rcases q2 with q2 | ⟨g, rfl, hg, hc⟩
    · rw [q2] at hj; simp at hj
    · subst hP hS'
      exact ⟨g, rfl, hW.cell (fun x => x) (hc j (by omega)).1, hW.cell (fun x => x) (hc j (by omega)).2⟩)
  have HM := hid (show ∀ j, j < n → P j ≤ p → p - P j < S j → Hm I a from fun j hj h1 h2 => by
    have hj' : j < (blks I).length := by have := HN.out; omega
    have hx : (blks I).getD j (0, 0) ∈ blks I := by
      have : (blks I).getD j (0, 0) = (blks I)[j] := by simp [List.getD, hj']
      rw [this]
      exact List.getElem_mem hj'
    rw [HP.out, BS.out] at h1 h2
    subst hP hS'
    exact Hm.blk hx h1 h2)
  clear hP hS' c0 c4 c5 g1 g2 g3 g4 e1 e2 f0
  go_wp2_with fail
  go_loopw [12, 13] (fun bv iv W => ∃ (j : Nat) (bd : Bool), j ≤ n ∧ iv = .int .i64 j ∧ bv = .bool bd ∧ Hid (Kept none' w3 W ∧ (bd = false → Hm I a))) (fun _ iv _ => n - (intOf iv).toNat)
  case atStart => exact ⟨0, true, Nat.zero_le _, rfl, rfl, hid ⟨Kept.refl _ _, fun h => by cases h⟩⟩
  case round =>
    obtain ⟨j, bd, hj, rfl, rfl, hG⟩ := hrel
    by_cases hlt : j < n
    · have hji : (j : Int) < (n : Int) := by omega
      obtain ⟨g, rfl, r0, r1⟩ := RW.out wr hG.out.1 j hlt
      have HMJ := hid (HM.out j hlt)
      have HLT := hid hlt
      obtain ⟨q, hq⟩ : ∃ q, q = P j := ⟨_, rfl⟩
      obtain ⟨z, hz⟩ : ∃ z, z = S j := ⟨_, rfl⟩
      rw [← hq] at r0 HMJ
      rw [← hz] at r1 HMJ
      clear hlt hj hq hz
      by_cases h1 : q ≤ p
      · have s1 : decide ((q : Int) ≤ (p : Int)) = true := decide_eq_true (by omega)
        have s1n : decide (q ≤ p) = true := decide_eq_true h1
        have s2 : 0 ≤ (p : Int) - (q : Int) := by omega
        by_cases h2 : p - q < z
        · have s3 : decide ((p : Int) - (q : Int) < (z : Int)) = true := decide_eq_true (by omega)
          have HM2 := hid (HMJ.out h1 h2)
          clear h1 h2 HMJ
          go_wp2_with fail
          go_quiet (fail)
          go_wp2_with fail
          have hw : wrap64 ((j : Int) + 1) = ((j + 1 : Nat) : Int) := by have := HLEN.out; have := HLT.out; rw [wrap64]; omega
          rw [hw]
          exact ⟨⟨j + 1, false, by have := HLT.out; omega, rfl, rfl, hid ⟨none_trans hG.out.1 (drewN_kept wr nq), fun _ => HM2.out⟩⟩, by have := HLT.out; simp only [intOf, Int.toNat_natCast]; omega⟩
        · have s3 : decide ((p : Int) - (q : Int) < (z : Int)) = false := decide_eq_false (by omega)
          clear h1 h2 HMJ
          go_wp2_with fail
          go_quiet (fail)
          go_wp2_with fail
          have hw : wrap64 ((j : Int) + 1) = ((j + 1 : Nat) : Int) := by have := HLEN.out; have := HLT.out; rw [wrap64]; omega
          rw [hw]
          exact ⟨⟨j + 1, bd, by have := HLT.out; omega, rfl, rfl, hid ⟨none_trans hG.out.1 (drewN_kept wr nq), hG.out.2⟩⟩, by have := HLT.out; simp only [intOf, Int.toNat_natCast]; omega⟩
      · have s1 : decide ((q : Int) ≤ (p : Int)) = false := decide_eq_false (by omega)
        have s1n : decide (q ≤ p) = false := decide_eq_false h1
        clear h1 HMJ
        go_wp2_with fail
        go_quiet (fail)
        go_wp2_with fail
        have hw : wrap64 ((j : Int) + 1) = ((j + 1 : Nat) : Int) := by have := HLEN.out; have := HLT.out; rw [wrap64]; omega
        rw [hw]
        exact ⟨⟨j + 1, bd, by have := HLT.out; omega, rfl, rfl, hid ⟨none_trans hG.out.1 (drewN_kept wr nq), hG.out.2⟩⟩, by have := HLT.out; simp only [intOf, Int.toNat_natCast]; omega⟩
    · have hji : ¬ (j : Int) < (n : Int) := by omega
      have K4 := hid hG.out.1
      have BD := hid hG.out.2
      have IM4 := hid (IM3.out.keep hG.out.1)
      obtain ⟨c0, c1, c2, c3, c4, c5, c6, c7, c8⟩ := IM4.out.cells
      dsimp only at c5
      have hgp : a / 4096 < I.np := by have := HS.out.nm; have := NM.out; have := HAL.out; omega
      obtain ⟨bl, o, oc, hv', hpi, hpc⟩ := IM4.out.page (a / 4096) hgp
      cases hv'
      obtain ⟨kd, od, c, ll, y1, y2, y3, y4, y5, y6, -⟩ := HS.out.pg (a / 4096) hgp
      obtain ⟨g, hg⟩ : ∃ g, g = a / 4096 := ⟨_, rfl⟩
      have HGE := hid hg
      rw [← hg] at hpc y1 y5 hgp
      have hgi : (a : Int) / 4096 = (g : Int) := by omega
      have hgn : (g : Int) < (I.np : Int) := by omega
      have hgw : IntKind.u64.wrap (g : Int) = (g : Int) := by have := HS.out.np1; rw [wrap_u64]; omega
      obtain ⟨d0, d1, d2, d3, d4, d5, d6, d7, d8, d9, d10⟩ := hpc.c
      obtain ⟨pp, hpp⟩ : ∃ pp, pp = I.pg g := ⟨_, rfl⟩
      rw [← hpp] at d0 d1 d2 d3 d4 d5 d6 d7 d8 d9 d10 y1 y5
      have HPP := hid hpp
      have hjn : n = j := by omega
      subst hjn
      have Y5 := hid (show I.pg g = pp ∧ pp.cl = (c : Int) ∧ c ≤ 7 from ⟨hpp.symm, y5, y6⟩)
      clear hpi hpc hg hpp hG y1 y2 y3 y4 y5 c0 c1 c2 c3 c4 c6 c7 c8 hgp hj g5
      go_upto_region 18 with fail
      obtain ⟨hpg, hcl, hc7⟩ := Y5.out
      obtain ⟨pkd, pod, pcl, plv, pnx, ppv, pfs, pb0, pb1, pb2, pb3⟩ := pp
      dsimp only at hcl
      subst hcl
      refine gen_world (P := fun W => Code.wp Try.prog _ _ _ W) _ ?_
      intro W5 hW5
      have k5 : Kept none' wr W5 := hW5 ▸ (Kept.refl _ wr).alloc _
      have X5 : W5.heap[wr.heap.size]? = some (pgO ⟨pkd, pod, (c : Int), plv, pnx, ppv, pfs, pb0, pb1, pb2, pb3⟩) := hW5 ▸ heap_new _ _
      have K5 := hid (none_trans K4.out k5)
      have IM5 := hid (IM4.out.keep k5)
      have r0 : W5.cell? ⟨wr.heap.size, 0, none⟩ = some (.int .i64 pkd) := by simp [World.cell?, X5]
      have r2 : W5.cell? ⟨wr.heap.size, 2, none⟩ = some (.int .i64 (c : Int)) := by simp [World.cell?, X5]
      obtain ⟨m4, hm4⟩ : ∃ m, m = a % 4096 := ⟨_, rfl⟩
      have hm4i : (a : Int) % 4096 = (m4 : Int) := by omega
      obtain ⟨sz, hsz⟩ : ∃ z, z = 16 * 2 ^ c := ⟨_, rfl⟩
      have hs16 := (cel_all c hc7).2.1
      have hs20 := (cel_all c hc7).2.2
      rw [← hsz] at hs16 hs20
      have hsh : IntKind.u64.wrap ((16 : Int) * 2 ^ c) = (sz : Int) := by
        have e : ((2 : Int) ^ c) = ((2 ^ c : Nat) : Int) := by simp
        rw [wrap_u64, e]
        omega
      have hsh2 : IntKind.u64.wrap ((16 : Int) * 2 ^ (min c 64)) = (sz : Int) := by rw [Nat.min_eq_left (by omega)]; exact hsh
      have hsz0 : ¬ (sz : Int) = 0 := by omega
      have hsz1 : ((sz : Int) == 0) = false := by rw [beq_eq_false_iff_ne]; omega
      obtain ⟨mz, hmz⟩ : ∃ m, m = a % sz := ⟨_, rfl⟩
      have hmzi : (a : Int) % (sz : Int) = (mz : Int) := by rw [hmz]; rfl
      have hmzt : (a : Int).tmod (sz : Int) = (mz : Int) := by rw [Int.tmod_eq_emod_of_nonneg (by omega)]; exact hmzi
      have HK1 := hid (show pkd = 1 → Hm I a from fun e => .inr (.inl (by rw [← HGE.out, hpg]; exact e)))
      have HK0 := hid (show pkd = 0 → 16 ≤ m4 → Hm I a from fun e h => .inr (.inr (.inl ⟨by rw [← HGE.out, hpg]; exact e, by rw [← hm4]; exact h⟩)))
      have HK4 := hid (show pkd = 4 → 8 ≤ mz → Hm I a from fun e h => .inr (.inr (.inr ⟨by rw [← HGE.out, hpg]; exact e, by rw [← HGE.out, hpg, Int.toNat_natCast, ← hsz, ← hmz]; exact h⟩)))
      clear hW5 k5 hsz hm4 hmz hpg Y5 HPP hs16 hs20 d0 d1 d2 d3 d4 d5 d6 d7 d8 d9 d10 c5 hgi hgn hgw X5
      go_cut [107] (fun sc wx => wx = W5 ∧ Hid (∃ cn : Bool, sc = .bool cn ∧ (cn = true → Hm I a)))
      case first =>
        rename_i KK hKK J KK2 hJ hM
        clear hKK KK
        by_cases k1 : pkd = 1
        · have q1 : (pkd == 1) = true := by rw [beq_iff_eq]; exact k1
          have H := hid (HK1.out k1)
          clear k1
          go_wp2_with fail
          go_meet
          case rel => exact ⟨rfl, hid ⟨true, rfl, fun _ => H.out⟩⟩
        · have q1 : (pkd == 1) = false := by rw [beq_eq_false_iff_ne]; exact k1
          by_cases k0 : pkd = 0
          · have q0 : (pkd == 0) = true := by rw [beq_iff_eq]; exact k0
            have q4 : (pkd == 4) = false := by rw [beq_eq_false_iff_ne]; omega
            by_cases h16 : 16 ≤ m4
            · have s1 : decide ((16 : Int) ≤ (m4 : Int)) = true := decide_eq_true (by omega)
              have s2 : decide (16 ≤ m4) = true := decide_eq_true h16
              have H := hid (HK0.out k0 h16)
              clear k0 k1 h16
              go_wp2_with fail
              go_meet
              case rel => exact ⟨rfl, hid ⟨true, rfl, fun _ => H.out⟩⟩
            · have s1 : decide ((16 : Int) ≤ (m4 : Int)) = false := decide_eq_false (by omega)
              have s2 : decide (16 ≤ m4) = false := decide_eq_false h16
              clear k0 k1 h16
              go_wp2_with fail
              go_meet
              case rel => exact ⟨rfl, hid ⟨false, rfl, fun h => by cases h⟩⟩
          · have q0 : (pkd == 0) = false := by rw [beq_eq_false_iff_ne]; exact k0
            by_cases k4 : pkd = 4
            · have q4 : (pkd == 4) = true := by rw [beq_iff_eq]; exact k4
              by_cases h8 : 8 ≤ mz
              · have s1 : decide ((8 : Int) ≤ (mz : Int)) = true := decide_eq_true (by omega)
                have s2 : decide (8 ≤ mz) = true := decide_eq_true h8
                have H := hid (HK4.out k4 h8)
                clear k0 k1 k4 h8
                go_wp2_with fail
                go_meet
                case rel => exact ⟨rfl, hid ⟨true, rfl, fun _ => H.out⟩⟩
              · have s1 : decide ((8 : Int) ≤ (mz : Int)) = false := decide_eq_false (by omega)
                have s2 : decide (8 ≤ mz) = false := decide_eq_false h8
                clear k0 k1 k4 h8
                go_wp2_with fail
                go_meet
                case rel => exact ⟨rfl, hid ⟨false, rfl, fun h => by cases h⟩⟩
            · have q4 : (pkd == 4) = false := by rw [beq_eq_false_iff_ne]; exact k4
              clear k0 k1 k4
              go_wp2_with fail
              go_meet
              case rel => exact ⟨rfl, hid ⟨false, rfl, fun h => by cases h⟩⟩
      case rest =>
      obtain ⟨rfl, hcn⟩ := hcut
      obtain ⟨cn, rfl, hcn2⟩ := hcn.out
      clear r0 r2 hsh hsh2 hsz0 hsz1 hmzi hmzt hm4i HK1 HK0 HK4 RW HM hc7
      have CP := hid (Copied_any I _ _ IM5.out.d (ImZ.sound HZ0.out))
      obtain ⟨c0, c1, c2, c3, c4, c5, c6, c7, c8⟩ := IM5.out.cells
      cases cn with
      | true =>
        have HMM := hcn2 rfl
        clear hcn hcn2
        go_wp2_with fail
        refine (CP.out).mono ?_
        rintro e w6 ⟨V', xs, rfl, hC, k6⟩
        have HM' := hid HMM
        obtain ⟨bm, bc, x1, x2, x3, -⟩ := hC.m
        obtain ⟨pq, px, -, q2, -⟩ := hC.p
        obtain ⟨rq, rx, q3⟩ := own_val hC.r.own
        obtain ⟨hq, hx, -, q4, -⟩ := hC.h
        obtain ⟨tq, tx, -, q5, -⟩ := hC.t
        obtain ⟨v1, v2, v3, v4, v5⟩ := V'
        dsimp only at x2 q2 q3 q4 q5
        subst x2 q2 q3 q4 q5
        have HC := hid hC
        have K6 := hid k6
        have HBM := hid (show wc.heap.size < bm ∧ bm < w6.heap.size from ⟨x1, heap_lt x3⟩)
        clear hC k6 x1 x3 HMM
        go_upto_region 23 with fail
        refine gen_world (P := fun W => Code.wp Try.prog _ _ _ W) _ ?_
        intro W7 hW7
        have k7 : Kept none' w6 W7 := hW7 ▸ (Kept.refl _ w6).alloc _
        have X7 : W7.heap[w6.heap.size]? = some (imO I ⟨.slice (some ⟨bm, 0, none⟩) I.nm I.nm, .slice (some ⟨pq, 0, none⟩) I.np I.np, .slice rq I.no rx, .slice (some ⟨hq, 0, none⟩) I.hd.length I.hd.length, .slice (some ⟨tq, 0, none⟩) I.pt.length I.pt.length⟩) := hW7 ▸ heap_new _ _
        have C7 := HC.out.keep k7
        have u0 : W7.cell? ⟨w6.heap.size, 4, none⟩ = some (.slice (some ⟨bm, 0, none⟩) nm nm) := by
          rw [NM.out]
          simp [World.cell?, X7]
        have u1 := C7.m.cell (j := a) (by rw [← NM.out]; exact HAL.out)
        have u2 := C7.m.frz a
        have hai : (a : Int) < (nm : Int) := by have := HAL.out; omega
        have haw : IntKind.u64.wrap (a : Int) = (a : Int) := by have := HAL.out; have := NM1.out; rw [wrap_u64]; omega
        have HX7 := hid X7
        have HC7 := hid C7
        have K7 := hid (none_trans K6.out k7)
        have HNE := hid (show ¬ w6.heap.size = bm by have := HBM.out; omega)
        clear hW7 k7 X7 C7
        generalize w6.heap.size = tb at *
        go_upto_region 24 with fail
        refine gen_world (P := fun W => Code.wp Try.prog _ _ _ W) _ ?_
        intro W8 hW8
        have C8 : CpD wc.heap.size wc W8 (setM I a v) ⟨.slice (some ⟨bm, 0, none⟩) I.nm I.nm, .slice (some ⟨pq, 0, none⟩) I.np I.np, .slice rq I.no rx, .slice (some ⟨hq, 0, none⟩) I.hd.length I.hd.length, .slice (some ⟨tq, 0, none⟩) I.pt.length I.pt.length⟩ xs := hW8 ▸ HC7.out.put rfl (by rw [← NM.out]; exact HAL.out) HV.out (Nat.le_refl _)
        have k8 : Kept (fun y => y = bm) W7 W8 := hW8 ▸ (Kept.refl (fun y => y = bm) W7).setCell (p := ⟨bm, a, none⟩) rfl _
        have X8 := (k8.block _ (heap_lt HX7.out) HNE.out).trans HX7.out
        have K8 := hid (show Kept none' wc W8 from K7.out.trans k8 (fun _ _ y => y) (fun y hy e => by have := HBM.out; omega))
        clear hW8 k8 u0 u1 u2 hai haw HC7 HX7 HNE K7
        have hch : chk (setM I a v) = (0, 0) := by rw [chk_set (NoL.of HZ0.out HM'.out)]; exact chk_ok fun a ha => chk_zero HZ0.out a ha
        have hbl : blks (setM I a v) = blks I := blks_set (NoL.of HZ0.out HM'.out)
        have HBL := hid hbl
        have IS := hid (is_any (setM I a v) ⟨.slice (some ⟨bm, 0, none⟩) I.nm I.nm, .slice (some ⟨pq, 0, none⟩) I.np I.np, .slice rq I.no rx, .slice (some ⟨hq, 0, none⟩) I.hd.length I.hd.length, .slice (some ⟨tq, 0, none⟩) I.pt.length I.pt.length⟩ 0 0 W8 C8.d true (by rw [hch]; rfl))
        have IMS := hid (show ImAt W8 tb (setM I a v) ⟨.slice (some ⟨bm, 0, none⟩) I.nm I.nm, .slice (some ⟨pq, 0, none⟩) I.np I.np, .slice rq I.no rx, .slice (some ⟨hq, 0, none⟩) I.hd.length I.hd.length, .slice (some ⟨tq, 0, none⟩) I.pt.length I.pt.length⟩ from ⟨X8, C8.d⟩)
        obtain ⟨z0, z1, z2, z3, z4, z5, z6, z7, z8⟩ := IMS.out.cells
        dsimp only [setM] at z0 z1 z2 z3 z4 z5 z6 z7 z8
        clear hch hbl X8 C8
        go_wp2_with fail
        refine IS.out.mono ?_
        rintro e w9 ⟨rfl, k9⟩
        have IM9 := hid (IMS.out.keep k9)
        have K9 := hid (none_trans K8.out k9)
        have BL := hid (Blocks_any (setM I a v) ⟨.slice (some ⟨bm, 0, none⟩) I.nm I.nm, .slice (some ⟨pq, 0, none⟩) I.np I.np, .slice rq I.no rx, .slice (some ⟨hq, 0, none⟩) I.hd.length I.hd.length, .slice (some ⟨tq, 0, none⟩) I.pt.length I.pt.length⟩ w9 IM9.out.d)
        clear z0 z1 z2 z3 z4 z5 z6 z7 z8 k9 IS IMS
        obtain ⟨z0, z1, z2, z3, z4, z5, z6, z7, z8⟩ := IM9.out.cells
        dsimp only [setM] at z0 z1 z2 z3 z4 z5 z6 z7 z8
        go_wp2_with fail
        refine BL.out.mono ?_
        rintro e wA ⟨lu, rfl, hB⟩
        have RA := hid hB.rb
        rw [HBL.out] at RA
        have KA := hid (none_trans K9.out hB.kp)
        clear hB z0 z1 z2 z3 z4 z5 z6 z7 z8
        have SM := hid (Same9_yes lu (.slice va n vc) (blks I) wA (by rw [← HN.out]; exact HLEN.out) RA.out (HRB.out.keep (none_trans K5.out KA.out)))
        go_wp2_with fail
        refine SM.out.mono ?_
        rintro e wB ⟨rfl, kB⟩
        go_wp2_with fail
        go_ret
        exact ⟨rfl, none_trans K3.out (none_trans K5.out (none_trans KA.out kB))⟩
      | false =>
        clear hcn hcn2
        cases bd with
        | true =>
          go_wp2_with fail
          go_ret
          exact ⟨rfl, none_trans K3.out K5.out⟩
        | false =>
          have HMM := BD.out rfl
          go_wp2_with fail
          refine (CP.out).mono ?_
          rintro e w6 ⟨V', xs, rfl, hC, k6⟩
          have HM' := hid HMM
          obtain ⟨bm, bc, x1, x2, x3, -⟩ := hC.m
          obtain ⟨pq, px, -, q2, -⟩ := hC.p
          obtain ⟨rq, rx, q3⟩ := own_val hC.r.own
          obtain ⟨hq, hx, -, q4, -⟩ := hC.h
          obtain ⟨tq, tx, -, q5, -⟩ := hC.t
          obtain ⟨v1, v2, v3, v4, v5⟩ := V'
          dsimp only at x2 q2 q3 q4 q5
          subst x2 q2 q3 q4 q5
          have HC := hid hC
          have K6 := hid k6
          have HBM := hid (show wc.heap.size < bm ∧ bm < w6.heap.size from ⟨x1, heap_lt x3⟩)
          clear hC k6 x1 x3 HMM
          go_upto_region 23 with fail
          refine gen_world (P := fun W => Code.wp Try.prog _ _ _ W) _ ?_
          intro W7 hW7
          have k7 : Kept none' w6 W7 := hW7 ▸ (Kept.refl _ w6).alloc _
          have X7 : W7.heap[w6.heap.size]? = some (imO I ⟨.slice (some ⟨bm, 0, none⟩) I.nm I.nm, .slice (some ⟨pq, 0, none⟩) I.np I.np, .slice rq I.no rx, .slice (some ⟨hq, 0, none⟩) I.hd.length I.hd.length, .slice (some ⟨tq, 0, none⟩) I.pt.length I.pt.length⟩) := hW7 ▸ heap_new _ _
          have C7 := HC.out.keep k7
          have u0 : W7.cell? ⟨w6.heap.size, 4, none⟩ = some (.slice (some ⟨bm, 0, none⟩) nm nm) := by
            rw [NM.out]
            simp [World.cell?, X7]
          have u1 := C7.m.cell (j := a) (by rw [← NM.out]; exact HAL.out)
          have u2 := C7.m.frz a
          have hai : (a : Int) < (nm : Int) := by have := HAL.out; omega
          have haw : IntKind.u64.wrap (a : Int) = (a : Int) := by have := HAL.out; have := NM1.out; rw [wrap_u64]; omega
          have HX7 := hid X7
          have HC7 := hid C7
          have K7 := hid (none_trans K6.out k7)
          have HNE := hid (show ¬ w6.heap.size = bm by have := HBM.out; omega)
          clear hW7 k7 X7 C7
          generalize w6.heap.size = tb at *
          go_upto_region 24 with fail
          refine gen_world (P := fun W => Code.wp Try.prog _ _ _ W) _ ?_
          intro W8 hW8
          have C8 : CpD wc.heap.size wc W8 (setM I a v) ⟨.slice (some ⟨bm, 0, none⟩) I.nm I.nm, .slice (some ⟨pq, 0, none⟩) I.np I.np, .slice rq I.no rx, .slice (some ⟨hq, 0, none⟩) I.hd.length I.hd.length, .slice (some ⟨tq, 0, none⟩) I.pt.length I.pt.length⟩ xs := hW8 ▸ HC7.out.put rfl (by rw [← NM.out]; exact HAL.out) HV.out (Nat.le_refl _)
          have k8 : Kept (fun y => y = bm) W7 W8 := hW8 ▸ (Kept.refl (fun y => y = bm) W7).setCell (p := ⟨bm, a, none⟩) rfl _
          have X8 := (k8.block _ (heap_lt HX7.out) HNE.out).trans HX7.out
          have K8 := hid (show Kept none' wc W8 from K7.out.trans k8 (fun _ _ y => y) (fun y hy e => by have := HBM.out; omega))
          clear hW8 k8 u0 u1 u2 hai haw HC7 HX7 HNE K7
          have hch : chk (setM I a v) = (0, 0) := by rw [chk_set (NoL.of HZ0.out HM'.out)]; exact chk_ok fun a ha => chk_zero HZ0.out a ha
          have hbl : blks (setM I a v) = blks I := blks_set (NoL.of HZ0.out HM'.out)
          have HBL := hid hbl
          have IS := hid (is_any (setM I a v) ⟨.slice (some ⟨bm, 0, none⟩) I.nm I.nm, .slice (some ⟨pq, 0, none⟩) I.np I.np, .slice rq I.no rx, .slice (some ⟨hq, 0, none⟩) I.hd.length I.hd.length, .slice (some ⟨tq, 0, none⟩) I.pt.length I.pt.length⟩ 0 0 W8 C8.d true (by rw [hch]; rfl))
          have IMS := hid (show ImAt W8 tb (setM I a v) ⟨.slice (some ⟨bm, 0, none⟩) I.nm I.nm, .slice (some ⟨pq, 0, none⟩) I.np I.np, .slice rq I.no rx, .slice (some ⟨hq, 0, none⟩) I.hd.length I.hd.length, .slice (some ⟨tq, 0, none⟩) I.pt.length I.pt.length⟩ from ⟨X8, C8.d⟩)
          obtain ⟨z0, z1, z2, z3, z4, z5, z6, z7, z8⟩ := IMS.out.cells
          dsimp only [setM] at z0 z1 z2 z3 z4 z5 z6 z7 z8
          clear hch hbl X8 C8
          go_wp2_with fail
          refine IS.out.mono ?_
          rintro e w9 ⟨rfl, k9⟩
          have IM9 := hid (IMS.out.keep k9)
          have K9 := hid (none_trans K8.out k9)
          have BL := hid (Blocks_any (setM I a v) ⟨.slice (some ⟨bm, 0, none⟩) I.nm I.nm, .slice (some ⟨pq, 0, none⟩) I.np I.np, .slice rq I.no rx, .slice (some ⟨hq, 0, none⟩) I.hd.length I.hd.length, .slice (some ⟨tq, 0, none⟩) I.pt.length I.pt.length⟩ w9 IM9.out.d)
          clear z0 z1 z2 z3 z4 z5 z6 z7 z8 k9 IS IMS
          obtain ⟨z0, z1, z2, z3, z4, z5, z6, z7, z8⟩ := IM9.out.cells
          dsimp only [setM] at z0 z1 z2 z3 z4 z5 z6 z7 z8
          go_wp2_with fail
          refine BL.out.mono ?_
          rintro e wA ⟨lu, rfl, hB⟩
          have RA := hid hB.rb
          rw [HBL.out] at RA
          have KA := hid (none_trans K9.out hB.kp)
          clear hB z0 z1 z2 z3 z4 z5 z6 z7 z8
          have SM := hid (Same9_yes lu (.slice va n vc) (blks I) wA (by rw [← HN.out]; exact HLEN.out) RA.out (HRB.out.keep (none_trans K5.out KA.out)))
          go_wp2_with fail
          refine SM.out.mono ?_
          rintro e wB ⟨rfl, kB⟩
          go_wp2_with fail
          go_ret
          exact ⟨rfl, none_trans K3.out (none_trans K5.out (none_trans KA.out kB))⟩
end Go.Proofs.Ytcgbefmjnhkdgaa
