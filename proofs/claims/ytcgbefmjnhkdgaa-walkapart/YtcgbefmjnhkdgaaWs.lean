import Derived.Test.YtcgbefmjnhkdgaaWr
set_option maxRecDepth 1000000
set_option maxHeartbeats 80000000
/- WalkApart, the walk. -/
namespace Go.Proofs.Ytcgbefmjnhkdgaa
open Go.RowKit
set_option linter.unusedVariables false
set_option maxHeartbeats 8000000
set_option maxRecDepth 6000
theorem and_pred (e : Nat) : 2 ^ e &&& (2 ^ e - 1) = 0 := by
  rw [Nat.and_two_pow_sub_one_eq_mod]
  exact Nat.mod_self _
/-- What a block of a sound image is, number by number. -/
structure BN (base nm R p s : Nat) : Prop where
  s16 : 16 ≤ s
  sR : s ≤ R
  an : s &&& (s - 1) = 0
  al : p % s = 0
  lo : base ≤ p
  hi : p - base + s ≤ nm
theorem walkApart_any (I : Img) (V : ImV) (w : World) (hI : ImD w I V) :
    Calls Try.prog 5 #[imA I V] w fun e w' => e = .returned (.bool true) ∧ Kept none' w w' := by
  obtain ⟨⟨ma, mc, hm⟩, ⟨pa, pc, hp⟩, ⟨ra, rc, hr⟩, ⟨ha, hc, hh⟩, ⟨ta, tc, ht⟩, -⟩ := hI.sl
  obtain ⟨vm, vp, vr, vh, vt⟩ := V
  dsimp only at hm hp hr hh ht
  subst hm hp hr hh ht
  have IM0 := hid (show ImAt (w.alloc (imO I _)) w.heap.size I _ from ⟨heap_new _ _, hI.keep ((Kept.refl _ w).alloc _)⟩)
  have K0 := hid (show Kept none' w (w.alloc (imO I _)) from (Kept.refl _ w).alloc (imO I ⟨.slice ma I.nm mc, .slice pa I.np pc, .slice ra I.no rc, .slice ha I.hd.length hc, .slice ta I.pt.length tc⟩))
  have AW := hid (fun W => awake_any W)
  have hnm := hI.mem.1
  clear hI
  go_enter Try.func5, Try.ntmps5
  go_wp2_with fail
  refine (AW.out _).mono ?_
  rintro e w1 ⟨rfl, k1⟩
  have IM1 := hid (IM0.out.keep k1)
  have K1 := hid (none_trans K0.out k1)
  clear k1 IM0 K0 AW
  generalize w.heap.size = ib at *
  obtain ⟨c0, c1, c2, c3, c4, c5, c6, c7, c8⟩ := IM1.out.cells
  have BL := hid (Blocks_any I _ w1 IM1.out.d)
  go_wp2_with fail
  refine BL.out.mono ?_
  rintro e w2 ⟨v, rfl, hB⟩
  have IM2 := hid (IM1.out.keep hB.kp)
  have K2 := hid (none_trans K1.out hB.kp)
  have HRB := hid hB.rb
  obtain ⟨va, vc, hv, -⟩ := hB.rb
  have hlen : (blks I).length ≤ 9223372036854775807 := by
    rcases hB.own.2 with ⟨_, h0⟩ | ⟨g, cap, cur, _, _, _, h1, h2, _⟩
    · omega
    · unfold maxLen at h2
      omega
  clear hB IM1 K1 BL c0 c1 c2 c3 c4 c5 c6 c7 c8
  obtain ⟨c0, c1, c2, -⟩ := IM2.out.cells
  obtain ⟨n, hn⟩ : ∃ n, n = (blks I).length := ⟨_, rfl⟩
  rw [← hn] at hv hlen
  have HLEN := hid hlen
  clear hlen
  subst hv
  obtain ⟨P, hP⟩ : ∃ P : Nat → Nat, P = fun j => ((blks I).getD j (0, 0)).1 := ⟨_, rfl⟩
  obtain ⟨S, hS⟩ : ∃ S : Nat → Nat, S = fun j => ((blks I).getD j (0, 0)).2 := ⟨_, rfl⟩
  have mem : ∀ j, j < n → (blks I).getD j (0, 0) ∈ blks I := fun j hj => by
    have hj' : j < (blks I).length := by omega
    have : (blks I).getD j (0, 0) = (blks I)[j] := by simp [List.getD, hj']
    rw [this]
    exact List.getElem_mem hj'
  have OK := hid (show ∀ j, j < n → BN I.base I.nm (M.RS I.ord.toNat) (P j) (S j) ∧ I.ord.toNat ≤ 8 ∧ I.ord = (I.ord.toNat : Int) ∧ I.base + I.nm ≤ 9223372036854775808 from fun j hj => by
    obtain ⟨⟨r, hS9⟩, b⟩ := blks_ok (mem j hj)
    obtain ⟨e, he, hs⟩ := b.pw
    refine ⟨?_, hS9.k8, hS9.ord, hS9.be⟩
    subst hP hS
    exact ⟨b.s16, b.sR, by show ((blks I).getD j (0, 0)).2 &&& (((blks I).getD j (0, 0)).2 - 1) = 0; rw [hs]; exact and_pred e, b.al, b.lo, b.hi⟩)
  have NX := hid (show ∀ j, j + 1 < n → P j + S j ≤ P (j + 1) ∧ (P j / 4096 = P (j + 1) / 4096 → S j = S (j + 1)) from fun j hj => by
    have h1 : j < (blks I).length := by omega
    have h2 : j + 1 < (blks I).length := by omega
    have := List.pairwise_iff_getElem.1 (blks_pw I) j (j + 1) h1 h2 (by omega)
    subst hP hS
    have e1 : (blks I).getD j (0, 0) = (blks I)[j] := by simp [List.getD, h1]
    have e2 : (blks I).getD (j + 1) (0, 0) = (blks I)[j + 1] := by simp [List.getD, h2]
    dsimp only
    rw [e1, e2]
    exact this)
  have RW := hid (show ∀ W, Kept none' w2 W → ∀ j, j < n → ∃ g, va = some ⟨g, 0, none⟩ ∧ g < w2.heap.size ∧ ∀ i, i < n → W.cell? ⟨g, i * 2, none⟩ = some (.int .u64 (P i : Int)) ∧ W.cell? ⟨g, i * 2 + 1, none⟩ = some (.int .u64 (S i : Int)) from fun W hW j hj => by
    obtain ⟨oa, oc, q1, q2⟩ := HRB.out
    cases q1
    rcases q2 with q2 | ⟨g, rfl, hg, hc⟩
    · rw [q2] at hj; simp at hj
    · refine ⟨g, rfl, hg, fun i hi => ?_⟩
      subst hP hS
      exact ⟨hW.cell (fun x => x) (hc i (by omega)).1, hW.cell (fun x => x) (hc i (by omega)).2⟩)
  clear hP hS mem HRB hn
  go_wp2_with fail
  refine gen_world (P := fun W => Code.wp Try.prog _ _ _ W) _ ?_
  intro W3 hW3
  have X3 : W3.heap[w2.heap.size]? = some (.cells #[.int .u64 (I.base : Int), .int .i64 I.lim, .int .i64 I.ord] 24 (0, 0)) := hW3 ▸ heap_new _ _
  have k3 : Kept none' w2 W3 := hW3 ▸ (Kept.refl _ w2).alloc _
  have HX3 := hid X3
  have HK3 := hid k3
  clear hW3 X3 k3 c0 c1 c2
  generalize w2.heap.size = cb at *
  go_loopw [5, 6] (fun ev iv W => ∃ a en : Nat, a ≤ n ∧ iv = .int .i64 a ∧ ev = .int .u64 en ∧ Hid (Kept none' W3 W ∧ (a = 0 → en = I.base) ∧ ∀ b, a = b + 1 → en = P b + S b)) (fun _ iv _ => n - (intOf iv).toNat)
  case atStart => exact ⟨0, I.base, Nat.zero_le _, rfl, rfl, hid ⟨Kept.refl _ _, fun _ => rfl, fun b e => by omega⟩⟩
  case round =>
    obtain ⟨a, en, ha', rfl, rfl, hG⟩ := hrel
    by_cases hlt : a < n
    · have hai : (a : Int) < (n : Int) := by omega
      obtain ⟨bn, k8, ho, hbe⟩ := OK.out a hlt
      obtain ⟨g, rfl, hg, hrow⟩ := RW.out wr (none_trans HK3.out hG.out.1) a hlt
      obtain ⟨r0, r1⟩ := hrow a hlt
      have hen : en ≤ P a := by
        cases a with
        | zero => rw [hG.out.2.1 rfl]; exact bn.lo
        | succ b => rw [hG.out.2.2 b rfl]; exact (NX.out b hlt).1
      go_upto_region 10 with fail
      refine gen_world (P := fun W => Code.wp Try.prog _ _ _ W) _ ?_
      intro W4 hW4
      have k4 : Kept none' W3 W4 := hW4 ▸ hG.out.1.alloc _
      have X4 : W4.heap[wr.heap.size]? = some (.cells #[.int .u64 (P a : Int), .int .u64 (S a : Int)] 42 (0, 0)) := hW4 ▸ heap_new _ _
      have I4 := IM2.out.keep (none_trans HK3.out k4)
      have C4 := (k4.block _ (heap_lt HX3.out) (fun x => x)).trans HX3.out
      have HK4 := hid k4
      have HX4 := hid X4
      have b0 : ∀ x : KW W4, x.v.cell? ⟨wr.heap.size, 0, none⟩ = some (.int .u64 (P a : Int)) := fun x => by simp [World.cell?, (x.k.block _ (heap_lt X4) (fun y => y)).trans X4]
      have b1 : ∀ x : KW W4, x.v.cell? ⟨wr.heap.size, 1, none⟩ = some (.int .u64 (S a : Int)) := fun x => by simp [World.cell?, (x.k.block _ (heap_lt X4) (fun y => y)).trans X4]
      obtain ⟨k, hk⟩ : ∃ k, k = I.ord.toNat := ⟨_, rfl⟩
      rw [← hk] at k8 ho bn
      have d0 : ∀ x : KW W4, x.v.cell? ⟨cb, 0, none⟩ = some (.int .u64 (I.base : Int)) := fun x => by simp [World.cell?, (x.k.block _ (heap_lt C4) (fun y => y)).trans C4]
      have d1 : ∀ x : KW W4, x.v.cell? ⟨cb, 1, none⟩ = some (.int .i64 I.lim) := fun x => by simp [World.cell?, (x.k.block _ (heap_lt C4) (fun y => y)).trans C4]
      have d2 : ∀ x : KW W4, x.v.cell? ⟨cb, 2, none⟩ = some (.int .i64 (k : Int)) := fun x => by simp [World.cell?, (x.k.block _ (heap_lt C4) (fun y => y)).trans C4, ho]
      have m4 := I4.all.2.2.2.2.1
      dsimp only at m4
      have HR := hid (fun W => R9_any (I.base : Int) I.lim k k8 W)
      obtain ⟨R, hR⟩ : ∃ R, R = M.RS k := ⟨_, rfl⟩
      rw [← hR] at HR bn
      have HN := hid (NX.out)
      have ENQ := hid (show ∀ b, a = b + 1 → P b + S b ≤ P a ∧ (P b / 4096 = P a / 4096 → S b = S a) from fun b hb => by subst hb; exact NX.out b hlt)
      have PA := hid (show ∃ q, q = P a ∧ True from ⟨_, rfl, trivial⟩)
      clear X4 I4 C4 k4 hW4 hk hR ho
      obtain ⟨s16, sR, san, sal, slo, shi⟩ := bn
      generalize hpp : P a = p at *
      generalize hss : S a = s at *
      have HPP := hid hpp
      have HSS := hid hss
      clear hpp hss
      have f1 : decide ((s : Int) < 16) = false := decide_eq_false (by omega)
      have f2 : decide ((R : Int) < (s : Int)) = false := decide_eq_false (by omega)
      have f2n : decide (R < s) = false := decide_eq_false (by omega)
      obtain ⟨t1, ht1⟩ : ∃ t1, t1 = s - 1 := ⟨_, rfl⟩
      rw [← ht1] at san
      have ht64 : t1 < 2 ^ 64 := by omega
      have hs64 : s < 2 ^ 64 := by omega
      have f4 : (bits BinOp.and IntKind.u64 (s : Int) ((s : Int) - 1) != 0) = false := by
        rw [show (s : Int) - 1 = (t1 : Int) by omega, u64_and_nat s t1 hs64 ht64, san]
        rfl
      have g0 : ¬ (s : Int) = 0 := by omega
      have g0' : ((s : Int) == 0) = false := by simpa using g0
      have g1 : (p : Int) % (s : Int) = 0 := by rw [← Int.natCast_emod, sal]; rfl
      have g2 : (p : Int).tmod (s : Int) = 0 := by rw [Int.tmod_eq_emod_of_nonneg (by omega)]; exact g1
      have g3 : decide ((p : Int) < (en : Int)) = false := decide_eq_false (by omega)
      have g3n : decide (p < en) = false := decide_eq_false (by omega)
      obtain ⟨dd, hdd⟩ : ∃ dd, dd = p - I.base := ⟨_, rfl⟩
      obtain ⟨uu, huu⟩ : ∃ uu, uu = I.nm - s := ⟨_, rfl⟩
      have g7 : decide ((I.nm : Int) - (s : Int) < (p : Int) - (I.base : Int)) = false := decide_eq_false (by omega)
      have g8 : 0 ≤ (p : Int) - (I.base : Int) := by omega
      have g9 : 0 ≤ (I.nm : Int) - (s : Int) := by omega
      clear ht1 san hdd huu sal
      refine wp_region_kept (by kernel_rfl) (by kernel_rfl) ?_
      repeat (go_big_quiet_step (first | (go_at_call 15; exact Calls.kept_of (HR.out _))))
      refine wpQuiet_nil ?_
      intro x
      have B0 := b0 x
      have B1 := b1 x
      have XK := hid x.k
      have XRW := hid (RW.out x.v (none_trans HK3.out (none_trans HK4.out x.k)) a hlt)
      clear b0 b1 d0 d1 d2 m4 HR f1 f2 f2n f4 g0 g0' g1 g2 g3 g3n g7 g8 g9
      generalize x.v = W5 at *
      have hps : (p : Int) + (s : Int) < 18446744073709551616 := by omega
      have B0' : ∀ y : KW W5, y.v.cell? ⟨wr.heap.size, 0, none⟩ = some (.int .u64 (p : Int)) := fun y => y.k.cell (fun z => z) B0
      have B1' : ∀ y : KW W5, y.v.cell? ⟨wr.heap.size, 1, none⟩ = some (.int .u64 (s : Int)) := fun y => y.k.cell (fun z => z) B1
      by_cases ha0 : a = 0
      · subst ha0
        have h0 : decide ((0 : Int) < ((0 : Nat) : Int)) = false := rfl
        go_upto_region 12 with fail
        refine wp_region_kept (by kernel_rfl) (by kernel_rfl) ?_
        repeat (go_big_quiet_step (fail))
        refine wpQuiet_nil ?_
        intro y
        have C0 := B0' y
        have C1 := B1' y
        have YK := hid (none_trans XK.out y.k)
        clear B0' B1' B0 B1 XK h0
        generalize y.v = W6 at *
        go_wp2_with fail
        refine ⟨⟨0 + 1, p + s, by omega, by simp, by simp, hid ⟨none_trans HK4.out YK.out, fun e => by omega, fun b' e => ?_⟩⟩, by simp [intOf]; omega⟩
        obtain rfl : 0 = b' := by omega
        rw [HPP.out, HSS.out]
      · obtain ⟨b, hb⟩ : ∃ b, b = a - 1 := ⟨_, rfl⟩
        obtain ⟨g', e', -, hrw⟩ := XRW.out
        cases e'
        obtain ⟨r0', r1'⟩ := hrw b (by omega)
        obtain ⟨nx1, nx2⟩ := ENQ.out b (by omega)
        have h1 : decide ((0 : Int) < (a : Int)) = true := decide_eq_true (by omega)
        have h1n : decide (0 < a) = true := decide_eq_true (by omega)
        have h2 : (a : Int) - 1 = (b : Int) := by omega
        have h3 : (b : Int) < (n : Int) := by omega
        have h3n : b < n := by omega
        have h4 : wrap64 (b : Int) = (b : Int) := by have := HLEN.out; rw [wrap64]; omega
        generalize P b = pb at *
        generalize S b = sb at *
        have q0 : ∀ y : KW W5, y.v.cell? ⟨g, b * 2, none⟩ = some (.int .u64 (pb : Int)) := fun y => y.k.cell (fun z => z) r0'
        have q1 : ∀ y : KW W5, y.v.cell? ⟨g, b * 2 + 1, none⟩ = some (.int .u64 (sb : Int)) := fun y => y.k.cell (fun z => z) r1'
        clear hb r0' r1' hrw XRW ENQ
        by_cases hq : pb / 4096 = p / 4096
        · have := nx2 hq
          subst this
          have e1 : ((pb : Int) / 4096 == (p : Int) / 4096) = true := by rw [beq_iff_eq]; omega
          clear hq nx2
          go_upto_region 12 with fail
          refine wp_region_kept (by kernel_rfl) (by kernel_rfl) ?_
          repeat (go_big_quiet_step (fail))
          refine wpQuiet_nil ?_
          intro y
          have C0 := B0' y
          have C1 := B1' y
          have YK := hid (none_trans XK.out y.k)
          clear B0' B1' B0 B1 XK q0 q1 h1 h1n h2 h3 h3n h4 e1
          generalize y.v = W6 at *
          obtain ⟨a1, ha1⟩ : ∃ a1, a1 = a + 1 := ⟨_, rfl⟩
          have hwa : wrap64 ((a : Int) + 1) = (a1 : Int) := by have := HLEN.out; rw [wrap64]; omega
          have HA1 := hid ha1
          clear ha1
          go_wp2_with fail
          have ha1 := HA1.out
          rw [hwa]
          refine ⟨⟨a1, p + sb, by rw [ha1]; exact hlt, rfl, by simp, hid ⟨none_trans HK4.out YK.out, fun e => absurd e (by rw [ha1]; exact Nat.succ_ne_zero a), fun b' e => ?_⟩⟩, ?_⟩
          · obtain rfl : a = b' := Nat.succ.inj (ha1.symm.trans e)
            rw [HPP.out, HSS.out]
          · simp only [intOf, Int.toNat_natCast]
            rw [ha1]
            exact Nat.sub_succ_lt_self _ _ hlt
        · have e1 : ((pb : Int) / 4096 == (p : Int) / 4096) = false := by rw [beq_eq_false_iff_ne]; omega
          clear hq nx2
          go_upto_region 12 with fail
          refine wp_region_kept (by kernel_rfl) (by kernel_rfl) ?_
          repeat (go_big_quiet_step (fail))
          refine wpQuiet_nil ?_
          intro y
          have C0 := B0' y
          have C1 := B1' y
          have YK := hid (none_trans XK.out y.k)
          clear B0' B1' B0 B1 XK q0 q1 h1 h1n h2 h3 h3n h4 e1
          generalize y.v = W6 at *
          obtain ⟨a1, ha1⟩ : ∃ a1, a1 = a + 1 := ⟨_, rfl⟩
          have hwa : wrap64 ((a : Int) + 1) = (a1 : Int) := by have := HLEN.out; rw [wrap64]; omega
          have HA1 := hid ha1
          clear ha1
          go_wp2_with fail
          have ha1 := HA1.out
          rw [hwa]
          refine ⟨⟨a1, p + s, by rw [ha1]; exact hlt, rfl, by simp, hid ⟨none_trans HK4.out YK.out, fun e => absurd e (by rw [ha1]; exact Nat.succ_ne_zero a), fun b' e => ?_⟩⟩, ?_⟩
          · obtain rfl : a = b' := Nat.succ.inj (ha1.symm.trans e)
            rw [HPP.out, HSS.out]
          · simp only [intOf, Int.toNat_natCast]
            rw [ha1]
            exact Nat.sub_succ_lt_self _ _ hlt
    · obtain rfl : a = n := by omega
      go_wp2_with fail
      go_ret
      exact ⟨rfl, none_trans K2.out (none_trans HK3.out hG.out.1)⟩
end Go.Proofs.Ytcgbefmjnhkdgaa
