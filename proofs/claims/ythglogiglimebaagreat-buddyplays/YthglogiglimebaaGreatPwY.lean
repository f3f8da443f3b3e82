import Derived.Test.YthglogiglimebaaGreatPwZ
import Derived.Test.YthglogiglimebaaGreatPwW
import Derived.Test.YthglogiglimebaaGreatPwX
import Derived.Test.YthglogiglimebaaGreatKnD
import Derived.Test.YthglogiglimebaaGreatSte
import Derived.Deep.DeepCutAuto
import Derived.Deep.LoopGhost
import Derived.Deep.RegionHeld3
/- BuddyPlays: the walk. -/
namespace Go.Proofs.YthglogiglimebaaGreat
open Go.RowKit
set_option linter.unusedVariables false

/-- Between two steps. -/
def PlI (w : World) (lw j q : Nat) (ta : Option Addr) (tc : Nat) (W : World) : Prop := ∃ x t fr ls fa fc va n vc xs, PW (Eb (.slice ta q tc)) w W lw j x t fr ls fa fc va n vc ∧ WL w W (.slice ta q tc) xs ∧ q = xs.length
set_option maxRecDepth 4000 in
set_option maxHeartbeats 8000000 in
theorem plays_any (b0 : Nat) (hb64 : b0 < 18446744073709551616) (l0 o0 : Int) (l1 : -9223372036854775808 ≤ l0) (l2 : l0 ≤ 9223372036854775807) (o1 : -9223372036854775808 ≤ o0) (o2 : o0 ≤ 9223372036854775807) (sv : Value) (m : Nat) (w : World) (hS : StepsIn w sv m) :
    Calls Tryz.prog 3 #[cfgV b0 l0 o0, sv] w fun e w' => e = .returned (.bool true) ∧ Kept none' w w' := by
  have HS := hid hS
  obtain ⟨hm, oa, oc, hsv, _⟩ := hS
  subst hsv
  have BG := hid (fun W => begin_anyx b0 hb64 l0 o0 l1 l2 o1 o2 W)
  go_enter Tryz.func3, Tryz.ntmps3
  go_wp2_with fail
  have KB := hid ((Kept.refl none' w).alloc (cfgO b0 l0 o0))
  generalize w.alloc (cfgO b0 l0 o0) = wB at *
  refine (BG.out _).mono ?_
  rintro e w1 ⟨base, lim, o, hbm, lw, x, fa, fc, rfl, hL, hfl, e1, e2, e3, e4, e5⟩
  have W1 := hid (beg_pw (E := Eb (.slice none 0 0)) o hL hfl e4 e5 (by rw [e1]; exact hbm) (fun y e => by simp [Eb, Value.ownBlock] at e))
  clear hL hfl BG e1 e2 e3 e4 e5 hbm
  go_wp2_with fail
  refine (lives_ok _).mono ?_
  rintro e w2 ⟨rfl, hk⟩
  have I0 := hid (show PlI wB lw 0 0 none 0 w2 from ⟨_, _, _, _, _, _, _, _, _, [], W1.out.keep hk, WL.nil wB w2 (W1.out.keep hk).law.kp, rfl⟩)
  clear hk W1
  go_wp2_with fail
  go_loopg [6, 7] 400 (fun g s6 s7 W' => ∃ j q : Nat, j ≤ m ∧ j ≤ 400 ∧ q ≤ j ∧ g = 400 - j ∧ s7 = .int .i64 j ∧ ∃ ta tc, s6 = .slice ta q tc ∧ Hid (PlI wB lw j q ta tc W'))
  case atStart => exact ⟨0, 0, Nat.zero_le _, by omega, by omega, rfl, rfl, none, 0, rfl, I0⟩
  case round =>
    clear I0
    obtain ⟨j, q, hj, hj4, hqj, rfl, rfl, ta, tc, rfl, hI⟩ := hrel
    obtain ⟨x, t, fr, ls, fa, fc, va, n, vc, xs, hP, hWL, hq⟩ := hI.out
    have P0 := hid hP
    have T0 := hid hWL
    have HQ := hid hq
    have HNC := hid hP.nc
    have hn : n ≤ 1000 := by have := hP.nc; omega
    clear hI hP hWL hq
    by_cases hlt : j < m ∧ j < 400
    · obtain ⟨hlt1, hlt2⟩ := hlt
      have hji : (j : Int) < (m : Int) := by omega
      have hji4 : (j : Int) < 400 := by omega
      obtain ⟨_, oa2, oc2, hsv, h0 | ⟨bl, ob, hoa, hbl, hst⟩⟩ := HS.out
      · omega
      injection hsv with hsv1 _ hsv2
      subst hsv1 hsv2
      subst hoa
      obtain ⟨op, od, tt, rf, sp, _, _, _, hrf, hsp, r0, r1, r2, r3, r4⟩ := hst j hlt1
      have KW := none_trans KB.out P0.out.law.kp
      replace r0 := KW.cell (fun e => e) r0
      replace r1 := KW.cell (fun e => e) r1
      replace r2 := KW.cell (fun e => e) r2
      replace r3 := KW.cell (fun e => e) r3
      replace r4 := KW.cell (fun e => e) r4
      have ka := (Kept.refl none' wr).alloc (stO op od tt rf sp)
      have P1 := hid (P0.out.keep ka)
      have T1 := hid (show WL wB (wr.alloc (stO op od tt rf sp)) (.slice ta q tc) xs from ⟨T0.out.1.keep ka, T0.out.2⟩)
      have X1 := hid (heap_new wr (stO op od tt rf sp))
      have LT := hid P0.out.law.lt
      have AD := hid (address_x op od tt rf hrf.1 hrf.2 sp hsp ta q tc xs HQ.out (by omega) wB _ T1.out)
      obtain ⟨s0, s1, s2, s3, s4⟩ := stc X1.out
      clear hst KW ka hrf hsp
      go_wp2_with fail
      clear r0 r1 r2 r3 r4 hji hji4
      generalize wr.alloc (stO op od tt rf sp) = V1 at *
      refine AD.out.mono ?_
      rintro e w3 ⟨a, ha, rfl, hk3⟩
      have P3 := hid (P1.out.keep hk3)
      have T3 := hid (show WL wB w3 (.slice ta q tc) xs from ⟨T1.out.1.keep hk3, T1.out.2⟩)
      have X3 := hid ((hk3.block _ (heap_lt X1.out) (fun e => e)).trans X1.out)
      clear hk3 s0 s1 s2 s3 s4 AD P1 T1 X1
      obtain ⟨s0, s1, s2, s3, s4⟩ := stc X3.out
      by_cases h4 : op = 4
      · as_aux_lemma =>
        subst h4
        clear s2 s3 s4
        go_upto_region 11 with fail
        obtain ⟨fr', ls', pg, er, qa, B⟩ := take_both P3.out hn od
        obtain ⟨n', hn'⟩ : ∃ n', n' = ls'.length := ⟨_, rfl⟩
        have hlen := B.ln
        rw [← hn'] at hlen
        have HN' := hid hn'
        have HB := hid B
        clear B hn' s0 s1
        have RFC := hid (fun W1 (k1 : Kept none' w3 W1) => show Calls Tryz.prog 9 #[.agg #[.int .i64 (x.o : Int), .int .i64 (t.m.n : Int), .slice fa (x.o + 1) fc, .slice va n vc], .int .i64 od] W1 fun e w' => T5P W1 (x.o : Int) (t.m.n : Int) x.o fr' ls' pg er e w' from HB.out.rf W1 k1)
        go_cut [10, 11, 12] (fun s10 s11 s12 wx => ∃ db fa1 fc1 va1 vc1, s10 = .pointer (some ⟨db, 0, none⟩) ∧ s11 = .int .i64 (pg : Int) ∧ s12 = .int .i64 (er : Int) ∧ w3.heap.size ≤ db ∧ Kept none' w3 wx ∧ FL wx fa1 fc1 x.o fr' ∧ RN wx (.slice va1 n' vc1) ls' ∧ wx.heap[db]? = some (r5O (x.o : Int) (t.m.n : Int) (.slice fa1 (x.o + 1) fc1) (.slice va1 n' vc1)))
        case first => as_aux_lemma =>
          rename_i K hK J K2 hJ hM
          clear hK K
          have hxlt := heap_lt X3.out
          have hllt := heap_lt P3.out.law.box
          have KA := hid ((Kept.refl none' w3).drew)
          have KC := hid (((Kept.refl none' w3).alloc r5Z).drew)
          have HA := hid (P3.out.keep KA.out)
          have XA := hid ((KA.out.block _ (heap_lt X3.out) (fun e => e)).trans X3.out)
          have HC := hid (P3.out.keep KC.out)
          have XC := hid ((KC.out.block _ (heap_lt X3.out) (fun e => e)).trans X3.out)
          have ZC := hid (show ((w3.alloc r5Z).drew).heap[w3.heap.size]? = some r5Z from heap_new w3 r5Z)
          obtain ⟨_, _, _, _, _, _, d6, d7, d8, d9⟩ := HA.out.law.c
          obtain ⟨_, d1, _, _, _⟩ := stc XA.out
          obtain ⟨_, _, _, _, _, _, g6, g7, g8, g9⟩ := HC.out.law.c
          obtain ⟨_, g1, _, _, _⟩ := stc XC.out
          go_region_held3 (fun w' => w'.cell? ⟨lw, 6, none⟩ = some (.int .i64 (x.o : Int)) ∧ w'.cell? ⟨lw, 7, none⟩ = some (.int .i64 (t.m.n : Int)) ∧ w'.cell? ⟨lw, 8, none⟩ = some (.slice fa (x.o + 1) fc) ∧ w'.cell? ⟨lw, 9, none⟩ = some (.slice va n vc) ∧ w'.cell? ⟨wr.heap.size, 1, none⟩ = some (.int .i64 od)) ((refine ⟨?_, ?_, ?_, ?_, ?_⟩ <;> first | with_reducible assumption | with_reducible exact alloc_cellL (by with_reducible assumption) | with_reducible exact set4_cell (by with_reducible assumption) (by omega))) (first
            | (go_at_call 9; (with_reducible refine (RFC.out _ KA.out).mono ?_); rintro e w5 ⟨fa1, fc1, va1, vc1, rfl, hk5, hf5, hr5⟩; rw [← HN'.out] at hr5; have G5 := hid (none_trans KA.out hk5); have H5 := hid (HA.out.keep hk5); have X5 := hid ((hk5.block _ (heap_lt XA.out) (fun e => e)).trans XA.out); have F5 := hid hf5; have R5 := hid hr5; obtain ⟨_, _, _, _, _, _, q6, q7, q8, q9⟩ := H5.out.law.c; obtain ⟨_, q1, _, _, _⟩ := stc X5.out; clear hk5 hf5 hr5)
            | (go_at_call 9; (with_reducible refine (RFC.out _ KC.out).mono ?_); rintro e w5 ⟨fa1, fc1, va1, vc1, rfl, hk5, hf5, hr5⟩; rw [← HN'.out] at hr5; have G5 := hid (none_trans KC.out hk5); have H5 := hid (HC.out.keep hk5); have X5 := hid ((hk5.block _ (heap_lt XC.out) (fun e => e)).trans XC.out); have Z5 := hid ((hk5.block _ (heap_lt ZC.out) (fun e => e)).trans ZC.out); have F5 := hid hf5; have R5 := hid hr5; obtain ⟨_, _, _, _, _, _, q6, q7, q8, q9⟩ := H5.out.law.c; obtain ⟨_, q1, _, _, _⟩ := stc X5.out; obtain ⟨b0, b1, b2, b3, fb⟩ := r5c Z5.out; clear hk5 hf5 hr5)
            | fail)
          · have ka := (Kept.refl none' w5).alloc (r5O (x.o : Int) (t.m.n : Int) (.slice fa1 (x.o + 1) fc1) (.slice va1 n' vc1))
            have K1 := hid (none_trans G5.out ka)
            have F1 := hid (F5.out.keep ka)
            have R1 := hid (R5.out.keep ka)
            have Y1 := hid (heap_new w5 (r5O (x.o : Int) (t.m.n : Int) (.slice fa1 (x.o + 1) fc1) (.slice va1 n' vc1)))
            have SZ := hid G5.out.size
            clear d6 d7 d8 d9 d1 g6 g7 g8 g9 g1 q6 q7 q8 q9 q1 ka
            rw [← HN'.out]
            go_wp2_with fail
            go_meet
            case rel => exact ⟨_, _, _, _, _, rfl, rfl, rfl, SZ.out, K1.out, F1.out, R1.out, Y1.out⟩
          · have ks := set4_k w5 w3.heap.size (.int .i64 (x.o : Int)) (.int .i64 (t.m.n : Int)) (.slice fa1 (x.o + 1) fc1) (.slice va1 n' vc1)
            have K1 := hid (show Kept none' w3 ((((w5.setCell ⟨w3.heap.size, 0, none⟩ (.int .i64 (x.o : Int))).setCell ⟨w3.heap.size, 1, none⟩ (.int .i64 (t.m.n : Int))).setCell ⟨w3.heap.size, 2, none⟩ (.slice fa1 (x.o + 1) fc1)).setCell ⟨w3.heap.size, 3, none⟩ (.slice va1 n' vc1)) from G5.out.trans ks (fun _ _ e => e) (fun y hy e => by have e : y = w3.heap.size := e; omega))
            have F1 := hid (show FL ((((w5.setCell ⟨w3.heap.size, 0, none⟩ (.int .i64 (x.o : Int))).setCell ⟨w3.heap.size, 1, none⟩ (.int .i64 (t.m.n : Int))).setCell ⟨w3.heap.size, 2, none⟩ (.slice fa1 (x.o + 1) fc1)).setCell ⟨w3.heap.size, 3, none⟩ (.slice va1 n' vc1)) fa1 fc1 x.o fr' from F5.out.set4 Z5.out _ _ _ _)
            have R1 := hid (show RN ((((w5.setCell ⟨w3.heap.size, 0, none⟩ (.int .i64 (x.o : Int))).setCell ⟨w3.heap.size, 1, none⟩ (.int .i64 (t.m.n : Int))).setCell ⟨w3.heap.size, 2, none⟩ (.slice fa1 (x.o + 1) fc1)).setCell ⟨w3.heap.size, 3, none⟩ (.slice va1 n' vc1)) (.slice va1 n' vc1) ls' from RN.set4 R5.out Z5.out _ _ _ _)
            have Y1 := hid (show ((((w5.setCell ⟨w3.heap.size, 0, none⟩ (.int .i64 (x.o : Int))).setCell ⟨w3.heap.size, 1, none⟩ (.int .i64 (t.m.n : Int))).setCell ⟨w3.heap.size, 2, none⟩ (.slice fa1 (x.o + 1) fc1)).setCell ⟨w3.heap.size, 3, none⟩ (.slice va1 n' vc1)).heap[w3.heap.size]? = some (r5O (x.o : Int) (t.m.n : Int) (.slice fa1 (x.o + 1) fc1) (.slice va1 n' vc1)) from set4_box Z5.out _ _ _ _)
            clear d6 d7 d8 d9 d1 g6 g7 g8 g9 g1 q6 q7 q8 q9 q1 ks b0 b1 b2 b3 fb
            rw [← HN'.out]
            go_wp2_with fail
            go_meet
            case rel => exact ⟨_, _, _, _, _, rfl, rfl, rfl, Nat.le_refl _, K1.out, F1.out, R1.out, Y1.out⟩
        case rest =>
        obtain ⟨db, fa1, fc1, va1, vc1, rfl, rfl, rfl, hdb, hk1, hf1, hr1, hy1⟩ := hcut
        have K1 := hid hk1
        have F1 := hid hf1
        have R1 := hid hr1
        have Y1 := hid hy1
        have P4 := hid (P3.out.keep hk1)
        have X4 := hid ((hk1.block _ (heap_lt X3.out) (fun e => e)).trans X3.out)
        have LT3 := hid P3.out.law.lt
        have HDB := hid hdb
        have kdd := (Kept.refl none' wc).drew
        have PRD := hid (show Calls Tryz.prog 10 #[.pointer (some ⟨x.b, 0, none⟩), .int .i64 od] wc.drew fun e w' => e = .returned (.tuple #[.int .u64 (qa : Int), .int .i64 (er : Int)]) ∧ DF x t wc.drew w' fr' ls' from HB.out.pr _ (P4.out.law.bd.keep kdd))
        obtain ⟨_, _, _, _, _, e5, _, _, _, _⟩ := P4.out.law.c
        obtain ⟨_, v1, _, _, _⟩ := stc X4.out
        have u5 := kdd.cell (fun e => e) e5
        have u1 := kdd.cell (fun e => e) v1
        have FIN0 := hid (fun w6 (hd : DF x t wc w6 fr' ls') => P3.out.finT K1.out F1.out R1.out HN'.out hd (show n' ≤ j + 1 by have := HNC.out; omega))
        clear hdb hk1 hf1 hr1 hy1 kdd e5 v1 RFC
        go_wp2_with fail
        go_region_held3 (fun w' => w'.cell? ⟨lw, 5, none⟩ = some (.pointer (some ⟨x.b, 0, none⟩)) ∧ w'.cell? ⟨wr.heap.size, 1, none⟩ = some (.int .i64 od)) ((refine ⟨?_, ?_⟩ <;> first | with_reducible assumption)) (first
          | (go_at_call 10; (with_reducible refine PRD.out.mono ?_); rintro e w6 ⟨rfl, hd⟩; have D := hid (FIN0.out w6 hd.drew); have kb := hd.kp; have t1 := kb.cell (p := ⟨wr.heap.size, 1, none⟩) (fun e => absurd (LT.out _ (.inl e)) (Nat.lt_irrefl _)) u1; have Y6 := hid ((kb.block db (show db < wc.drew.heap.size from heap_lt Y1.out) (fun e => absurd (LT3.out _ (.inl e)) (Nat.not_lt.2 HDB.out))).trans Y1.out); obtain ⟨t6, hb6, hk6, _, _⟩ := hd.drew; have L6 := hid (P4.out.law.call hb6 hk6); clear hb6 hk6; obtain ⟨_, _, _, _, _, t5, _, _, _, _⟩ := L6.out.c; clear hd kb)
          | fail)
        as_aux_lemma =>
        clear u5 u1 t1 t5 PRD FIN0
        obtain ⟨⟨t', hP6⟩, hex⟩ := D.out
        have P6 := hid (show PW (Eb (.slice ta q tc)) wB ((((w6.setCell ⟨lw, 6, none⟩ (.int .i64 (x.o : Int))).setCell ⟨lw, 7, none⟩ (.int .i64 (t.m.n : Int))).setCell ⟨lw, 8, none⟩ (.slice fa1 (x.o + 1) fc1)).setCell ⟨lw, 9, none⟩ (.slice va1 n' vc1)) lw (j + 1) x t' fr' ls' fa1 fc1 va1 n' vc1 from hP6)
        have EX := hid (show ∀ y, Eb (.slice ta q tc) y → ((((w6.setCell ⟨lw, 6, none⟩ (.int .i64 (x.o : Int))).setCell ⟨lw, 7, none⟩ (.int .i64 (t.m.n : Int))).setCell ⟨lw, 8, none⟩ (.slice fa1 (x.o + 1) fc1)).setCell ⟨lw, 9, none⟩ (.slice va1 n' vc1)).heap[y]? = w3.heap[y]? from hex)
        have OKK := HB.out.ok
        obtain ⟨c0, c1, c2, c3, c4, c5, c6, c7, c8, c9⟩ := L6.out.c
        obtain ⟨y0, y1, y2, y3, fy⟩ := r5c Y6.out
        have fz := L6.out.fz
        have T6 := hid (show WL wB ((((w6.setCell ⟨lw, 6, none⟩ (.int .i64 (x.o : Int))).setCell ⟨lw, 7, none⟩ (.int .i64 (t.m.n : Int))).setCell ⟨lw, 8, none⟩ (.slice fa1 (x.o + 1) fc1)).setCell ⟨lw, 9, none⟩ (.slice va1 n' vc1)) (.slice ta q tc) xs from T3.out.kept P6.out.law.kp EX.out)
        clear hP6 hex D L6 K1 F1 R1 Y1 P4 X4 LT3 HDB Y6 HB
        go_upto_region 14 with fail
        generalize (((w6.setCell ⟨lw, 6, none⟩ (.int .i64 (x.o : Int))).setCell ⟨lw, 7, none⟩ (.int .i64 (t.m.n : Int))).setCell ⟨lw, 8, none⟩ (.slice fa1 (x.o + 1) fc1)).setCell ⟨lw, 9, none⟩ (.slice va1 n' vc1) = W6 at *
        clear c0 c1 c2 c3 c4 c5 c6 c7 c8 c9 y0 y1 y2 y3 fy fz
        rcases OKK with ⟨he0, hqa, hpg, hb⟩ | ⟨he0, he2, hqa, hpg⟩
        · as_aux_lemma =>
          subst he0
          obtain ⟨g, cap, w8, hap, hw8, hp8⟩ := P6.out.push T6.out HQ.out qa (by have := HQ.out; omega)
          have AT := hid (at_ok P6.out.law pg hpg hb)
          rw [← hqa] at AT
          have HAP := hid hap
          have D := hid (show PlI wB lw (j + 1) (q + 1) (some ⟨g, 0, none⟩) cap w8 from ⟨_, _, _, _, _, _, _, _, _, _, hp8, hw8, by rw [List.length_append, ← HQ.out]; rfl⟩)
          clear hap hw8 hp8 hqa hpg hb P6 T6
          go_wp2_with fail
          refine AT.out.mono ?_
          rintro e w7 ⟨rfl, h7⟩
          replace h7 := h7.symm
          subst h7
          go_wp2_with (at_builtin; refine Lib.wpList_append_run _ rfl _ _ _ _ rfl (.slice ta q tc) (.slice (some ⟨W6.heap.size, 0, none⟩) 1 1) rfl rfl _ _ (HAP.out _) ?_)
          go_roundg (400 - (j + 1))
          case measure => omega
          case rel => exact ⟨j + 1, q + 1, by omega, by omega, by omega, rfl, by simp, _, _, rfl, D⟩
        · as_aux_lemma =>
          subst hqa hpg
          have hei : ¬ (er : Int) = 0 := by omega
          have heb : ((er : Int) == 0) = false := beq_eq_false_iff_ne.2 hei
          have D := hid (show PlI wB lw (j + 1) q ta tc W6 from ⟨_, _, _, _, _, _, _, _, _, _, P6.out, T6.out, HQ.out⟩)
          clear P6 T6
          go_wp2_with fail
          go_roundg (400 - (j + 1))
          case measure => omega
          case rel => exact ⟨j + 1, q, by omega, by omega, by omega, rfl, by simp, _, _, rfl, D⟩
      · as_aux_lemma =>
        have h4b : (op == 4) = false := beq_eq_false_iff_ne.2 h4
        have SA := hid (step_any P3.out hn op od tt rf h4 sp a ha)
        go_wp2_with fail
        refine SA.out.mono ?_
        rintro e w4 ⟨x4, t4, fr4, ls4, fa4, fc4, va4, n4, vc4, rfl, hP4, hex⟩
        have D := hid (show PlI wB lw (j + 1) q ta tc w4 from ⟨_, _, _, _, _, _, _, _, _, xs, hP4, T3.out.kept hP4.law.kp hex, HQ.out⟩)
        clear hP4 hex s0 s1 s2 s3 s4 SA
        go_wp2_with fail
        go_roundg (400 - (j + 1))
        case measure => omega
        case rel => exact ⟨j + 1, q, by omega, by omega, by omega, rfl, by simp, _, _, rfl, D⟩
    · have hjx : j = m ∨ (j < m ∧ j = 400) := by omega
      have LK := hid (looks_x P0.out hn)
      have KF := hid (none_trans KB.out P0.out.law.kp)
      rcases hjx with rfl | ⟨h1, rfl⟩
      · as_aux_lemma =>
        have hji : ¬ (j : Int) < (j : Int) := by omega
        have hjb : decide ((j : Int) < (j : Int)) = false := decide_eq_false hji
        go_wp2_with fail
        refine LK.out.mono ?_
        rintro e w9 ⟨rfl, hk9⟩
        have D := hid (none_trans KF.out hk9)
        clear hk9
        go_wp2_with fail
        go_ret
        exact ⟨rfl, D.out⟩
      · as_aux_lemma =>
        have hji : (400 : Int) < (m : Int) := by omega
        have hjb : decide ((400 : Int) < (m : Int)) = true := decide_eq_true hji
        go_wp2_with fail
        refine LK.out.mono ?_
        rintro e w9 ⟨rfl, hk9⟩
        have D := hid (none_trans KF.out hk9)
        clear hk9
        go_wp2_with fail
        go_ret
        exact ⟨rfl, D.out⟩
end Go.Proofs.YthglogiglimebaaGreat
