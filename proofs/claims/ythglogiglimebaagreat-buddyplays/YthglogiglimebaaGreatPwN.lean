import Derived.Test.YthglogiglimebaaGreatPwJ
import Derived.Deep.DeepCutAuto
/- BuddyPlays: the step Give. -/
namespace Go.Proofs.YthglogiglimebaaGreat
open Go.RowKit
set_option linter.unusedVariables false

set_option maxRecDepth 4000 in
set_option maxHeartbeats 4000000 in
theorem step_give {E w W lw c x t fr ls fa fc va n vc} (h : PW E w W lw c x t fr ls fa fc va n vc) (hc : n ≤ 1000) (od tt rf : Int) (sp a : Nat) (ha : a < 18446744073709551616) :
    Calls Tryz.prog 12 #[.pointer (some ⟨lw, 0, none⟩), stV 5 od tt rf sp, .int .u64 (a : Int)] W fun e w' => StP E w W lw (c + 1) e w' := by
  obtain ⟨fr', ls', er, B⟩ := give_both h hc a ha od
  have hlen := B.ln
  have hnc := h.nc
  have K0 := (Kept.refl none' W).alloc (stO 5 od tt rf sp)
  have H0 := hid (h.keep K0)
  have HK0 := hid K0
  have X0 := hid (heap_new W (stO 5 od tt rf sp))
  have HB := hid B
  have HH := hid h
  obtain ⟨c0, c1, c2, c3, c4, c5, c6, c7, c8, c9⟩ := H0.out.law.c
  obtain ⟨s0, s1, s2, s3, s4⟩ := stc X0.out
  obtain ⟨n1, n2, n3, n4, _⟩ := h.nums
  have hst := h.st
  have hb64 : x.base + 4096 * t.m.n < 18446744073709551616 := by omega
  have PGE := hid (fun W' (k : Kept none' W W') => page_all (h.keep k).law n2 hb64 a ha)
  obtain ⟨n', hn'⟩ : ∃ n', n' = ls'.length := ⟨_, rfl⟩
  rw [← hn'] at hlen
  have HN' := hid hn'
  clear hst n1 n2 n3 n4 hb64 hn'
  clear h B K0
  go_enter Tryz.func12, Tryz.ntmps12
  go_upto_region 16 with fail
  generalize pgV x.base t.m.n a = pgv at *
  have RFC := hid (fun W1 (k1 : Kept none' W W1) => show Calls Tryz.prog 47 #[.agg #[.int .i64 (x.o : Int), .int .i64 (t.m.n : Int), .slice fa (x.o + 1) fc, .slice va n vc], .int .i64 pgv, .int .i64 od] W1 fun e w' => V5P W1 (x.o : Int) (t.m.n : Int) x.o fr' ls' er e w' from HB.out.rf W1 k1)
  have XB := hid (heap_lt X0.out)
  generalize W.alloc (stO 5 od tt rf sp) = V0 at *
  clear c0 c1 c2 c3 c4 c5 c6 c7 c8 c9 s0 s1 s2 s3 s4
  go_cut [12, 13] (fun sd se wx => ∃ db fa1 fc1 va1 vc1, sd = .pointer (some ⟨db, 0, none⟩) ∧ se = .int .i64 (er : Int) ∧ Kept none' W wx ∧ FL wx fa1 fc1 x.o fr' ∧ RN wx (.slice va1 n' vc1) ls' ∧ wx.heap[W.heap.size]? = some (stO 5 od tt rf sp) ∧ wx.heap[db]? = some (r5O (x.o : Int) (t.m.n : Int) (.slice fa1 (x.o + 1) fc1) (.slice va1 n' vc1)))
  case first => as_aux_lemma =>
    rename_i K hK J K2 hJ hM
    clear hK K
    have hxlw : W.heap.size ≠ lw := fun e => by
      have h1 := HH.out.law.box
      have := heap_lt h1
      omega
    have hxb := XB.out
    have KA := hid ((Kept.refl none' V0).drew)
    have KB := hid (((Kept.refl none' V0).alloc r5Z).drew)
    have HA := hid (H0.out.keep KA.out)
    have XA := hid ((KA.out.block _ (heap_lt X0.out) (fun e => e)).trans X0.out)
    have HBB := hid (H0.out.keep KB.out)
    have XBB := hid ((KB.out.block _ (heap_lt X0.out) (fun e => e)).trans X0.out)
    have ZBB := hid (show ((V0.alloc r5Z).drew).heap[V0.heap.size]? = some r5Z from heap_new V0 r5Z)
    have hlv := heap_lt H0.out.law.box
    obtain ⟨_, _, _, _, _, _, d6, d7, d8, d9⟩ := HA.out.law.c
    obtain ⟨_, d1, d2, _, _⟩ := stc XA.out
    obtain ⟨_, _, _, _, _, _, g6, g7, g8, g9⟩ := HBB.out.law.c
    obtain ⟨_, g1, g2, _, _⟩ := stc XBB.out
    go_region_held3 (fun w' => w'.cell? ⟨lw, 6, none⟩ = some (.int .i64 (x.o : Int)) ∧ w'.cell? ⟨lw, 7, none⟩ = some (.int .i64 (t.m.n : Int)) ∧ w'.cell? ⟨lw, 8, none⟩ = some (.slice fa (x.o + 1) fc) ∧ w'.cell? ⟨lw, 9, none⟩ = some (.slice va n vc) ∧ w'.cell? ⟨W.heap.size, 1, none⟩ = some (.int .i64 od)) ((refine ⟨?_, ?_, ?_, ?_, ?_⟩ <;> first | with_reducible assumption | with_reducible exact alloc_cellL (by with_reducible assumption) | with_reducible exact set4_cell (by with_reducible assumption) (by omega))) (first
      | (go_at_call 48; (with_reducible refine (PGE.out _ (none_trans HK0.out KA.out)).mono ?_); rintro e w0 ⟨rfl, hk0⟩; have G0 := hid (none_trans HK0.out (none_trans KA.out hk0)); have H00 := hid (HA.out.keep hk0); have X00 := hid ((hk0.block _ (heap_lt XA.out) (fun e => e)).trans XA.out); obtain ⟨_, _, _, _, _, _, p6, p7, p8, p9⟩ := H00.out.law.c; obtain ⟨_, p1, p2, _, _⟩ := stc X00.out; have hwz := heap_lt H00.out.law.box; have hwx := heap_lt X00.out; clear hk0)
      | (go_at_call 48; (with_reducible refine (PGE.out _ (none_trans HK0.out KB.out)).mono ?_); rintro e w0 ⟨rfl, hk0⟩; have G0 := hid (none_trans HK0.out (none_trans KB.out hk0)); have H00 := hid (HBB.out.keep hk0); have X00 := hid ((hk0.block _ (heap_lt XBB.out) (fun e => e)).trans XBB.out); have Z00 := hid ((hk0.block _ (heap_lt ZBB.out) (fun e => e)).trans ZBB.out); obtain ⟨_, _, _, _, _, _, p6, p7, p8, p9⟩ := H00.out.law.c; obtain ⟨_, p1, p2, _, _⟩ := stc X00.out; clear hk0)
      | (go_at_call 47; (with_reducible refine (RFC.out _ G0.out).mono ?_); rintro e w1 ⟨fa1, fc1, va1, vc1, rfl, hk1, hf1, hr1⟩; rw [← HN'.out] at hr1; have G1 := hid (none_trans G0.out hk1); have H10 := hid (H00.out.keep hk1); have X10 := hid ((hk1.block _ (heap_lt X00.out) (fun e => e)).trans X00.out); have F10 := hid hf1; have R10 := hid hr1; obtain ⟨_, _, _, _, _, _, q6, q7, q8, q9⟩ := H10.out.law.c; obtain ⟨_, q1, q2, _, _⟩ := stc X10.out; have Z10 := hid ((hk1.block _ (heap_lt Z00.out) (fun e => e)).trans Z00.out); obtain ⟨b0, b1, b2, b3, fb⟩ := r5c Z10.out; clear hk1 hf1 hr1)
      | (go_at_call 47; (with_reducible refine (RFC.out _ G0.out).mono ?_); rintro e w1 ⟨fa1, fc1, va1, vc1, rfl, hk1, hf1, hr1⟩; rw [← HN'.out] at hr1; have G1 := hid (none_trans G0.out hk1); have H10 := hid (H00.out.keep hk1); have X10 := hid ((hk1.block _ (heap_lt X00.out) (fun e => e)).trans X00.out); have F10 := hid hf1; have R10 := hid hr1; obtain ⟨_, _, _, _, _, _, q6, q7, q8, q9⟩ := H10.out.law.c; obtain ⟨_, q1, q2, _, _⟩ := stc X10.out; clear hk1 hf1 hr1)
      | (go_at_call 47; (with_reducible refine (RFC.out _ (G0.out.alloc r5Z)).mono ?_); rintro e w1 ⟨fa1, fc1, va1, vc1, rfl, hk1, hf1, hr1⟩; rw [← HN'.out] at hr1; have G1 := hid (none_trans (G0.out.alloc r5Z) hk1); have H10 := hid ((H00.out.keep ((Kept.refl none' w0).alloc r5Z)).keep hk1); have X10 := hid (((none_trans ((Kept.refl none' w0).alloc r5Z) hk1).block _ (heap_lt X00.out) (fun e => e)).trans X00.out); have F10 := hid hf1; have R10 := hid hr1; obtain ⟨_, _, _, _, _, _, q6, q7, q8, q9⟩ := H10.out.law.c; obtain ⟨_, q1, q2, _, _⟩ := stc X10.out; have Z10 := hid ((hk1.block _ (heap_lt (heap_new w0 r5Z)) (fun e => e)).trans (heap_new w0 r5Z)); obtain ⟨b0, b1, b2, b3, fb⟩ := r5c Z10.out; clear hk1 hf1 hr1)
      | fail)
    · have ka := (Kept.refl none' w1).alloc (r5O (x.o : Int) (t.m.n : Int) (.slice fa1 (x.o + 1) fc1) (.slice va1 n' vc1))
      have K1 := hid (none_trans G1.out ka)
      have F1 := hid (F10.out.keep ka)
      have R1 := hid (R10.out.keep ka)
      have X1 := hid ((ka.block _ (heap_lt X10.out) (fun e => e)).trans X10.out)
      have Y1 := hid (heap_new w1 (r5O (x.o : Int) (t.m.n : Int) (.slice fa1 (x.o + 1) fc1) (.slice va1 n' vc1)))
      clear d6 d7 d8 d9 d1 d2 g6 g7 g8 g9 g1 g2 p6 p7 p8 p9 p1 p2 q6 q7 q8 q9 q1 q2 ka
      rw [← HN'.out]
      go_wp2_with fail
      go_meet
      case rel => exact ⟨_, _, _, _, _, rfl, rfl, K1.out, F1.out, R1.out, X1.out, Y1.out⟩
    · have hdb : W.heap.size < w0.heap.size := by omega
      have ks := set4_k w1 w0.heap.size (.int .i64 (x.o : Int)) (.int .i64 (t.m.n : Int)) (.slice fa1 (x.o + 1) fc1) (.slice va1 n' vc1)
      have K1 := hid (show Kept none' W ((((w1.setCell ⟨w0.heap.size, 0, none⟩ (.int .i64 (x.o : Int))).setCell ⟨w0.heap.size, 1, none⟩ (.int .i64 (t.m.n : Int))).setCell ⟨w0.heap.size, 2, none⟩ (.slice fa1 (x.o + 1) fc1)).setCell ⟨w0.heap.size, 3, none⟩ (.slice va1 n' vc1)) from G1.out.trans ks (fun _ _ e => e) (fun y hy e => by have e : y = w0.heap.size := e; omega))
      have F1 := hid (show FL ((((w1.setCell ⟨w0.heap.size, 0, none⟩ (.int .i64 (x.o : Int))).setCell ⟨w0.heap.size, 1, none⟩ (.int .i64 (t.m.n : Int))).setCell ⟨w0.heap.size, 2, none⟩ (.slice fa1 (x.o + 1) fc1)).setCell ⟨w0.heap.size, 3, none⟩ (.slice va1 n' vc1)) fa1 fc1 x.o fr' from F10.out.set4 Z10.out _ _ _ _)
      have R1 := hid (show RN ((((w1.setCell ⟨w0.heap.size, 0, none⟩ (.int .i64 (x.o : Int))).setCell ⟨w0.heap.size, 1, none⟩ (.int .i64 (t.m.n : Int))).setCell ⟨w0.heap.size, 2, none⟩ (.slice fa1 (x.o + 1) fc1)).setCell ⟨w0.heap.size, 3, none⟩ (.slice va1 n' vc1)) (.slice va1 n' vc1) ls' from RN.set4 R10.out Z10.out _ _ _ _)
      have X1 := hid (show ((((w1.setCell ⟨w0.heap.size, 0, none⟩ (.int .i64 (x.o : Int))).setCell ⟨w0.heap.size, 1, none⟩ (.int .i64 (t.m.n : Int))).setCell ⟨w0.heap.size, 2, none⟩ (.slice fa1 (x.o + 1) fc1)).setCell ⟨w0.heap.size, 3, none⟩ (.slice va1 n' vc1)).heap[W.heap.size]? = some (stO 5 od tt rf sp) from (ks.block _ (heap_lt X10.out) (by omega)).trans X10.out)
      have Y1 := hid (show ((((w1.setCell ⟨w0.heap.size, 0, none⟩ (.int .i64 (x.o : Int))).setCell ⟨w0.heap.size, 1, none⟩ (.int .i64 (t.m.n : Int))).setCell ⟨w0.heap.size, 2, none⟩ (.slice fa1 (x.o + 1) fc1)).setCell ⟨w0.heap.size, 3, none⟩ (.slice va1 n' vc1)).heap[w0.heap.size]? = some (r5O (x.o : Int) (t.m.n : Int) (.slice fa1 (x.o + 1) fc1) (.slice va1 n' vc1)) from set4_box Z10.out _ _ _ _)
      clear d6 d7 d8 d9 d1 d2 g6 g7 g8 g9 g1 g2 p6 p7 p8 p9 p1 p2 q6 q7 q8 q9 q1 q2 ks b0 b1 b2 b3 fb
      rw [← HN'.out]
      go_wp2_with fail
      go_meet
      case rel => exact ⟨_, _, _, _, _, rfl, rfl, K1.out, F1.out, R1.out, X1.out, Y1.out⟩
    · have hdb : W.heap.size < V0.heap.size := by omega
      have ks := set4_k w1 V0.heap.size (.int .i64 (x.o : Int)) (.int .i64 (t.m.n : Int)) (.slice fa1 (x.o + 1) fc1) (.slice va1 n' vc1)
      have K1 := hid (show Kept none' W ((((w1.setCell ⟨V0.heap.size, 0, none⟩ (.int .i64 (x.o : Int))).setCell ⟨V0.heap.size, 1, none⟩ (.int .i64 (t.m.n : Int))).setCell ⟨V0.heap.size, 2, none⟩ (.slice fa1 (x.o + 1) fc1)).setCell ⟨V0.heap.size, 3, none⟩ (.slice va1 n' vc1)) from G1.out.trans ks (fun _ _ e => e) (fun y hy e => by have e : y = V0.heap.size := e; omega))
      have F1 := hid (show FL ((((w1.setCell ⟨V0.heap.size, 0, none⟩ (.int .i64 (x.o : Int))).setCell ⟨V0.heap.size, 1, none⟩ (.int .i64 (t.m.n : Int))).setCell ⟨V0.heap.size, 2, none⟩ (.slice fa1 (x.o + 1) fc1)).setCell ⟨V0.heap.size, 3, none⟩ (.slice va1 n' vc1)) fa1 fc1 x.o fr' from F10.out.set4 Z10.out _ _ _ _)
      have R1 := hid (show RN ((((w1.setCell ⟨V0.heap.size, 0, none⟩ (.int .i64 (x.o : Int))).setCell ⟨V0.heap.size, 1, none⟩ (.int .i64 (t.m.n : Int))).setCell ⟨V0.heap.size, 2, none⟩ (.slice fa1 (x.o + 1) fc1)).setCell ⟨V0.heap.size, 3, none⟩ (.slice va1 n' vc1)) (.slice va1 n' vc1) ls' from RN.set4 R10.out Z10.out _ _ _ _)
      have X1 := hid (show ((((w1.setCell ⟨V0.heap.size, 0, none⟩ (.int .i64 (x.o : Int))).setCell ⟨V0.heap.size, 1, none⟩ (.int .i64 (t.m.n : Int))).setCell ⟨V0.heap.size, 2, none⟩ (.slice fa1 (x.o + 1) fc1)).setCell ⟨V0.heap.size, 3, none⟩ (.slice va1 n' vc1)).heap[W.heap.size]? = some (stO 5 od tt rf sp) from (ks.block _ (heap_lt X10.out) (by omega)).trans X10.out)
      have Y1 := hid (show ((((w1.setCell ⟨V0.heap.size, 0, none⟩ (.int .i64 (x.o : Int))).setCell ⟨V0.heap.size, 1, none⟩ (.int .i64 (t.m.n : Int))).setCell ⟨V0.heap.size, 2, none⟩ (.slice fa1 (x.o + 1) fc1)).setCell ⟨V0.heap.size, 3, none⟩ (.slice va1 n' vc1)).heap[V0.heap.size]? = some (r5O (x.o : Int) (t.m.n : Int) (.slice fa1 (x.o + 1) fc1) (.slice va1 n' vc1)) from set4_box Z10.out _ _ _ _)
      clear d6 d7 d8 d9 d1 d2 g6 g7 g8 g9 g1 g2 p6 p7 p8 p9 p1 p2 q6 q7 q8 q9 q1 q2 ks b0 b1 b2 b3 fb
      rw [← HN'.out]
      go_wp2_with fail
      go_meet
      case rel => exact ⟨_, _, _, _, _, rfl, rfl, K1.out, F1.out, R1.out, X1.out, Y1.out⟩
  case rest =>
  obtain ⟨db, fa1, fc1, va1, vc1, rfl, rfl, hk1, hf1, hr1, hx1, hy1⟩ := hcut
  have K1 := hid hk1
  have F1 := hid hf1
  have R1 := hid hr1
  have X1 := hid hx1
  have Y1 := hid hy1
  clear hk1 hf1 hr1 hx1 hy1 RFC PGE
  have H1 := hid (HH.out.keep K1.out)
  have L2 := hid (show LW w ((((wc.setCell ⟨lw, 6, none⟩ (.int .i64 (x.o : Int))).setCell ⟨lw, 7, none⟩ (.int .i64 (t.m.n : Int))).setCell ⟨lw, 8, none⟩ (.slice fa1 (x.o + 1) fc1)).setCell ⟨lw, 9, none⟩ (.slice va1 n' vc1)) lw x t t.m.n (.slice fa1 (x.o + 1) fc1) (.slice va1 n' vc1) from H1.out.law.doc t.m.n (.slice fa1 (x.o + 1) fc1) (.slice va1 n' vc1))
  obtain ⟨c0, c1, c2, c3, c4, c5, c6, c7, c8, c9⟩ := H1.out.law.c
  obtain ⟨y0, y1, y2, y3, fy⟩ := r5c Y1.out
  have fz := H1.out.law.fz
  have XD := hid (show ((((wc.setCell ⟨lw, 6, none⟩ (.int .i64 (x.o : Int))).setCell ⟨lw, 7, none⟩ (.int .i64 (t.m.n : Int))).setCell ⟨lw, 8, none⟩ (.slice fa1 (x.o + 1) fc1)).setCell ⟨lw, 9, none⟩ (.slice va1 n' vc1)).heap[W.heap.size]? = some (stO 5 od tt rf sp) from ((doc4_k wc lw (x.o : Int) (t.m.n : Int) (.slice fa1 (x.o + 1) fc1) (.slice va1 n' vc1)).block _ (heap_lt X1.out) (fun e => absurd (ty_ne' (e ▸ X1.out) H1.out.law.box) (by decide))).trans X1.out)
  have FIN0 := hid (show ∀ w3, DF x t ((((wc.setCell ⟨lw, 6, none⟩ (.int .i64 (x.o : Int))).setCell ⟨lw, 7, none⟩ (.int .i64 (t.m.n : Int))).setCell ⟨lw, 8, none⟩ (.slice fa1 (x.o + 1) fc1)).setCell ⟨lw, 9, none⟩ (.slice va1 n' vc1)) w3 fr' ls' → _ from fun w3 hd => HH.out.fin K1.out F1.out R1.out HN'.out hd (by omega))
  have LTH := hid HH.out.law.lt
  clear K1 F1 R1
  go_wp2_with fail
  generalize (((wc.setCell ⟨lw, 6, none⟩ (.int .i64 (x.o : Int))).setCell ⟨lw, 7, none⟩ (.int .i64 (t.m.n : Int))).setCell ⟨lw, 8, none⟩ (.slice fa1 (x.o + 1) fc1)).setCell ⟨lw, 9, none⟩ (.slice va1 n' vc1) = wy at *
  clear c0 c1 c2 c3 c4 c5 c6 c7 c8 c9 y0 y1 y2 y3 fy fz
  have kdd := (Kept.refl none' wy).drew
  have PRD := hid (show Calls Tryz.prog 18 #[.pointer (some ⟨x.b, 0, none⟩), .int .u64 (a : Int), .int .i64 od] wy.drew fun e w' => e = .returned (.int .i64 (er : Int)) ∧ DF x t wy.drew w' fr' ls' from HB.out.pr _ (L2.out.bd.keep kdd))
  obtain ⟨_, _, _, _, _, e5, _, _, _, _⟩ := L2.out.c
  obtain ⟨_, v1, v2, _, _⟩ := stc XD.out
  have u5 := kdd.cell (fun e => e) e5
  have u1 := kdd.cell (fun e => e) v1
  have u2 := kdd.cell (fun e => e) v2
  clear kdd e5 v1 v2
  go_region_held3 (fun w' => w'.cell? ⟨lw, 5, none⟩ = some (.pointer (some ⟨x.b, 0, none⟩)) ∧ w'.cell? ⟨W.heap.size, 1, none⟩ = some (.int .i64 od) ∧ w'.cell? ⟨W.heap.size, 2, none⟩ = some (.int .i64 tt)) ((refine ⟨?_, ?_, ?_⟩ <;> first | with_reducible assumption)) (first
    | (go_at_call 18; (with_reducible refine PRD.out.mono ?_); rintro e w3 ⟨rfl, hd⟩; have D := hid (FIN0.out w3 hd.drew); have kb := hd.kp; have t1 := kb.cell (p := ⟨W.heap.size, 1, none⟩) (fun e => absurd (LTH.out _ (.inl e)) (Nat.lt_irrefl _)) u1; have t2 := kb.cell (p := ⟨W.heap.size, 2, none⟩) (fun e => absurd (LTH.out _ (.inl e)) (Nat.lt_irrefl _)) u2; obtain ⟨⟨t5, hp5⟩, _⟩ := D.out; obtain ⟨_, _, _, _, _, t50, _, _, _, _⟩ := hp5.law.c; clear hd kb hp5)
    | fail)
  all_goals
    clear u5 u1 u2 t1 t2 t50 PRD FIN0 LTH
    go_wp2_with fail
    go_ret
    obtain ⟨⟨t', hp⟩, hex⟩ := D.out
    exact ⟨_, _, _, _, _, _, _, _, _, rfl, hp, hex⟩
end Go.Proofs.YthglogiglimebaaGreat
