import Derived.Test.YthglogiglimebaaGreatQh
import Derived.Deep.RegionHeld3
/- BuddyPlays: the steps Feed, Pull, Give, Shrink. -/
namespace Go.Proofs.YthglogiglimebaaGreat
open Go.RowKit
set_option linter.unusedVariables false

theorem stc {W : World} {b : Nat} {op od tt rf : Int} {p : Nat} (h : W.heap[b]? = some (stO op od tt rf p)) : W.cell? ⟨b, 0, none⟩ = some (.int .i64 op) ∧ W.cell? ⟨b, 1, none⟩ = some (.int .i64 od) ∧ W.cell? ⟨b, 2, none⟩ = some (.int .i64 tt) ∧ W.cell? ⟨b, 3, none⟩ = some (.int .i64 rf) ∧ W.cell? ⟨b, 4, none⟩ = some (.int .u64 (p : Int)) := by
  refine ⟨?_, ?_, ?_, ?_, ?_⟩ <;> simp [World.cell?, h]
theorem DF.drew {x t w w' fr ls} (h : DF x t (World.drew w) w' fr ls) : DF x t w w' fr ls := by
  obtain ⟨t', h1, h2, h3, h4⟩ := h
  exact ⟨t', h1, ((Kept.refl none' w).drew).trans h2 (fun _ _ e => e.elim) (fun _ _ e => e), h3, h4⟩
theorem DF.kp {x t w w' fr ls} (h : DF x t w w' fr ls) : Kept (bown x) w w' := by
  obtain ⟨t', h1, h2, h3, h4⟩ := h
  exact h2
set_option maxRecDepth 4000 in
set_option maxHeartbeats 4000000 in
theorem step_feed {E w W lw c x t fr ls fa fc va n vc} (h : PW E w W lw c x t fr ls fa fc va n vc) (hc : n ≤ 1000) (od tt rf : Int) (sp a : Nat) (ha : a < 18446744073709551616) :
    Calls Tryz.prog 12 #[.pointer (some ⟨lw, 0, none⟩), stV 1 od tt rf sp, .int .u64 (a : Int)] W fun e w' => StP E w W lw (c + 1) e w' := by
  obtain ⟨fr', ls', er, B⟩ := feed_both h hc
  have hlen := B.ln
  have hnc := h.nc
  have K0 := (Kept.refl none' W).alloc (stO 1 od tt rf sp)
  have H0 := hid (h.keep K0)
  have HK0 := hid K0
  have X0 := hid (heap_new W (stO 1 od tt rf sp))
  have HB := hid B
  have HH := hid h
  obtain ⟨c0, c1, c2, c3, c4, c5, c6, c7, c8, c9⟩ := H0.out.law.c
  obtain ⟨s0, s1, s2, s3, s4⟩ := stc X0.out
  clear h B K0
  go_enter Tryz.func12, Tryz.ntmps12
  go_wp2_with fail
  refine (HB.out.rf _ HK0.out).mono ?_
  rintro e w1 ⟨fa1, fc1, va1, vc1, rfl, hk1, hf1, hr1⟩
  obtain ⟨n', hn'⟩ : ∃ n', n' = ls'.length := ⟨_, rfl⟩
  rw [← hn'] at hr1 hlen ⊢
  have ka := (Kept.refl none' w1).alloc (r5O (x.o : Int) (t.m.n : Int) (.slice fa1 (x.o + 1) fc1) (.slice va1 n' vc1))
  have H1 := hid ((H0.out.keep hk1).keep ka)
  have F1 := hid (hf1.keep ka)
  have R1 := hid (hr1.keep ka)
  have K1 := hid (none_trans (none_trans HK0.out hk1) ka)
  have X1 := hid ((ka.block _ (Nat.lt_of_lt_of_le (heap_lt X0.out) hk1.size) (fun e => e)).trans ((hk1.block _ (heap_lt X0.out) (fun e => e)).trans X0.out))
  have HN' := hid hn'
  have Y1 := hid (heap_new w1 (r5O (x.o : Int) (t.m.n : Int) (.slice fa1 (x.o + 1) fc1) (.slice va1 n' vc1)))
  have PRB := hid (HB.out.pr _ (H1.out.law.doc t.m.n (.slice fa1 (x.o + 1) fc1) (.slice va1 n' vc1)).bd)
  have L2 := hid (H1.out.law.doc t.m.n (.slice fa1 (x.o + 1) fc1) (.slice va1 n' vc1))
  clear hk1 hf1 hr1 ka c0 c1 c2 c3 c4 c5 c6 c7 c8 c9 s0 s1 s2 s3 s4 hn'
  obtain ⟨c0, c1, c2, c3, c4, c5, c6, c7, c8, c9⟩ := H1.out.law.c
  obtain ⟨s0, s1, s2, s3, s4⟩ := stc X1.out
  obtain ⟨y0, y1, y2, y3, fy⟩ := r5c Y1.out
  have fz := H1.out.law.fz
  obtain ⟨e0, e1, e2, e3, e4, e5, e6, e7, e8, e9⟩ := L2.out.c
  have XD := hid ((doc4_k (w1.alloc (r5O (x.o : Int) (t.m.n : Int) (.slice fa1 (x.o + 1) fc1) (.slice va1 n' vc1))) lw (x.o : Int) (t.m.n : Int) (.slice fa1 (x.o + 1) fc1) (.slice va1 n' vc1)).block _ (heap_lt X1.out) (fun e => absurd (ty_ne' (e ▸ X1.out) H1.out.law.box) (by decide)))
  obtain ⟨v0, v1, v2, v3, v4⟩ := stc (XD.out.trans X1.out)
  go_wp2_with fail
  refine PRB.out.mono ?_
  rintro e w3 ⟨rfl, hd⟩
  have D := hid (HH.out.fin K1.out F1.out R1.out HN'.out hd (by omega))
  clear hd PRB c0 c1 c2 c3 c4 c5 c6 c7 c8 c9 s0 s1 s2 s3 s4 y0 y1 y2 y3 fy fz e0 e1 e2 e3 e4 e5 e6 e7 e8 e9 v0 v1 v2 v3 v4
  go_wp2_with fail
  go_ret
  obtain ⟨⟨t', hp⟩, hex⟩ := D.out
  exact ⟨_, _, _, _, _, _, _, _, _, rfl, hp, hex⟩
set_option maxRecDepth 4000 in
set_option maxHeartbeats 4000000 in
theorem step_pull {E w W lw c x t fr ls fa fc va n vc} (h : PW E w W lw c x t fr ls fa fc va n vc) (hc : n ≤ 1000) (od tt rf : Int) (sp a : Nat) (ha : a < 18446744073709551616) :
    Calls Tryz.prog 12 #[.pointer (some ⟨lw, 0, none⟩), stV 2 od tt rf sp, .int .u64 (a : Int)] W fun e w' => StP E w W lw (c + 1) e w' := by
  obtain ⟨fr', ls', er, B⟩ := pull_both h hc
  have hlen := B.ln
  have hnc := h.nc
  have K0 := (Kept.refl none' W).alloc (stO 2 od tt rf sp)
  have H0 := hid (h.keep K0)
  have HK0 := hid K0
  have X0 := hid (heap_new W (stO 2 od tt rf sp))
  have HB := hid B
  have HH := hid h
  obtain ⟨c0, c1, c2, c3, c4, c5, c6, c7, c8, c9⟩ := H0.out.law.c
  obtain ⟨s0, s1, s2, s3, s4⟩ := stc X0.out
  clear h B K0
  go_enter Tryz.func12, Tryz.ntmps12
  go_wp2_with fail
  refine (HB.out.rf _ HK0.out).mono ?_
  rintro e w1 ⟨fa1, fc1, va1, vc1, rfl, hk1, hf1, hr1⟩
  obtain ⟨n', hn'⟩ : ∃ n', n' = ls'.length := ⟨_, rfl⟩
  rw [← hn'] at hr1 hlen ⊢
  have ka := (Kept.refl none' w1).alloc (r5O (x.o : Int) (t.m.n : Int) (.slice fa1 (x.o + 1) fc1) (.slice va1 n' vc1))
  have H1 := hid ((H0.out.keep hk1).keep ka)
  have F1 := hid (hf1.keep ka)
  have R1 := hid (hr1.keep ka)
  have K1 := hid (none_trans (none_trans HK0.out hk1) ka)
  have X1 := hid ((ka.block _ (Nat.lt_of_lt_of_le (heap_lt X0.out) hk1.size) (fun e => e)).trans ((hk1.block _ (heap_lt X0.out) (fun e => e)).trans X0.out))
  have HN' := hid hn'
  have Y1 := hid (heap_new w1 (r5O (x.o : Int) (t.m.n : Int) (.slice fa1 (x.o + 1) fc1) (.slice va1 n' vc1)))
  have PRB := hid (HB.out.pr _ (H1.out.law.doc t.m.n (.slice fa1 (x.o + 1) fc1) (.slice va1 n' vc1)).bd)
  have L2 := hid (H1.out.law.doc t.m.n (.slice fa1 (x.o + 1) fc1) (.slice va1 n' vc1))
  clear hk1 hf1 hr1 ka c0 c1 c2 c3 c4 c5 c6 c7 c8 c9 s0 s1 s2 s3 s4 hn'
  obtain ⟨c0, c1, c2, c3, c4, c5, c6, c7, c8, c9⟩ := H1.out.law.c
  obtain ⟨s0, s1, s2, s3, s4⟩ := stc X1.out
  obtain ⟨y0, y1, y2, y3, fy⟩ := r5c Y1.out
  have fz := H1.out.law.fz
  obtain ⟨e0, e1, e2, e3, e4, e5, e6, e7, e8, e9⟩ := L2.out.c
  have XD := hid ((doc4_k (w1.alloc (r5O (x.o : Int) (t.m.n : Int) (.slice fa1 (x.o + 1) fc1) (.slice va1 n' vc1))) lw (x.o : Int) (t.m.n : Int) (.slice fa1 (x.o + 1) fc1) (.slice va1 n' vc1)).block _ (heap_lt X1.out) (fun e => absurd (ty_ne' (e ▸ X1.out) H1.out.law.box) (by decide)))
  obtain ⟨v0, v1, v2, v3, v4⟩ := stc (XD.out.trans X1.out)
  go_wp2_with fail
  refine PRB.out.mono ?_
  rintro e w3 ⟨rfl, hd⟩
  have D := hid (HH.out.fin K1.out F1.out R1.out HN'.out hd (by omega))
  clear hd PRB c0 c1 c2 c3 c4 c5 c6 c7 c8 c9 s0 s1 s2 s3 s4 y0 y1 y2 y3 fy fz e0 e1 e2 e3 e4 e5 e6 e7 e8 e9 v0 v1 v2 v3 v4
  go_wp2_with fail
  go_ret
  obtain ⟨⟨t', hp⟩, hex⟩ := D.out
  exact ⟨_, _, _, _, _, _, _, _, _, rfl, hp, hex⟩
end Go.Proofs.YthglogiglimebaaGreat
