import Derived.Test.YthglogiglimebaaDoT0
import Derived.Test.YthglogiglimebaaDoT1
import Derived.Test.YthglogiglimebaaDoT2
import Derived.Test.YthglogiglimebaaDoG3
import Derived.Test.YthglogiglimebaaDoG4
import Derived.Test.YthglogiglimebaaDoS5
import Derived.Test.YthglogiglimebaaDoC6
import Derived.Test.YthglogiglimebaaDoP7
import Derived.Test.YthglogiglimebaaKnD
import Derived.Test.YthglogiglimebaaDee
import Derived.Deep.RegionHeld3
/- BuddyExactly: a deed, whatever it is; the walk. -/
namespace Go.Proofs.Ythglogiglimebaa
open Go.RowKit
set_option linter.unusedVariables false

theorem do_any {E w W lw c x t fa fl fc ra nv rc va n vc R} (h : BW E w W lw c x t fa fl fc ra nv rc va n vc R) (hc : c ≤ 300) (op od wh : Int) (hod : N64 od) (hwh : N64 wh) :
    Calls Try.prog 16 #[.pointer (some ⟨lw, 0, none⟩), .agg #[.slice va n vc], .agg #[.int .i64 op, .int .i64 od, .int .i64 wh]] W fun e w' => DoP E w lw (c + 1) e w' := by
  by_cases p0 : op = 0
  · exact do_take0 h hc op p0 od wh hod.1 hod.2 hwh.1 hwh.2
  by_cases p1 : op = 1
  · exact do_take1 h hc op p1 od wh hod.1 hod.2 hwh.1 hwh.2
  by_cases p2 : op = 2
  · exact do_take2 h hc op p2 od wh hod.1 hod.2 hwh.1 hwh.2
  by_cases p3 : op = 3
  · exact do_give3 h hc op p3 od wh hod.1 hod.2 hwh.1 hwh.2
  by_cases p4 : op = 4
  · exact do_give4 h hc op p4 od wh hod.1 hod.2 hwh.1 hwh.2
  by_cases p5 : op = 5
  · exact do_shrink h hc op p5 od wh hod.1 hod.2 hwh.1 hwh.2
  by_cases p6 : op = 6
  · exact do_come h hc op p6 od wh hod.1 hod.2 hwh.1 hwh.2
  exact do_pull h hc op ⟨p0, p1, p2, p3, p4, p5, p6⟩ od wh hod.1 hod.2 hwh.1 hwh.2
set_option maxRecDepth 4000 in
/-- A world that begins. -/
theorem beg_wb {E : Nat → Value → Prop} {w W lw x fa fl fc} (o : Nat) (h : LW w W lw x ⟨fun _ => 0, newM o, fun _ => 0⟩ 0 (.slice fa fl fc) (.slice none 0 0)) (hn : x.n = 0) (ho : x.o = o) (hb : x.base % 4096 = 0) (hE : ∀ y v, E y v → W.heap[y]? = some (.cells #[v] 50)) : Wb E w W lw 0 x ⟨fun _ => 0, newM o, fun _ => 0⟩ fa fl fc none 0 0 (fun _ _ => False) := by
  subst ho
  have hc := h.bd.sp.cfg
  have hbe := hc.be
  have h63 : x.base + x.n ≤ 9223372036854775808 := by
    rw [hn, Nat.add_zero]
    exact Nat.le_trans (Nat.le_add_right _ _) hbe
  exact ⟨h, RL.nil W, Sn.new x _ h.bd.o8 hc.b1 h63, by rw [hn]; exact Nat.zero_mul 4096, Nat.zero_le _, hb, hE⟩
theorem BW.re {E E' : Nat → Value → Prop} {w W lw c x t fa fl fc ra nv rc va n vc R} (h : BW E w W lw c x t fa fl fc ra nv rc va n vc R) (hE : ∀ y v, E' y v → W.heap[y]? = some (.cells #[v] 50)) : BW E' w W lw c x t fa fl fc ra nv rc va n vc R :=
  ⟨⟨h.wb.lw, h.wb.rl, h.wb.sn, h.wb.st, h.wb.nc, h.wb.bm, hE⟩, h.inj, h.bk, h.nc⟩
theorem bk1 {W : World} {b : Nat} {v : Value} (h : W.heap[b]? = some (.cells #[v] 50)) : W.cell? ⟨b, 0, none⟩ = some v ∧ W.frozen? ⟨b, 0, none⟩ = false := by
  constructor
  · simp only [World.cell?, h]; rfl
  · simp only [World.frozen?, h]; rfl
/-- Between two deeds: the law's world, its book in a box. -/
def ExI (w : World) (lw kb c : Nat) (W : World) : Prop := ∃ x t fa fl fc ra nv rc va n vc R, BW (fun y v => y = kb ∧ v = .slice va n vc) w W lw c x t fa fl fc ra nv rc va n vc R ∧ w.heap.size ≤ kb
set_option maxRecDepth 4000 in
set_option maxHeartbeats 4000000 in
theorem exactly_any (b0 : Nat) (hb64 : b0 < 18446744073709551616) (l0 o0 : Int) (l1 : -9223372036854775808 ≤ l0) (l2 : l0 ≤ 9223372036854775807) (o1 : -9223372036854775808 ≤ o0) (o2 : o0 ≤ 9223372036854775807) (sv : Value) (m : Nat) (w : World) (hS : DeedsIn w sv m) :
    Calls Try.prog 4 #[cfgV b0 l0 o0, sv] w fun e w' => e = .returned (.bool true) ∧ Kept none' w w' := by
  have HS := hid hS
  obtain ⟨hm, oa, oc, hsv, _⟩ := hS
  subst hsv
  have BG := hid (fun W => begin_any b0 hb64 l0 o0 l1 l2 o1 o2 W)
  go_enter Try.func4, Try.ntmps4
  go_wp2_with fail
  have KB := hid ((Kept.refl none' w).alloc (cfgO b0 l0 o0))
  generalize w.alloc (cfgO b0 l0 o0) = wB at *
  refine (BG.out _).mono ?_
  rintro e w1 ⟨base, lim, o, hbm, lw, x, fa, fc, rfl, hL, e1, e2, e3, e4, e5⟩
  have W1 := hid (beg_wb (E := fun _ _ => False) o hL e4 e5 (by rw [e1]; exact hbm) (fun _ _ e => e.elim))
  clear hL BG
  go_wp2_with fail
  refine (lives_ok _).mono ?_
  rintro e w2 ⟨rfl, hk⟩
  have W2 := hid (W1.out.keep hk)
  clear hk W1
  have CM := hid (come_any lw x _ 0 fa (o + 1) fc none 0 0 (by omega) _ w2 W2.out.lw W2.out.rl ⟨0, by omega, by have := W2.out.lw.bd.sp.cfg.l1; omega⟩ W2.out.st rfl (by
    have h1 := W2.out.lw.bd.o8
    have h2 : 2 ^ x.o ≤ 2 ^ 8 := Nat.pow_le_pow_right (by decide) h1
    show 0 + 2 ^ x.o ≤ 1024
    omega))
  go_wp2_with fail
  refine CM.out.mono ?_
  rintro e w3 hq
  obtain ⟨he, x3, t3, ra3, rc3, hwb3, hk3, f1, f2, f3, f4, f5, f6, f7⟩ := W2.out.come (by
    have h1 := W2.out.lw.bd.sp.cfg.l1
    have h2 : 1 * x.R ≤ x.lim * x.R := Nat.mul_le_mul_right _ h1
    omega) hq
  subst he
  have W3 := hid hwb3
  have FD := hid (Feed_sn x3 t3 _ hwb3.sn f5 (.inr ⟨f4, f1⟩) w3 hwb3.lw.bd)
  have F4 := hid f4
  clear hq hk3 f2 f3 f5 f6 f7 CM W2 hwb3 f4
  obtain ⟨c0, c1, c2, c3, c4, c5, c6, c7, c8, c9⟩ := W3.out.lw.c
  go_wp2_with fail
  refine FD.out.mono ?_
  rintro e w4 ⟨rfl, hd⟩
  obtain ⟨t4, hwb4, hk4, hn4⟩ := W3.out.done hd
  have B4 := hid (show BW (fun _ _ => False) _ w4 lw 1 x3 t4 fa (o + 1) fc ra3 1 rc3 none 0 0 (fun _ => ⟨0, 0, 0⟩) from ⟨⟨hwb4.lw, hwb4.rl, hwb4.sn.congr fun q i => ⟨fun e => by
    obtain ⟨h1 | h1, h2⟩ := e
    · exact h1.elim
    · exact absurd ⟨h1.1.trans F4.out.symm, h1.2.trans f1.symm⟩ h2, fun e => by
    obtain ⟨j, hj, _⟩ := e
    omega⟩, hwb4.st, hwb4.nc, hwb4.bm, hwb4.ex⟩, Inj.nil _, World.ownsRow_nil _ _ _ _, by omega⟩)
  clear hd hwb4 hk4 hn4 FD W3 c0 c1 c2 c3 c4 c5 c6 c7 c8 c9
  go_wp2_with fail
  have I0 := hid (show ExI wB lw w4.heap.size 1 (w4.alloc (.cells #[.slice none 0 0] 50)) from ⟨x3, t4, fa, o + 1, fc, ra3, 1, rc3, none, 0, 0, fun _ => ⟨0, 0, 0⟩, (B4.out.keep ((Kept.refl none' w4).alloc _)).re (fun y v e => by
    obtain ⟨rfl, rfl⟩ := e
    exact heap_new w4 _), B4.out.wb.lw.kp.size⟩)
  generalize w4.alloc (.cells #[.slice none 0 0] 50) = W4 at *
  generalize w4.heap.size = kb at *
  clear B4 F4
  go_loopw [7] (fun i W => ∃ j : Nat, j ≤ m ∧ j ≤ 300 ∧ i = .int .i64 j ∧ Hid (ExI wB lw kb (j + 1) W)) (fun i _ => m - (intOf i).toNat)
  case atStart => exact ⟨0, by omega, by omega, rfl, I0⟩
  case round =>
    clear I0
    obtain ⟨j, hj, hj3, rfl, hI⟩ := hrel
    obtain ⟨x, t, fa, fl, fc, ra, nv, rc, va, n, vc, R, hB, hkb⟩ := hI.out
    have HB := hid hB
    have KW := hid (none_trans KB.out hB.wb.lw.kp)
    have HKB := hid hkb
    clear hB hkb hI
    by_cases hlt : j < m
    · have hji : (j : Int) < (m : Int) := by omega
      by_cases hl3 : j < 300
      · have hj3i : (j : Int) < 300 := by omega
        obtain ⟨_, oa', oc', hsv, hd⟩ := HS.out
        injection hsv with ha hb hc
        subst ha hc
        obtain hd | ⟨bl, of, rfl, hbl, hd⟩ := hd
        · omega
        obtain ⟨op, od, wh, _, hod, hwh, g0, g1, g2⟩ := hd j hlt
        have KX := hid (none_trans KW.out (Kept.refl none' wr).drew)
        have HD := hid (HB.out.keep (Kept.refl none' wr).drew)
        have HA := hid (HB.out.keep ((Kept.refl none' wr).alloc (.cells #[.slice none 0 0] 50)).drew)
        have d0 := (bk1 (HD.out.wb.ex kb _ ⟨rfl, rfl⟩)).1
        have d1 := KX.out.cell (fun e => e) g0
        have d2 := KX.out.cell (fun e => e) g1
        have d3 := KX.out.cell (fun e => e) g2
        have DC := hid (do_any HD.out (by omega) op od wh hod hwh)
        have DA := hid (do_any (HA.out.re (E' := fun y v => (y = kb ∧ v = .slice va n vc) ∨ (y = wr.heap.size ∧ v = .slice none 0 0)) (fun y v e => e.elim (fun e => HA.out.wb.ex y v e) (fun e => by
          obtain ⟨rfl, rfl⟩ := e
          exact heap_new wr _))) (by omega) op od wh hod hwh)
        have KK := hid (fun (W' : World) (h : Kept none' wB W') => And.intro ((none_trans KB.out h).cell (fun e => e) g0) (And.intro ((none_trans KB.out h).cell (fun e => e) g1) ((none_trans KB.out h).cell (fun e => e) g2)))
        have hkr : kb < wr.heap.size := heap_lt (HB.out.wb.ex kb _ ⟨rfl, rfl⟩)
        have hwb := HKB.out
        have hbl2 : bl < kb := by have := KB.out.size; omega
        clear g0 g1 g2 hd
        go_wp2_with fail
        go_region_held3 (fun w' => w'.cell? ⟨kb, 0, none⟩ = some (.slice va n vc) ∧ w'.cell? ⟨bl, of + j * 3, none⟩ = some (.int .i64 op) ∧ w'.cell? ⟨bl, of + j * 3 + 1, none⟩ = some (.int .i64 od) ∧ w'.cell? ⟨bl, of + j * 3 + 2, none⟩ = some (.int .i64 wh)) ((refine ⟨?_, ?_, ?_, ?_⟩ <;> first | with_reducible assumption | exact alloc_cellL (by assumption) | exact cell_far (by assumption) (by omega))) (first
          | (go_at_call 16; refine DC.out.mono ?_; rintro e w5 ⟨x5, t5, fa5, fl5, fc5, ra5, nv5, rc5, va5, n5, vc5, R5, rfl, hB5⟩; have B5 := hid hB5; have y0 := (bk1 (hB5.wb.ex kb _ ⟨rfl, rfl⟩)).1; obtain ⟨y1, y2, y3⟩ := KK.out w5 hB5.wb.lw.kp; clear hB5)
          | (go_at_call 16; refine DA.out.mono ?_; rintro e w5 ⟨x5, t5, fa5, fl5, fc5, ra5, nv5, rc5, va5, n5, vc5, R5, rfl, hB5⟩; have B5 := hid hB5; have y0 := (bk1 (hB5.wb.ex kb _ (.inl ⟨rfl, rfl⟩))).1; obtain ⟨y4, y5⟩ := bk1 (hB5.wb.ex wr.heap.size _ (.inr ⟨rfl, rfl⟩)); obtain ⟨y1, y2, y3⟩ := KK.out w5 hB5.wb.lw.kp; clear hB5)
          | fail)
        · as_aux_lemma =>
          have hk5 := B5.out.wb.ex kb _ ⟨rfl, rfl⟩
          have ka := (Kept.refl none' w5).alloc (.cells #[.slice va5 n5 vc5] 50)
          have hk6 := (ka.block _ (heap_lt hk5) (fun e => e)).trans hk5
          have D := hid (show ExI wB lw kb (j + 1 + 1) ((w5.alloc (.cells #[.slice va5 n5 vc5] 50)).setCell ⟨kb, 0, none⟩ (.slice va5 n5 vc5)) from ⟨x5, t5, fa5, fl5, fc5, ra5, nv5, rc5, va5, n5, vc5, R5, ((((B5.out.re (E' := fun _ _ => False) (fun _ _ e => e.elim)).keep ka).set hk6 ⟨HKB.out, fun _ e => e⟩ (.slice va5 n5 vc5)).re (fun y v e => by
            obtain ⟨rfl, rfl⟩ := e
            exact heap_set hk6 0 _)), HKB.out⟩)
          have n0 := (bk1 (heap_new w5 (.cells #[.slice va5 n5 vc5] 50))).1
          obtain ⟨k0, kf⟩ := bk1 hk6
          clear hk5 ka hk6 y0 y1 y2 y3 d0 d1 d2 d3 DC DA KK
          generalize w5.alloc (.cells #[.slice va5 n5 vc5] 50) = W6 at *
          go_wp2_with fail
          exact ⟨⟨j + 1, by omega, by omega, by simp, D⟩, by simp [intOf]; omega⟩
        · as_aux_lemma =>
          have hk5 := B5.out.wb.ex kb _ (.inl ⟨rfl, rfl⟩)
          have hn5 := B5.out.wb.ex wr.heap.size _ (.inr ⟨rfl, rfl⟩)
          have ka : Kept (fun y => y = wr.heap.size) w5 (w5.setCell ⟨wr.heap.size, 0, none⟩ (.slice va5 n5 vc5)) := (Kept.refl (fun y => y = wr.heap.size) w5).setCell (p := ⟨wr.heap.size, 0, none⟩) rfl _
          have hk6 := (ka.block _ (heap_lt hk5) (by omega)).trans hk5
          have hwr : wB.heap.size ≤ wr.heap.size := by omega
          have D := hid (show ExI wB lw kb (j + 1 + 1) ((w5.setCell ⟨wr.heap.size, 0, none⟩ (.slice va5 n5 vc5)).setCell ⟨kb, 0, none⟩ (.slice va5 n5 vc5)) from ⟨x5, t5, fa5, fl5, fc5, ra5, nv5, rc5, va5, n5, vc5, R5, ((((B5.out.re (E' := fun _ _ => False) (fun _ _ e => e.elim)).set hn5 ⟨hwr, fun _ e => e⟩ (.slice va5 n5 vc5)).set hk6 ⟨HKB.out, fun _ e => e⟩ (.slice va5 n5 vc5)).re (fun y v e => by
            obtain ⟨rfl, rfl⟩ := e
            exact heap_set hk6 0 _)), HKB.out⟩)
          have n0 := (bk1 (show (w5.setCell ⟨wr.heap.size, 0, none⟩ (.slice va5 n5 vc5)).heap[wr.heap.size]? = some (.cells #[.slice va5 n5 vc5] 50) from heap_set hn5 0 _)).1
          obtain ⟨k0, kf⟩ := bk1 hk6
          clear hk5 hn5 ka hk6 y0 y1 y2 y3 y4 y5 d0 d1 d2 d3 DC DA KK
          generalize w5.setCell ⟨wr.heap.size, 0, none⟩ (.slice va5 n5 vc5) = W6 at *
          go_wp2_with fail
          exact ⟨⟨j + 1, by omega, by omega, by simp, D⟩, by simp [intOf]; omega⟩
      · as_aux_lemma =>
        have hj3i : ¬ (j : Int) < 300 := by omega
        go_wp2_with fail
        go_ret
        exact ⟨rfl, KW.out⟩
    · as_aux_lemma =>
      have hji : ¬ (j : Int) < (m : Int) := by omega
      go_wp2_with fail
      go_ret
      exact ⟨rfl, KW.out⟩
end Go.Proofs.Ythglogiglimebaa
