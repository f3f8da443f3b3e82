/- BuddyTiles: the walk. -/
import Derived.Test.YthglogiglimebaaGreatExa
import Derived.Test.YthglogiglimebaaGreatTlB
import Derived.Deep.RegionHeld3
namespace Go.Proofs.YthglogiglimebaaGreat
open Go.RowKit
set_option linter.unusedVariables false

/-- Between two deeds: the law's world, its book of n blocks in a box. -/
def TlI (w : World) (lw kb c n : Nat) (W : World) : Prop := ∃ x t fa fl fc ra nv rc va vc R, BW ⟨fun y v => y = kb ∧ v = .slice va n vc, fun _ => 0, fun _ => False⟩ w W lw c x t fa fl fc ra nv rc va n vc R ∧ w.heap.size ≤ kb
/-- How many blocks the book in the box has. -/
def lenAt (W : World) (kb : Nat) : Nat := match W.cell? ⟨kb, 0, none⟩ with
  | some (.slice _ n _) => n
  | _ => 0
theorem TlI.len {w lw kb c n W} (h : TlI w lw kb c n W) : lenAt W kb = n := by
  obtain ⟨x, t, fa, fl, fc, ra, nv, rc, va, vc, R, hB, _⟩ := h
  have := (bk1 (hB.wb.ex kb _ ⟨rfl, rfl⟩)).1
  unfold lenAt
  rw [this]
set_option maxRecDepth 4000 in
set_option maxHeartbeats 8000000 in
theorem tiles_any (b0 : Nat) (hb64 : b0 < 18446744073709551616) (l0 o0 : Int) (l1 : -9223372036854775808 ≤ l0) (l2 : l0 ≤ 9223372036854775807) (o1 : -9223372036854775808 ≤ o0) (o2 : o0 ≤ 9223372036854775807) (sv : Value) (m : Nat) (w : World) (hS : DeedsIn w sv m) :
    Calls Tryz.prog 4 #[cfgV b0 l0 o0, sv] w fun e w' => e = .returned (.bool true) ∧ Kept none' w w' := by
  have HS := hid hS
  obtain ⟨hm, oa, oc, hsv, _⟩ := hS
  subst hsv
  have BG := hid (fun W => begin_any b0 hb64 l0 o0 l1 l2 o1 o2 W)
  go_enter Tryz.func4, Tryz.ntmps4
  go_wp2_with fail
  have KB := hid ((Kept.refl none' w).alloc (cfgO b0 l0 o0))
  generalize w.alloc (cfgO b0 l0 o0) = wB at *
  refine (BG.out _).mono ?_
  rintro e w1 ⟨base, lim, o, hbm, lw, x, fa, fc, rfl, hL, e1, e2, e3, e4, e5⟩
  have W1 := hid (beg_wb (E := ⟨fun _ _ => False, fun _ => 0, fun _ => False⟩) o hL e4 e5 (by rw [e1]; exact hbm) (fun _ _ e => e.elim))
  clear hL BG
  go_wp2_with fail
  refine (lives_ok _).mono ?_
  rintro e w2 ⟨rfl, hk⟩
  have W2 := hid (W1.out.keep hk)
  clear hk W1
  have CM := hid (come_any lw x _ 0 fa (o + 1) fc none 0 0 (by omega) _ w2 W2.out.lw W2.out.rl ⟨0, by omega, by have := W2.out.lw.bd.sp.cfg.l1; omega⟩ W2.out.st rfl (by
    have h1 := W2.out.lw.bd.o8
    have h2 : 2 ^ x.o ≤ 2 ^ 8 := Nat.pow_le_pow_right (by decide) h1
    show 0 + 2 ^ x.o ≤ 1024
    omega))
  go_wp2_with fail
  refine CM.out.mono ?_
  rintro e w3 hq
  obtain ⟨he, x3, t3, ra3, rc3, hwb3, hk3, f1, f2, f3, f4, f5, f6, f7⟩ := W2.out.come (by
    have h1 := W2.out.lw.bd.sp.cfg.l1
    have h2 : 1 * x.R ≤ x.lim * x.R := Nat.mul_le_mul_right _ h1
    omega) (fun _ e => e.elim) hq
  subst he
  have W3 := hid hwb3
  have FD := hid (Feed_snK x3 t3 _ hwb3.sn f5 (.inr ⟨f4, f1⟩) w3 hwb3.lw.bd)
  have F4 := hid f4
  clear hq hk3 f2 f3 f5 f6 f7 CM W2 hwb3 f4
  obtain ⟨c0, c1, c2, c3, c4, c5, c6, c7, c8, c9⟩ := W3.out.lw.c
  go_wp2_with fail
  refine FD.out.mono ?_
  rintro e w4 ⟨rfl, hd⟩
  obtain ⟨t4, hwb4, hk4, hn4⟩ := W3.out.done hd (fun _ e => e.elim)
  have B4 := hid (show BW ⟨fun _ _ => False, fun _ => 0, fun _ => False⟩ _ w4 lw 1 x3 t4 fa (o + 1) fc ra3 1 rc3 none 0 0 (fun _ => ⟨0, 0, 0⟩) from ⟨hwb4.congr fun q i => ⟨fun e => by
    obtain ⟨h1 | h1, h2⟩ := e
    · exact h1.elim
    · exact absurd ⟨h1.1.trans F4.out.symm, h1.2.trans f1.symm⟩ h2, fun e => by
    obtain ⟨j, hj, _⟩ := e
    omega⟩, Inj.nil _, World.ownsRow_nil _ _ _ _, by omega, fun j hj => absurd hj (Nat.not_lt_zero _)⟩)
  clear hd hwb4 hk4 hn4 FD W3 c0 c1 c2 c3 c4 c5 c6 c7 c8 c9
  go_wp2_with fail
  have I0 := hid (show TlI wB lw w4.heap.size 1 0 (w4.alloc (.cells #[.slice none 0 0] 54)) from ⟨x3, t4, fa, o + 1, fc, ra3, 1, rc3, none, 0, fun _ => ⟨0, 0, 0⟩, (B4.out.keep ((Kept.refl none' w4).alloc _)).re (fun y v e => by
    obtain ⟨rfl, rfl⟩ := e
    exact heap_new w4 _) (fun _ e => e.elim), B4.out.wb.lw.kp.size⟩)
  generalize w4.alloc (.cells #[.slice none 0 0] 54) = W4 at *
  generalize w4.heap.size = kb at *
  clear B4 F4
  go_loopw [7] (fun i W => ∃ j : Nat, j ≤ m ∧ j ≤ 150 ∧ i = .int .i64 j ∧ Hid (∃ n, TlI wB lw kb (j + 1) n W)) (fun i _ => m - (intOf i).toNat)
  case atStart => exact ⟨0, by omega, by omega, rfl, hid ⟨0, I0.out⟩⟩
  case round =>
    clear I0
    obtain ⟨j, hj, hj3, rfl, hI⟩ := hrel
    obtain ⟨n, x, t, fa, fl, fc, ra, nv, rc, va, vc, R, hB, hkb⟩ := hI.out
    have HB := hid hB
    have KW := hid (none_trans KB.out hB.wb.lw.kp)
    have HKB := hid hkb
    clear hB hkb hI
    by_cases hlt : j < m
    · have hji : (j : Int) < (m : Int) := by omega
      by_cases hl3 : j < 150
      · have hj3i : (j : Int) < 150 := by omega
        obtain ⟨_, oa', oc', hsv, hd⟩ := HS.out
        injection hsv with ha hb hc
        subst ha hc
        obtain hd | ⟨bl, of, rfl, hbl, hd⟩ := hd
        · omega
        obtain ⟨op, od, wh, _, hod, hwh, g0, g1, g2⟩ := hd j hlt
        have KX := hid (none_trans KW.out (Kept.refl none' wr).drew)
        have HD := hid (HB.out.keep (Kept.refl none' wr).drew)
        have HA := hid (HB.out.keep ((Kept.refl none' wr).alloc (.cells #[.slice none 0 0] 54)).drew)
        have d0 := (bk1 (HD.out.wb.ex kb _ ⟨rfl, rfl⟩)).1
        have d1 := KX.out.cell (fun e => e) g0
        have d2 := KX.out.cell (fun e => e) g1
        have d3 := KX.out.cell (fun e => e) g2
        have DC := hid (do_any HD.out (by omega) (fun _ e => e.elim) op od wh hod hwh)
        have DA := hid (do_any (HA.out.re (E' := ⟨fun y v => (y = kb ∧ v = .slice va n vc) ∨ (y = wr.heap.size ∧ v = .slice none 0 0), fun _ => 0, fun _ => False⟩) (fun y v e => e.elim (fun e => HA.out.wb.ex y v e) (fun e => by
          obtain ⟨rfl, rfl⟩ := e
          exact heap_new wr _)) (fun _ e => e.elim)) (by omega) (fun _ e => e.elim) op od wh hod hwh)
        have KK := hid (fun (W' : World) (h : Kept none' wB W') => And.intro ((none_trans KB.out h).cell (fun e => e) g0) (And.intro ((none_trans KB.out h).cell (fun e => e) g1) ((none_trans KB.out h).cell (fun e => e) g2)))
        have hkr : kb < wr.heap.size := heap_lt (HB.out.wb.ex kb _ ⟨rfl, rfl⟩)
        have hwb := HKB.out
        have hbl2 : bl < kb := by have := KB.out.size; omega
        clear g0 g1 g2 hd
        go_wp2_with fail
        go_region_held3 (fun w' => w'.cell? ⟨kb, 0, none⟩ = some (.slice va n vc) ∧ w'.cell? ⟨bl, of + j * 3, none⟩ = some (.int .i64 op) ∧ w'.cell? ⟨bl, of + j * 3 + 1, none⟩ = some (.int .i64 od) ∧ w'.cell? ⟨bl, of + j * 3 + 2, none⟩ = some (.int .i64 wh)) ((refine ⟨?_, ?_, ?_, ?_⟩ <;> first | with_reducible assumption | exact alloc_cellL (by assumption) | exact cell_far (by assumption) (by omega))) (first
          | (go_at_call 16; refine DC.out.mono ?_; rintro e w5 ⟨x5, t5, fa5, fl5, fc5, ra5, nv5, rc5, va5, n5, vc5, R5, _, rfl, hB5⟩; have B5 := hid hB5; have y0 := (bk1 (hB5.wb.ex kb _ ⟨rfl, rfl⟩)).1; obtain ⟨y1, y2, y3⟩ := KK.out w5 hB5.wb.lw.kp; clear hB5)
          | (go_at_call 16; refine DA.out.mono ?_; rintro e w5 ⟨x5, t5, fa5, fl5, fc5, ra5, nv5, rc5, va5, n5, vc5, R5, _, rfl, hB5⟩; have B5 := hid hB5; have y0 := (bk1 (hB5.wb.ex kb _ (.inl ⟨rfl, rfl⟩))).1; obtain ⟨y4, y5⟩ := bk1 (hB5.wb.ex wr.heap.size _ (.inr ⟨rfl, rfl⟩)); obtain ⟨y1, y2, y3⟩ := KK.out w5 hB5.wb.lw.kp; clear hB5)
          | fail)
        · as_aux_lemma =>
          have hk5 := B5.out.wb.ex kb _ ⟨rfl, rfl⟩
          have ka := (Kept.refl none' w5).alloc (.cells #[.slice va5 n5 vc5] 54)
          have HK6 := hid ((ka.block _ (heap_lt hk5) (fun e => e)).trans hk5)
          have B6 := hid ((B5.out.re (E' := ⟨fun _ _ => False, fun _ => 0, fun _ => False⟩) (fun _ _ e => e.elim) (fun _ e => e.elim)).keep ka)
          have HN6 := hid (heap_new w5 (.cells #[.slice va5 n5 vc5] 54))
          clear hk5 ka y0 y1 y2 y3 d0 d1 d2 d3 DC DA KK
          generalize w5.alloc (.cells #[.slice va5 n5 vc5] 54) = W6 at *
          generalize w5.heap.size = nb at *
          obtain ⟨n0, _⟩ := bk1 HN6.out
          have hn5c : n5 ≤ 1000 := by have := B6.out.nc; omega
          have TK := hid (tiled_ok B6.out hn5c)
          clear hn5c
          go_wp2_with fail
          refine TK.out.mono ?_
          rintro e w7 ⟨rfl, hk7⟩
          have HK7 := hid ((hk7.block _ (heap_lt HK6.out) (fun e => e)).trans HK6.out)
          have HN7 := hid ((hk7.block _ (heap_lt HN6.out) (fun e => e)).trans HN6.out)
          have D := hid (show TlI wB lw kb (j + 1 + 1) n5 (w7.setCell ⟨kb, 0, none⟩ (.slice va5 n5 vc5)) from ⟨x5, t5, fa5, fl5, fc5, ra5, nv5, rc5, va5, vc5, R5, (((B6.out.keep hk7).set HK7.out ⟨HKB.out, fun _ e => e⟩ (.slice va5 n5 vc5)).re (fun y v e => by
            obtain ⟨rfl, rfl⟩ := e
            exact heap_set HK7.out 0 _) (fun _ e => e.elim)), HKB.out⟩)
          obtain ⟨m0, _⟩ := bk1 HN7.out
          obtain ⟨k0, kf⟩ := bk1 HK7.out
          clear n0 hk7 TK
          go_wp2_with fail
          exact ⟨⟨j + 1, by omega, by omega, by simp, hid ⟨n5, D.out⟩⟩, by simp [intOf]; omega⟩
        · as_aux_lemma =>
          have hk5 := B5.out.wb.ex kb _ (.inl ⟨rfl, rfl⟩)
          have hn5' := B5.out.wb.ex wr.heap.size _ (.inr ⟨rfl, rfl⟩)
          have ka : Kept (fun y => y = wr.heap.size) w5 (w5.setCell ⟨wr.heap.size, 0, none⟩ (.slice va5 n5 vc5)) := (Kept.refl (fun y => y = wr.heap.size) w5).setCell (p := ⟨wr.heap.size, 0, none⟩) rfl _
          have HK6 := hid ((ka.block _ (heap_lt hk5) (by omega)).trans hk5)
          have hwr : wB.heap.size ≤ wr.heap.size := by omega
          have B6 := hid ((B5.out.re (E' := ⟨fun _ _ => False, fun _ => 0, fun _ => False⟩) (fun _ _ e => e.elim) (fun _ e => e.elim)).set hn5' ⟨hwr, fun _ e => e⟩ (.slice va5 n5 vc5))
          have HN6 := hid (show (w5.setCell ⟨wr.heap.size, 0, none⟩ (.slice va5 n5 vc5)).heap[wr.heap.size]? = some (.cells #[.slice va5 n5 vc5] 54) from heap_set hn5' 0 _)
          clear hk5 hn5' ka hwr y0 y1 y2 y3 y4 y5 d0 d1 d2 d3 DC DA KK
          generalize w5.setCell ⟨wr.heap.size, 0, none⟩ (.slice va5 n5 vc5) = W6 at *
          generalize wr.heap.size = nb at *
          obtain ⟨n0, _⟩ := bk1 HN6.out
          have hn5c : n5 ≤ 1000 := by have := B6.out.nc; omega
          have TK := hid (tiled_ok B6.out hn5c)
          clear hn5c
          go_wp2_with fail
          refine TK.out.mono ?_
          rintro e w7 ⟨rfl, hk7⟩
          have HK7 := hid ((hk7.block _ (heap_lt HK6.out) (fun e => e)).trans HK6.out)
          have HN7 := hid ((hk7.block _ (heap_lt HN6.out) (fun e => e)).trans HN6.out)
          have D := hid (show TlI wB lw kb (j + 1 + 1) n5 (w7.setCell ⟨kb, 0, none⟩ (.slice va5 n5 vc5)) from ⟨x5, t5, fa5, fl5, fc5, ra5, nv5, rc5, va5, vc5, R5, (((B6.out.keep hk7).set HK7.out ⟨HKB.out, fun _ e => e⟩ (.slice va5 n5 vc5)).re (fun y v e => by
            obtain ⟨rfl, rfl⟩ := e
            exact heap_set HK7.out 0 _) (fun _ e => e.elim)), HKB.out⟩)
          obtain ⟨m0, _⟩ := bk1 HN7.out
          obtain ⟨k0, kf⟩ := bk1 HK7.out
          clear n0 hk7 TK
          go_wp2_with fail
          exact ⟨⟨j + 1, by omega, by omega, by simp, hid ⟨n5, D.out⟩⟩, by simp [intOf]; omega⟩
      · as_aux_lemma =>
        have hj3i : ¬ (j : Int) < 150 := by omega
        have I1 := hid (show TlI wB lw kb (j + 1) n wr from ⟨x, t, fa, fl, fc, ra, nv, rc, va, vc, R, HB.out, HKB.out⟩)
        have hnn : n ≤ 300 := by have := HB.out.nc; omega
        clear HB HKB
        go_wp2_with fail
        generalize wr = w9 at *
        go_loopw [] (fun W => ∃ q : Nat, q ≤ n ∧ Hid (TlI wB lw kb (j + 1) q W)) (fun W => lenAt W kb)
        case atStart => exact ⟨n, Nat.le_refl _, I1⟩
        case round =>
          clear I1
          obtain ⟨q, hq, hI⟩ := hrel
          have LN := hid hI.out.len
          obtain ⟨x, t, fa, fl, fc, ra, nv, rc, va, vc, R, hB, hkb⟩ := hI.out
          have HB := hid hB
          have HKB := hid hkb
          have KV := hid (none_trans KB.out hB.wb.lw.kp)
          have k0 := (bk1 (hB.wb.ex kb _ ⟨rfl, rfl⟩)).1
          clear hB hkb hI
          by_cases hq0 : 0 < q
          · have hqi : (0 : Int) < (q : Int) := by omega
            obtain ⟨g0, hva, r0, r1, r2⟩ := HB.out.bk.get 0 hq0
            subst hva
            simp only [Nat.zero_mul, Nat.zero_add] at r0 r1
            obtain ⟨n1, n2, n3, n4, _, n8, n9⟩ := HB.out.wb.nums
            obtain ⟨z1, z2, z3⟩ := HB.out.wb.rng 0 hq0
            have hst := HB.out.wb.st
            have hz0 : 0 < 2 ^ (R 0).od := Nat.pow_pos (by decide)
            have hpg1 : (R 0).pg ≤ 1024 := by omega
            have hpg2 : x.base + 4096 * (R 0).pg < 18446744073709551616 := by omega
            have HD := hid (HB.out.keep (Kept.refl none' wr).drew)
            have d0 := (bk1 (HD.out.wb.ex kb _ ⟨rfl, rfl⟩)).1
            have d1 := (Kept.refl none' wr).drew.cell (fun e => e) r0
            have d2 := (Kept.refl none' wr).drew.cell (fun e => e) r1
            obtain ⟨_, _, _, _, _, d5, _, _, _, _⟩ := HD.out.wb.lw.c
            have HQ0 := hid hq0
            clear n1 n2 n3 n4 n8 n9 z1 z2 z3 hst hz0 r0 r1 r2
            go_wp2_with fail
            go_region_held3 (fun w' => w'.cell? ⟨kb, 0, none⟩ = some (.slice (some ⟨g0, 0, none⟩) q vc) ∧ w'.cell? ⟨lw, 5, none⟩ = some (.pointer (some ⟨x.b, 0, none⟩)) ∧ w'.cell? ⟨g0, 0, none⟩ = some (.int .i64 ((R 0).pg : Int)) ∧ w'.cell? ⟨g0, 1, none⟩ = some (.int .i64 ((R 0).od : Int))) ((refine ⟨?_, ?_, ?_, ?_⟩ <;> first | with_reducible assumption)) (first
              | (go_at_call 11; refine (at_ok HD.out.wb.lw (R 0).pg hpg1 hpg2).mono ?_; rintro e w3 ⟨rfl, h3⟩; replace h3 := h3.symm; subst h3)
              | (go_at_call 18; refine (Give_snK x t (Lk R q) HD.out.wb.sn (R 0).pg (R 0).od ⟨0, HQ0.out, rfl, rfl⟩ _ HD.out.wb.lw.bd).mono ?_; rintro e w4 ⟨rfl, hd⟩; obtain ⟨t4, hwb4, hk4, hn4⟩ := HD.out.wb.done hd (fun _ e => e.elim); have H4 := hid hwb4; have V4 := hid (HD.out.wb.lw.bks HD.out.bk (hk4.mono (fun _ _ e => .inl e))); have u0 := (bk1 (hwb4.ex kb _ ⟨rfl, rfl⟩)).1; obtain ⟨_, _, _, _, _, u5, _, _, _, _⟩ := hwb4.lw.c; obtain ⟨g1, hg1, u1, u2, _⟩ := V4.out.get 0 HQ0.out; injection hg1 with hg1; injection hg1 with hg1; subst hg1; simp only [Nat.zero_mul, Nat.zero_add] at u1 u2; clear hd hwb4 hk4 hn4)
              | fail)
            all_goals as_aux_lemma =>
              have WO := hid (without_any (some ⟨g0, 0, none⟩) q vc R (by omega) 0 HQ0.out w4 V4.out)
              clear u1 u2 u5 d0 d1 d2 d5
              go_wp2_with fail
              refine WO.out.mono ?_
              rintro e w5 ⟨va2, vc2, rfl, hk5, hb5⟩
              have H5 := H4.out.keep hk5
              have HK5 := hid (H5.ex kb _ ⟨rfl, rfl⟩)
              have D := hid (show TlI wB lw kb (j + 1) (q - 1) (w5.setCell ⟨kb, 0, none⟩ (.slice va2 (q - 1) vc2)) from ⟨x, t4, fa, fl, fc, ra, nv, rc, va2, vc2, wo R 0, ((((BW.mk (R := wo R 0) (H5.congr fun q i => (Lk.wo HB.out.inj HQ0.out q i).symm) (HB.out.inj.wo HQ0.out) hb5 (by have := HB.out.nc; omega) (mr_wo HQ0.out HB.out.mr)).re (E' := ⟨fun _ _ => False, fun _ => 0, fun _ => False⟩) (fun _ _ e => e.elim) (fun _ e => e.elim)).set HK5.out ⟨HKB.out, fun _ e => e⟩ (.slice va2 (q - 1) vc2)).re (fun y v e => by
                obtain ⟨rfl, rfl⟩ := e
                exact heap_set HK5.out 0 _) (fun _ e => e.elim)), HKB.out⟩)
              have LD := hid D.out.len
              obtain ⟨k5, kf5⟩ := bk1 HK5.out
              clear hk5 hb5 H5 WO u0
              go_wp2_with fail
              exact ⟨⟨q - 1, by omega, D⟩, by rw [LD.out, LN.out]; exact Nat.sub_lt HQ0.out (by decide)⟩
          · as_aux_lemma =>
            obtain rfl : q = 0 := by omega
            obtain ⟨fr, hTI⟩ := HB.out.wb.sn.ti HB.out.inj
            have TI := hid hTI
            have hwh := hTI.whole
            have HD := hid (HB.out.keep (Kept.refl none' wr).drew)
            have TK := hid (tiled_ok HD.out (by omega))
            have d0 := (bk1 (HD.out.wb.ex kb _ ⟨rfl, rfl⟩)).1
            obtain ⟨_, _, d2, _, _, d5, _, d7, _, _⟩ := HD.out.wb.lw.c
            obtain ⟨m1, m2, _⟩ := HB.out.wb.nums
            obtain ⟨L, hL⟩ : ∃ L, L = (fr x.o).length := ⟨_, rfl⟩
            rw [← hL] at hwh
            have HL := hid hL
            have hsh : IntKind.i64.wrap ((L : Int) * 2 ^ min (IntKind.u64.wrap (x.o : Int)).toNat 64) = ((t.m.n : Nat) : Int) := by
              have h1 : IntKind.u64.wrap (x.o : Int) = (x.o : Int) := Int.emod_eq_of_lt (by omega) (by show (x.o : Int) < 18446744073709551616; omega)
              have h2 : (L : Int) * 2 ^ x.o = ((t.m.n : Nat) : Int) := by rw [← hwh]; simp
              rw [h1, Int.toNat_natCast, Nat.min_eq_left (by omega), h2, IntKind.wrap_i64]
              omega
            clear hTI hwh hL m1 m2
            go_wp2_with fail
            go_region_held3 (fun w' => w'.cell? ⟨kb, 0, none⟩ = some (.slice va 0 vc) ∧ w'.cell? ⟨lw, 2, none⟩ = some (.int .i64 (x.o : Int)) ∧ w'.cell? ⟨lw, 5, none⟩ = some (.pointer (some ⟨x.b, 0, none⟩)) ∧ w'.cell? ⟨lw, 7, none⟩ = some (.int .i64 ((t.m.n : Nat) : Int))) ((refine ⟨?_, ?_, ?_, ?_⟩ <;> first | with_reducible assumption)) (first
              | (go_at_call 17; refine TK.out.mono ?_; rintro e w6 ⟨rfl, hk6⟩; have H6 := hid (HD.out.keep hk6); have u0 := (bk1 (H6.out.wb.ex kb _ ⟨rfl, rfl⟩)).1; obtain ⟨_, _, u2, _, _, u5, _, u7, _, _⟩ := H6.out.wb.lw.c; have FR := hid (Free_yes x t x.o (Nat.le_refl _) w6 H6.out.wb.lw.bd); clear hk6)
              | (go_at_call 20; refine FR.out.mono ?_; rintro e w7 ⟨v, rfl, hLs, hk7, hN7⟩; obtain ⟨av, cap, hv, _⟩ := TI.out.told (Nat.le_refl _) hLs hN7; subst hv; rw [← HL.out]; have H7 := hid (H6.out.keep hk7); have v0 := (bk1 (H7.out.wb.ex kb _ ⟨rfl, rfl⟩)).1; obtain ⟨_, _, v2, _, _, v5, _, v7, _, _⟩ := H7.out.wb.lw.c; clear hLs hk7 hN7)
              | fail)
            all_goals
              have K7 := hid (none_trans KB.out H7.out.wb.lw.kp)
              go_wp2_with fail
              go_ret
              exact ⟨rfl, K7.out⟩
    · as_aux_lemma =>
      have hji : ¬ (j : Int) < (m : Int) := by omega
      have I1 := hid (show TlI wB lw kb (j + 1) n wr from ⟨x, t, fa, fl, fc, ra, nv, rc, va, vc, R, HB.out, HKB.out⟩)
      have hnn : n ≤ 300 := by have := HB.out.nc; omega
      clear HB HKB
      go_wp2_with fail
      generalize wr = w9 at *
      go_loopw [] (fun W => ∃ q : Nat, q ≤ n ∧ Hid (TlI wB lw kb (j + 1) q W)) (fun W => lenAt W kb)
      case atStart => exact ⟨n, Nat.le_refl _, I1⟩
      case round =>
        clear I1
        obtain ⟨q, hq, hI⟩ := hrel
        have LN := hid hI.out.len
        obtain ⟨x, t, fa, fl, fc, ra, nv, rc, va, vc, R, hB, hkb⟩ := hI.out
        have HB := hid hB
        have HKB := hid hkb
        have KV := hid (none_trans KB.out hB.wb.lw.kp)
        have k0 := (bk1 (hB.wb.ex kb _ ⟨rfl, rfl⟩)).1
        clear hB hkb hI
        by_cases hq0 : 0 < q
        · have hqi : (0 : Int) < (q : Int) := by omega
          obtain ⟨g0, hva, r0, r1, r2⟩ := HB.out.bk.get 0 hq0
          subst hva
          simp only [Nat.zero_mul, Nat.zero_add] at r0 r1
          obtain ⟨n1, n2, n3, n4, _, n8, n9⟩ := HB.out.wb.nums
          obtain ⟨z1, z2, z3⟩ := HB.out.wb.rng 0 hq0
          have hst := HB.out.wb.st
          have hz0 : 0 < 2 ^ (R 0).od := Nat.pow_pos (by decide)
          have hpg1 : (R 0).pg ≤ 1024 := by omega
          have hpg2 : x.base + 4096 * (R 0).pg < 18446744073709551616 := by omega
          have HD := hid (HB.out.keep (Kept.refl none' wr).drew)
          have d0 := (bk1 (HD.out.wb.ex kb _ ⟨rfl, rfl⟩)).1
          have d1 := (Kept.refl none' wr).drew.cell (fun e => e) r0
          have d2 := (Kept.refl none' wr).drew.cell (fun e => e) r1
          obtain ⟨_, _, _, _, _, d5, _, _, _, _⟩ := HD.out.wb.lw.c
          have HQ0 := hid hq0
          clear n1 n2 n3 n4 n8 n9 z1 z2 z3 hst hz0 r0 r1 r2
          go_wp2_with fail
          go_region_held3 (fun w' => w'.cell? ⟨kb, 0, none⟩ = some (.slice (some ⟨g0, 0, none⟩) q vc) ∧ w'.cell? ⟨lw, 5, none⟩ = some (.pointer (some ⟨x.b, 0, none⟩)) ∧ w'.cell? ⟨g0, 0, none⟩ = some (.int .i64 ((R 0).pg : Int)) ∧ w'.cell? ⟨g0, 1, none⟩ = some (.int .i64 ((R 0).od : Int))) ((refine ⟨?_, ?_, ?_, ?_⟩ <;> first | with_reducible assumption)) (first
            | (go_at_call 11; refine (at_ok HD.out.wb.lw (R 0).pg hpg1 hpg2).mono ?_; rintro e w3 ⟨rfl, h3⟩; replace h3 := h3.symm; subst h3)
            | (go_at_call 18; refine (Give_snK x t (Lk R q) HD.out.wb.sn (R 0).pg (R 0).od ⟨0, HQ0.out, rfl, rfl⟩ _ HD.out.wb.lw.bd).mono ?_; rintro e w4 ⟨rfl, hd⟩; obtain ⟨t4, hwb4, hk4, hn4⟩ := HD.out.wb.done hd (fun _ e => e.elim); have H4 := hid hwb4; have V4 := hid (HD.out.wb.lw.bks HD.out.bk (hk4.mono (fun _ _ e => .inl e))); have u0 := (bk1 (hwb4.ex kb _ ⟨rfl, rfl⟩)).1; obtain ⟨_, _, _, _, _, u5, _, _, _, _⟩ := hwb4.lw.c; obtain ⟨g1, hg1, u1, u2, _⟩ := V4.out.get 0 HQ0.out; injection hg1 with hg1; injection hg1 with hg1; subst hg1; simp only [Nat.zero_mul, Nat.zero_add] at u1 u2; clear hd hwb4 hk4 hn4)
            | fail)
          all_goals as_aux_lemma =>
            have WO := hid (without_any (some ⟨g0, 0, none⟩) q vc R (by omega) 0 HQ0.out w4 V4.out)
            clear u1 u2 u5 d0 d1 d2 d5
            go_wp2_with fail
            refine WO.out.mono ?_
            rintro e w5 ⟨va2, vc2, rfl, hk5, hb5⟩
            have H5 := H4.out.keep hk5
            have HK5 := hid (H5.ex kb _ ⟨rfl, rfl⟩)
            have D := hid (show TlI wB lw kb (j + 1) (q - 1) (w5.setCell ⟨kb, 0, none⟩ (.slice va2 (q - 1) vc2)) from ⟨x, t4, fa, fl, fc, ra, nv, rc, va2, vc2, wo R 0, ((((BW.mk (R := wo R 0) (H5.congr fun q i => (Lk.wo HB.out.inj HQ0.out q i).symm) (HB.out.inj.wo HQ0.out) hb5 (by have := HB.out.nc; omega) (mr_wo HQ0.out HB.out.mr)).re (E' := ⟨fun _ _ => False, fun _ => 0, fun _ => False⟩) (fun _ _ e => e.elim) (fun _ e => e.elim)).set HK5.out ⟨HKB.out, fun _ e => e⟩ (.slice va2 (q - 1) vc2)).re (fun y v e => by
              obtain ⟨rfl, rfl⟩ := e
              exact heap_set HK5.out 0 _) (fun _ e => e.elim)), HKB.out⟩)
            have LD := hid D.out.len
            obtain ⟨k5, kf5⟩ := bk1 HK5.out
            clear hk5 hb5 H5 WO u0
            go_wp2_with fail
            exact ⟨⟨q - 1, by omega, D⟩, by rw [LD.out, LN.out]; exact Nat.sub_lt HQ0.out (by decide)⟩
        · as_aux_lemma =>
          obtain rfl : q = 0 := by omega
          obtain ⟨fr, hTI⟩ := HB.out.wb.sn.ti HB.out.inj
          have TI := hid hTI
          have hwh := hTI.whole
          have HD := hid (HB.out.keep (Kept.refl none' wr).drew)
          have TK := hid (tiled_ok HD.out (by omega))
          have d0 := (bk1 (HD.out.wb.ex kb _ ⟨rfl, rfl⟩)).1
          obtain ⟨_, _, d2, _, _, d5, _, d7, _, _⟩ := HD.out.wb.lw.c
          obtain ⟨m1, m2, _⟩ := HB.out.wb.nums
          obtain ⟨L, hL⟩ : ∃ L, L = (fr x.o).length := ⟨_, rfl⟩
          rw [← hL] at hwh
          have HL := hid hL
          have hsh : IntKind.i64.wrap ((L : Int) * 2 ^ min (IntKind.u64.wrap (x.o : Int)).toNat 64) = ((t.m.n : Nat) : Int) := by
            have h1 : IntKind.u64.wrap (x.o : Int) = (x.o : Int) := Int.emod_eq_of_lt (by omega) (by show (x.o : Int) < 18446744073709551616; omega)
            have h2 : (L : Int) * 2 ^ x.o = ((t.m.n : Nat) : Int) := by rw [← hwh]; simp
            rw [h1, Int.toNat_natCast, Nat.min_eq_left (by omega), h2, IntKind.wrap_i64]
            omega
          clear hTI hwh hL m1 m2
          go_wp2_with fail
          go_region_held3 (fun w' => w'.cell? ⟨kb, 0, none⟩ = some (.slice va 0 vc) ∧ w'.cell? ⟨lw, 2, none⟩ = some (.int .i64 (x.o : Int)) ∧ w'.cell? ⟨lw, 5, none⟩ = some (.pointer (some ⟨x.b, 0, none⟩)) ∧ w'.cell? ⟨lw, 7, none⟩ = some (.int .i64 ((t.m.n : Nat) : Int))) ((refine ⟨?_, ?_, ?_, ?_⟩ <;> first | with_reducible assumption)) (first
            | (go_at_call 17; refine TK.out.mono ?_; rintro e w6 ⟨rfl, hk6⟩; have H6 := hid (HD.out.keep hk6); have u0 := (bk1 (H6.out.wb.ex kb _ ⟨rfl, rfl⟩)).1; obtain ⟨_, _, u2, _, _, u5, _, u7, _, _⟩ := H6.out.wb.lw.c; have FR := hid (Free_yes x t x.o (Nat.le_refl _) w6 H6.out.wb.lw.bd); clear hk6)
            | (go_at_call 20; refine FR.out.mono ?_; rintro e w7 ⟨v, rfl, hLs, hk7, hN7⟩; obtain ⟨av, cap, hv, _⟩ := TI.out.told (Nat.le_refl _) hLs hN7; subst hv; rw [← HL.out]; have H7 := hid (H6.out.keep hk7); have v0 := (bk1 (H7.out.wb.ex kb _ ⟨rfl, rfl⟩)).1; obtain ⟨_, _, v2, _, _, v5, _, v7, _, _⟩ := H7.out.wb.lw.c; clear hLs hk7 hN7)
            | fail)
          all_goals
            have K7 := hid (none_trans KB.out H7.out.wb.lw.kp)
            go_wp2_with fail
            go_ret
            exact ⟨rfl, K7.out⟩
end Go.Proofs.YthglogiglimebaaGreat
