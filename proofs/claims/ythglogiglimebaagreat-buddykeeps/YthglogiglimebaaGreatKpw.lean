import Derived.Test.YthglogiglimebaaGreatExa
import Derived.Test.YthglogiglimebaaGreatKps
import Derived.Deep.RegionHeld3
/- BuddyKeeps: a block of the book is filled; the walk. -/
namespace Go.Proofs.YthglogiglimebaaGreat
open Go.RowKit
set_option linter.unusedVariables false

/-- A block of the book is filled with its mark. -/
theorem fill_bw {E w W lw c x t fa fl fc ra nv rc va n vc R} (h : BW E w W lw c x t fa fl fc ra nv rc va n vc R) (hE : ∀ g, ¬ E.G g) (q : Nat) (hq : q < n) (N : Nat) (hN : N = 4096 * 2 ^ (R q).od) :
    Calls Tryz.prog 21 #[.pointer (some ⟨x.s, 0, none⟩), .int .u64 ((ad x (R q).pg : Nat) : Int), .int .u64 (N : Int), .int .u8 ((R q).mark : Int)] W fun e w' => e = .returned (.int .i64 0) ∧ BW E w w' lw c x { t with f := M.upd t.f (4096 * (R q).pg) N (fun _ => (R q).mark) } fa fl fc ra nv rc va n vc R ∧ Kept (bown x) W w' := by
  obtain ⟨z1, z2, z3⟩ := h.wb.rng q hq
  have hst := h.wb.st
  have hz0 : 0 < 2 ^ (R q).od := Nat.pow_pos (by decide)
  have hin : 4096 * (R q).pg + N ≤ x.n := by rw [hN]; omega
  obtain ⟨g, hg⟩ := space_some h.wb.lw.bd.sp (by omega)
  have hs := h.wb.lw.bd.sp
  rw [hg] at hs
  refine (M.Fill_in x.s g x.base x.R x.lim x.n t.f (ad x (R q).pg) N (R q).mark (h.mr q hq) W hs (by omega) (by unfold M.In ad; omega)).mono ?_
  rintro e w' ⟨rfl, h1, h2⟩
  rw [show ad x (R q).pg - x.base = 4096 * (R q).pg by unfold ad; omega] at h1
  rw [← hg] at h1 h2
  have k : Kept (bown x) W w' := (toK h2).mono (fun _ _ e => .inl e)
  refine ⟨rfl, ⟨⟨h.wb.lw.space0 (toK h2) h1, h.wb.lw.rl h.wb.rl k, h.wb.sn.fill (p := (R q).pg) (k := (R q).od) ⟨q, hq, rfl, rfl⟩ (fun i hi => ?_), h.wb.st, h.wb.nc, h.wb.bm, fun i hi => absurd hi (hE _), h.wb.exk k (fun _ e => .inl e)⟩, h.inj, h.wb.lw.bks h.bk (k.mono (fun _ _ e => .inl e)), h.nc, h.mr⟩, k⟩
  unfold M.upd
  rw [if_neg (by rw [hN]; omega)]
/-- Between two deeds: the law's world, its book in a box. -/
def KsI (w : World) (lw kb c : Nat) (W : World) : Prop := ∃ x t fa fl fc ra nv rc va n vc R, BW ⟨fun y v => y = kb ∧ v = .slice va n vc, fun _ => 0, fun _ => False⟩ w W lw c x t fa fl fc ra nv rc va n vc R ∧ w.heap.size ≤ kb ∧ Mk t R n
set_option maxRecDepth 4000 in
set_option maxHeartbeats 4000000 in
theorem keeps_any (b0 : Nat) (hb64 : b0 < 18446744073709551616) (l0 o0 : Int) (l1 : -9223372036854775808 ≤ l0) (l2 : l0 ≤ 9223372036854775807) (o1 : -9223372036854775808 ≤ o0) (o2 : o0 ≤ 9223372036854775807) (sv : Value) (m : Nat) (w : World) (hS : DeedsIn w sv m) :
    Calls Tryz.prog 5 #[cfgV b0 l0 o0, sv] w fun e w' => e = .returned (.bool true) ∧ Kept none' w w' := by
  have HS := hid hS
  obtain ⟨hm, oa, oc, hsv, _⟩ := hS
  subst hsv
  have BG := hid (fun W => begin_any b0 hb64 l0 o0 l1 l2 o1 o2 W)
  go_enter Tryz.func5, Tryz.ntmps5
  go_wp2_with fail
  have KB := hid ((Kept.refl none' w).alloc (cfgO b0 l0 o0))
  generalize w.alloc (cfgO b0 l0 o0) = wB at *
  refine (BG.out _).mono ?_
  rintro e w1 ⟨base, lim, o, hbm, lw, x, fa, fc, rfl, hL, e1, e2, e3, e4, e5⟩
  have W1 := hid (beg_wb (E := ⟨fun _ _ => False, fun _ => 0, fun _ => False⟩) o hL e4 e5 (by rw [e1]; exact hbm) (fun _ _ e => e.elim))
  clear hL BG
  go_wp2_with fail
  refine (lives_ok _).mono ?_
  rintro e w2 ⟨rfl, hk⟩
  have W2 := hid (W1.out.keep hk)
  clear hk W1
  have CM := hid (come_any lw x _ 0 fa (o + 1) fc none 0 0 (by omega) _ w2 W2.out.lw W2.out.rl ⟨0, by omega, by have := W2.out.lw.bd.sp.cfg.l1; omega⟩ W2.out.st rfl (by
    have h1 := W2.out.lw.bd.o8
    have h2 : 2 ^ x.o ≤ 2 ^ 8 := Nat.pow_le_pow_right (by decide) h1
    show 0 + 2 ^ x.o ≤ 1024
    omega))
  go_wp2_with fail
  refine CM.out.mono ?_
  rintro e w3 hq
  obtain ⟨he, x3, t3, ra3, rc3, hwb3, hk3, f1, f2, f3, f4, f5, f6, f7⟩ := W2.out.come (by
    have h1 := W2.out.lw.bd.sp.cfg.l1
    have h2 : 1 * x.R ≤ x.lim * x.R := Nat.mul_le_mul_right _ h1
    omega) (fun _ e => e.elim) hq
  subst he
  have W3 := hid hwb3
  have FD := hid (Feed_snK x3 t3 _ hwb3.sn f5 (.inr ⟨f4, f1⟩) w3 hwb3.lw.bd)
  have F4 := hid f4
  clear hq hk3 f2 f3 f5 f6 f7 CM W2 hwb3 f4
  obtain ⟨c0, c1, c2, c3, c4, c5, c6, c7, c8, c9⟩ := W3.out.lw.c
  go_wp2_with fail
  refine FD.out.mono ?_
  rintro e w4 ⟨rfl, hd⟩
  obtain ⟨t4, hwb4, hk4, hn4⟩ := W3.out.done hd (fun _ e => e.elim)
  have B4 := hid (show BW ⟨fun _ _ => False, fun _ => 0, fun _ => False⟩ _ w4 lw 1 x3 t4 fa (o + 1) fc ra3 1 rc3 none 0 0 (fun _ => ⟨0, 0, 0⟩) from ⟨hwb4.congr fun q i => ⟨fun e => by
    obtain ⟨h1 | h1, h2⟩ := e
    · exact h1.elim
    · exact absurd ⟨h1.1.trans F4.out.symm, h1.2.trans f1.symm⟩ h2, fun e => by
    obtain ⟨j, hj, _⟩ := e
    omega⟩, Inj.nil _, World.ownsRow_nil _ _ _ _, by omega, fun j hj => absurd hj (Nat.not_lt_zero _)⟩)
  clear hd hwb4 hk4 hn4 FD W3 c0 c1 c2 c3 c4 c5 c6 c7 c8 c9
  go_wp2_with fail
  have I0 := hid (show KsI wB lw w4.heap.size 1 (w4.alloc (.cells #[.slice none 0 0] 54)) from ⟨x3, t4, fa, o + 1, fc, ra3, 1, rc3, none, 0, 0, fun _ => ⟨0, 0, 0⟩, (B4.out.keep ((Kept.refl none' w4).alloc _)).re (fun y v e => by
    obtain ⟨rfl, rfl⟩ := e
    exact heap_new w4 _) (fun _ e => e.elim), B4.out.wb.lw.kp.size, fun j hj => absurd hj (Nat.not_lt_zero _)⟩)
  generalize w4.alloc (.cells #[.slice none 0 0] 54) = W4 at *
  generalize w4.heap.size = kb at *
  clear B4 F4
  go_loopw [7] (fun i W => ∃ j : Nat, j ≤ m ∧ j ≤ 60 ∧ i = .int .i64 j ∧ Hid (KsI wB lw kb (j + 1) W)) (fun i _ => m - (intOf i).toNat)
  case atStart => exact ⟨0, by omega, by omega, rfl, I0⟩
  case round =>
    clear I0
    obtain ⟨j, hj, hj3, rfl, hI⟩ := hrel
    obtain ⟨x, t, fa, fl, fc, ra, nv, rc, va, n, vc, R, hB, hkb, hmk⟩ := hI.out
    have HB := hid hB
    have KW := hid (none_trans KB.out hB.wb.lw.kp)
    have HKB := hid hkb
    have MK := hid hmk
    clear hB hkb hI hmk
    by_cases hlt : j < m
    · have hji : (j : Int) < (m : Int) := by omega
      by_cases hl3 : j < 60
      · have hj3i : (j : Int) < 60 := by omega
        obtain ⟨_, oa', oc', hsv, hd⟩ := HS.out
        injection hsv with ha hb hc
        subst ha hc
        obtain hd | ⟨bl, of, rfl, hbl, hd⟩ := hd
        · omega
        obtain ⟨op, od, wh, _, hod, hwh, g0, g1, g2⟩ := hd j hlt
        have KX := hid (none_trans KW.out (Kept.refl none' wr).drew)
        have HD := hid (HB.out.keep (Kept.refl none' wr).drew)
        have HA := hid (HB.out.keep ((Kept.refl none' wr).alloc (.cells #[.slice none 0 0] 54)).drew)
        have d0 := (bk1 (HD.out.wb.ex kb _ ⟨rfl, rfl⟩)).1
        have d1 := KX.out.cell (fun e => e) g0
        have d2 := KX.out.cell (fun e => e) g1
        have d3 := KX.out.cell (fun e => e) g2
        have DC := hid (do_any (HD.out.re (E' := ⟨fun y v => y = kb ∧ v = .slice va n vc, t.f, Lp (Lk R n)⟩) HD.out.wb.ex (fun _ _ _ => rfl)) (by omega) (fun _ e => e) op od wh hod hwh)
        have DA := hid (do_any (HA.out.re (E' := ⟨fun y v => (y = kb ∧ v = .slice va n vc) ∨ (y = wr.heap.size ∧ v = .slice none 0 0), t.f, Lp (Lk R n)⟩) (fun y v e => e.elim (fun e => HA.out.wb.ex y v e) (fun e => by
          obtain ⟨rfl, rfl⟩ := e
          exact heap_new wr _)) (fun _ _ _ => rfl)) (by omega) (fun _ e => e) op od wh hod hwh)
        have KK := hid (fun (W' : World) (h : Kept none' wB W') => And.intro ((none_trans KB.out h).cell (fun e => e) g0) (And.intro ((none_trans KB.out h).cell (fun e => e) g1) ((none_trans KB.out h).cell (fun e => e) g2)))
        have hkr : kb < wr.heap.size := heap_lt (HB.out.wb.ex kb _ ⟨rfl, rfl⟩)
        have hwb := HKB.out
        have hbl2 : bl < kb := by have := KB.out.size; omega
        clear g0 g1 g2 hd
        go_wp2_with fail
        go_region_held3 (fun w' => w'.cell? ⟨kb, 0, none⟩ = some (.slice va n vc) ∧ w'.cell? ⟨bl, of + j * 3, none⟩ = some (.int .i64 op) ∧ w'.cell? ⟨bl, of + j * 3 + 1, none⟩ = some (.int .i64 od) ∧ w'.cell? ⟨bl, of + j * 3 + 2, none⟩ = some (.int .i64 wh)) ((refine ⟨?_, ?_, ?_, ?_⟩ <;> first | with_reducible assumption | exact alloc_cellL (by assumption) | exact cell_far (by assumption) (by omega))) (first
          | (go_at_call 16; refine DC.out.mono ?_; rintro e w5 ⟨x5, t5, fa5, fl5, fc5, ra5, nv5, rc5, va5, n5, vc5, R5, hR5, rfl, hB5⟩; have B5 := hid hB5; have RL5 := hid hR5; clear hR5; have y0 := (bk1 (hB5.wb.ex kb _ ⟨rfl, rfl⟩)).1; obtain ⟨y1, y2, y3⟩ := KK.out w5 hB5.wb.lw.kp; clear hB5)
          | (go_at_call 16; refine DA.out.mono ?_; rintro e w5 ⟨x5, t5, fa5, fl5, fc5, ra5, nv5, rc5, va5, n5, vc5, R5, hR5, rfl, hB5⟩; have B5 := hid hB5; have RL5 := hid hR5; clear hR5; have y0 := (bk1 (hB5.wb.ex kb _ (.inl ⟨rfl, rfl⟩))).1; obtain ⟨y4, y5⟩ := bk1 (hB5.wb.ex wr.heap.size _ (.inr ⟨rfl, rfl⟩)); obtain ⟨y1, y2, y3⟩ := KK.out w5 hB5.wb.lw.kp; clear hB5)
          | fail)
        · have hk5 := B5.out.wb.ex kb _ ⟨rfl, rfl⟩
          have ka := (Kept.refl none' w5).alloc (.cells #[.slice va5 n5 vc5] 54)
          have HK6 := hid ((ka.block _ (heap_lt hk5) (fun e => e)).trans hk5)
          have B6 := hid ((B5.out.re (E' := ⟨fun _ _ => False, t.f, Lp (Lk R n)⟩) (fun _ _ e => e.elim) B5.out.wb.gb).keep ka)
          have HN6 := hid (heap_new w5 (.cells #[.slice va5 n5 vc5] 54))
          clear hk5 ka y0 y1 y2 y3 d0 d1 d2 d3 DC DA KK
          generalize w5.alloc (.cells #[.slice va5 n5 vc5] 54) = W6 at *
          generalize w5.heap.size = nb at *
          obtain ⟨n0, _⟩ := bk1 HN6.out
          obtain ⟨k0, kf⟩ := bk1 HK6.out
          by_cases hgt : n < n5
          · have hgi : (n : Int) < (n5 : Int) := by omega
            have hn5 : n5 = n + 1 := by have := RL5.out.2; omega
            obtain ⟨g0, hva, r0, r1, r2⟩ := B6.out.bk.get n (by omega)
            subst hva
            have e5 : (n5 : Int) - 1 = (n : Int) := by omega
            have hnn : n ≤ 300 := by have := HB.out.nc; omega
            have hnni : (n : Int) ≤ 300 := by omega
            have hlt5 : (n : Int) < (n5 : Int) := by omega
            have HN5 := hid hn5
            clear hn5
            obtain ⟨z1, z2, z3⟩ := B6.out.wb.rng n (by omega)
            obtain ⟨m1, m2, m3, m4, _, m8, m9⟩ := B6.out.wb.nums
            have hst := B6.out.wb.st
            have hz0 : 0 < 2 ^ (R5 n).od := Nat.pow_pos (by decide)
            have hod8 : (R5 n).od ≤ 8 := by omega
            obtain ⟨N, hN⟩ : ∃ N, N = 4096 * 2 ^ (R5 n).od := ⟨_, rfl⟩
            have hz9 : 2 ^ (R5 n).od ≤ 2 ^ 8 := Nat.pow_le_pow_right (by decide) hod8
            have hN2 : N ≤ 1048576 := by omega
            have hsh : IntKind.u64.wrap (4096 * 2 ^ min (IntKind.u64.wrap ((R5 n).od : Int)).toNat 64) = (N : Int) := by
              have h1 : IntKind.u64.wrap ((R5 n).od : Int) = ((R5 n).od : Int) := Int.emod_eq_of_lt (by omega) (by show ((R5 n).od : Int) < 18446744073709551616; omega)
              have h2 : (4096 : Int) * 2 ^ (R5 n).od = (N : Int) := by rw [hN]; simp
              rw [h1, Int.toNat_natCast, Nat.min_eq_left (by omega), h2]
              exact Int.emod_eq_of_lt (by omega) (by show (N : Int) < 18446744073709551616; omega)
            have K7 := ((Kept.refl none' W6).alloc (.cells #[.int .i64 ((R5 n).pg : Int), .int .i64 ((R5 n).od : Int), .int .u8 ((R5 n).mark : Int)] 62)).drew
            have B7 := hid ((B6.out.re (E' := ⟨fun y v => (y = kb ∧ v = .slice va n vc) ∨ (y = nb ∧ v = .slice (some ⟨g0, 0, none⟩) n5 vc5), fun _ => 0, fun _ => False⟩) (fun y v e => by
              rcases e with ⟨rfl, rfl⟩ | ⟨rfl, rfl⟩
              · exact HK6.out
              · exact HN6.out) (fun _ e => e.elim)).keep K7)
            have X7 := hid (show ((W6.alloc (.cells #[.int .i64 ((R5 n).pg : Int), .int .i64 ((R5 n).od : Int), .int .u8 ((R5 n).mark : Int)] 62)).drew).heap[W6.heap.size]? = some (.cells #[.int .i64 ((R5 n).pg : Int), .int .i64 ((R5 n).od : Int), .int .u8 ((R5 n).mark : Int)] 62) from heap_new W6 _)
            have LT6 := hid B6.out.wb.lw.lt
            have AT := hid (at_ok B7.out.wb.lw (R5 n).pg (by omega) (by omega))
            have FI := hid (fill_bw B7.out (fun _ e => e) n (by omega) N hN)
            have HN := hid hN
            have G6 := hid (show ∀ i, Lp (Lk R n) (i / 4096) → Lp (Lk R5 n5) (i / 4096) → t5.f i = t.f i from B6.out.wb.gb)
            obtain ⟨_, _, _, d3, _, _, _, _, _, _⟩ := B7.out.wb.lw.c
            obtain ⟨d0, d1, d2, _⟩ := bx33 X7.out
            clear z1 z2 z3 m1 m2 m3 m4 m8 m9 hst hz0 hz9 hN K7
            go_wp2_with fail
            go_region_held3 (fun w' => w'.cell? ⟨lw, 3, none⟩ = some (.pointer (some ⟨x5.s, 0, none⟩)) ∧ w'.cell? ⟨W6.heap.size, 0, none⟩ = some (.int .i64 ((R5 n).pg : Int)) ∧ w'.cell? ⟨W6.heap.size, 1, none⟩ = some (.int .i64 ((R5 n).od : Int)) ∧ w'.cell? ⟨W6.heap.size, 2, none⟩ = some (.int .u8 ((R5 n).mark : Int))) ((refine ⟨?_, ?_, ?_, ?_⟩ <;> first | with_reducible assumption)) (first
              | (go_at_call 11; refine AT.out.mono ?_; rintro e w7 ⟨rfl, h7⟩; replace h7 := h7.symm; subst h7)
              | (go_at_call 21; refine FI.out.mono ?_; rintro e w8 ⟨rfl, hB8, hk8⟩; have B8 := hid hB8; have X8 := hid ((hk8.block _ (heap_lt X7.out) (fun e => absurd (LT6.out _ (.inl e)) (Nat.lt_irrefl _))).trans X7.out); obtain ⟨_, _, _, u3, _, _, _, _, _, _⟩ := hB8.wb.lw.c; obtain ⟨u0, u1, u2, _⟩ := bx33 X8.out; clear hB8 hk8)
              | fail)
            all_goals as_aux_lemma =>
              have hk8 := B8.out.wb.ex kb _ (.inl ⟨rfl, rfl⟩)
              have hn8 := B8.out.wb.ex nb _ (.inr ⟨rfl, rfl⟩)
              have D := hid (show KsI wB lw kb (j + 1 + 1) (w8.setCell ⟨kb, 0, none⟩ (.slice (some ⟨g0, 0, none⟩) n5 vc5)) from ⟨x5, _, fa5, fl5, fc5, ra5, nv5, rc5, some ⟨g0, 0, none⟩, n5, vc5, R5, (((B8.out.re (E' := ⟨fun _ _ => False, fun _ => 0, fun _ => False⟩) (fun _ _ e => e.elim) (fun _ e => e.elim)).set hk8 ⟨HKB.out, fun _ e => e⟩ (.slice (some ⟨g0, 0, none⟩) n5 vc5)).re (fun y v e => by
                obtain ⟨rfl, rfl⟩ := e
                exact heap_set hk8 0 _) (fun _ e => e.elim)), HKB.out, Mk.fill (fun a ha b hb hab => by
                rcases B8.out.wb.sn.apart ⟨a, ha, rfl, rfl⟩ ⟨b, hb, rfl, rfl⟩ with ⟨e1, e2⟩ | e
                · exact absurd (B8.out.inj a b ha hb e1 e2) hab
                · exact e) n (by omega) (fun a ha hab => MK.out.step RL5.out G6.out a ha (by omega)) (fun i h1 h2 => by unfold M.upd; rw [if_pos ⟨h1, by rw [HN.out]; omega⟩]) (fun i h1 => by unfold M.upd; rw [if_neg (by rw [HN.out]; omega)])⟩)
              obtain ⟨n1, _⟩ := bk1 hn8
              obtain ⟨k1, kf1⟩ := bk1 hk8
              clear hk8 hn8 u0 u1 u2 u3 d0 d1 d2 d3 n0 k0 kf
              go_wp2_with fail
              exact ⟨⟨j + 1, by omega, by omega, by simp, D⟩, by simp [intOf]; omega⟩
          · have hgi : ¬ (n : Int) < (n5 : Int) := by omega
            have D := hid (show KsI wB lw kb (j + 1 + 1) (W6.setCell ⟨kb, 0, none⟩ (.slice va5 n5 vc5)) from ⟨x5, t5, fa5, fl5, fc5, ra5, nv5, rc5, va5, n5, vc5, R5, (((B6.out.re (E' := ⟨fun _ _ => False, fun _ => 0, fun _ => False⟩) (fun _ _ e => e.elim) (fun _ e => e.elim)).set HK6.out ⟨HKB.out, fun _ e => e⟩ (.slice va5 n5 vc5)).re (fun y v e => by
              obtain ⟨rfl, rfl⟩ := e
              exact heap_set HK6.out 0 _) (fun _ e => e.elim)), HKB.out, fun q hq => MK.out.step RL5.out (fun i h1 h2 => B6.out.wb.gb i h1 h2) q hq (by omega)⟩)
            go_wp2_with fail
            exact ⟨⟨j + 1, by omega, by omega, by simp, D⟩, by simp [intOf]; omega⟩
        · have hk5 := B5.out.wb.ex kb _ (.inl ⟨rfl, rfl⟩)
          have hn5' := B5.out.wb.ex wr.heap.size _ (.inr ⟨rfl, rfl⟩)
          have ka : Kept (fun y => y = wr.heap.size) w5 (w5.setCell ⟨wr.heap.size, 0, none⟩ (.slice va5 n5 vc5)) := (Kept.refl (fun y => y = wr.heap.size) w5).setCell (p := ⟨wr.heap.size, 0, none⟩) rfl _
          have HK6 := hid ((ka.block _ (heap_lt hk5) (by omega)).trans hk5)
          have hwr : wB.heap.size ≤ wr.heap.size := by omega
          have B6 := hid ((B5.out.re (E' := ⟨fun _ _ => False, t.f, Lp (Lk R n)⟩) (fun _ _ e => e.elim) B5.out.wb.gb).set hn5' ⟨hwr, fun _ e => e⟩ (.slice va5 n5 vc5))
          have HN6 := hid (show (w5.setCell ⟨wr.heap.size, 0, none⟩ (.slice va5 n5 vc5)).heap[wr.heap.size]? = some (.cells #[.slice va5 n5 vc5] 54) from heap_set hn5' 0 _)
          clear hk5 hn5' ka hwr y0 y1 y2 y3 y4 y5 d0 d1 d2 d3 DC DA KK
          generalize w5.setCell ⟨wr.heap.size, 0, none⟩ (.slice va5 n5 vc5) = W6 at *
          generalize wr.heap.size = nb at *
          obtain ⟨n0, _⟩ := bk1 HN6.out
          obtain ⟨k0, kf⟩ := bk1 HK6.out
          by_cases hgt : n < n5
          · have hgi : (n : Int) < (n5 : Int) := by omega
            have hn5 : n5 = n + 1 := by have := RL5.out.2; omega
            obtain ⟨g0, hva, r0, r1, r2⟩ := B6.out.bk.get n (by omega)
            subst hva
            have e5 : (n5 : Int) - 1 = (n : Int) := by omega
            have hnn : n ≤ 300 := by have := HB.out.nc; omega
            have hnni : (n : Int) ≤ 300 := by omega
            have hlt5 : (n : Int) < (n5 : Int) := by omega
            have HN5 := hid hn5
            clear hn5
            obtain ⟨z1, z2, z3⟩ := B6.out.wb.rng n (by omega)
            obtain ⟨m1, m2, m3, m4, _, m8, m9⟩ := B6.out.wb.nums
            have hst := B6.out.wb.st
            have hz0 : 0 < 2 ^ (R5 n).od := Nat.pow_pos (by decide)
            have hod8 : (R5 n).od ≤ 8 := by omega
            obtain ⟨N, hN⟩ : ∃ N, N = 4096 * 2 ^ (R5 n).od := ⟨_, rfl⟩
            have hz9 : 2 ^ (R5 n).od ≤ 2 ^ 8 := Nat.pow_le_pow_right (by decide) hod8
            have hN2 : N ≤ 1048576 := by omega
            have hsh : IntKind.u64.wrap (4096 * 2 ^ min (IntKind.u64.wrap ((R5 n).od : Int)).toNat 64) = (N : Int) := by
              have h1 : IntKind.u64.wrap ((R5 n).od : Int) = ((R5 n).od : Int) := Int.emod_eq_of_lt (by omega) (by show ((R5 n).od : Int) < 18446744073709551616; omega)
              have h2 : (4096 : Int) * 2 ^ (R5 n).od = (N : Int) := by rw [hN]; simp
              rw [h1, Int.toNat_natCast, Nat.min_eq_left (by omega), h2]
              exact Int.emod_eq_of_lt (by omega) (by show (N : Int) < 18446744073709551616; omega)
            have K7 := ((Kept.refl none' W6).alloc (.cells #[.int .i64 ((R5 n).pg : Int), .int .i64 ((R5 n).od : Int), .int .u8 ((R5 n).mark : Int)] 62)).drew
            have B7 := hid ((B6.out.re (E' := ⟨fun y v => (y = kb ∧ v = .slice va n vc) ∨ (y = nb ∧ v = .slice (some ⟨g0, 0, none⟩) n5 vc5), fun _ => 0, fun _ => False⟩) (fun y v e => by
              rcases e with ⟨rfl, rfl⟩ | ⟨rfl, rfl⟩
              · exact HK6.out
              · exact HN6.out) (fun _ e => e.elim)).keep K7)
            have X7 := hid (show ((W6.alloc (.cells #[.int .i64 ((R5 n).pg : Int), .int .i64 ((R5 n).od : Int), .int .u8 ((R5 n).mark : Int)] 62)).drew).heap[W6.heap.size]? = some (.cells #[.int .i64 ((R5 n).pg : Int), .int .i64 ((R5 n).od : Int), .int .u8 ((R5 n).mark : Int)] 62) from heap_new W6 _)
            have LT6 := hid B6.out.wb.lw.lt
            have AT := hid (at_ok B7.out.wb.lw (R5 n).pg (by omega) (by omega))
            have FI := hid (fill_bw B7.out (fun _ e => e) n (by omega) N hN)
            have HN := hid hN
            have G6 := hid (show ∀ i, Lp (Lk R n) (i / 4096) → Lp (Lk R5 n5) (i / 4096) → t5.f i = t.f i from B6.out.wb.gb)
            obtain ⟨_, _, _, d3, _, _, _, _, _, _⟩ := B7.out.wb.lw.c
            obtain ⟨d0, d1, d2, _⟩ := bx33 X7.out
            clear z1 z2 z3 m1 m2 m3 m4 m8 m9 hst hz0 hz9 hN K7
            go_wp2_with fail
            go_region_held3 (fun w' => w'.cell? ⟨lw, 3, none⟩ = some (.pointer (some ⟨x5.s, 0, none⟩)) ∧ w'.cell? ⟨W6.heap.size, 0, none⟩ = some (.int .i64 ((R5 n).pg : Int)) ∧ w'.cell? ⟨W6.heap.size, 1, none⟩ = some (.int .i64 ((R5 n).od : Int)) ∧ w'.cell? ⟨W6.heap.size, 2, none⟩ = some (.int .u8 ((R5 n).mark : Int))) ((refine ⟨?_, ?_, ?_, ?_⟩ <;> first | with_reducible assumption)) (first
              | (go_at_call 11; refine AT.out.mono ?_; rintro e w7 ⟨rfl, h7⟩; replace h7 := h7.symm; subst h7)
              | (go_at_call 21; refine FI.out.mono ?_; rintro e w8 ⟨rfl, hB8, hk8⟩; have B8 := hid hB8; have X8 := hid ((hk8.block _ (heap_lt X7.out) (fun e => absurd (LT6.out _ (.inl e)) (Nat.lt_irrefl _))).trans X7.out); obtain ⟨_, _, _, u3, _, _, _, _, _, _⟩ := hB8.wb.lw.c; obtain ⟨u0, u1, u2, _⟩ := bx33 X8.out; clear hB8 hk8)
              | fail)
            all_goals as_aux_lemma =>
              have hk8 := B8.out.wb.ex kb _ (.inl ⟨rfl, rfl⟩)
              have hn8 := B8.out.wb.ex nb _ (.inr ⟨rfl, rfl⟩)
              have D := hid (show KsI wB lw kb (j + 1 + 1) (w8.setCell ⟨kb, 0, none⟩ (.slice (some ⟨g0, 0, none⟩) n5 vc5)) from ⟨x5, _, fa5, fl5, fc5, ra5, nv5, rc5, some ⟨g0, 0, none⟩, n5, vc5, R5, (((B8.out.re (E' := ⟨fun _ _ => False, fun _ => 0, fun _ => False⟩) (fun _ _ e => e.elim) (fun _ e => e.elim)).set hk8 ⟨HKB.out, fun _ e => e⟩ (.slice (some ⟨g0, 0, none⟩) n5 vc5)).re (fun y v e => by
                obtain ⟨rfl, rfl⟩ := e
                exact heap_set hk8 0 _) (fun _ e => e.elim)), HKB.out, Mk.fill (fun a ha b hb hab => by
                rcases B8.out.wb.sn.apart ⟨a, ha, rfl, rfl⟩ ⟨b, hb, rfl, rfl⟩ with ⟨e1, e2⟩ | e
                · exact absurd (B8.out.inj a b ha hb e1 e2) hab
                · exact e) n (by omega) (fun a ha hab => MK.out.step RL5.out G6.out a ha (by omega)) (fun i h1 h2 => by unfold M.upd; rw [if_pos ⟨h1, by rw [HN.out]; omega⟩]) (fun i h1 => by unfold M.upd; rw [if_neg (by rw [HN.out]; omega)])⟩)
              obtain ⟨n1, _⟩ := bk1 hn8
              obtain ⟨k1, kf1⟩ := bk1 hk8
              clear hk8 hn8 u0 u1 u2 u3 d0 d1 d2 d3 n0 k0 kf
              go_wp2_with fail
              exact ⟨⟨j + 1, by omega, by omega, by simp, D⟩, by simp [intOf]; omega⟩
          · have hgi : ¬ (n : Int) < (n5 : Int) := by omega
            have D := hid (show KsI wB lw kb (j + 1 + 1) (W6.setCell ⟨kb, 0, none⟩ (.slice va5 n5 vc5)) from ⟨x5, t5, fa5, fl5, fc5, ra5, nv5, rc5, va5, n5, vc5, R5, (((B6.out.re (E' := ⟨fun _ _ => False, fun _ => 0, fun _ => False⟩) (fun _ _ e => e.elim) (fun _ e => e.elim)).set HK6.out ⟨HKB.out, fun _ e => e⟩ (.slice va5 n5 vc5)).re (fun y v e => by
              obtain ⟨rfl, rfl⟩ := e
              exact heap_set HK6.out 0 _) (fun _ e => e.elim)), HKB.out, fun q hq => MK.out.step RL5.out (fun i h1 h2 => B6.out.wb.gb i h1 h2) q hq (by omega)⟩)
            go_wp2_with fail
            exact ⟨⟨j + 1, by omega, by omega, by simp, D⟩, by simp [intOf]; omega⟩
      · have hj3i : ¬ (j : Int) < 60 := by omega
        go_wp2_with fail
        have hnn : n ≤ 300 := by have := HB.out.nc; omega
        generalize wr = w9 at *
        go_loopw [11] (fun i W' => ∃ q : Nat, q ≤ n ∧ i = .int .i64 q ∧ Hid (Kept none' w9 W')) (fun i _ => n - (intOf i).toNat)
        case atStart => exact ⟨0, by omega, rfl, hid (Kept.refl none' w9)⟩
        case round =>
          obtain ⟨q, hq, rfl, hW⟩ := hrel
          have B9 := hid (HB.out.keep hW.out)
          have k0 := (bk1 (B9.out.wb.ex kb _ ⟨rfl, rfl⟩)).1
          by_cases hqn : q < n
          · have hqi : (q : Int) < (n : Int) := by omega
            obtain ⟨g0, hva, r0, r1, r2⟩ := B9.out.bk.get q hqn
            subst hva
            obtain ⟨z1, z2, z3⟩ := B9.out.wb.rng q hqn
            obtain ⟨m1, m2, m3, m4, _, m8, m9⟩ := B9.out.wb.nums
            have hst := B9.out.wb.st
            have MO := hid (marked_ok B9.out.wb.lw (R q).pg (R q).od (R q).mark (by omega) (by omega) (by omega) (MK.out q hqn) (B9.out.mr q hqn))
            clear z1 z2 z3 m1 m2 m3 m4 m8 m9 hst
            go_wp2_with fail
            refine MO.out.mono ?_
            rintro e w10 ⟨rfl, hk⟩
            have K10 := hid (none_trans hW.out hk)
            clear hk
            go_wp2_with fail
            exact ⟨⟨q + 1, by omega, by simp, K10⟩, by simp [intOf]; omega⟩
          · have hqi : ¬ (q : Int) < (n : Int) := by omega
            go_wp2_with fail
            go_ret
            exact ⟨rfl, none_trans KW.out hW.out⟩
    · have hji : ¬ (j : Int) < (m : Int) := by omega
      go_wp2_with fail
      have hnn : n ≤ 300 := by have := HB.out.nc; omega
      generalize wr = w9 at *
      go_loopw [11] (fun i W' => ∃ q : Nat, q ≤ n ∧ i = .int .i64 q ∧ Hid (Kept none' w9 W')) (fun i _ => n - (intOf i).toNat)
      case atStart => exact ⟨0, by omega, rfl, hid (Kept.refl none' w9)⟩
      case round =>
        obtain ⟨q, hq, rfl, hW⟩ := hrel
        have B9 := hid (HB.out.keep hW.out)
        have k0 := (bk1 (B9.out.wb.ex kb _ ⟨rfl, rfl⟩)).1
        by_cases hqn : q < n
        · have hqi : (q : Int) < (n : Int) := by omega
          obtain ⟨g0, hva, r0, r1, r2⟩ := B9.out.bk.get q hqn
          subst hva
          obtain ⟨z1, z2, z3⟩ := B9.out.wb.rng q hqn
          obtain ⟨m1, m2, m3, m4, _, m8, m9⟩ := B9.out.wb.nums
          have hst := B9.out.wb.st
          have MO := hid (marked_ok B9.out.wb.lw (R q).pg (R q).od (R q).mark (by omega) (by omega) (by omega) (MK.out q hqn) (B9.out.mr q hqn))
          clear z1 z2 z3 m1 m2 m3 m4 m8 m9 hst
          go_wp2_with fail
          refine MO.out.mono ?_
          rintro e w10 ⟨rfl, hk⟩
          have K10 := hid (none_trans hW.out hk)
          clear hk
          go_wp2_with fail
          exact ⟨⟨q + 1, by omega, by simp, K10⟩, by simp [intOf]; omega⟩
        · have hqi : ¬ (q : Int) < (n : Int) := by omega
          go_wp2_with fail
          go_ret
          exact ⟨rfl, none_trans KW.out hW.out⟩
end Go.Proofs.YthglogiglimebaaGreat
