/- RegionBack: the walk. (Written by mk6f.py off RxS.) -/
import Derived.Test.YtggieolknccabaaGreatRxS
import Derived.Test.YtggieolknccabaaGreatRyC
namespace Go.Proofs.YtggieolknccabaaGreat
open Go.RowKit
set_option linter.unusedVariables false

set_option maxRecDepth 4000 in
set_option maxHeartbeats 8000000 in
theorem back_any6 (b : Nat) (hb64 : b < 18446744073709551616) (l0 o0 : Int) (l1 : -9223372036854775808 ≤ l0) (l2 : l0 ≤ 9223372036854775807) (o1 : -9223372036854775808 ≤ o0) (o2 : o0 ≤ 9223372036854775807) (oa : Option Addr) (m oc : Nat) (pa : Option Addr) (m2 pc : Nat) (w : World) (hops : Ops w (.slice oa m oc) m) (hmore : Ops w (.slice pa m2 pc) m2) :
    Calls Tryz.prog 4 #[cfgV b l0 o0, .slice oa m oc, .slice pa m2 pc] w fun e w' => e = .returned (.bool true) ∧ Kept none' w w' := by
  have K0 := hid ((Kept.refl none' w).alloc (cfgO b l0 o0))
  have X0 := hid (heap_new w (cfgO b l0 o0))
  have MY := hid (fun W => M.May_any b hb64 l0 o0 l1 l2 o1 o2 W)
  cases hm : M.mayB b l0 o0 with
  | false =>
    have NB := hid (fun W => New6_bad b hb64 l0 o0 l1 l2 o1 o2 hm W)
    rw [hm] at MY
    clear hm
    go_enter Tryz.func4, Tryz.ntmps4
    go_wp2_with fail
    refine (awake6 _).mono ?_
    rintro e w1 ⟨rfl, hk1⟩
    have X1 := hid ((hk1.block _ (heap_lt X0.out) (fun e => e)).trans X0.out)
    have K1 := hid (none_trans K0.out hk1)
    clear hk1
    obtain ⟨x0, x1, x2⟩ := cfg3 X1.out
    go_wp2_with fail
    refine (NB.out _).mono ?_
    rintro e w2 ⟨rfl, hk2⟩
    have X2 := hid ((hk2.block _ (heap_lt X1.out) (fun e => e)).trans X1.out)
    have K2 := hid (none_trans K1.out hk2)
    clear hk2 x0 x1 x2
    obtain ⟨x0, x1, x2⟩ := cfg3 X2.out
    go_wp2_with fail
    refine (MY.out _).mono ?_
    rintro e w3 ⟨rfl, hk3⟩
    have K3 := hid (none_trans K2.out (toK hk3))
    clear hk3 x0 x1 x2
    go_wp2_with fail
    go_ret
    exact ⟨rfl, K3.out⟩
  | true =>
    obtain ⟨hb4, lim, o, rfl, rfl, hl, ho⟩ := mayB_o hm
    have NW := hid (fun W => New6_ok b hb64 lim o hl ho hm W)
    rw [hm] at MY
    have HMAY := hid hm
    clear hm
    go_enter Tryz.func4, Tryz.ntmps4
    go_wp2_with fail
    refine (awake6 _).mono ?_
    rintro e w1 ⟨rfl, hk1⟩
    have X1 := hid ((hk1.block _ (heap_lt X0.out) (fun e => e)).trans X0.out)
    have K1 := hid (none_trans K0.out hk1)
    clear hk1
    obtain ⟨x0, x1, x2⟩ := cfg3 X1.out
    go_wp2_with fail
    refine (NW.out _).mono ?_
    rintro e w2 ⟨lw, x, rfl, hL, e1, e2, e3, e4, e5⟩
    have P2 := hid (New6_po o hL e4 e5 (by rw [e1]; exact hb4))
    have X2 := hid ((hL.kp.block _ (heap_lt X1.out) (fun e => e)).trans X1.out)
    have EQ := hid (And.intro e1 (And.intro e3 e5))
    clear hL e1 e2 e3 e4 e5 x0 x1 x2 NW
    obtain ⟨x0, x1, x2⟩ := cfg3 X2.out
    go_wp2_with fail
    refine (MY.out _).mono ?_
    rintro e w3 ⟨rfl, hk3⟩
    have P3 := hid (P2.out.keep (toK hk3))
    have X3 := hid (((toK hk3).block _ (heap_lt X2.out) (fun e => e)).trans X2.out)
    clear hk3 x0 x1 x2 P2 X2 MY
    obtain ⟨x0, x1, x2⟩ := cfg3 X3.out
    go_wp2_with fail
    refine (New6r b lim o ho _).mono ?_
    rintro e w4 ⟨g0, fc, rfl, hk4, hr4⟩
    have ka := none_trans hk4 ((Kept.refl none' w4).alloc (r6O b (lim : Int) (o : Int) 0 (.slice (some ⟨g0, 0, none⟩) (o + 1) fc) (.slice none 0 0)))
    have hsz := P3.out.pl.kp.size
    have L5 := hid (show LP6 w1 lw b lim o g0 fc w4.heap.size (w4.alloc (r6O b (lim : Int) (o : Int) 0 (.slice (some ⟨g0, 0, none⟩) (o + 1) fc) (.slice none 0 0))) from ⟨x, _, _, [], 0, none, 0, ⟨P3.out.keep ka, ⟨(hr4.keep ((Kept.refl none' w4).alloc _)).fl, (hr4.keep ((Kept.refl none' w4).alloc _)).rn, Nat.le_trans hsz hr4.nf, fun y e => by cases e⟩, EQ.out.1, EQ.out.2.1, EQ.out.2.2, by rw [Nat.zero_mul]; rfl, List.nodup_nil⟩, heap_new _ _, by have := hk4.size; omega⟩)
    clear hk4 hr4 ka x0 x1 x2 hsz
    go_upto_region 9 with fail
    generalize w4.heap.size = tb at *
    generalize w4.alloc (r6O b (lim : Int) (o : Int) 0 (.slice (some ⟨g0, 0, none⟩) (o + 1) fc) (.slice none 0 0)) = W5 at *
    have hm63 : m ≤ 9223372036854775807 := hops.1
    have hm64 : m2 ≤ 9223372036854775807 := hmore.1
    have HOP := hid hops
    have HMO := hid hmore
    have X5 := hid (fun W' (k : Kept none' w1 W') => cfg3 ((k.block _ (heap_lt X1.out) (fun e => e)).trans X1.out))
    clear hops hmore P3 X3
    go_upto_block 0 with fail
    go_cut [6, 10, 11, 12] (fun s6 s10 s11 s12 wx => Hid (LP6 w1 lw b lim o g0 fc tb wx))
    case first =>
      rename_i KK hKK J KK2 hJ hM
      clear hKK KK
      go_wp2_with fail
      go_loopw [6, 10, 11, 12] (fun s4 s8 s9 s10 W' => ∃ i : Nat, i ≤ m ∧ s8 = .int .i64 i ∧ Hid (LP6 w1 lw b lim o g0 fc tb W')) (fun _ i _ _ _ => m - (intOf i).toNat)
      case atStart => exact ⟨0, Nat.zero_le _, rfl, L5⟩
      case round =>
        clear L5
        obtain ⟨i, hi, rfl, hR⟩ := hrel
        obtain ⟨x, t, fr, ls, r, va, vc, hW, hT, htb⟩ := hR.out
        have HW := hid hW
        have HT := hid hT
        clear hR hW hT
        obtain ⟨n, hn⟩ : ∃ n, n = ls.length := ⟨_, rfl⟩
        rw [← hn] at HT
        have HNN := hid hn
        clear hn
        by_cases hlt : i < m
        · have hii : (i : Int) < (m : Int) := by omega
          obtain ⟨_, oa', oc', e, hh⟩ := HOP.out
          injection e with ea _ ec
          subst ea ec
          rcases hh with h0 | ⟨bl, oo, rfl, hbl, hat⟩
          · omega
          obtain ⟨kd, od, wh, mo, dn, a, ao, dm, dc, g, q1, q2, q3, q4', y0, y1, y2, y3, y4, y5, y6⟩ := hat i hlt
          rw [Nat.add_zero] at y0
          have kwr := none_trans K1.out HW.out.po.pl.kp
          have q4 := q4'.keep (ofK kwr)
          have c0 := kwr.cell (fun e => e) y0
          have c1 := kwr.cell (fun e => e) y1
          have c2 := kwr.cell (fun e => e) y2
          have c3 := kwr.cell (fun e => e) y3
          have c4 := kwr.cell (fun e => e) y4
          have c5 := kwr.cell (fun e => e) y5
          have c6 := kwr.cell (fun e => e) y6
          have PY := hid (fun W' (kk : Kept none' wr W') => played_any6 (HW.out.keep kk) n HNN.out kd od wh mo dn a q1 ao dm dc g q2 q3 (q4.keep (ofK kk)))
          clear hat q1 q2 q3 q4 q4' kwr
          obtain ⟨t0, t1, t2, t3, t4, t5, tf⟩ := r6c HT.out
          have HC := hid (fun W' (kk : Kept none' w W') => show W'.cell? ⟨bl, oo + i * 7, none⟩ = some (.int .i64 kd) ∧ W'.cell? ⟨bl, oo + i * 7 + 1, none⟩ = some (.int .i64 od) ∧ W'.cell? ⟨bl, oo + i * 7 + 2, none⟩ = some (.int .i64 wh) ∧ W'.cell? ⟨bl, oo + i * 7 + 3, none⟩ = some (.int .i64 mo) ∧ W'.cell? ⟨bl, oo + i * 7 + 4, none⟩ = some (.bool dn) ∧ W'.cell? ⟨bl, oo + i * 7 + 5, none⟩ = some (.int .u64 (a : Int)) ∧ W'.cell? ⟨bl, oo + i * 7 + 6, none⟩ = some (.slice ao dm dc) from ⟨kk.cell (fun e => e) y0, kk.cell (fun e => e) y1, kk.cell (fun e => e) y2, kk.cell (fun e => e) y3, kk.cell (fun e => e) y4, kk.cell (fun e => e) y5, kk.cell (fun e => e) y6⟩)
          clear y0 y1 y2 y3 y4 y5 y6
          have KD := hid ((Kept.refl none' wr).drew)
          have KA := hid (((Kept.refl none' wr).alloc r6Z).drew)
          have UA := hid (show (wr.alloc r6Z).drew.heap[wr.heap.size]? = some r6Z from heap_new wr r6Z)
          have hn1 : tb ≠ wr.heap.size := Nat.ne_of_lt (heap_lt HT.out)
          have hn2 : bl ≠ wr.heap.size := by have := (none_trans K1.out HW.out.po.pl.kp).size; omega
          have d0 := drew_cell t0
          have d1 := drew_cell t1
          have d2 := drew_cell t2
          have d3 := drew_cell t3
          have d4 := drew_cell t4
          have d5 := drew_cell t5
          have f0 := drew_cell c0
          have f1 := drew_cell c1
          have f2 := drew_cell c2
          have f3 := drew_cell c3
          have f4 := drew_cell c4
          have f5 := drew_cell c5
          have f6 := drew_cell c6
          go_upto_region 12 with fail
          go_cut [11, 12] from 33 to 51 (fun s9 s10 wx => LU6 w1 lw b lim o g0 fc tb s9 s10 wx)
          case first =>
            rename_i KK hKK J KK2 hJ hM
            clear hKK KK
            go_wp2_with fail
            go_region_held3 (fun w' => w'.cell? ⟨tb, 0, none⟩ = some (.int .u64 (b : Int)) ∧ w'.cell? ⟨tb, 1, none⟩ = some (.int .i64 (lim : Int)) ∧ w'.cell? ⟨tb, 2, none⟩ = some (.int .i64 (o : Int)) ∧ w'.cell? ⟨tb, 3, none⟩ = some (.int .i64 (r : Int)) ∧ w'.cell? ⟨tb, 4, none⟩ = some (.slice (some ⟨g0, 0, none⟩) (o + 1) fc) ∧ w'.cell? ⟨tb, 5, none⟩ = some (.slice va n vc) ∧ w'.cell? ⟨bl, oo + i * 7, none⟩ = some (.int .i64 kd) ∧ w'.cell? ⟨bl, oo + i * 7 + 1, none⟩ = some (.int .i64 od) ∧ w'.cell? ⟨bl, oo + i * 7 + 2, none⟩ = some (.int .i64 wh) ∧ w'.cell? ⟨bl, oo + i * 7 + 3, none⟩ = some (.int .i64 mo) ∧ w'.cell? ⟨bl, oo + i * 7 + 4, none⟩ = some (.bool dn) ∧ w'.cell? ⟨bl, oo + i * 7 + 5, none⟩ = some (.int .u64 (a : Int)) ∧ w'.cell? ⟨bl, oo + i * 7 + 6, none⟩ = some (.slice ao dm dc)) ((refine ⟨?_, ?_, ?_, ?_, ?_, ?_, ?_, ?_, ?_, ?_, ?_, ?_, ?_⟩ <;> first | with_reducible assumption | with_reducible exact drew_cell (alloc_cellL (by with_reducible assumption)) | with_reducible exact alloc_cellL (by with_reducible assumption) | with_reducible exact cell_far6 (by with_reducible assumption) (by with_reducible assumption) _ _ _ _ _ _)) (first
              | (go_at_call 10; (with_reducible refine (PY.out _ KD.out).mono ?_); rintro e w5 ⟨x5, t5, fr5, ls5, r5, va5, vc5, rfl, hR5, hk5⟩; have R5 := hid hR5; have T5 := hid ((HW.out.keep KD.out).bx hk5 ((KD.out.block _ (heap_lt HT.out) (fun e => e)).trans HT.out)); obtain ⟨n5, hn5⟩ : ∃ n5, n5 = ls5.length := ⟨_, rfl⟩; rw [← hn5]; have HN5 := hid hn5; obtain ⟨s0, s1, s2, s3, s4, s5, sf⟩ := r6c T5.out; obtain ⟨p0, p1, p2, p3, p4, p5, p6⟩ := HC.out _ (none_trans K1.out hR5.po.pl.kp); clear hR5 hk5 hn5)
              | (go_at_call 10; (with_reducible refine (PY.out _ KA.out).mono ?_); rintro e w5 ⟨x5, t5, fr5, ls5, r5, va5, vc5, rfl, hR5, hk5⟩; have R5 := hid hR5; have T5 := hid ((HW.out.keep KA.out).bx hk5 ((KA.out.block _ (heap_lt HT.out) (fun e => e)).trans HT.out)); obtain ⟨n5, hn5⟩ : ∃ n5, n5 = ls5.length := ⟨_, rfl⟩; rw [← hn5]; have HN5 := hid hn5; obtain ⟨s0, s1, s2, s3, s4, s5, sf⟩ := r6c T5.out; obtain ⟨p0, p1, p2, p3, p4, p5, p6⟩ := HC.out _ (none_trans K1.out hR5.po.pl.kp); have U5 := hid ((HW.out.keep KA.out).bx hk5 UA.out); obtain ⟨y0, y1, y2, y3, y4, y5, yf⟩ := r6c (b := 0) (l := 0) (o := 0) (r := 0) U5.out; clear hR5 hk5 hn5)
              | fail)
            all_goals
              have hsz5 := R5.out.po.pl.kp.size
              first
              | (have D := hid (show LU6 w1 lw b lim o g0 fc tb (.pointer (some ⟨wr.heap.size, 0, none⟩)) (.bool true) (set6 w5 wr.heap.size (.int .u64 (b : Int)) (.int .i64 (lim : Int)) (.int .i64 (o : Int)) (.int .i64 (r5 : Int)) (.slice (some ⟨g0, 0, none⟩) (o + 1) fc) (.slice va5 n5 vc5)) from ⟨x5, t5, fr5, ls5, r5, va5, vc5, wr.heap.size, R5.out.fin U5.out HW.out.po.pl.kp.size _ _ _ _ _ _, rfl, rfl, by rw [← HN5.out]; exact set6_heap U5.out _ _ _ _ _ _, ⟨_, ((set6_in w5 wr.heap.size _ _ _ _ _ _).block _ (heap_lt T5.out) hn1).trans T5.out, rfl⟩, htb, HW.out.po.pl.kp.size, fun e => hn1 e.symm⟩)
                 go_wp2_with fail
                 go_meet
                 case rel => exact D.out)
              | (have D := hid (show LU6 w1 lw b lim o g0 fc tb (.pointer (some ⟨w5.heap.size, 0, none⟩)) (.bool true) (w5.alloc (r6O b (lim : Int) (o : Int) (r5 : Int) (.slice (some ⟨g0, 0, none⟩) (o + 1) fc) (.slice va5 n5 vc5))) from ⟨x5, t5, fr5, ls5, r5, va5, vc5, w5.heap.size, R5.out.keep ((Kept.refl none' w5).alloc _), rfl, rfl, by rw [← HN5.out]; exact heap_new _ _, ⟨_, (((Kept.refl none' w5).alloc _).block _ (heap_lt T5.out) (fun e => e)).trans T5.out, rfl⟩, htb, hsz5, fun e => by have := heap_lt T5.out; omega⟩)
                 go_wp2_with fail
                 go_meet
                 case rel => exact D.out)
          case rest =>
          obtain ⟨x6, t6, fr6, ls6, r6, va6, vc6, ub, hR6, rfl, rfl, hU6, ⟨cs6, hT6, hcs6⟩, _, hub, hne⟩ := hcut
          have R6' := hid hR6
          have U6 := hid hU6
          have T6 := hid hT6
          obtain ⟨n6, hn6⟩ : ∃ n6, n6 = ls6.length := ⟨_, rfl⟩
          rw [← hn6] at U6
          have HN6 := hid hn6
          clear hR6 hU6 hT6 hn6 PY HC KD KA UA d0 d1 d2 d3 d4 d5 f0 f1 f2 f3 f4 f5 f6 t0 t1 t2 t3 t4 t5 tf c0 c1 c2 c3 c4 c5 c6 HW HT
          obtain ⟨u0, u1, u2, u3, u4, u5, uf⟩ := r6c U6.out
          have R7 := hid R6'.out
          have U7 := hid U6.out
          have T7 := hid T6.out
          clear R6' U6 T6
          generalize wc = w7 at *
          have tc : ∀ j, j < 6 → ∃ v, w7.cell? ⟨tb, j, none⟩ = some v := fun j hj => ⟨cs6[j]'(by omega), by simp [World.cell?, T7.out, hcs6, hj]⟩
          obtain ⟨v0, t0⟩ := tc 0 (by omega)
          obtain ⟨v1, t1⟩ := tc 1 (by omega)
          obtain ⟨v2, t2⟩ := tc 2 (by omega)
          obtain ⟨v3, t3⟩ := tc 3 (by omega)
          obtain ⟨v4, t4⟩ := tc 4 (by omega)
          obtain ⟨v5, t5⟩ := tc 5 (by omega)
          have tf : ∀ j, w7.frozen? ⟨tb, j, none⟩ = false := fun j => by simp [World.frozen?, T7.out]
          have D := hid (show LP6 w1 lw b lim o g0 fc tb (set6 w7 tb (.int .u64 (b : Int)) (.int .i64 (lim : Int)) (.int .i64 (o : Int)) (.int .i64 (r6 : Int)) (.slice (some ⟨g0, 0, none⟩) (o + 1) fc) (.slice va6 n6 vc6)) from ⟨x6, t6, fr6, ls6, r6, va6, vc6, R7.out.fin T7.out htb _ _ _ _ _ _, by rw [← HN6.out]; exact set6_any T7.out hcs6 _ _ _ _ _ _, htb⟩)
          clear tc
          go_wp2_with fail
          exact ⟨⟨i + 1, by omega, by simp, D⟩, by simp [intOf]; omega⟩
        · obtain rfl : i = m := by omega
          have hii : ¬ (i : Int) < (i : Int) := by omega
          have D := hid (show LP6 w1 lw b lim o g0 fc tb wr from ⟨x, t, fr, ls, r, va, vc, HW.out, by rw [← HNN.out]; exact HT.out, htb⟩)
          go_wp2_with fail
          go_meet
          case rel => exact D
    case rest =>
    clear L5
    obtain ⟨x, t, fr, ls, r, va, vc, hW, hT, htb⟩ := hcut.out
    have HW := hid hW
    have HT := hid hT
    clear hcut hW hT
    obtain ⟨n, hn⟩ : ∃ n, n = ls.length := ⟨_, rfl⟩
    rw [← hn] at HT
    have HNN := hid hn
    clear hn
    have AG := hid (again6 HW.out.po b lim r o HMAY.out hb64 HW.out.eb HW.out.el HW.out.eo HW.out.er)
    obtain ⟨x0, x1, x2⟩ := X5.out _ HW.out.po.pl.kp
    go_wp2_with fail
    refine AG.out.mono ?_
    rintro e w6 ⟨lw2, y, t2, rfl, hP, e1, e2, e3, e4⟩
    have ka := hP.pl.kp
    have HW6 := hid (show RW w1 w6 lw2 y t2 fr ls b lim r o g0 fc va vc from ⟨hP.older HW.out.po.pl.kp, HW.out.rf.keep ka, e1, e2, e3, e4.trans HW.out.er, HW.out.nd⟩)
    have HT6 := hid ((ka.block _ (heap_lt HT.out) (fun e => e)).trans HT.out)
    clear hP e1 e2 e3 e4 ka AG x0 x1 x2
    obtain ⟨t0, t1, t2', t3, t4, t5, tf⟩ := r6c HT6.out
    have LS := hid (lists6 HW6.out n)
    go_wp2_with fail
    refine LS.out.mono ?_
    rintro e w7 ⟨rfl, hk7⟩
    have L7 := hid (show LP6 w1 lw2 b lim o g0 fc tb w7 from ⟨y, t2, fr, ls, r, va, vc, HW6.out.keep hk7, by rw [← HNN.out]; exact (hk7.block _ (heap_lt HT6.out) (fun e => e)).trans HT6.out, htb⟩)
    clear hk7 LS t0 t1 t2' t3 t4 t5 tf HW HT HW6 HT6 HNN HOP
    go_wp2_with fail
    go_loopw [6, 14, 15, 16] (fun s4 s8 s9 s10 W' => ∃ i : Nat, i ≤ m2 ∧ s8 = .int .i64 i ∧ Hid (LP6 w1 lw2 b lim o g0 fc tb W')) (fun _ i _ _ _ => m2 - (intOf i).toNat)
    case atStart => exact ⟨0, Nat.zero_le _, rfl, L7⟩
    case round =>
      clear L7
      obtain ⟨i, hi, rfl, hR⟩ := hrel
      obtain ⟨x, t, fr, ls, r, va, vc, hW, hT, htb⟩ := hR.out
      have HW := hid hW
      have HT := hid hT
      clear hR hW hT
      obtain ⟨n, hn⟩ : ∃ n, n = ls.length := ⟨_, rfl⟩
      rw [← hn] at HT
      have HNN := hid hn
      clear hn
      by_cases hlt : i < m2
      · have hii : (i : Int) < (m2 : Int) := by omega
        obtain ⟨_, oa', oc', e, hh⟩ := HMO.out
        injection e with ea _ ec
        subst ea ec
        rcases hh with h0 | ⟨bl, oo, rfl, hbl, hat⟩
        · omega
        obtain ⟨kd, od, wh, mo, dn, a, ao, dm, dc, g, q1, q2, q3, q4', y0, y1, y2, y3, y4, y5, y6⟩ := hat i hlt
        rw [Nat.add_zero] at y0
        have kwr := none_trans K1.out HW.out.po.pl.kp
        have q4 := q4'.keep (ofK kwr)
        have c0 := kwr.cell (fun e => e) y0
        have c1 := kwr.cell (fun e => e) y1
        have c2 := kwr.cell (fun e => e) y2
        have c3 := kwr.cell (fun e => e) y3
        have c4 := kwr.cell (fun e => e) y4
        have c5 := kwr.cell (fun e => e) y5
        have c6 := kwr.cell (fun e => e) y6
        have PY := hid (fun W' (kk : Kept none' wr W') => played_any6 (HW.out.keep kk) n HNN.out kd od wh mo dn a q1 ao dm dc g q2 q3 (q4.keep (ofK kk)))
        clear hat q1 q2 q3 q4 q4' kwr
        obtain ⟨t0, t1, t2, t3, t4, t5, tf⟩ := r6c HT.out
        have HC := hid (fun W' (kk : Kept none' w W') => show W'.cell? ⟨bl, oo + i * 7, none⟩ = some (.int .i64 kd) ∧ W'.cell? ⟨bl, oo + i * 7 + 1, none⟩ = some (.int .i64 od) ∧ W'.cell? ⟨bl, oo + i * 7 + 2, none⟩ = some (.int .i64 wh) ∧ W'.cell? ⟨bl, oo + i * 7 + 3, none⟩ = some (.int .i64 mo) ∧ W'.cell? ⟨bl, oo + i * 7 + 4, none⟩ = some (.bool dn) ∧ W'.cell? ⟨bl, oo + i * 7 + 5, none⟩ = some (.int .u64 (a : Int)) ∧ W'.cell? ⟨bl, oo + i * 7 + 6, none⟩ = some (.slice ao dm dc) from ⟨kk.cell (fun e => e) y0, kk.cell (fun e => e) y1, kk.cell (fun e => e) y2, kk.cell (fun e => e) y3, kk.cell (fun e => e) y4, kk.cell (fun e => e) y5, kk.cell (fun e => e) y6⟩)
        clear y0 y1 y2 y3 y4 y5 y6
        have KD := hid ((Kept.refl none' wr).drew)
        have KA := hid (((Kept.refl none' wr).alloc r6Z).drew)
        have UA := hid (show (wr.alloc r6Z).drew.heap[wr.heap.size]? = some r6Z from heap_new wr r6Z)
        have hn1 : tb ≠ wr.heap.size := Nat.ne_of_lt (heap_lt HT.out)
        have hn2 : bl ≠ wr.heap.size := by have := (none_trans K1.out HW.out.po.pl.kp).size; omega
        have d0 := drew_cell t0
        have d1 := drew_cell t1
        have d2 := drew_cell t2
        have d3 := drew_cell t3
        have d4 := drew_cell t4
        have d5 := drew_cell t5
        have f0 := drew_cell c0
        have f1 := drew_cell c1
        have f2 := drew_cell c2
        have f3 := drew_cell c3
        have f4 := drew_cell c4
        have f5 := drew_cell c5
        have f6 := drew_cell c6
        go_upto_region 22 with fail
        go_cut [15, 16] from 63 to 87 (fun s9 s10 wx => LU6 w1 lw2 b lim o g0 fc tb s9 s10 wx)
        case first =>
          rename_i KK hKK J KK2 hJ hM
          clear hKK KK
          go_wp2_with fail
          go_region_held3 (fun w' => w'.cell? ⟨tb, 0, none⟩ = some (.int .u64 (b : Int)) ∧ w'.cell? ⟨tb, 1, none⟩ = some (.int .i64 (lim : Int)) ∧ w'.cell? ⟨tb, 2, none⟩ = some (.int .i64 (o : Int)) ∧ w'.cell? ⟨tb, 3, none⟩ = some (.int .i64 (r : Int)) ∧ w'.cell? ⟨tb, 4, none⟩ = some (.slice (some ⟨g0, 0, none⟩) (o + 1) fc) ∧ w'.cell? ⟨tb, 5, none⟩ = some (.slice va n vc) ∧ w'.cell? ⟨bl, oo + i * 7, none⟩ = some (.int .i64 kd) ∧ w'.cell? ⟨bl, oo + i * 7 + 1, none⟩ = some (.int .i64 od) ∧ w'.cell? ⟨bl, oo + i * 7 + 2, none⟩ = some (.int .i64 wh) ∧ w'.cell? ⟨bl, oo + i * 7 + 3, none⟩ = some (.int .i64 mo) ∧ w'.cell? ⟨bl, oo + i * 7 + 4, none⟩ = some (.bool dn) ∧ w'.cell? ⟨bl, oo + i * 7 + 5, none⟩ = some (.int .u64 (a : Int)) ∧ w'.cell? ⟨bl, oo + i * 7 + 6, none⟩ = some (.slice ao dm dc)) ((refine ⟨?_, ?_, ?_, ?_, ?_, ?_, ?_, ?_, ?_, ?_, ?_, ?_, ?_⟩ <;> first | with_reducible assumption | with_reducible exact drew_cell (alloc_cellL (by with_reducible assumption)) | with_reducible exact alloc_cellL (by with_reducible assumption) | with_reducible exact cell_far6 (by with_reducible assumption) (by with_reducible assumption) _ _ _ _ _ _)) (first
            | (go_at_call 10; (with_reducible refine (PY.out _ KD.out).mono ?_); rintro e w5 ⟨x5, t5, fr5, ls5, r5, va5, vc5, rfl, hR5, hk5⟩; have R5 := hid hR5; have T5 := hid ((HW.out.keep KD.out).bx hk5 ((KD.out.block _ (heap_lt HT.out) (fun e => e)).trans HT.out)); obtain ⟨n5, hn5⟩ : ∃ n5, n5 = ls5.length := ⟨_, rfl⟩; rw [← hn5]; have HN5 := hid hn5; obtain ⟨s0, s1, s2, s3, s4, s5, sf⟩ := r6c T5.out; obtain ⟨p0, p1, p2, p3, p4, p5, p6⟩ := HC.out _ (none_trans K1.out hR5.po.pl.kp); clear hR5 hk5 hn5)
            | (go_at_call 10; (with_reducible refine (PY.out _ KA.out).mono ?_); rintro e w5 ⟨x5, t5, fr5, ls5, r5, va5, vc5, rfl, hR5, hk5⟩; have R5 := hid hR5; have T5 := hid ((HW.out.keep KA.out).bx hk5 ((KA.out.block _ (heap_lt HT.out) (fun e => e)).trans HT.out)); obtain ⟨n5, hn5⟩ : ∃ n5, n5 = ls5.length := ⟨_, rfl⟩; rw [← hn5]; have HN5 := hid hn5; obtain ⟨s0, s1, s2, s3, s4, s5, sf⟩ := r6c T5.out; obtain ⟨p0, p1, p2, p3, p4, p5, p6⟩ := HC.out _ (none_trans K1.out hR5.po.pl.kp); have U5 := hid ((HW.out.keep KA.out).bx hk5 UA.out); obtain ⟨y0, y1, y2, y3, y4, y5, yf⟩ := r6c (b := 0) (l := 0) (o := 0) (r := 0) U5.out; clear hR5 hk5 hn5)
            | fail)
          all_goals
            have hsz5 := R5.out.po.pl.kp.size
            first
            | (have D := hid (show LU6 w1 lw2 b lim o g0 fc tb (.pointer (some ⟨wr.heap.size, 0, none⟩)) (.bool true) (set6 w5 wr.heap.size (.int .u64 (b : Int)) (.int .i64 (lim : Int)) (.int .i64 (o : Int)) (.int .i64 (r5 : Int)) (.slice (some ⟨g0, 0, none⟩) (o + 1) fc) (.slice va5 n5 vc5)) from ⟨x5, t5, fr5, ls5, r5, va5, vc5, wr.heap.size, R5.out.fin U5.out HW.out.po.pl.kp.size _ _ _ _ _ _, rfl, rfl, by rw [← HN5.out]; exact set6_heap U5.out _ _ _ _ _ _, ⟨_, ((set6_in w5 wr.heap.size _ _ _ _ _ _).block _ (heap_lt T5.out) hn1).trans T5.out, rfl⟩, htb, HW.out.po.pl.kp.size, fun e => hn1 e.symm⟩)
               go_wp2_with fail
               go_meet
               case rel => exact D.out)
            | (have D := hid (show LU6 w1 lw2 b lim o g0 fc tb (.pointer (some ⟨w5.heap.size, 0, none⟩)) (.bool true) (w5.alloc (r6O b (lim : Int) (o : Int) (r5 : Int) (.slice (some ⟨g0, 0, none⟩) (o + 1) fc) (.slice va5 n5 vc5))) from ⟨x5, t5, fr5, ls5, r5, va5, vc5, w5.heap.size, R5.out.keep ((Kept.refl none' w5).alloc _), rfl, rfl, by rw [← HN5.out]; exact heap_new _ _, ⟨_, (((Kept.refl none' w5).alloc _).block _ (heap_lt T5.out) (fun e => e)).trans T5.out, rfl⟩, htb, hsz5, fun e => by have := heap_lt T5.out; omega⟩)
               go_wp2_with fail
               go_meet
               case rel => exact D.out)
        case rest =>
        obtain ⟨x6, t6, fr6, ls6, r6, va6, vc6, ub, hR6, rfl, rfl, hU6, ⟨cs6, hT6, hcs6⟩, _, hub, hne⟩ := hcut
        have R6' := hid hR6
        have U6 := hid hU6
        have T6 := hid hT6
        obtain ⟨n6, hn6⟩ : ∃ n6, n6 = ls6.length := ⟨_, rfl⟩
        rw [← hn6] at U6
        have HN6 := hid hn6
        clear hR6 hU6 hT6 hn6 PY HC KD KA UA d0 d1 d2 d3 d4 d5 f0 f1 f2 f3 f4 f5 f6 t0 t1 t2 t3 t4 t5 tf c0 c1 c2 c3 c4 c5 c6 HW HT
        obtain ⟨u0, u1, u2, u3, u4, u5, uf⟩ := r6c U6.out
        have LS := hid (lists6 R6'.out n6)
        go_wp2_with fail
        refine LS.out.mono ?_
        rintro e w7 ⟨rfl, hk7⟩
        have R7 := hid (R6'.out.keep hk7)
        have U7 := hid ((hk7.block _ (heap_lt U6.out) (fun e => e)).trans U6.out)
        have T7 := hid ((hk7.block _ (heap_lt T6.out) (fun e => e)).trans T6.out)
        clear hk7 LS u0 u1 u2 u3 u4 u5 uf R6' U6 T6
        obtain ⟨u0, u1, u2, u3, u4, u5, uf⟩ := r6c U7.out
        have tc : ∀ j, j < 6 → ∃ v, w7.cell? ⟨tb, j, none⟩ = some v := fun j hj => ⟨cs6[j]'(by omega), by simp [World.cell?, T7.out, hcs6, hj]⟩
        obtain ⟨v0, t0⟩ := tc 0 (by omega)
        obtain ⟨v1, t1⟩ := tc 1 (by omega)
        obtain ⟨v2, t2⟩ := tc 2 (by omega)
        obtain ⟨v3, t3⟩ := tc 3 (by omega)
        obtain ⟨v4, t4⟩ := tc 4 (by omega)
        obtain ⟨v5, t5⟩ := tc 5 (by omega)
        have tf : ∀ j, w7.frozen? ⟨tb, j, none⟩ = false := fun j => by simp [World.frozen?, T7.out]
        have D := hid (show LP6 w1 lw2 b lim o g0 fc tb (set6 w7 tb (.int .u64 (b : Int)) (.int .i64 (lim : Int)) (.int .i64 (o : Int)) (.int .i64 (r6 : Int)) (.slice (some ⟨g0, 0, none⟩) (o + 1) fc) (.slice va6 n6 vc6)) from ⟨x6, t6, fr6, ls6, r6, va6, vc6, R7.out.fin T7.out htb _ _ _ _ _ _, by rw [← HN6.out]; exact set6_any T7.out hcs6 _ _ _ _ _ _, htb⟩)
        clear tc
        go_wp2_with fail
        exact ⟨⟨i + 1, by omega, by simp, D⟩, by simp [intOf]; omega⟩
      · obtain rfl : i = m2 := by omega
        have hii : ¬ (i : Int) < (i : Int) := by omega
        have KF := hid (none_trans K1.out HW.out.po.pl.kp)
        go_wp2_with fail
        go_ret
        exact ⟨rfl, KF.out⟩
end Go.Proofs.YtggieolknccabaaGreat
