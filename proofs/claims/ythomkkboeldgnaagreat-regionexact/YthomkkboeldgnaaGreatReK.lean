/- RegionExact: the walk. -/
import Derived.Test.YthomkkboeldgnaaGreatReL
import Derived.Test.YthomkkboeldgnaaGreatGonB
import Derived.Deep.RegionHeld3
import Derived.Deep.DeepCutAuto
namespace Go.Proofs.YthomkkboeldgnaaGreat
open Go.RowKit
set_option linter.unusedVariables false

theorem may6' {l o : Nat} (hl : l ≤ 3) (ho : o ≤ 3) : M.mayB 1048576 ((l + 1 : Nat) : Int) (o : Int) = true := by
  have h : ∀ l : Nat, l < 4 → ∀ o : Nat, o < 4 → M.mayB 1048576 ((l + 1 : Nat) : Int) (o : Int) = true := by decide
  exact h l (by omega) o (by omega)
theorem small6' (a b : Int) (w : World) : Calls Tryz.prog 5 #[.int .i64 a, .int .i64 b] w fun e w' => ∃ L o : Nat, 1 ≤ L ∧ L ≤ 4 ∧ o ≤ 3 ∧ e = .returned (cfgV 1048576 (L : Int) (o : Int)) ∧ Kept none' w w' := by
  refine (small_any a b w).mono ?_
  rintro e w' ⟨l, o, h1, h2, rfl, hk⟩
  exact ⟨l + 1, o, by omega, by omega, h2, rfl, hk⟩
theorem may6L' {L o : Nat} (h1 : 1 ≤ L) (h2 : L ≤ 4) (ho : o ≤ 3) : M.mayB 1048576 (L : Int) (o : Int) = true := by
  obtain ⟨l, rfl⟩ : ∃ l, L = l + 1 := ⟨L - 1, by omega⟩
  exact may6' (by omega) ho
/-- The loop's state, between two calls. -/
def EXs (w : World) (lw L o rg q : Nat) (v : Value) (W : World) : Prop := ∃ x t fr ls dl, EX w W lw L o rg v x t fr ls ls dl ∧ q = ls.length
/-- A call's box. -/
abbrev opB (kd od wh mo : Int) (dn : Bool) (a : Nat) (d : Value) : Obj := .cells #[.int .i64 kd, .int .i64 od, .int .i64 wh, .int .i64 mo, .bool dn, .int .u64 (a : Int), d] 35
theorem op7b {W : World} {y : Nat} {kd od wh mo : Int} {dn : Bool} {a : Nat} {d : Value} (h : W.heap[y]? = some (opB kd od wh mo dn a d)) : W.cell? ⟨y, 0, none⟩ = some (.int .i64 kd) ∧ W.cell? ⟨y, 1, none⟩ = some (.int .i64 od) ∧ W.cell? ⟨y, 2, none⟩ = some (.int .i64 wh) ∧ W.cell? ⟨y, 3, none⟩ = some (.int .i64 mo) ∧ W.cell? ⟨y, 4, none⟩ = some (.bool dn) ∧ W.cell? ⟨y, 5, none⟩ = some (.int .u64 (a : Int)) ∧ W.cell? ⟨y, 6, none⟩ = some d := by
  refine ⟨?_, ?_, ?_, ?_, ?_, ?_, ?_⟩ <;> simp [World.cell?, h]
theorem mod_at {p i : Nat} (hi : i ≤ 3) (hm : p % 2 ^ i = 0) : ((1048576 + 4096 * p : Nat) : Int) % ((4096 * 2 ^ i : Nat) : Int) = 0 := by
  have h : (1048576 + 4096 * p) % (4096 * 2 ^ i) = 0 := by
    rw [show 1048576 + 4096 * p = 4096 * (256 + p) by omega, Nat.mul_mod_mul_left]
    have h1 : (256 + p) % 2 ^ i = 0 := by
      have h2 : 256 % 2 ^ i = 0 := by
        have : ∀ i : Nat, i < 4 → 256 % 2 ^ i = 0 := by decide
        exact this i (by omega)
      rw [Nat.add_mod, h2, hm]
      simp
    rw [h1, Nat.mul_zero]
  rw [← Int.natCast_emod, h]
  rfl
set_option maxRecDepth 100000 in
set_option maxHeartbeats 40000000 in
theorem exact_any (a b : Int) (oa : Option Addr) (m oc : Nat) (w : World) (hops : Ops w (.slice oa m oc) m) :
    Calls Tryz.prog 3 #[.int .i64 a, .int .i64 b, .slice oa m oc] w fun e w' => e = .returned (.bool true) ∧ Kept none' w w' := by
  have HOP := hid hops
  have hm63 := hops.1
  clear hops
  go_enter Tryz.func3, Tryz.ntmps3
  go_wp2_with fail
  refine (awake6 _).mono ?_
  rintro e w0 ⟨rfl, hk0⟩
  have K0 := hid hk0
  clear hk0
  go_wp2_with fail
  refine (small6' a b _).mono ?_
  rintro e w1 ⟨L, o, hL1, hL4, ho, rfl, hk1⟩
  have K1 := hid ((none_trans K0.out hk1).alloc (cfgO 1048576 (L : Int) (o : Int)))
  have X1 := hid (heap_new w1 (cfgO 1048576 (L : Int) (o : Int)))
  have NW := hid (fun W => New6_ok 1048576 (by decide) L o (by omega) (by omega) (may6L' hL1 hL4 ho) W)
  clear hk1 K0
  obtain ⟨x0, x1, x2⟩ := cfg3 X1.out
  go_wp2_with fail
  generalize w1.alloc (cfgO 1048576 (L : Int) (o : Int)) = W1 at *
  generalize w1.heap.size = cb at *
  refine (NW.out _).mono ?_
  rintro e w2 ⟨lw, x, rfl, hPl, e1, e2, e3, e4, e5⟩
  have I0 := hid (show EXs W1 lw L o 0 0 (.slice none 0 0) w2 from ⟨x, _, _, [], [], ⟨New6_po o hPl e4 e5 (by rw [e1]), SB.nil _ _ _ hPl.kp, Dat.nil _ _, Ndp.nil, by rw [Nat.zero_mul]; rfl, e1, e3, e5⟩, rfl⟩)
  have X2 := hid ((hPl.kp.block _ (heap_lt X1.out) (fun e => e)).trans X1.out)
  obtain ⟨R, hR⟩ : ∃ R, R = 4096 * 2 ^ o := ⟨_, rfl⟩
  have hp8 : 1 ≤ 2 ^ o ∧ 2 ^ o ≤ 8 := ⟨Nat.two_pow_pos o, Nat.pow_le_pow_right (n := 2) (by decide) ho⟩
  have hwo : IntKind.u64.wrap (4096 * 2 ^ o) = (R : Int) := by
    have e : ((2 : Int) ^ o) = ((2 ^ o : Nat) : Int) := by simp
    rw [wrap_u64, e, hR]
    omega
  have hRb : 4096 ≤ R ∧ R ≤ 32768 := by rw [hR]; omega
  have HR := hid hR
  clear hPl e1 e2 e3 e4 e5 x0 x1 x2 NW hR hp8
  obtain ⟨x0, x1, x2⟩ := cfg3 X2.out
  go_wp2_with fail
  clear x0 x1 x2 X2
  go_loopw [11, 12, 13] (fun sr sl si W => ∃ (j rg q : Nat) (va : Option Addr) (vc : Nat), j ≤ m ∧ si = .int .i64 (j : Int) ∧ sr = .int .i64 (rg : Int) ∧ sl = .slice va q vc ∧ Hid (EXs W1 lw L o rg q (.slice va q vc) W)) (fun _ _ i _ => m - (intOf i).toNat)
  case atStart => exact ⟨0, 0, 0, none, 0, Nat.zero_le _, rfl, rfl, rfl, I0⟩
  case round =>
    clear I0
    obtain ⟨j, rg, q, va, vc, hj, rfl, rfl, rfl, HI⟩ := hrel
    obtain ⟨x, t, fr, ls, dl, hE, hq⟩ := HI.out
    have hrg : rg ≤ 4 := by have := hE.nums.1; omega
    have E0 := hid hE
    have HQ := hid hq
    have hqb : q ≤ 1024 := by rw [hq]; exact hE.short
    clear hE hq
    by_cases hlt : j < m
    · have hji : (j : Int) < (m : Int) := by omega
      obtain ⟨_, oa', oc', e, hh⟩ := HOP.out
      injection e with ea _ ec
      subst ea ec
      rcases hh with h0 | ⟨bl, oo, rfl, hbl, hat⟩
      · omega
      obtain ⟨kd, od, wh, mo, dn, aa, ao, dm, dc, gd, q1, q2, q3, q4', y0, y1, y2, y3, y4, y5, y6⟩ := hat j hlt
      rw [Nat.add_zero] at y0
      have kwr := none_trans K1.out E0.out.po.pl.kp
      have c0 := kwr.cell (fun e => e) y0
      have c1 := kwr.cell (fun e => e) y1
      have c2 := kwr.cell (fun e => e) y2
      have c3 := kwr.cell (fun e => e) y3
      have c4 := kwr.cell (fun e => e) y4
      have c5 := kwr.cell (fun e => e) y5
      have c6 := kwr.cell (fun e => e) y6
      have BY := hid (q4'.keep (ofK K1.out))
      clear hat q4' kwr y0 y1 y2 y3 y4 y5 y6
      have KA := hid (show Kept none' wr (wr.alloc (opB kd od wh mo dn aa (.slice ao dm dc))) from (Kept.refl _ _).alloc _)
      have OB := hid (show (wr.alloc (opB kd od wh mo dn aa (.slice ao dm dc))).heap[wr.heap.size]? = some (opB kd od wh mo dn aa (.slice ao dm dc)) from heap_new wr _)
      have E1 := hid (E0.out.keep KA.out)
      have X3 := hid ((E1.out.po.pl.kp.block _ (heap_lt X1.out) (fun e => e)).trans X1.out)
      obtain ⟨x0, x1, x2⟩ := cfg3 X3.out
      obtain ⟨o0, o1, o2, o3, o4, o5, o6⟩ := op7b OB.out
      obtain ⟨hr, hhr⟩ : ∃ hr, hr = rg * R := ⟨_, rfl⟩
      have hri : (rg : Int) * (R : Int) = (hr : Int) := by rw [hhr]; simp
      have hrb : hr ≤ 131072 := by rw [hhr]; exact Nat.mul_le_mul hrg hRb.2
      have HHR := hid hhr
      clear hhr
      by_cases k1 : kd = 1
      · subst k1
        have NOB := hid (show ¬ bown x wr.heap.size from fun e => absurd (E0.out.po.pl.lt _ (.inl e)) (Nat.lt_irrefl _))
        by_cases hod : od < 0
        · have NB := hid (Need_bad E1.out.po od (by rw [E1.out.eo]; exact decide_eq_false (by omega)) dn)
          have hn0 : od < 0 := hod
          have hn0' : decide (od < 0) = true := by first | exact decide_eq_true hn0 | exact decide_eq_false hn0
          as_aux_lemma =>
            go_wp2_with fail
            generalize wr.alloc (opB 1 od wh mo dn aa (.slice ao dm dc)) = W3 at *
            refine NB.out.mono ?_
            rintro e w5 ⟨rfl, hk⟩
            have E5 := hid (show EXs W1 lw L o rg q (.slice va q vc) w5 from ⟨x, t, fr, ls, dl, E1.out.keep hk, HQ.out⟩)
            have OB5 := hid ((hk.block _ (heap_lt OB.out) (fun e => e)).trans OB.out)
            have X5 := hid (((E1.out.keep hk).po.pl.kp.block _ (heap_lt X1.out) (fun e => e)).trans X1.out)
            clear hk c0 c1 c2 c3 c4 c5 c6 o0 o1 o2 o3 o4 o5 o6 x0 x1 x2 KA OB E0 NB
            obtain ⟨x0, x1, x2⟩ := cfg3 X5.out
            obtain ⟨o0, o1, o2, o3, o4, o5, o6⟩ := op7b OB5.out
            go_wp2_with fail
            go_round
            case rel => exact ⟨j + 1, rg, q, va, vc, by omega, by go_num, rfl, rfl, E5⟩
            case measure => simp [intOf]; omega
        by_cases hod2 : (o : Int) < od
        · have NB := hid (Need_bad E1.out.po od (by rw [E1.out.eo]; exact decide_eq_false (by omega)) dn)
          have hn0 : ¬ od < 0 := hod
          have hn0' : decide (od < 0) = false := by first | exact decide_eq_true hn0 | exact decide_eq_false hn0
          have hn1' : decide ((o : Int) < od) = true := decide_eq_true hod2
          as_aux_lemma =>
            go_wp2_with fail
            generalize wr.alloc (opB 1 od wh mo dn aa (.slice ao dm dc)) = W3 at *
            refine NB.out.mono ?_
            rintro e w5 ⟨rfl, hk⟩
            have E5 := hid (show EXs W1 lw L o rg q (.slice va q vc) w5 from ⟨x, t, fr, ls, dl, E1.out.keep hk, HQ.out⟩)
            have OB5 := hid ((hk.block _ (heap_lt OB.out) (fun e => e)).trans OB.out)
            have X5 := hid (((E1.out.keep hk).po.pl.kp.block _ (heap_lt X1.out) (fun e => e)).trans X1.out)
            clear hk c0 c1 c2 c3 c4 c5 c6 o0 o1 o2 o3 o4 o5 o6 x0 x1 x2 KA OB E0 NB
            obtain ⟨x0, x1, x2⟩ := cfg3 X5.out
            obtain ⟨o0, o1, o2, o3, o4, o5, o6⟩ := op7b OB5.out
            go_wp2_with fail
            go_round
            case rel => exact ⟨j + 1, rg, q, va, vc, by omega, by go_num, rfl, rfl, E5⟩
            case measure => simp [intOf]; omega
        obtain ⟨i, rfl⟩ := Int.eq_ofNat_of_zero_le (show 0 ≤ od by omega)
        have hi : i ≤ o := by omega
        have hi3 : i ≤ 3 := by omega
        have hi0 : ¬ (i : Int) < 0 := by omega
        have hi0' : decide ((i : Int) < 0) = false := decide_eq_false hi0
        have hio : ¬ (o : Int) < (i : Int) := hod2
        have hio' : decide ((o : Int) < (i : Int)) = false := decide_eq_false hod2
        clear hod hod2
        have NX := hid (need_ex E1.out i hi dn)
        obtain ⟨N, hN⟩ : ∃ N, N = 4096 * 2 ^ i := ⟨_, rfl⟩
        have hp8 : 1 ≤ 2 ^ i ∧ 2 ^ i ≤ 8 := ⟨Nat.two_pow_pos i, Nat.pow_le_pow_right (n := 2) (by decide) hi3⟩
        have hwn : IntKind.u64.wrap (4096 * 2 ^ i) = (N : Int) := by
          have e : ((2 : Int) ^ i) = ((2 ^ i : Nat) : Int) := by simp
          rw [wrap_u64, e, hN]
          omega
        have hNb : 4096 ≤ N ∧ N ≤ 32768 := by rw [hN]; omega
        have hN0 : ¬ (N : Int) = 0 := by omega
        have hN0' : ((N : Int) == 0) = false := by rw [beq_eq_false_iff_ne]; exact hN0
        have HN := hid hN
        obtain ⟨E, hE⟩ : ∃ E, E = 1048576 + hr := ⟨_, rfl⟩
        have hEi : (1048576 : Int) + (hr : Int) = (E : Int) := by omega
        have hEb : E ≤ 1200000 := by omega
        have HE := hid hE
        have hal := hid (show ∀ p k, (p, k) ∈ ls → p ≤ 1024 ∧ k ≤ 8 from fun p k hm => by
          have hh := E1.out.al p k hm
          have h2 := E1.out.nums
          have h3 : rg * 2 ^ o ≤ L * 2 ^ o := Nat.mul_le_mul_right _ h2.1
          exact ⟨by omega, by omega⟩)
        have hrgo := hid (show rg * 2 ^ o ≤ 1024 from by
          have h2 := E1.out.nums
          have h3 : rg * 2 ^ o ≤ L * 2 ^ o := Nat.mul_le_mul_right _ h2.1
          omega)
        have FU := hid (show ∀ b, fullT ls i (rg * 2 ^ (o - i)) = b → ∀ W, SPR W 1048576 (.slice va q vc) ls dl → Calls Tryz.prog 8 #[.slice va q vc, cfgV 1048576 (L : Int) (o : Int), .int .u64 (E : Int), .int .u64 (N : Int)] W fun e w' => e = .returned (.bool b) ∧ Kept none' W w' from fun b hb W h => by
          have e1 : rg * 2 ^ (o - i) * 2 ^ i = rg * 2 ^ o := by rw [Nat.mul_assoc, ← Nat.pow_add, show o - i + i = o by omega]
          rw [← hb]
          exact full6 1048576 (by decide) (L : Int) (o : Int) va q vc ls dl HQ.out hqb hal.out i (rg * 2 ^ (o - i)) E N (by omega) (by rw [e1]; exact hrgo.out) (by rw [e1, hE, HHR.out, HR.out, Nat.mul_left_comm]) hN W h)
        have MT := hid (show ∀ p A, mtL ls p i = false → p ≤ 1024 → A = 1048576 + 4096 * p → ∀ W, SPR W 1048576 (.slice va q vc) ls dl → Calls Tryz.prog 9 #[.slice va q vc, .int .u64 (A : Int), .int .u64 (N : Int)] W fun e w' => e = .returned (.bool false) ∧ Kept none' W w' from fun p A hm hp hA W h => by
          rw [← hm]
          exact meets6 1048576 (by decide) va q vc ls dl HQ.out hqb hal.out p i A N hp (by omega) hA hN W h)
        clear hN hE hp8
        as_aux_lemma =>
          go_wp2_with fail
          generalize wr.alloc (opB 1 (i : Int) wh mo dn aa (.slice ao dm dc)) = W3 at *
          refine NX.out.mono ?_
          intro e w5 hN5
          cases hN5 with
          | stuck hf hd he kp =>
            as_aux_lemma =>
              subst he
              have KP := hid kp
              have HD := hid hd
              have OB5 := hid ((kp.block _ (heap_lt OB.out) (fun e => e)).trans OB.out)
              have X5 := hid (((E1.out.keep kp).po.pl.kp.block _ (heap_lt X1.out) (fun e => e)).trans X1.out)
              have FL := hid (FU.out true hf w5 (E1.out.keep kp).sb.spr)
              clear hf hd kp c0 c1 c2 c3 c4 c5 c6 o0 o1 o2 o3 o4 o5 o6 x0 x1 x2 KA OB E0 NX MT FU
              obtain ⟨x0, x1, x2⟩ := cfg3 X5.out
              obtain ⟨o0, o1, o2, o3, o4, o5, o6⟩ := op7b OB5.out
              go_wp2_with fail
              refine FL.out.mono ?_
              rintro e w6 ⟨rfl, hk6⟩
              have E6 := hid (show EXs W1 lw L o rg q (.slice va q vc) w6 from ⟨x, t, fr, ls, dl, (E1.out.keep KP.out).keep hk6, HQ.out⟩)
              have OB6 := hid ((hk6.block _ (heap_lt OB5.out) (fun e => e)).trans OB5.out)
              have X6 := hid ((((E1.out.keep KP.out).keep hk6).po.pl.kp.block _ (heap_lt X1.out) (fun e => e)).trans X1.out)
              clear hk6 x0 x1 x2 o0 o1 o2 o3 o4 o5 o6 FL
              obtain ⟨x0, x1, x2⟩ := cfg3 X6.out
              obtain ⟨o0, o1, o2, o3, o4, o5, o6⟩ := op7b OB6.out
              cases dn with
              | true =>
                go_wp2_with fail
                go_round
                case rel => exact ⟨j + 1, rg, q, va, vc, by omega, by go_num, rfl, rfl, E6⟩
                case measure => simp [intOf]; omega
              | false =>
                have hrl : ((rg : Int) == (L : Int)) = true := by
                  have : rg = L := by
                    rcases HD.out with e | e
                    · cases e
                    · exact e
                  rw [this]
                  simp
                go_wp2_with fail
                go_round
                case rel => exact ⟨j + 1, rg, q, va, vc, by omega, by go_num, rfl, rfl, E6⟩
                case measure => simp [intOf]; omega
          | here p hf he ha hb hm hs kp =>
            as_aux_lemma =>
              obtain ⟨A, hA⟩ : ∃ A, A = 1048576 + 4096 * p := ⟨_, rfl⟩
              rw [← hA] at he
              subst he
              obtain ⟨t5, fr5, hE5⟩ := hs
              have hpl : p + 2 ^ i ≤ rg * 2 ^ o := hb
              have hmp : p % 2 ^ i = 0 := ha
              have hA2b : A + N ≤ E ∧ E ≤ 2000000 := by
                have h1 := HE.out
                have h2 := HHR.out
                have h3 := HR.out
                have h4 := HN.out
                have h5 : 4096 * (rg * 2 ^ o) = rg * R := by rw [h3, Nat.mul_left_comm]
                omega
              have hmod : (A : Int) % (N : Int) = 0 := by
                rw [hA, HN.out]
                exact mod_at hi3 hmp
              have hAl : ¬ (A : Int) < 1048576 := by rw [hA]; omega
              have hAl' : decide ((A : Int) < 1048576) = false := decide_eq_false hAl
              obtain ⟨AN, hAN⟩ : ∃ AN, AN = A + N := ⟨_, rfl⟩
              have hANi : (A : Int) + (N : Int) = (AN : Int) := by omega
              have hgt : ¬ (E : Int) < (AN : Int) := by omega
              have hgt' : decide ((E : Int) < (AN : Int)) = false := decide_eq_false hgt
              have hAb : A ≤ 2000000 := by omega
              have hANb : AN ≤ 2000000 := by omega
              have hEb2 : E ≤ 2000000 := by omega
              have HA := hid hA
              have F1 := hid hmod
              have F2 := hid hAl
              have F3 := hid hANi
              have F4 := hid hgt
              have M5 := hid (MT.out p A hm (by
                have := HHR.out
                have h3 := HR.out
                have h5 : 4096 * (rg * 2 ^ o) = rg * R := by rw [h3, Nat.mul_left_comm]
                have := Nat.two_pow_pos i
                omega) hA)
              have E5 := hid hE5
              have OB5 := hid ((kp.block _ (heap_lt OB.out) NOB.out).trans OB.out)
              have X5 := hid ((E5.out.po.pl.kp.block _ (heap_lt X1.out) (fun e => e)).trans X1.out)
              have FL := hid (FU.out false hf w5 E5.out.sb.spr)
              clear hA hE5 hf hm hmp hpl hA2b hAN hmod hAl hAl' hANi hgt hgt' kp c0 c1 c2 c3 c4 c5 c6 o0 o1 o2 o3 o4 o5 o6 x0 x1 x2 KA OB E0 NX MT FU ha hb
              obtain ⟨x0, x1, x2⟩ := cfg3 X5.out
              obtain ⟨o0, o1, o2, o3, o4, o5, o6⟩ := op7b OB5.out
              go_wp2_with fail
              refine FL.out.mono ?_
              rintro e w6 ⟨rfl, hk6⟩
              have E6 := hid (E5.out.keep hk6)
              have OB6 := hid ((hk6.block _ (heap_lt OB5.out) (fun e => e)).trans OB5.out)
              have X6 := hid ((E6.out.po.pl.kp.block _ (heap_lt X1.out) (fun e => e)).trans X1.out)
              clear hk6 x0 x1 x2 o0 o1 o2 o3 o4 o5 o6 FL E5 OB5 X5
              obtain ⟨x0, x1, x2⟩ := cfg3 X6.out
              obtain ⟨o0, o1, o2, o3, o4, o5, o6⟩ := op7b OB6.out
              have hAl : ¬ (A : Int) < 1048576 := by have := F2.out; omega
              have hAl' : decide ((A : Int) < 1048576) = false := decide_eq_false hAl
              have hmod : (A : Int) % (N : Int) = 0 := F1.out
              have hgt : ¬ (E : Int) < (A : Int) + (N : Int) := by have := F3.out; have := F4.out; omega
              have hgt' : decide ((E : Int) < (A : Int) + (N : Int)) = false := decide_eq_false hgt
              go_wp2_with fail
              refine (M5.out _ E6.out.sb.spr).mono ?_
              rintro e w7 ⟨rfl, hk7⟩
              have E7 := hid (E6.out.keep hk7)
              have OB7 := hid ((hk7.block _ (heap_lt OB6.out) (fun e => e)).trans OB6.out)
              have SP := hid (Space6 E7.out.po.pl)
              have RG := hid (show Calls Tryz.prog 11 #[.pointer (some ⟨x.s, 0, none⟩)] w7 fun e w' => e = .returned (.int .i64 (rg : Int)) ∧ Kept none' w7 w' from by
                have := regions6 E7.out.po rg (by rw [E7.out.nn, E7.out.eo])
                first | exact this | (rw [Int.natCast_add] at this; exact this))
              clear hk7 x0 x1 x2 o0 o1 o2 o3 o4 o5 o6 M5 E6 OB6 X6
              go_wp2_with fail
              refine SP.out.mono ?_
              rintro e w8 ⟨rfl, h8⟩
              subst h8
              go_wp2_with fail
              refine RG.out.mono ?_
              rintro e w8 ⟨rfl, hk8⟩
              have E8 := hid (E7.out.keep hk8)
              have OB8 := hid ((hk8.block _ (heap_lt OB7.out) (fun e => e)).trans OB7.out)
              have AD := hid (show ∃ g cap w', (∀ ty, (Builtin.append_ #[32, 32] ty #[.slice va q vc, .slice (some ⟨w8.heap.size, 0, none⟩) 1 1]).run Tryz.prog (w8.alloc (.cells #[.int .u64 (A : Int), .int .u64 (N : Int), .int .i64 (i : Int), .slice none 0 0] 50)) = .ok (.slice (some ⟨g, 0, none⟩) (q + 1) cap) w') ∧ EXs W1 lw L o rg (q + 1) (.slice (some ⟨g, 0, none⟩) (q + 1) cap) w' from by
                have hq := HQ.out
                obtain ⟨g, cap, w', h1, h2⟩ := EX.add (p, i) E8.out (by rw [← hq]; omega)
                rw [← hq] at h1 h2
                refine ⟨g, cap, w', ?_, x, t5, fr5, _, _, h2, by rw [List.length_append, List.length_singleton, ← hq]⟩
                rw [HA.out, HN.out]
                exact h1)
              obtain ⟨g9, cap9, w9, h9, hE9⟩ := AD.out
              have HAP := hid h9
              have E9 := hid hE9
              clear hk8 h9 hE9 E7 OB7 SP RG AD
              obtain ⟨o0, o1, o2, o3, o4, o5, o6⟩ := op7b OB8.out
              go_wp2_with (at_builtin; refine Lib.wpList_append_run _ rfl _ _ _ _ rfl (.slice va q vc) (.slice (some ⟨w8.heap.size, 0, none⟩) 1 1) rfl rfl _ _ (HAP.out _) ?_)
              go_round
              case rel => exact ⟨j + 1, rg, q + 1, some ⟨g9, 0, none⟩, cap9, by omega, by go_num, by first | rfl | go_num, rfl, E9⟩
              case measure => simp [intOf]; omega
          | grew hf hd hl he hm hs kp =>
            as_aux_lemma =>
              obtain ⟨A, hA⟩ : ∃ A, A = 1048576 + 4096 * (rg * 2 ^ o) := ⟨_, rfl⟩
              rw [← hA] at he
              subst he
              subst hd
              obtain ⟨x5, t5, fr5, hE5, hsm⟩ := hs
              have hpl : rg * 2 ^ o + 2 ^ i ≤ (rg + 1) * 2 ^ o := by
                have := Nat.pow_le_pow_right (n := 2) (by decide) hi
                rw [Nat.add_mul, Nat.one_mul]
                omega
              have hmp : (rg * 2 ^ o) % 2 ^ i = 0 := by
                rw [show o = (o - i) + i by omega, Nat.pow_add, ← Nat.mul_assoc]
                exact Nat.mul_mod_left _ _
              have hrl : ((rg : Int) == (L : Int)) = false := by
                rw [beq_eq_false_iff_ne]
                omega
              obtain ⟨E2, hE2⟩ : ∃ E2, E2 = E + R := ⟨_, rfl⟩
              have hEi2 : (E : Int) + (R : Int) = (E2 : Int) := by omega
              have hA2b : A + N ≤ E2 ∧ E2 ≤ 2000000 := by
                have h1 := HE.out
                have h2 := HHR.out
                have h3 := HR.out
                have h4 := HN.out
                have h5 : 4096 * (rg * 2 ^ o) = rg * R := by rw [h3, Nat.mul_left_comm]
                have h6 := Nat.pow_le_pow_right (n := 2) (by decide) hi
                omega
              have hmod : (A : Int) % (N : Int) = 0 := by
                rw [hA, HN.out]
                exact mod_at hi3 hmp
              have hAl : ¬ (A : Int) < 1048576 := by rw [hA]; omega
              have hAl' : decide ((A : Int) < 1048576) = false := decide_eq_false hAl
              obtain ⟨AN, hAN⟩ : ∃ AN, AN = A + N := ⟨_, rfl⟩
              have hANi : (A : Int) + (N : Int) = (AN : Int) := by omega
              have hgt : ¬ (E2 : Int) < (AN : Int) := by omega
              have hgt' : decide ((E2 : Int) < (AN : Int)) = false := decide_eq_false hgt
              have hAb : A ≤ 2000000 := by omega
              have hANb : AN ≤ 2000000 := by omega
              have hEb2 : E2 ≤ 2000000 := by omega
              have HA := hid hA
              have F1 := hid hmod
              have F2 := hid hAl
              have F3 := hid hANi
              have F4 := hid hgt
              have M5 := hid (MT.out (rg * 2 ^ o) A hm (by
                have := HHR.out
                have h3 := HR.out
                have h5 : 4096 * (rg * 2 ^ o) = rg * R := by rw [h3, Nat.mul_left_comm]
                have := Nat.two_pow_pos i
                omega) hA)
              have E5 := hid hE5
              have OB5 := hid ((kp.block _ (heap_lt OB.out) NOB.out).trans OB.out)
              have X5 := hid ((E5.out.po.pl.kp.block _ (heap_lt X1.out) (fun e => e)).trans X1.out)
              have FL := hid (FU.out true hf w5 E5.out.sb.spr)
              clear hA hE5 hf hm hmp hpl hA2b hAN hmod hAl hAl' hANi hgt hgt' kp c0 c1 c2 c3 c4 c5 c6 o0 o1 o2 o3 o4 o5 o6 x0 x1 x2 KA OB E0 NX MT FU hsm hl hE2
              obtain ⟨x0, x1, x2⟩ := cfg3 X5.out
              obtain ⟨o0, o1, o2, o3, o4, o5, o6⟩ := op7b OB5.out
              go_wp2_with fail
              refine FL.out.mono ?_
              rintro e w6 ⟨rfl, hk6⟩
              have E6 := hid (E5.out.keep hk6)
              have OB6 := hid ((hk6.block _ (heap_lt OB5.out) (fun e => e)).trans OB5.out)
              have X6 := hid ((E6.out.po.pl.kp.block _ (heap_lt X1.out) (fun e => e)).trans X1.out)
              clear hk6 x0 x1 x2 o0 o1 o2 o3 o4 o5 o6 FL E5 OB5 X5
              obtain ⟨x0, x1, x2⟩ := cfg3 X6.out
              obtain ⟨o0, o1, o2, o3, o4, o5, o6⟩ := op7b OB6.out
              have hAl : ¬ (A : Int) < 1048576 := by have := F2.out; omega
              have hAl' : decide ((A : Int) < 1048576) = false := decide_eq_false hAl
              have hmod : (A : Int) % (N : Int) = 0 := F1.out
              have hgt : ¬ (E2 : Int) < (A : Int) + (N : Int) := by have := F3.out; have := F4.out; omega
              have hgt' : decide ((E2 : Int) < (A : Int) + (N : Int)) = false := decide_eq_false hgt
              go_wp2_with fail
              refine (M5.out _ E6.out.sb.spr).mono ?_
              rintro e w7 ⟨rfl, hk7⟩
              have E7 := hid (E6.out.keep hk7)
              have OB7 := hid ((hk7.block _ (heap_lt OB6.out) (fun e => e)).trans OB6.out)
              have SP := hid (Space6 E7.out.po.pl)
              have RG := hid (show Calls Tryz.prog 11 #[.pointer (some ⟨x5.s, 0, none⟩)] w7 fun e w' => e = .returned (.int .i64 ((rg : Int) + 1)) ∧ Kept none' w7 w' from by
                have := regions6 E7.out.po (rg + 1) (by rw [E7.out.nn, E7.out.eo])
                first | exact this | (rw [Int.natCast_add] at this; exact this))
              clear hk7 x0 x1 x2 o0 o1 o2 o3 o4 o5 o6 M5 E6 OB6 X6
              go_wp2_with fail
              refine SP.out.mono ?_
              rintro e w8 ⟨rfl, h8⟩
              subst h8
              go_wp2_with fail
              refine RG.out.mono ?_
              rintro e w8 ⟨rfl, hk8⟩
              have E8 := hid (E7.out.keep hk8)
              have OB8 := hid ((hk8.block _ (heap_lt OB7.out) (fun e => e)).trans OB7.out)
              have AD := hid (show ∃ g cap w', (∀ ty, (Builtin.append_ #[32, 32] ty #[.slice va q vc, .slice (some ⟨w8.heap.size, 0, none⟩) 1 1]).run Tryz.prog (w8.alloc (.cells #[.int .u64 (A : Int), .int .u64 (N : Int), .int .i64 (i : Int), .slice none 0 0] 50)) = .ok (.slice (some ⟨g, 0, none⟩) (q + 1) cap) w') ∧ EXs W1 lw L o (rg + 1) (q + 1) (.slice (some ⟨g, 0, none⟩) (q + 1) cap) w' from by
                have hq := HQ.out
                obtain ⟨g, cap, w', h1, h2⟩ := EX.add ((rg * 2 ^ o), i) E8.out (by rw [← hq]; omega)
                rw [← hq] at h1 h2
                refine ⟨g, cap, w', ?_, x5, t5, fr5, _, _, h2, by rw [List.length_append, List.length_singleton, ← hq]⟩
                rw [HA.out, HN.out]
                exact h1)
              obtain ⟨g9, cap9, w9, h9, hE9⟩ := AD.out
              have HAP := hid h9
              have E9 := hid hE9
              clear hk8 h9 hE9 E7 OB7 SP RG AD
              obtain ⟨o0, o1, o2, o3, o4, o5, o6⟩ := op7b OB8.out
              go_wp2_with (at_builtin; refine Lib.wpList_append_run _ rfl _ _ _ _ rfl (.slice va q vc) (.slice (some ⟨w8.heap.size, 0, none⟩) 1 1) rfl rfl _ _ (HAP.out _) ?_)
              go_round
              case rel => exact ⟨j + 1, (rg + 1), q + 1, some ⟨g9, 0, none⟩, cap9, by omega, by go_num, by first | rfl | go_num, rfl, E9⟩
              case measure => simp [intOf]; omega
      · have k1' : (kd == 1) = false := by rw [beq_eq_false_iff_ne]; exact k1
        by_cases k4 : kd = 4
        · subst k4
          as_aux_lemma =>
            go_wp2_with fail
            generalize wr.alloc (opB 4 od wh mo dn aa (.slice ao dm dc)) = W3 at *
            clear c0 c1 c2 c3 c4 c5 c6 o0 o1 o2 o3 o4 o5 o6 x0 x1 x2 KA OB E0
            go_loopw [22] (fun s W => ∃ y : Nat, y ≤ rg ∧ s = .int .i64 (y : Int) ∧ Hid (leftL ls o rg = leftL ls o y ∧ Kept none' W3 W)) (fun s _ => (intOf s).toNat)
            case atStart => exact ⟨rg, Nat.le_refl _, rfl, hid ⟨rfl, Kept.refl _ _⟩⟩
            case round =>
              obtain ⟨y, hy, rfl, HL⟩ := hrel
              have X4 := hid (((E1.out.keep HL.out.2).po.pl.kp.block _ (heap_lt X1.out) (fun e => e)).trans X1.out)
              obtain ⟨x0, x1, x2⟩ := cfg3 X4.out
              cases y with
              | zero =>
                have EL := hid (show leftL ls o rg = 0 from HL.out.1)
                have TM := hid (trim_ex (E1.out.keep HL.out.2))
                go_wp2_with fail
                refine TM.out.mono ?_
                rintro e w5 ⟨rfl, ⟨x5, t5, fr5, hE5, hsm⟩, hk⟩
                have E5 := hid hE5
                have hlf : leftL ls o rg = 0 := EL.out
                rw [hlf] at E5
                have ES : (((rg - leftL ls o rg : Nat)) : Int) = (rg : Int) - (0 : Int) := by rw [hlf]; omega
                rw [ES]
                have RG := hid (regions6 E5.out.po 0 (by rw [E5.out.nn, E5.out.eo]))
                have SP := hid (Space6 E5.out.po.pl)
                have HQ5 := hid HQ.out
                clear hE5 hsm hk hlf ES TM
                go_wp2_with fail
                refine SP.out.mono ?_
                rintro e w6 ⟨rfl, h6⟩
                subst h6
                go_wp2_with fail
                refine RG.out.mono ?_
                rintro e w7 ⟨rfl, hk⟩
                have E7 := hid (show EXs W1 lw L o 0 q (.slice va q vc) w7 from ⟨x5, t5, fr5, ls, dl, E5.out.keep hk, HQ5.out⟩)
                clear hk
                go_wp2_with fail
                go_round
                case rel => exact ⟨j + 1, 0, q, va, vc, by omega, by go_num, rfl, rfl, E7⟩
                case measure => simp [intOf]; omega
              | succ y =>
                obtain ⟨yr, hyr⟩ : ∃ yr, yr = y * R := ⟨_, rfl⟩
                have hyi : (y : Int) * (R : Int) = (yr : Int) := by rw [hyr]; simp
                have hyb : yr ≤ 131072 := by
                  have h4 : y ≤ 4 := by omega
                  rw [hyr]; exact Nat.mul_le_mul h4 hRb.2
                obtain ⟨ya, hya⟩ : ∃ ya, ya = 1048576 + yr := ⟨_, rfl⟩
                have hyai : (1048576 : Int) + (yr : Int) = (ya : Int) := by omega
                have hy1 : (((y + 1 : Nat) : Int) - 1) = (y : Int) := by omega
                have hy0 : (0 : Int) < (((y + 1 : Nat)) : Int) := by omega
                obtain ⟨mv, hmv⟩ : ∃ mv, mv = mtL ls (y * 2 ^ o) o := ⟨_, rfl⟩
                have hpo : y * 2 ^ o ≤ 1024 := by
                  have h1 : y * 2 ^ o ≤ 4 * 2 ^ 3 := Nat.mul_le_mul (by omega) (Nat.pow_le_pow_right (by decide) ho)
                  omega
                have MT := hid (show ∀ W, SPR W 1048576 (.slice va q vc) ls dl → Calls Tryz.prog 9 #[.slice va q vc, .int .u64 (ya : Int), .int .u64 (R : Int)] W fun e w' => e = .returned (.bool mv) ∧ Kept none' W w' from fun W h => by
                  rw [hmv]
                  exact meets6 1048576 (by decide) va q vc ls dl HQ.out hqb (fun p k hm => by
                    have hh := E1.out.al p k hm
                    have h2 := E1.out.nums
                    have h3 : rg * 2 ^ o ≤ L * 2 ^ o := Nat.mul_le_mul_right _ h2.1
                    exact ⟨by omega, by omega⟩) (y * 2 ^ o) o ya R hpo (by omega) (by rw [hya, hyr, HR.out, Nat.mul_left_comm]) HR.out W h)
                have ELF := hid (show leftL ls o (y + 1) = if mv = true then y + 1 else leftL ls o y by rw [hmv]; rfl)
                clear hyr hya hmv hpo
                go_wp2_with fail
                refine (MT.out _ (E1.out.keep HL.out.2).sb.spr).mono ?_
                rintro e w4 ⟨rfl, hk⟩
                replace HL := hid (show leftL ls o rg = leftL ls o (y + 1) ∧ Kept none' W3 w4 from ⟨HL.out.1, none_trans HL.out.2 hk⟩)
                clear hk x0 x1 x2 X4
                cases mv with
                | false =>
                  have N1 := hid (show leftL ls o rg = leftL ls o y ∧ Kept none' W3 w4 from ⟨by rw [HL.out.1, ELF.out]; rfl, HL.out.2⟩)
                  go_wp2_with fail
                  go_round
                  case rel => exact ⟨y, by omega, by go_num, N1⟩
                  case measure => simp [intOf]
                | true =>
                  obtain ⟨lf, hlf⟩ : ∃ lf, lf = y + 1 := ⟨_, rfl⟩
                  have EL := hid (show leftL ls o rg = lf by rw [HL.out.1, ELF.out, hlf]; rfl)
                  have hlr : lf ≤ rg := by omega
                  rw [← hlf]
                  clear hlf ELF MT hy1 hy0
                  have TM := hid (trim_ex (E1.out.keep HL.out.2))
                  go_wp2_with fail
                  refine TM.out.mono ?_
                  rintro e w5 ⟨rfl, ⟨x5, t5, fr5, hE5, hsm⟩, hk⟩
                  have E5 := hid hE5
                  have hlf : leftL ls o rg = lf := EL.out
                  rw [hlf] at E5
                  have ES : (((rg - leftL ls o rg : Nat)) : Int) = (rg : Int) - (lf : Int) := by rw [hlf]; omega
                  rw [ES]
                  have RG := hid (regions6 E5.out.po lf (by rw [E5.out.nn, E5.out.eo]))
                  have SP := hid (Space6 E5.out.po.pl)
                  have HQ5 := hid HQ.out
                  clear hE5 hsm hk hlf ES TM
                  go_wp2_with fail
                  refine SP.out.mono ?_
                  rintro e w6 ⟨rfl, h6⟩
                  subst h6
                  go_wp2_with fail
                  refine RG.out.mono ?_
                  rintro e w7 ⟨rfl, hk⟩
                  have E7 := hid (show EXs W1 lw L o lf q (.slice va q vc) w7 from ⟨x5, t5, fr5, ls, dl, E5.out.keep hk, HQ5.out⟩)
                  clear hk
                  go_wp2_with fail
                  go_round
                  case rel => exact ⟨j + 1, lf, q, va, vc, by omega, by go_num, rfl, rfl, E7⟩
                  case measure => simp [intOf]; omega
        · have k4' : (kd == 4) = false := by rw [beq_eq_false_iff_ne]; exact k4
          by_cases k25 : 0 < q ∧ (kd = 2 ∨ kd = 5)
          · obtain ⟨hq0, k25⟩ := k25
            have hqi : (0 : Int) < (q : Int) := by omega
            have hqn : ¬ (q : Int) = 0 := by omega
            have ht1 : -(q : Int) < wh.tmod (q : Int) := by have h5 := Int.tmod_lt_of_pos (-wh) (show (0 : Int) < (q : Int) by omega); have h6 := Int.neg_tmod wh (q : Int); omega
            have ht2 : wh.tmod (q : Int) < (q : Int) := Int.tmod_lt_of_pos _ (by omega)
            obtain ⟨tm, ht⟩ : ∃ tm, tm = wh.tmod (q : Int) := ⟨_, rfl⟩
            rw [← ht] at ht1 ht2
            replace ht := ht.symm
            have htw : IntKind.i64.wrap tm = tm := by rw [IntKind.wrap_i64]; omega
            obtain ⟨kk, hkk⟩ : ∃ kk : Nat, (tm < 0 ∧ tm = -(kk : Int)) ∨ (¬ tm < 0 ∧ tm = (kk : Int)) := by
              by_cases e : tm < 0
              · exact ⟨(-tm).toNat, .inl ⟨e, by omega⟩⟩
              · exact ⟨tm.toNat, .inr ⟨e, by omega⟩⟩
            have hkq : kk < q := by omega
            have hkqi : (kk : Int) < (q : Int) := by omega
            have hkl : kk < ls.length := by rw [← HQ.out]; exact hkq
            have HKL := hid hkl
            obtain ⟨g, hg, hrest⟩ := SB.get E1.out.sb HQ.out hkl
            clear hrest
            subst hg
            obtain ⟨A, hA⟩ : ∃ A, A = 1048576 + 4096 * ls[kk].1 := ⟨_, rfl⟩
            obtain ⟨N, hN⟩ : ∃ N, N = 4096 * 2 ^ ls[kk].2 := ⟨_, rfl⟩
            obtain ⟨J, hJ⟩ : ∃ J, J = ls[kk].2 := ⟨_, rfl⟩
            have HG := hid (show ∀ W, SB W1 W 1048576 (.slice (some ⟨g, 0, none⟩) q vc) ls dl → W.cell? ⟨g, kk * 4, none⟩ = some (.int .u64 (A : Int)) ∧ W.cell? ⟨g, kk * 4 + 1, none⟩ = some (.int .u64 (N : Int)) ∧ W.cell? ⟨g, kk * 4 + 2, none⟩ = some (.int .i64 (J : Int)) ∧ W.cell? ⟨g, kk * 4 + 3, none⟩ = some (dl[kk]'(by rw [E1.out.sb.ln]; exact hkl)) ∧ ∀ j, W.frozen? ⟨g, j, none⟩ = false from fun W h => by
              obtain ⟨g', hg', _, a0, a1, a2, a3, af⟩ := SB.get h HQ.out hkl
              injection hg' with hg'
              injection hg' with hg'
              subst hg'
              exact ⟨by rw [hA]; exact a0, by rw [hN]; exact a1, by rw [hJ]; exact a2, a3, af⟩)
            obtain ⟨s0, s1, s2, s3, sf⟩ := HG.out _ E1.out.sb
            have hjo : ls[kk].2 ≤ 3 := by
              have := (E1.out.al ls[kk].1 ls[kk].2 (List.getElem_mem hkl)).1
              omega
            have hab := (E1.out.al ls[kk].1 ls[kk].2 (List.getElem_mem hkl)).2.2
            have hrgo : rg * 2 ^ o ≤ 1024 := by
              have h2 := E1.out.nums
              have h3 : rg * 2 ^ o ≤ L * 2 ^ o := Nat.mul_le_mul_right _ h2.1
              omega
            have hAb : A ≤ 8000000 := by rw [hA]; omega
            have hp8 : 2 ^ ls[kk].2 ≤ 8 := Nat.pow_le_pow_right (n := 2) (by decide) hjo
            have hNb : N ≤ 32768 := by rw [hN]; omega
            have HA := hid hA
            have HN := hid hN
            have HJ := hid hJ
            clear hA hN hJ hjo hab hrgo hp8
            rcases k25 with rfl | rfl
            · have k5' : ((2 : Int) == 5) = false := rfl
              rcases hkk with ⟨hneg, hkk⟩ | ⟨hneg, hkk⟩
              · have hneg' : decide (tm < 0) = true := decide_eq_true hneg
                have hnt : -tm = (kk : Int) := by omega
                have hntw : IntKind.i64.wrap (-tm) = (kk : Int) := by rw [IntKind.wrap_i64]; omega
                clear hkk
                as_aux_lemma =>
                  go_upto_region 50 with fail
                  generalize wr.alloc (opB 2 od wh mo dn aa (.slice ao dm dc)) = W3 at *
                  have KD := hid ((Kept.refl none' W3).drew)
                  have HDL := hid (show kk < dl.length from by rw [E1.out.sb.ln]; exact HKL.out)
                  obtain ⟨ao2, dm2, dc2, g2, hdl, hdc, hdm, hby, RDX⟩ := read_ex (E1.out.keep KD.out) kk HKL.out HDL.out
                  have RD := hid (RDX A HA.out)
                  have HDE := hid hdl
                  rw [hdl] at HG s3
                  obtain ⟨d0, d1, d2, d3, df⟩ := HG.out _ (E1.out.keep KD.out).sb
                  have SP := hid (Space6 (E1.out.keep KD.out).po.pl)
                  have B2 := hid hby
                  have hdm2 : dm2 ≤ 32768 := Nat.le_trans (show dm2 ≤ N by rw [HN.out]; exact hdm) hNb
                  obtain ⟨p0, p1, p2⟩ := (E1.out.keep KD.out).po.pl.c
                  have hwd : IntKind.u64.wrap (dm2 : Int) = (dm2 : Int) := by rw [wrap_u64]; omega
                  clear c0 c1 c2 c3 c4 c5 c6 o0 o1 o2 o3 o4 o5 o6 x0 x1 x2 s0 s1 s2 s3 sf KA OB E0 RDX hdl hdc hdm hby
                  go_region_held3 (fun w' => w'.cell? ⟨g, kk * 4, none⟩ = some (.int .u64 (A : Int)) ∧ w'.cell? ⟨g, kk * 4 + 3, none⟩ = some (.slice ao2 dm2 dc2)) ((refine ⟨?_, ?_⟩ <;> first | with_reducible assumption | fail)) (first
                    | (go_at_call 14; (with_reducible refine RD.out.mono ?_); rintro e w5 ⟨b5, rfl, hb5, hk5⟩; have E5 := hid ((E1.out.keep KD.out).keep hk5); have Y5 := hid hb5; obtain ⟨f0, f1, f2, f3, ff⟩ := HG.out _ E5.out.sb; clear hb5 hk5)
                    | (go_at_call 10; (with_reducible refine SP.out.mono ?_); rintro e w3 ⟨rfl, h3⟩; replace h3 := h3.symm; subst h3)
                    | fail)
                  all_goals
                    clear d0 d1 d2 d3 df SP RD p0 p1 p2
                    go_upto_region 51 with fail
                    have KD5 := hid ((Kept.refl none' w5).drew)
                    obtain ⟨d0, d1, d2, d3, df⟩ := HG.out _ (E5.out.keep KD5.out).sb
                    have EQ := hid (equal6 (some ⟨b5, 0, none⟩) ao2 dm2 dm2 dc2 g2 (by omega) w5.drew (Y5.out.keep (ofK KD5.out)) (B2.out.keep (ofK (E5.out.keep KD5.out).po.pl.kp)))
                    have GV := hid (show ∀ W, Kept none' w5.drew W → Calls Tryz.prog 16 #[.pointer (some ⟨lw, 0, none⟩), .int .u64 (A : Int), .int .i64 (J : Int)] W fun e w' => e = .returned (.int .i64 0) ∧ (∃ t' fr', PO W1 w' lw x t' fr' (ls.eraseIdx kk) ∧ t'.m.n = t.m.n ∧ Dat W1 t'.f (ls.eraseIdx kk) (dl.eraseIdx kk)) ∧ SB W1 w' 1048576 (.slice (some ⟨g, 0, none⟩) q vc) ls dl ∧ Kept (bown x) W w' from fun W k => by
                      rw [HJ.out]
                      exact give_ex ((E5.out.keep KD5.out).keep k) kk HKL.out A HA.out)
                    have AGX := hid (show ∀ W t7 fr7, PO W1 W lw x t7 fr7 (ls.eraseIdx kk) → Calls Tryz.prog 16 #[.pointer (some ⟨lw, 0, none⟩), .int .u64 (A : Int), .int .i64 (J : Int)] W fun e w' => e = .returned (.int .i64 1) ∧ Kept none' W w' from fun W t7 fr7 hp => by
                      rw [HJ.out]
                      exact again_ex kk HKL.out E5.out.nd hp E5.out.eb A HA.out (by omega))
                    clear f0 f1 f2 f3 ff
                    go_region_held3 (fun w' => w'.cell? ⟨g, kk * 4, none⟩ = some (.int .u64 (A : Int)) ∧ w'.cell? ⟨g, kk * 4 + 2, none⟩ = some (.int .i64 (J : Int)) ∧ w'.cell? ⟨g, kk * 4 + 3, none⟩ = some (.slice ao2 dm2 dc2)) ((refine ⟨?_, ?_, ?_⟩ <;> first | with_reducible assumption | fail)) (first
                      | (go_at_call 15; (with_reducible refine EQ.out.mono ?_); rintro e w6 ⟨rfl, hk6⟩; have K6 := hid hk6; obtain ⟨f0, f1, f2, f3, ff⟩ := HG.out _ ((E5.out.keep KD5.out).keep hk6).sb; clear hk6)
                      | (go_at_call 16; (with_reducible refine (GV.out _ K6.out).mono ?_); rintro e w7 ⟨rfl, ⟨t7, fr7, hp7, hn7, hd7⟩, hs7, hk7⟩; obtain ⟨h0, h1, h2, h3, hf⟩ := HG.out _ hs7; have P7 := hid hp7; have N7 := hid hn7; have D7 := hid hd7; have S7 := hid hs7; have AG := hid (AGX.out _ _ _ hp7); clear hp7 hn7 hd7 hs7 hk7)
                      | (go_at_call 16; (with_reducible refine AG.out.mono ?_); rintro e w8 ⟨rfl, hk8⟩; have P8 := hid (P7.out.keep hk8); have S8 := hid (S7.out.keep hk8); obtain ⟨i0, i1, i2, i3, if'⟩ := HG.out _ S8.out; clear hk8)
                      | fail)
                    all_goals
                      have R0 := hid (show ∃ m0 : Nat, m0 = (butN ls kk 0).length ∧ m0 = 0 ∧ RS W1 w8 w8 lw x t7 fr7 (ls.eraseIdx kk) (.slice (some ⟨g, 0, none⟩) q vc) ls dl (.slice none 0 0) kk 0 from ⟨0, by rw [butN_zero]; rfl, rfl, RS.start kk P8.out S8.out⟩)
                      clear d0 d1 d2 d3 df f0 f1 f2 f3 ff h0 h1 h2 h3 hf i0 i1 i2 i3 if'
                      go_wp2_with fail
                      go_loopw [27, 28] (fun su sj W => ∃ (jj m0 : Nat) (ua : Option Addr) (uc : Nat), jj ≤ q ∧ sj = .int .i64 (jj : Int) ∧ su = .slice ua m0 uc ∧ Hid (m0 = (butN ls kk jj).length ∧ RS W1 w8 W lw x t7 fr7 (ls.eraseIdx kk) (.slice (some ⟨g, 0, none⟩) q vc) ls dl (.slice ua m0 uc) kk jj)) (fun _ i _ => q - (intOf i).toNat)
                      case atStart =>
                        obtain ⟨m0, h1, h2, h3⟩ := R0.out
                        subst h2
                        exact ⟨0, 0, none, 0, Nat.zero_le _, rfl, rfl, hid ⟨h1, h3⟩⟩
                      case round =>
                        clear R0
                        obtain ⟨jj, m0, ua, uc, hjj, rfl, rfl, HI⟩ := hrel
                        have RR := hid HI.out.2
                        have HM := hid HI.out.1
                        clear HI
                        by_cases hjq : jj < q
                        · have hjqi : (jj : Int) < (q : Int) := by omega
                          have hjl : jj < ls.length := by rw [← HQ.out]; exact hjq
                          by_cases hje : jj = kk
                          · subst hje
                            have R9 := hid (RR.out.skip hjl)
                            have M9 := hid (show m0 = (butN ls jj (jj + 1)).length from by rw [butN_same ls jj hjl]; exact HM.out)
                            as_aux_lemma =>
                              go_wp2_with fail
                              go_round
                              case rel => exact ⟨jj + 1, m0, ua, uc, by omega, by go_num, rfl, hid ⟨M9.out, R9.out⟩⟩
                              case measure => simp [intOf]; omega
                          · have hjb : ((jj : Int) == (kk : Int)) = false := by rw [beq_eq_false_iff_ne]; omega
                            obtain ⟨g', hg', _, a0, a1, a2, a3, af⟩ := SB.get RR.out.sb HQ.out hjl
                            injection hg' with hg'
                            injection hg' with hg'
                            subst hg'
                            obtain ⟨aj, dj, cj, gj, hdj, _⟩ := E5.out.da.2 jj hjl (by rw [E5.out.sb.ln]; exact hjl)
                            obtain ⟨g9, cap9, w9, h9, hR9, hm9⟩ := RR.out.add hjl hje (by rw [hdj]; rfl) (by rw [← HQ.out]; omega) m0 HM.out
                            rw [hdj] at a3 h9
                            obtain ⟨A2, hA2⟩ : ∃ A2, A2 = 1048576 + 4096 * ls[jj].1 := ⟨_, rfl⟩
                            obtain ⟨N2, hN2⟩ : ∃ N2, N2 = 4096 * 2 ^ ls[jj].2 := ⟨_, rfl⟩
                            obtain ⟨J2, hJ2⟩ : ∃ J2, J2 = ls[jj].2 := ⟨_, rfl⟩
                            rw [← hA2] at a0
                            rw [← hN2] at a1
                            rw [← hJ2] at a2
                            have HAP := hid (show ∀ ty, (Builtin.append_ #[32, 32] ty #[.slice ua m0 uc, .slice (some ⟨wr.heap.size, 0, none⟩) 1 1]).run Tryz.prog (wr.alloc (.cells #[.int .u64 (A2 : Int), .int .u64 (N2 : Int), .int .i64 (J2 : Int), .slice aj dj cj] 50)) = .ok (.slice (some ⟨g9, 0, none⟩) (m0 + 1) cap9) w9 from by
                              rw [hA2, hN2, hJ2]
                              exact h9)
                            have R9 := hid hR9
                            have M9 := hid hm9
                            clear h9 hR9 hm9 hdj hA2 hN2 hJ2
                            as_aux_lemma =>
                              go_wp2_with (at_builtin; refine Lib.wpList_append_run _ rfl _ _ _ _ rfl (.slice ua m0 uc) (.slice (some ⟨wr.heap.size, 0, none⟩) 1 1) rfl rfl _ _ (HAP.out _) ?_)
                              go_round
                              case rel => exact ⟨jj + 1, m0 + 1, some ⟨g9, 0, none⟩, cap9, by omega, by go_num, rfl, hid ⟨M9.out, R9.out⟩⟩
                              case measure => simp [intOf]; omega
                        · have hjqi : ¬ (jj : Int) < (q : Int) := by omega
                          have hjqe : jj = ls.length := by rw [← HQ.out]; omega
                          have E9 := hid (show EXs W1 lw L o rg m0 (.slice ua m0 uc) wr from by
                            have hr := RR.out.rs
                            rw [hjqe, butN_all, ← E5.out.sb.ln, butN_all] at hr
                            have hm := HM.out
                            rw [hjqe, butN_all] at hm
                            exact ⟨x, t7, fr7, _, _, EX.anew E5.out kk RR.out.po N7.out D7.out hr, hm⟩)
                          as_aux_lemma =>
                            go_wp2_with fail
                            go_round
                            case rel => exact ⟨j + 1, rg, m0, ua, uc, by omega, by go_num, rfl, rfl, E9⟩
                            case measure => simp [intOf]; omega
              · have hneg' : decide (tm < 0) = false := decide_eq_false hneg
                subst hkk
                as_aux_lemma =>
                  go_upto_region 50 with fail
                  generalize wr.alloc (opB 2 od wh mo dn aa (.slice ao dm dc)) = W3 at *
                  have KD := hid ((Kept.refl none' W3).drew)
                  have HDL := hid (show kk < dl.length from by rw [E1.out.sb.ln]; exact HKL.out)
                  obtain ⟨ao2, dm2, dc2, g2, hdl, hdc, hdm, hby, RDX⟩ := read_ex (E1.out.keep KD.out) kk HKL.out HDL.out
                  have RD := hid (RDX A HA.out)
                  have HDE := hid hdl
                  rw [hdl] at HG s3
                  obtain ⟨d0, d1, d2, d3, df⟩ := HG.out _ (E1.out.keep KD.out).sb
                  have SP := hid (Space6 (E1.out.keep KD.out).po.pl)
                  have B2 := hid hby
                  have hdm2 : dm2 ≤ 32768 := Nat.le_trans (show dm2 ≤ N by rw [HN.out]; exact hdm) hNb
                  obtain ⟨p0, p1, p2⟩ := (E1.out.keep KD.out).po.pl.c
                  have hwd : IntKind.u64.wrap (dm2 : Int) = (dm2 : Int) := by rw [wrap_u64]; omega
                  clear c0 c1 c2 c3 c4 c5 c6 o0 o1 o2 o3 o4 o5 o6 x0 x1 x2 s0 s1 s2 s3 sf KA OB E0 RDX hdl hdc hdm hby
                  go_region_held3 (fun w' => w'.cell? ⟨g, kk * 4, none⟩ = some (.int .u64 (A : Int)) ∧ w'.cell? ⟨g, kk * 4 + 3, none⟩ = some (.slice ao2 dm2 dc2)) ((refine ⟨?_, ?_⟩ <;> first | with_reducible assumption | fail)) (first
                    | (go_at_call 14; (with_reducible refine RD.out.mono ?_); rintro e w5 ⟨b5, rfl, hb5, hk5⟩; have E5 := hid ((E1.out.keep KD.out).keep hk5); have Y5 := hid hb5; obtain ⟨f0, f1, f2, f3, ff⟩ := HG.out _ E5.out.sb; clear hb5 hk5)
                    | (go_at_call 10; (with_reducible refine SP.out.mono ?_); rintro e w3 ⟨rfl, h3⟩; replace h3 := h3.symm; subst h3)
                    | fail)
                  all_goals
                    clear d0 d1 d2 d3 df SP RD p0 p1 p2
                    go_upto_region 51 with fail
                    have KD5 := hid ((Kept.refl none' w5).drew)
                    obtain ⟨d0, d1, d2, d3, df⟩ := HG.out _ (E5.out.keep KD5.out).sb
                    have EQ := hid (equal6 (some ⟨b5, 0, none⟩) ao2 dm2 dm2 dc2 g2 (by omega) w5.drew (Y5.out.keep (ofK KD5.out)) (B2.out.keep (ofK (E5.out.keep KD5.out).po.pl.kp)))
                    have GV := hid (show ∀ W, Kept none' w5.drew W → Calls Tryz.prog 16 #[.pointer (some ⟨lw, 0, none⟩), .int .u64 (A : Int), .int .i64 (J : Int)] W fun e w' => e = .returned (.int .i64 0) ∧ (∃ t' fr', PO W1 w' lw x t' fr' (ls.eraseIdx kk) ∧ t'.m.n = t.m.n ∧ Dat W1 t'.f (ls.eraseIdx kk) (dl.eraseIdx kk)) ∧ SB W1 w' 1048576 (.slice (some ⟨g, 0, none⟩) q vc) ls dl ∧ Kept (bown x) W w' from fun W k => by
                      rw [HJ.out]
                      exact give_ex ((E5.out.keep KD5.out).keep k) kk HKL.out A HA.out)
                    have AGX := hid (show ∀ W t7 fr7, PO W1 W lw x t7 fr7 (ls.eraseIdx kk) → Calls Tryz.prog 16 #[.pointer (some ⟨lw, 0, none⟩), .int .u64 (A : Int), .int .i64 (J : Int)] W fun e w' => e = .returned (.int .i64 1) ∧ Kept none' W w' from fun W t7 fr7 hp => by
                      rw [HJ.out]
                      exact again_ex kk HKL.out E5.out.nd hp E5.out.eb A HA.out (by omega))
                    clear f0 f1 f2 f3 ff
                    go_region_held3 (fun w' => w'.cell? ⟨g, kk * 4, none⟩ = some (.int .u64 (A : Int)) ∧ w'.cell? ⟨g, kk * 4 + 2, none⟩ = some (.int .i64 (J : Int)) ∧ w'.cell? ⟨g, kk * 4 + 3, none⟩ = some (.slice ao2 dm2 dc2)) ((refine ⟨?_, ?_, ?_⟩ <;> first | with_reducible assumption | fail)) (first
                      | (go_at_call 15; (with_reducible refine EQ.out.mono ?_); rintro e w6 ⟨rfl, hk6⟩; have K6 := hid hk6; obtain ⟨f0, f1, f2, f3, ff⟩ := HG.out _ ((E5.out.keep KD5.out).keep hk6).sb; clear hk6)
                      | (go_at_call 16; (with_reducible refine (GV.out _ K6.out).mono ?_); rintro e w7 ⟨rfl, ⟨t7, fr7, hp7, hn7, hd7⟩, hs7, hk7⟩; obtain ⟨h0, h1, h2, h3, hf⟩ := HG.out _ hs7; have P7 := hid hp7; have N7 := hid hn7; have D7 := hid hd7; have S7 := hid hs7; have AG := hid (AGX.out _ _ _ hp7); clear hp7 hn7 hd7 hs7 hk7)
                      | (go_at_call 16; (with_reducible refine AG.out.mono ?_); rintro e w8 ⟨rfl, hk8⟩; have P8 := hid (P7.out.keep hk8); have S8 := hid (S7.out.keep hk8); obtain ⟨i0, i1, i2, i3, if'⟩ := HG.out _ S8.out; clear hk8)
                      | fail)
                    all_goals
                      have R0 := hid (show ∃ m0 : Nat, m0 = (butN ls kk 0).length ∧ m0 = 0 ∧ RS W1 w8 w8 lw x t7 fr7 (ls.eraseIdx kk) (.slice (some ⟨g, 0, none⟩) q vc) ls dl (.slice none 0 0) kk 0 from ⟨0, by rw [butN_zero]; rfl, rfl, RS.start kk P8.out S8.out⟩)
                      clear d0 d1 d2 d3 df f0 f1 f2 f3 ff h0 h1 h2 h3 hf i0 i1 i2 i3 if'
                      go_wp2_with fail
                      go_loopw [27, 28] (fun su sj W => ∃ (jj m0 : Nat) (ua : Option Addr) (uc : Nat), jj ≤ q ∧ sj = .int .i64 (jj : Int) ∧ su = .slice ua m0 uc ∧ Hid (m0 = (butN ls kk jj).length ∧ RS W1 w8 W lw x t7 fr7 (ls.eraseIdx kk) (.slice (some ⟨g, 0, none⟩) q vc) ls dl (.slice ua m0 uc) kk jj)) (fun _ i _ => q - (intOf i).toNat)
                      case atStart =>
                        obtain ⟨m0, h1, h2, h3⟩ := R0.out
                        subst h2
                        exact ⟨0, 0, none, 0, Nat.zero_le _, rfl, rfl, hid ⟨h1, h3⟩⟩
                      case round =>
                        clear R0
                        obtain ⟨jj, m0, ua, uc, hjj, rfl, rfl, HI⟩ := hrel
                        have RR := hid HI.out.2
                        have HM := hid HI.out.1
                        clear HI
                        by_cases hjq : jj < q
                        · have hjqi : (jj : Int) < (q : Int) := by omega
                          have hjl : jj < ls.length := by rw [← HQ.out]; exact hjq
                          by_cases hje : jj = kk
                          · subst hje
                            have R9 := hid (RR.out.skip hjl)
                            have M9 := hid (show m0 = (butN ls jj (jj + 1)).length from by rw [butN_same ls jj hjl]; exact HM.out)
                            as_aux_lemma =>
                              go_wp2_with fail
                              go_round
                              case rel => exact ⟨jj + 1, m0, ua, uc, by omega, by go_num, rfl, hid ⟨M9.out, R9.out⟩⟩
                              case measure => simp [intOf]; omega
                          · have hjb : ((jj : Int) == (kk : Int)) = false := by rw [beq_eq_false_iff_ne]; omega
                            obtain ⟨g', hg', _, a0, a1, a2, a3, af⟩ := SB.get RR.out.sb HQ.out hjl
                            injection hg' with hg'
                            injection hg' with hg'
                            subst hg'
                            obtain ⟨aj, dj, cj, gj, hdj, _⟩ := E5.out.da.2 jj hjl (by rw [E5.out.sb.ln]; exact hjl)
                            obtain ⟨g9, cap9, w9, h9, hR9, hm9⟩ := RR.out.add hjl hje (by rw [hdj]; rfl) (by rw [← HQ.out]; omega) m0 HM.out
                            rw [hdj] at a3 h9
                            obtain ⟨A2, hA2⟩ : ∃ A2, A2 = 1048576 + 4096 * ls[jj].1 := ⟨_, rfl⟩
                            obtain ⟨N2, hN2⟩ : ∃ N2, N2 = 4096 * 2 ^ ls[jj].2 := ⟨_, rfl⟩
                            obtain ⟨J2, hJ2⟩ : ∃ J2, J2 = ls[jj].2 := ⟨_, rfl⟩
                            rw [← hA2] at a0
                            rw [← hN2] at a1
                            rw [← hJ2] at a2
                            have HAP := hid (show ∀ ty, (Builtin.append_ #[32, 32] ty #[.slice ua m0 uc, .slice (some ⟨wr.heap.size, 0, none⟩) 1 1]).run Tryz.prog (wr.alloc (.cells #[.int .u64 (A2 : Int), .int .u64 (N2 : Int), .int .i64 (J2 : Int), .slice aj dj cj] 50)) = .ok (.slice (some ⟨g9, 0, none⟩) (m0 + 1) cap9) w9 from by
                              rw [hA2, hN2, hJ2]
                              exact h9)
                            have R9 := hid hR9
                            have M9 := hid hm9
                            clear h9 hR9 hm9 hdj hA2 hN2 hJ2
                            as_aux_lemma =>
                              go_wp2_with (at_builtin; refine Lib.wpList_append_run _ rfl _ _ _ _ rfl (.slice ua m0 uc) (.slice (some ⟨wr.heap.size, 0, none⟩) 1 1) rfl rfl _ _ (HAP.out _) ?_)
                              go_round
                              case rel => exact ⟨jj + 1, m0 + 1, some ⟨g9, 0, none⟩, cap9, by omega, by go_num, rfl, hid ⟨M9.out, R9.out⟩⟩
                              case measure => simp [intOf]; omega
                        · have hjqi : ¬ (jj : Int) < (q : Int) := by omega
                          have hjqe : jj = ls.length := by rw [← HQ.out]; omega
                          have E9 := hid (show EXs W1 lw L o rg m0 (.slice ua m0 uc) wr from by
                            have hr := RR.out.rs
                            rw [hjqe, butN_all, ← E5.out.sb.ln, butN_all] at hr
                            have hm := HM.out
                            rw [hjqe, butN_all] at hm
                            exact ⟨x, t7, fr7, _, _, EX.anew E5.out kk RR.out.po N7.out D7.out hr, hm⟩)
                          as_aux_lemma =>
                            go_wp2_with fail
                            go_round
                            case rel => exact ⟨j + 1, rg, m0, ua, uc, by omega, by go_num, rfl, rfl, E9⟩
                            case measure => simp [intOf]; omega
            · rcases hkk with ⟨hneg, hkk⟩ | ⟨hneg, hkk⟩
              · have hneg' : decide (tm < 0) = true := decide_eq_true hneg
                have hnt : -tm = (kk : Int) := by omega
                have hntw : IntKind.i64.wrap (-tm) = (kk : Int) := by rw [IntKind.wrap_i64]; omega
                clear hkk
                as_aux_lemma =>
                  by_cases hlt : N < dm
                  · have hlti : (N : Int) < (dm : Int) := by omega
                    have hlti' : decide ((N : Int) < (dm : Int)) = true := decide_eq_true hlti
                    have hNd : (N : Int) ≤ (dc : Int) := by omega
                    have hN0 : (0 : Int) ≤ (N : Int) := by omega
                    have VW := hid (bytes_takeE BY.out N dc (by omega))
                    go_upto_region 47 with fail
                    generalize wr.alloc (opB 5 od wh mo dn aa (.slice ao dm dc)) = W3 at *
                    have KD := hid ((Kept.refl none' W3).drew)
                    obtain ⟨d0, d1, d2, d3, df⟩ := HG.out _ (E1.out.keep KD.out).sb
                    have SP := hid (Space6 (E1.out.keep KD.out).po.pl)
                    have WR := hid (write_ex (E1.out.keep KD.out) kk HKL.out ao N dc gd (by omega) VW.out (Nat.le_trans (show N ≤ N by omega) (Nat.le_of_eq HN.out)) A HA.out)
                    obtain ⟨p0, p1, p2⟩ := (E1.out.keep KD.out).po.pl.c
                    clear c0 c1 c2 c3 c4 c5 c6 o0 o1 o2 o3 o4 o5 o6 x0 x1 x2 s0 s1 s2 s3 sf KA OB E0
                    go_region_held3 (fun w' => w'.cell? ⟨g, kk * 4, none⟩ = some (.int .u64 (A : Int))) (first | with_reducible assumption | fail) (first
                      | (go_at_call 13; (with_reducible refine WR.out.mono ?_); rintro e w5 ⟨rfl, ⟨t5, hp5, hn5, hd5⟩, hs5, hk5⟩; obtain ⟨f0, f1, f2, f3, ff⟩ := HG.out _ hs5; have P5 := hid hp5; have N5 := hid hn5; have D5 := hid hd5; have S5 := hid hs5; clear hp5 hn5 hd5 hs5 hk5)
                      | (go_at_call 10; (with_reducible refine SP.out.mono ?_); rintro e w3 ⟨rfl, h3⟩; replace h3 := h3.symm; subst h3)
                      | fail)
                    all_goals
                      have E9 := hid (show EXs W1 lw L o rg q (.slice (some ⟨g, 0, none⟩) q vc) (w5.setCell ⟨g, kk * 4 + 3, none⟩ (.slice ao N dc)) from by
                        have hs := S5.out
                        have hq := HQ.out
                        rw [hq] at hs
                        have := EX.told (E1.out) P5.out N5.out kk HKL.out (.slice ao N dc) D5.out hs rfl
                        rw [← hq] at this
                        exact ⟨x, t5, fr, ls, _, this, hq⟩)
                      go_wp2_with fail
                      go_round
                      case rel => exact ⟨j + 1, rg, q, some ⟨g, 0, none⟩, vc, by omega, by go_num, rfl, rfl, E9⟩
                      case measure => simp [intOf]; omega
                  · have hlti : ¬ (N : Int) < (dm : Int) := by omega
                    have hlti' : decide ((N : Int) < (dm : Int)) = false := decide_eq_false hlti
                    have VW := hid (bytes_takeE BY.out dm dc (by omega))
                    go_upto_region 47 with fail
                    generalize wr.alloc (opB 5 od wh mo dn aa (.slice ao dm dc)) = W3 at *
                    have KD := hid ((Kept.refl none' W3).drew)
                    obtain ⟨d0, d1, d2, d3, df⟩ := HG.out _ (E1.out.keep KD.out).sb
                    have SP := hid (Space6 (E1.out.keep KD.out).po.pl)
                    have WR := hid (write_ex (E1.out.keep KD.out) kk HKL.out ao dm dc gd (by omega) VW.out (Nat.le_trans (show dm ≤ N by omega) (Nat.le_of_eq HN.out)) A HA.out)
                    obtain ⟨p0, p1, p2⟩ := (E1.out.keep KD.out).po.pl.c
                    clear c0 c1 c2 c3 c4 c5 c6 o0 o1 o2 o3 o4 o5 o6 x0 x1 x2 s0 s1 s2 s3 sf KA OB E0
                    go_region_held3 (fun w' => w'.cell? ⟨g, kk * 4, none⟩ = some (.int .u64 (A : Int))) (first | with_reducible assumption | fail) (first
                      | (go_at_call 13; (with_reducible refine WR.out.mono ?_); rintro e w5 ⟨rfl, ⟨t5, hp5, hn5, hd5⟩, hs5, hk5⟩; obtain ⟨f0, f1, f2, f3, ff⟩ := HG.out _ hs5; have P5 := hid hp5; have N5 := hid hn5; have D5 := hid hd5; have S5 := hid hs5; clear hp5 hn5 hd5 hs5 hk5)
                      | (go_at_call 10; (with_reducible refine SP.out.mono ?_); rintro e w3 ⟨rfl, h3⟩; replace h3 := h3.symm; subst h3)
                      | fail)
                    all_goals
                      have E9 := hid (show EXs W1 lw L o rg q (.slice (some ⟨g, 0, none⟩) q vc) (w5.setCell ⟨g, kk * 4 + 3, none⟩ (.slice ao dm dc)) from by
                        have hs := S5.out
                        have hq := HQ.out
                        rw [hq] at hs
                        have := EX.told (E1.out) P5.out N5.out kk HKL.out (.slice ao dm dc) D5.out hs rfl
                        rw [← hq] at this
                        exact ⟨x, t5, fr, ls, _, this, hq⟩)
                      go_wp2_with fail
                      go_round
                      case rel => exact ⟨j + 1, rg, q, some ⟨g, 0, none⟩, vc, by omega, by go_num, rfl, rfl, E9⟩
                      case measure => simp [intOf]; omega
              · have hneg' : decide (tm < 0) = false := decide_eq_false hneg
                subst hkk
                as_aux_lemma =>
                  by_cases hlt : N < dm
                  · have hlti : (N : Int) < (dm : Int) := by omega
                    have hlti' : decide ((N : Int) < (dm : Int)) = true := decide_eq_true hlti
                    have hNd : (N : Int) ≤ (dc : Int) := by omega
                    have hN0 : (0 : Int) ≤ (N : Int) := by omega
                    have VW := hid (bytes_takeE BY.out N dc (by omega))
                    go_upto_region 47 with fail
                    generalize wr.alloc (opB 5 od wh mo dn aa (.slice ao dm dc)) = W3 at *
                    have KD := hid ((Kept.refl none' W3).drew)
                    obtain ⟨d0, d1, d2, d3, df⟩ := HG.out _ (E1.out.keep KD.out).sb
                    have SP := hid (Space6 (E1.out.keep KD.out).po.pl)
                    have WR := hid (write_ex (E1.out.keep KD.out) kk HKL.out ao N dc gd (by omega) VW.out (Nat.le_trans (show N ≤ N by omega) (Nat.le_of_eq HN.out)) A HA.out)
                    obtain ⟨p0, p1, p2⟩ := (E1.out.keep KD.out).po.pl.c
                    clear c0 c1 c2 c3 c4 c5 c6 o0 o1 o2 o3 o4 o5 o6 x0 x1 x2 s0 s1 s2 s3 sf KA OB E0
                    go_region_held3 (fun w' => w'.cell? ⟨g, kk * 4, none⟩ = some (.int .u64 (A : Int))) (first | with_reducible assumption | fail) (first
                      | (go_at_call 13; (with_reducible refine WR.out.mono ?_); rintro e w5 ⟨rfl, ⟨t5, hp5, hn5, hd5⟩, hs5, hk5⟩; obtain ⟨f0, f1, f2, f3, ff⟩ := HG.out _ hs5; have P5 := hid hp5; have N5 := hid hn5; have D5 := hid hd5; have S5 := hid hs5; clear hp5 hn5 hd5 hs5 hk5)
                      | (go_at_call 10; (with_reducible refine SP.out.mono ?_); rintro e w3 ⟨rfl, h3⟩; replace h3 := h3.symm; subst h3)
                      | fail)
                    all_goals
                      have E9 := hid (show EXs W1 lw L o rg q (.slice (some ⟨g, 0, none⟩) q vc) (w5.setCell ⟨g, kk * 4 + 3, none⟩ (.slice ao N dc)) from by
                        have hs := S5.out
                        have hq := HQ.out
                        rw [hq] at hs
                        have := EX.told (E1.out) P5.out N5.out kk HKL.out (.slice ao N dc) D5.out hs rfl
                        rw [← hq] at this
                        exact ⟨x, t5, fr, ls, _, this, hq⟩)
                      go_wp2_with fail
                      go_round
                      case rel => exact ⟨j + 1, rg, q, some ⟨g, 0, none⟩, vc, by omega, by go_num, rfl, rfl, E9⟩
                      case measure => simp [intOf]; omega
                  · have hlti : ¬ (N : Int) < (dm : Int) := by omega
                    have hlti' : decide ((N : Int) < (dm : Int)) = false := decide_eq_false hlti
                    have VW := hid (bytes_takeE BY.out dm dc (by omega))
                    go_upto_region 47 with fail
                    generalize wr.alloc (opB 5 od wh mo dn aa (.slice ao dm dc)) = W3 at *
                    have KD := hid ((Kept.refl none' W3).drew)
                    obtain ⟨d0, d1, d2, d3, df⟩ := HG.out _ (E1.out.keep KD.out).sb
                    have SP := hid (Space6 (E1.out.keep KD.out).po.pl)
                    have WR := hid (write_ex (E1.out.keep KD.out) kk HKL.out ao dm dc gd (by omega) VW.out (Nat.le_trans (show dm ≤ N by omega) (Nat.le_of_eq HN.out)) A HA.out)
                    obtain ⟨p0, p1, p2⟩ := (E1.out.keep KD.out).po.pl.c
                    clear c0 c1 c2 c3 c4 c5 c6 o0 o1 o2 o3 o4 o5 o6 x0 x1 x2 s0 s1 s2 s3 sf KA OB E0
                    go_region_held3 (fun w' => w'.cell? ⟨g, kk * 4, none⟩ = some (.int .u64 (A : Int))) (first | with_reducible assumption | fail) (first
                      | (go_at_call 13; (with_reducible refine WR.out.mono ?_); rintro e w5 ⟨rfl, ⟨t5, hp5, hn5, hd5⟩, hs5, hk5⟩; obtain ⟨f0, f1, f2, f3, ff⟩ := HG.out _ hs5; have P5 := hid hp5; have N5 := hid hn5; have D5 := hid hd5; have S5 := hid hs5; clear hp5 hn5 hd5 hs5 hk5)
                      | (go_at_call 10; (with_reducible refine SP.out.mono ?_); rintro e w3 ⟨rfl, h3⟩; replace h3 := h3.symm; subst h3)
                      | fail)
                    all_goals
                      have E9 := hid (show EXs W1 lw L o rg q (.slice (some ⟨g, 0, none⟩) q vc) (w5.setCell ⟨g, kk * 4 + 3, none⟩ (.slice ao dm dc)) from by
                        have hs := S5.out
                        have hq := HQ.out
                        rw [hq] at hs
                        have := EX.told (E1.out) P5.out N5.out kk HKL.out (.slice ao dm dc) D5.out hs rfl
                        rw [← hq] at this
                        exact ⟨x, t5, fr, ls, _, this, hq⟩)
                      go_wp2_with fail
                      go_round
                      case rel => exact ⟨j + 1, rg, q, some ⟨g, 0, none⟩, vc, by omega, by go_num, rfl, rfl, E9⟩
                      case measure => simp [intOf]; omega
          · have E9 := hid (show EXs W1 lw L o rg q (.slice va q vc) (wr.alloc (opB kd od wh mo dn aa (.slice ao dm dc))) from ⟨x, t, fr, ls, dl, E1.out, HQ.out⟩)
            by_cases hq0 : 0 < q
            · have hqi : (0 : Int) < (q : Int) := by omega
              have k2' : (kd == 2) = false := by rw [beq_eq_false_iff_ne]; exact fun e => k25 ⟨hq0, .inl e⟩
              have k5' : (kd == 5) = false := by rw [beq_eq_false_iff_ne]; exact fun e => k25 ⟨hq0, .inr e⟩
              as_aux_lemma =>
                go_wp2_with fail
                go_round
                case rel => exact ⟨j + 1, rg, q, va, vc, by omega, by go_num, rfl, rfl, E9⟩
                case measure => simp [intOf]; omega
            · have hqi : ¬ (0 : Int) < (q : Int) := by omega
              have hqi' : decide ((0 : Int) < (q : Int)) = false := decide_eq_false hqi
              as_aux_lemma =>
                go_wp2_with fail
                go_round
                case rel => exact ⟨j + 1, rg, q, va, vc, by omega, by go_num, rfl, rfl, E9⟩
                case measure => simp [intOf]; omega
    · have hji : ¬ (j : Int) < (m : Int) := by omega
      have RG := hid (regions6 E0.out.po rg (by rw [E0.out.nn, E0.out.eo]))
      have SP := hid (Space6 E0.out.po.pl)
      have KE := hid (none_trans K1.out E0.out.po.pl.kp)
      as_aux_lemma =>
        go_wp2_with fail
        refine SP.out.mono ?_
        rintro e w5 ⟨rfl, h5⟩
        subst h5
        go_wp2_with fail
        refine RG.out.mono ?_
        rintro e w6 ⟨rfl, hk⟩
        have K6 := hid (none_trans KE.out hk)
        clear hk
        go_wp2_with fail
        go_ret
        exact ⟨rfl, K6.out⟩
end Go.Proofs.YthomkkboeldgnaaGreat
