import Derived.Test.YthglogiglimebaaGreatPwU
import Derived.Test.YthglogiglimebaaGreatQi
import Derived.Deep.RegionHeld3
/- BuddyPlays: the step Open. -/
namespace Go.Proofs.YthglogiglimebaaGreat
open Go.RowKit
set_option linter.unusedVariables false

theorem Sf.open {x t fr ls} (s : Sf x t fr ls) (b l c : Nat) (L hd : Nat → Nat) (hh : ∀ k, k ≤ x.o → hd k = t.hd k) : Sf ⟨b, x.s, x.a, x.m, x.B, l, c, L, x.base, x.R, x.lim, x.n, x.o⟩ ⟨t.f, t.m, hd⟩ fr ls := by
  obtain ⟨B, s, hN, hL⟩ := s
  refine ⟨B, ⟨s.mo, s.o8, s.dv, s.nb, s.n1, s.b1, s.b2, s.tg, s.fi, s.al, s.ds, s.cv, s.pg, fun k hk => ?_, s.wl, s.bt, s.nm⟩, hN, hL⟩
  show M.Chn x.base x.n t.f (hd k) ((fr k).map (ad x))
  rw [hh k hk]
  exact s.ch k hk
theorem headsL_get (x : Bx) (t : Bt) (k : Nat) (hk : k ≤ x.o) : (headsL x t).getD k 0 = t.hd k := by
  unfold headsL
  simp [List.getD, show k < x.o + 1 by omega]
/-- The world's buddy is another one on the same heads. -/
theorem PW.open {E w W V V1 V2 lw c x t fr ls fa fc va n vc} (h : PW E w W lw c x t fr ls fa fc va n vc) (g b : Nat) (hg : W.heap.size ≤ g) (k1 : Kept none' W V) (hgV : g < V.heap.size) (hO : OvP V V1 b x.base x.s x.m (x.o + 1) (fun i => (headsL x t).getD i 0)) (k2 : Kept (fun y => y = g) V1 V2) :
    StP E w W lw (c + 1) (.returned (.bool true)) (V2.setCell ⟨lw, 5, none⟩ (.pointer (some ⟨b, 0, none⟩))) := by
  have hbd1 := (h.keep k1).law.bd
  have kV : Kept none' V V1 := by obtain ⟨_, _, _, hO, _⟩ := hO; exact hO.kp
  have hbd2 := hbd1.keep kV
  obtain ⟨l, cp, L, hb, e1, e2, e3, _⟩ := hO.bd rfl hbd2.sp hbd2.mp hbd2.mo hbd2.hR
  have hlt := h.law.lt
  have hV := k1.size
  have hlw := hlt lw (.inr rfl)
  have old : ∀ y, bown ⟨b, x.s, x.a, x.m, x.B, l, cp, L, x.base, x.R, x.lim, x.n, x.o⟩ y → bown x y ∨ V.heap.size ≤ y := by
    rintro y (hy | hy | ⟨k, hk, rfl⟩)
    · exact .inl (.inl hy)
    · exact .inl (.inr (.inl hy))
    · exact .inr (e3 k hk)
  have ng : ∀ y, bown ⟨b, x.s, x.a, x.m, x.B, l, cp, L, x.base, x.R, x.lim, x.n, x.o⟩ y ∨ y = b ∨ y = l → ¬ y = g := by
    rintro y (hy | rfl | rfl)
    · rcases old y hy with hy | hy
      · have := hlt y (.inl hy)
        omega
      · omega
    · omega
    · omega
  have nl : ∀ y, bown ⟨b, x.s, x.a, x.m, x.B, l, cp, L, x.base, x.R, x.lim, x.n, x.o⟩ y ∨ y = b ∨ y = l → ¬ y = lw := by
    rintro y (hy | rfl | rfl)
    · rcases old y hy with hy | hy
      · exact fun e => h.law.nlw (e ▸ hy)
      · omega
    · omega
    · omega
  have kg : Kept none' W V2 := (none_trans k1 kV).trans k2 (fun _ _ e => e) (fun y hy e => by have e : y = g := e; omega)
  have hb2 := hb.kept k2 ng
  have ks : Kept (fun y => y = lw) V2 (V2.setCell ⟨lw, 5, none⟩ (.pointer (some ⟨b, 0, none⟩))) := (Kept.refl (fun y => y = lw) V2).setCell (p := ⟨lw, 5, none⟩) rfl _
  have hb3 := hb2.kept ks nl
  have h2 := h.keep kg
  have kk : Kept (fun y => bown x y ∨ y = lw) V2 (V2.setCell ⟨lw, 5, none⟩ (.pointer (some ⟨b, 0, none⟩))) := ks.mono (fun _ _ e => .inr e)
  have kf : Kept (fun y => bown x y ∨ y = lw) W (V2.setCell ⟨lw, 5, none⟩ (.pointer (some ⟨b, 0, none⟩))) := kg.trans kk (fun _ _ e => e.elim) (fun _ _ e => e)
  have hwW := h.law.kp.size
  refine ⟨⟨b, x.s, x.a, x.m, x.B, l, cp, L, x.base, x.R, x.lim, x.n, x.o⟩, ⟨t.f, t.m, fun i => (headsL x t).getD i 0⟩, fr, ls, fa, fc, va, n, vc, rfl, ⟨⟨(heap_set h2.law.box 5 _).trans (by simp), hb3, ?_, ?_⟩, h.nl, h.law.fl h.fl kf, h.law.rn h.rn kf, h.sf.open b l cp L _ (fun k hk => headsL_get x t k hk), h.st, Nat.le_trans h.nc (Nat.le_succ _), h.bm, fun y hy => ⟨Nat.lt_of_lt_of_le (h.ex y hy).1 kf.size, ?_⟩⟩, h.exk kf⟩
  · rintro y (hy | hy | hy | hy)
    · rcases old y hy with hy | hy
      · exact h.law.nw y (.inl hy)
      · omega
    · have hy : y = b := hy
      omega
    · have hy : y = l := hy
      omega
    · exact h.law.nw y (.inr (.inr (.inr hy)))
  · exact h.law.kp.trans kf (fun _ _ e => e) (fun y hy e => absurd (h.law.nw y (e.elim .inl (fun e => .inr (.inr (.inr e))))) (by omega))
  · have h3 := h.ex y hy
    rintro (hy2 | e)
    · rcases old y hy2 with hy2 | hy2
      · exact h3.2 (.inl hy2)
      · omega
    · exact h3.2 (.inr e)
theorem heads64 {E w W lw c x t fr ls fa fc va n vc} (h : PW E w W lw c x t fr ls fa fc va n vc) (i : Nat) : (headsL x t).getD i 0 < 18446744073709551616 := by
  by_cases hi : i ≤ x.o
  · rw [headsL_get x t i hi, h.sf.hd hi]
    cases hfr : fr i with
    | nil => exact (show (0 : Nat) < 18446744073709551616 by decide)
    | cons p l => exact ad_lt h hi (by rw [hfr]; exact List.mem_cons_self)
  · rw [List.getD_eq_getElem?_getD, List.getElem?_eq_none (by rw [headsL_len]; omega)]
    decide
set_option maxRecDepth 4000 in
set_option maxHeartbeats 8000000 in
theorem opened_x {E w W lw c x t fr ls fa fc va n vc} (h : PW E w W lw c x t fr ls fa fc va n vc) (hc : n ≤ 1000) (od : Int) :
    Calls Tryz.prog 54 #[.pointer (some ⟨lw, 0, none⟩), .int .i64 od] W fun e w' => StP E w W lw (c + 1) e w' := by
  have ho := h.nums.1
  have HC := hid (fun W' (k : Kept none' W W') => show W'.cell? ⟨lw, 0, none⟩ = some (.int .u64 (x.base : Int)) ∧ W'.cell? ⟨lw, 1, none⟩ = some (.int .i64 (x.lim : Int)) ∧ W'.cell? ⟨lw, 2, none⟩ = some (.int .i64 (x.o : Int)) ∧ W'.cell? ⟨lw, 3, none⟩ = some (.pointer (some ⟨x.s, 0, none⟩)) ∧ W'.cell? ⟨lw, 4, none⟩ = some (.pointer (some ⟨x.m, 0, none⟩)) ∧ W'.cell? ⟨lw, 5, none⟩ = some (.pointer (some ⟨x.b, 0, none⟩)) from by
    obtain ⟨c0, c1, c2, c3, c4, c5, c6, c7, c8, c9⟩ := (h.keep k).law.c
    exact ⟨c0, c1, c2, c3, c4, c5⟩)
  have HH := hid h
  obtain ⟨c0, c1, c2, c3, c4, c5⟩ := HC.out W (Kept.refl none' W)
  clear h
  go_enter Tryz.func54, Tryz.ntmps54
  go_wp2_with fail
  refine (heads_w HH.out).mono ?_
  rintro e w1 ⟨g1, rfl, hw1, hk1, hb1, hg1⟩
  have K1 := hid hk1
  have L1 := hid hw1
  have B1 := hid hb1
  have G1 := hid hg1
  clear hw1 hk1 hb1 hg1 c0 c1 c2 c3 c4 c5
  go_wp2_with fail
  go_loopw [6, 7] (fun l i W' => ∃ j : Nat, j ≤ 20 ∧ i = .int .i64 j ∧ (∃ ga gc, l = .slice ga j gc) ∧ Hid (WL w1 W' l (List.replicate j 0) ∧ Kept none' w1 W')) (fun _ i _ => 20 - (intOf i).toNat)
  case atStart => exact ⟨0, by omega, rfl, ⟨_, _, rfl⟩, hid ⟨WL.nil w1 w1 (Kept.refl none' w1), Kept.refl none' w1⟩⟩
  case round =>
    obtain ⟨j, hj, rfl, ⟨ga, gc, rfl⟩, hR⟩ := hrel
    by_cases hlt : (j : Int) < od ∧ j < 20
    · obtain ⟨h1, h2⟩ := hlt
      have h2i : (j : Int) < 20 := by omega
      have h1b : decide ((j : Int) < od) = true := decide_eq_true h1
      have h2b : decide ((j : Int) < 20) = true := decide_eq_true h2i
      obtain ⟨g, cap, w', hap, hw, hkp⟩ := hR.out.1.push (by simp) 0 (by simp; omega)
      have D := hid (show WL w1 w' (.slice (some ⟨g, 0, none⟩) (j + 1) cap) (List.replicate (j + 1) 0) ∧ Kept none' w1 w' from ⟨by rw [List.replicate_succ']; exact hw, hkp⟩)
      have HAP := hid (show ∀ ty, (Builtin.append_ #[29, 29] ty #[.slice ga j gc, .slice (some ⟨wr.heap.size, 0, none⟩) 1 1]).run Tryz.prog (wr.alloc (.cells #[.int .u64 0] 22)) = .ok (.slice (some ⟨g, 0, none⟩) (j + 1) cap) w' from hap)
      clear hap hw hkp
      go_wp2_with (at_builtin; refine Lib.wpList_append_run _ rfl _ _ _ _ rfl (.slice ga j gc) (.slice (some ⟨wr.heap.size, 0, none⟩) 1 1) rfl rfl _ _ (HAP.out _) ?_)
      exact ⟨⟨j + 1, by omega, by simp, ⟨_, _, rfl⟩, D⟩, by simp [intOf]; omega⟩
    · have hb : (decide ((j : Int) < od) && decide ((j : Int) < 20)) = false := by
        rw [Bool.and_eq_false_iff]
        by_cases h1 : (j : Int) < od
        · exact .inr (decide_eq_false (by omega))
        · exact .inl (decide_eq_false h1)
      have K2 := hid (none_trans K1.out hR.out.2)
      have KD := hid (none_trans K2.out (Kept.refl none' wr).drew)
      have OP := hid (OpenB_row x.base x.s x.m x.o (x.lim : Int) ho w1 j hj ga gc wr.drew (⟨hR.out.1.1.keep (Kept.refl none' wr).drew, hR.out.1.2⟩))
      obtain ⟨d0, d1, d2, d3, d4, _⟩ := HC.out _ KD.out
      have B2 := hid ((hR.out.2.block _ (heap_lt B1.out) (fun e => e)).trans B1.out)
      have L2 := hid (Wds.keep' L1.out hR.out.2)
      have hjx : (j : Int) < od → ¬ (j : Int) < 20 := fun h1 e => hlt ⟨h1, by omega⟩
      have hjj : (j : Int) < od ∨ ¬ (j : Int) < od := Classical.em _
      have hj0 : j = x.o + 1 ∨ j ≠ x.o + 1 := Classical.em _
      have H64 := hid (fun i => heads64 HH.out i)
      clear hR K1 L1 B1 hb hlt
      rcases hjj with h1 | h1
      · obtain rfl : j = 20 := by have := hjx h1; omega
        clear hjx hj0
        as_aux_lemma =>
          go_upto_region 7 with fail
          go_region_held3 (fun w' => w'.cell? ⟨lw, 0, none⟩ = some (.int .u64 (x.base : Int)) ∧ w'.cell? ⟨lw, 1, none⟩ = some (.int .i64 (x.lim : Int)) ∧ w'.cell? ⟨lw, 2, none⟩ = some (.int .i64 (x.o : Int)) ∧ w'.cell? ⟨lw, 3, none⟩ = some (.pointer (some ⟨x.s, 0, none⟩)) ∧ w'.cell? ⟨lw, 4, none⟩ = some (.pointer (some ⟨x.m, 0, none⟩))) ((refine ⟨?_, ?_, ?_, ?_, ?_⟩ <;> with_reducible assumption)) (first
            | (go_at_call 28; refine OP.out.mono ?_; rintro e w3 ⟨bv, ev, rfl, hbe, hk3⟩; have BE := hid hbe; have K3 := hid (none_trans (Kept.refl none' wr).drew hk3); obtain ⟨y0, y1, y2, y3, y4, _⟩ := HC.out _ (none_trans KD.out hk3); clear hbe hk3)
            | fail)
          have KW3 := hid (none_trans K2.out K3.out)
          have B3 := hid ((K3.out.block _ (heap_lt B2.out) (fun e => e)).trans B2.out)
          have L3 := hid (Wds.keep' L2.out K3.out)
          clear OP K3 d0 d1 d2 d3 d4
          obtain ⟨rfl, rfl⟩ := BE.out (by omega)
          have hne : ¬ (20 : Int) = (x.o : Int) + 1 := by omega
          have hnb : ((20 : Int) == (x.o : Int) + 1) = false := beq_eq_false_iff_ne.2 hne
          go_upto_region 10 with fail
          clear y0 y1 y2 y3 y4 hne hnb BE
          have KD3 := hid (none_trans KW3.out (Kept.refl none' w3).drew)
          have BD3 := hid ((((Kept.refl none' w3).drew).block _ (heap_lt B3.out) (fun e => e)).trans B3.out)
          have OY := hid (OpenB_yes x.base x.s x.m x.o (x.lim : Int) ho (headsL x t) (headsL_len x t) H64.out g1 (x.o + 1) w3.drew BD3.out)
          obtain ⟨d0, d1, d2, d3, d4, _⟩ := HC.out _ KD3.out
          go_region_held3 (fun w' => w'.cell? ⟨lw, 0, none⟩ = some (.int .u64 (x.base : Int)) ∧ w'.cell? ⟨lw, 1, none⟩ = some (.int .i64 (x.lim : Int)) ∧ w'.cell? ⟨lw, 2, none⟩ = some (.int .i64 (x.o : Int)) ∧ w'.cell? ⟨lw, 3, none⟩ = some (.pointer (some ⟨x.s, 0, none⟩)) ∧ w'.cell? ⟨lw, 4, none⟩ = some (.pointer (some ⟨x.m, 0, none⟩))) ((refine ⟨?_, ?_, ?_, ?_, ?_⟩ <;> with_reducible assumption)) (first
            | (go_at_call 28; refine OY.out.mono ?_; rintro e w5 ⟨b5, rfl, hO⟩; have O5 := hid hO; obtain ⟨_, _, _, hO2, _⟩ := hO; have KO := hid hO2.kp; obtain ⟨y0, y1, y2, y3, y4, _⟩ := HC.out _ (none_trans KD3.out KO.out); clear hO2)
            | fail)
          have K5 := hid (none_trans KD3.out KO.out)
          have L5 := hid (Wds.keep' (Wds.keep' L3.out (Kept.refl none' w3).drew) KO.out)
          have B5 := hid ((KO.out.block _ (heap_lt BD3.out) (fun e => e)).trans BD3.out)
          clear OY d0 d1 d2 d3 d4 y0 y1 y2 y3 y4
          go_wp2_with fail
          refine (heads_x (HH.out.keep K5.out)).mono ?_
          rintro e w6 ⟨v6, rfl, hw6, hk6, _⟩
          have IN := hid (M.ints_any _ _ _ _ (by rw [headsL_len]; omega) w6 (Wds.keep' L5.out hk6) hw6.wds)
          rw [decide_eq_true rfl] at IN
          have K6 := hid hk6
          clear hw6 hk6 L5 L3
          go_wp2_with fail
          refine IN.out.mono ?_
          rintro e w7 ⟨rfl, hk7⟩
          have K7 := hid (none_trans K6.out (toK hk7))
          have B7 := hid ((K7.out.block _ (heap_lt B5.out) (fun e => e)).trans B5.out)
          clear hk7 IN K6
          go_wp2_with fail
          go_loopw [10] (fun i W' => ∃ a : Nat, a ≤ x.o + 1 ∧ i = .int .i64 a ∧ Hid (Kept (fun y => y = g1) w5 W' ∧ ∃ cs, W'.heap[g1]? = some (.cells cs 22 (0, 0)) ∧ cs.size = x.o + 1)) (fun i _ => x.o + 1 - (intOf i).toNat)
          case atStart => exact ⟨0, by omega, rfl, hid ⟨K7.out.mono (fun _ _ e => e.elim), _, B7.out, by simp [wcells, headsL_len]⟩⟩
          case round =>
            rename_i wr
            obtain ⟨a, ha, rfl, hR⟩ := hrel
            obtain ⟨hk9, cs, hb9, hcs⟩ := hR.out
            by_cases hla : a < x.o + 1
            · have hai : (a : Int) < ((x.o + 1 : Nat) : Int) := by omega
              have hai2 : (a : Int) < (x.o : Int) + 1 := by omega
              have hai3 : a ≤ x.o := by omega
              obtain ⟨u, hu⟩ : ∃ u, wr.cell? ⟨g1, a, none⟩ = some u := ⟨cs[a]'(by omega), by simp [World.cell?, hb9, show a < cs.size by omega]⟩
              have fz : wr.frozen? ⟨g1, a, none⟩ = false := by simp [World.frozen?, hb9]
              have D := hid (show Kept (fun y => y = g1) w5 (wr.setCell ⟨g1, a, none⟩ (.int .u64 99)) ∧ ∃ cs, (wr.setCell ⟨g1, a, none⟩ (.int .u64 99)).heap[g1]? = some (.cells cs 22 (0, 0)) ∧ cs.size = x.o + 1 from ⟨hk9.setCell (p := ⟨g1, a, none⟩) rfl _, _, heap_set hb9 a _, by simp [hcs]⟩)
              clear hR hk9 hb9 hcs
              go_wp2_with fail
              exact ⟨⟨a + 1, by omega, by simp, D⟩, by simp [intOf]; omega⟩
            · obtain rfl : a = x.o + 1 := by omega
              have hai : ¬ ((x.o + 1 : Nat) : Int) < ((x.o + 1 : Nat) : Int) := by omega
              have hai2 : ¬ (x.o : Int) + 1 < (x.o : Int) + 1 := by omega
              have D := hid (HH.out.open g1 b5 G1.out KD3.out (heap_lt BD3.out) O5.out hk9)
              have fz : wr.frozen? ⟨lw, 5, none⟩ = false := by
                have h1 := (HH.out.keep ((none_trans KD3.out KO.out).trans hk9 (fun _ _ e => e) (fun y hy e => by have e : y = g1 := e; have := G1.out; omega))).law
                exact h1.fz 5
              obtain ⟨_, _, _, _, _, c5⟩ := HC.out wr ((none_trans KD3.out KO.out).trans hk9 (fun _ _ e => e) (fun y hy e => by have e : y = g1 := e; have := G1.out; omega))
              clear hR hk9 hb9 hcs
              go_wp2_with fail
              go_ret
              exact D.out
      clear hjx
      rcases hj0 with hjo | hjo
      · have HJO := hid hjo
        clear hjo
        as_aux_lemma =>
          go_upto_region 7 with fail
          go_region_held3 (fun w' => w'.cell? ⟨lw, 0, none⟩ = some (.int .u64 (x.base : Int)) ∧ w'.cell? ⟨lw, 1, none⟩ = some (.int .i64 (x.lim : Int)) ∧ w'.cell? ⟨lw, 2, none⟩ = some (.int .i64 (x.o : Int)) ∧ w'.cell? ⟨lw, 3, none⟩ = some (.pointer (some ⟨x.s, 0, none⟩)) ∧ w'.cell? ⟨lw, 4, none⟩ = some (.pointer (some ⟨x.m, 0, none⟩))) ((refine ⟨?_, ?_, ?_, ?_, ?_⟩ <;> with_reducible assumption)) (first
            | (go_at_call 28; refine OP.out.mono ?_; rintro e w3 ⟨bv, ev, rfl, hbe, hk3⟩; have BE := hid hbe; have K3 := hid (none_trans (Kept.refl none' wr).drew hk3); obtain ⟨y0, y1, y2, y3, y4, _⟩ := HC.out _ (none_trans KD.out hk3); clear hbe hk3)
            | fail)
          have KW3 := hid (none_trans K2.out K3.out)
          have B3 := hid ((K3.out.block _ (heap_lt B2.out) (fun e => e)).trans B2.out)
          have L3 := hid (Wds.keep' L2.out K3.out)
          clear OP K3 d0 d1 d2 d3 d4
          have hne : (j : Int) = (x.o : Int) + 1 := by have := HJO.out; omega
          have hnb : ((j : Int) == (x.o : Int) + 1) = true := beq_iff_eq.2 hne
          go_upto_region 10 with fail
          clear y0 y1 y2 y3 y4 hne hnb BE
          have KD3 := hid (none_trans KW3.out (Kept.refl none' w3).drew)
          have BD3 := hid ((((Kept.refl none' w3).drew).block _ (heap_lt B3.out) (fun e => e)).trans B3.out)
          have OY := hid (OpenB_yes x.base x.s x.m x.o (x.lim : Int) ho (headsL x t) (headsL_len x t) H64.out g1 (x.o + 1) w3.drew BD3.out)
          obtain ⟨d0, d1, d2, d3, d4, _⟩ := HC.out _ KD3.out
          go_region_held3 (fun w' => w'.cell? ⟨lw, 0, none⟩ = some (.int .u64 (x.base : Int)) ∧ w'.cell? ⟨lw, 1, none⟩ = some (.int .i64 (x.lim : Int)) ∧ w'.cell? ⟨lw, 2, none⟩ = some (.int .i64 (x.o : Int)) ∧ w'.cell? ⟨lw, 3, none⟩ = some (.pointer (some ⟨x.s, 0, none⟩)) ∧ w'.cell? ⟨lw, 4, none⟩ = some (.pointer (some ⟨x.m, 0, none⟩))) ((refine ⟨?_, ?_, ?_, ?_, ?_⟩ <;> with_reducible assumption)) (first
            | (go_at_call 28; refine OY.out.mono ?_; rintro e w5 ⟨b5, rfl, hO⟩; have O5 := hid hO; obtain ⟨_, _, _, hO2, _⟩ := hO; have KO := hid hO2.kp; obtain ⟨y0, y1, y2, y3, y4, _⟩ := HC.out _ (none_trans KD3.out KO.out); clear hO2)
            | fail)
          have K5 := hid (none_trans KD3.out KO.out)
          have L5 := hid (Wds.keep' (Wds.keep' L3.out (Kept.refl none' w3).drew) KO.out)
          have B5 := hid ((KO.out.block _ (heap_lt BD3.out) (fun e => e)).trans BD3.out)
          clear OY d0 d1 d2 d3 d4 y0 y1 y2 y3 y4
          go_wp2_with fail
          refine (heads_x (HH.out.keep K5.out)).mono ?_
          rintro e w6 ⟨v6, rfl, hw6, hk6, _⟩
          have IN := hid (M.ints_any _ _ _ _ (by rw [headsL_len]; omega) w6 (Wds.keep' L5.out hk6) hw6.wds)
          rw [decide_eq_true rfl] at IN
          have K6 := hid hk6
          clear hw6 hk6 L5 L3
          go_wp2_with fail
          refine IN.out.mono ?_
          rintro e w7 ⟨rfl, hk7⟩
          have K7 := hid (none_trans K6.out (toK hk7))
          have B7 := hid ((K7.out.block _ (heap_lt B5.out) (fun e => e)).trans B5.out)
          clear hk7 IN K6
          go_wp2_with fail
          go_loopw [10] (fun i W' => ∃ a : Nat, a ≤ x.o + 1 ∧ i = .int .i64 a ∧ Hid (Kept (fun y => y = g1) w5 W' ∧ ∃ cs, W'.heap[g1]? = some (.cells cs 22 (0, 0)) ∧ cs.size = x.o + 1)) (fun i _ => x.o + 1 - (intOf i).toNat)
          case atStart => exact ⟨0, by omega, rfl, hid ⟨K7.out.mono (fun _ _ e => e.elim), _, B7.out, by simp [wcells, headsL_len]⟩⟩
          case round =>
            obtain ⟨a, ha, rfl, hR⟩ := hrel
            obtain ⟨hk9, cs, hb9, hcs⟩ := hR.out
            by_cases hla : a < x.o + 1
            · have hai : (a : Int) < ((x.o + 1 : Nat) : Int) := by omega
              have hai2 : (a : Int) < (x.o : Int) + 1 := by omega
              have hai3 : a ≤ x.o := by omega
              obtain ⟨u, hu⟩ : ∃ u, wr.cell? ⟨g1, a, none⟩ = some u := ⟨cs[a]'(by omega), by simp [World.cell?, hb9, show a < cs.size by omega]⟩
              have fz : wr.frozen? ⟨g1, a, none⟩ = false := by simp [World.frozen?, hb9]
              have D := hid (show Kept (fun y => y = g1) w5 (wr.setCell ⟨g1, a, none⟩ (.int .u64 99)) ∧ ∃ cs, (wr.setCell ⟨g1, a, none⟩ (.int .u64 99)).heap[g1]? = some (.cells cs 22 (0, 0)) ∧ cs.size = x.o + 1 from ⟨hk9.setCell (p := ⟨g1, a, none⟩) rfl _, _, heap_set hb9 a _, by simp [hcs]⟩)
              clear hR hk9 hb9 hcs
              go_wp2_with fail
              exact ⟨⟨a + 1, by omega, by simp, D⟩, by simp [intOf]; omega⟩
            · obtain rfl : a = x.o + 1 := by omega
              have hai : ¬ ((x.o + 1 : Nat) : Int) < ((x.o + 1 : Nat) : Int) := by omega
              have hai2 : ¬ (x.o : Int) + 1 < (x.o : Int) + 1 := by omega
              have D := hid (HH.out.open g1 b5 G1.out KD3.out (heap_lt BD3.out) O5.out hk9)
              have fz : wr.frozen? ⟨lw, 5, none⟩ = false := by
                have h1 := (HH.out.keep ((none_trans KD3.out KO.out).trans hk9 (fun _ _ e => e) (fun y hy e => by have e : y = g1 := e; have := G1.out; omega))).law
                exact h1.fz 5
              obtain ⟨_, _, _, _, _, c5⟩ := HC.out wr ((none_trans KD3.out KO.out).trans hk9 (fun _ _ e => e) (fun y hy e => by have e : y = g1 := e; have := G1.out; omega))
              clear hR hk9 hb9 hcs
              go_wp2_with fail
              go_ret
              exact D.out
      · have HJO := hid hjo
        clear hjo
        as_aux_lemma =>
          go_upto_region 7 with fail
          go_region_held3 (fun w' => w'.cell? ⟨lw, 0, none⟩ = some (.int .u64 (x.base : Int)) ∧ w'.cell? ⟨lw, 1, none⟩ = some (.int .i64 (x.lim : Int)) ∧ w'.cell? ⟨lw, 2, none⟩ = some (.int .i64 (x.o : Int)) ∧ w'.cell? ⟨lw, 3, none⟩ = some (.pointer (some ⟨x.s, 0, none⟩)) ∧ w'.cell? ⟨lw, 4, none⟩ = some (.pointer (some ⟨x.m, 0, none⟩))) ((refine ⟨?_, ?_, ?_, ?_, ?_⟩ <;> with_reducible assumption)) (first
            | (go_at_call 28; refine OP.out.mono ?_; rintro e w3 ⟨bv, ev, rfl, hbe, hk3⟩; have BE := hid hbe; have K3 := hid (none_trans (Kept.refl none' wr).drew hk3); obtain ⟨y0, y1, y2, y3, y4, _⟩ := HC.out _ (none_trans KD.out hk3); clear hbe hk3)
            | fail)
          have KW3 := hid (none_trans K2.out K3.out)
          have B3 := hid ((K3.out.block _ (heap_lt B2.out) (fun e => e)).trans B2.out)
          have L3 := hid (Wds.keep' L2.out K3.out)
          clear OP K3 d0 d1 d2 d3 d4
          obtain ⟨rfl, rfl⟩ := BE.out HJO.out
          have hne : ¬ (j : Int) = (x.o : Int) + 1 := by have := HJO.out; omega
          have hnb : ((j : Int) == (x.o : Int) + 1) = false := beq_eq_false_iff_ne.2 hne
          go_upto_region 10 with fail
          clear y0 y1 y2 y3 y4 hne hnb BE
          have KD3 := hid (none_trans KW3.out (Kept.refl none' w3).drew)
          have BD3 := hid ((((Kept.refl none' w3).drew).block _ (heap_lt B3.out) (fun e => e)).trans B3.out)
          have OY := hid (OpenB_yes x.base x.s x.m x.o (x.lim : Int) ho (headsL x t) (headsL_len x t) H64.out g1 (x.o + 1) w3.drew BD3.out)
          obtain ⟨d0, d1, d2, d3, d4, _⟩ := HC.out _ KD3.out
          go_region_held3 (fun w' => w'.cell? ⟨lw, 0, none⟩ = some (.int .u64 (x.base : Int)) ∧ w'.cell? ⟨lw, 1, none⟩ = some (.int .i64 (x.lim : Int)) ∧ w'.cell? ⟨lw, 2, none⟩ = some (.int .i64 (x.o : Int)) ∧ w'.cell? ⟨lw, 3, none⟩ = some (.pointer (some ⟨x.s, 0, none⟩)) ∧ w'.cell? ⟨lw, 4, none⟩ = some (.pointer (some ⟨x.m, 0, none⟩))) ((refine ⟨?_, ?_, ?_, ?_, ?_⟩ <;> with_reducible assumption)) (first
            | (go_at_call 28; refine OY.out.mono ?_; rintro e w5 ⟨b5, rfl, hO⟩; have O5 := hid hO; obtain ⟨_, _, _, hO2, _⟩ := hO; have KO := hid hO2.kp; obtain ⟨y0, y1, y2, y3, y4, _⟩ := HC.out _ (none_trans KD3.out KO.out); clear hO2)
            | fail)
          have K5 := hid (none_trans KD3.out KO.out)
          have L5 := hid (Wds.keep' (Wds.keep' L3.out (Kept.refl none' w3).drew) KO.out)
          have B5 := hid ((KO.out.block _ (heap_lt BD3.out) (fun e => e)).trans BD3.out)
          clear OY d0 d1 d2 d3 d4 y0 y1 y2 y3 y4
          go_wp2_with fail
          refine (heads_x (HH.out.keep K5.out)).mono ?_
          rintro e w6 ⟨v6, rfl, hw6, hk6, _⟩
          have IN := hid (M.ints_any _ _ _ _ (by rw [headsL_len]; omega) w6 (Wds.keep' L5.out hk6) hw6.wds)
          rw [decide_eq_true rfl] at IN
          have K6 := hid hk6
          clear hw6 hk6 L5 L3
          go_wp2_with fail
          refine IN.out.mono ?_
          rintro e w7 ⟨rfl, hk7⟩
          have K7 := hid (none_trans K6.out (toK hk7))
          have B7 := hid ((K7.out.block _ (heap_lt B5.out) (fun e => e)).trans B5.out)
          clear hk7 IN K6
          go_wp2_with fail
          go_loopw [10] (fun i W' => ∃ a : Nat, a ≤ x.o + 1 ∧ i = .int .i64 a ∧ Hid (Kept (fun y => y = g1) w5 W' ∧ ∃ cs, W'.heap[g1]? = some (.cells cs 22 (0, 0)) ∧ cs.size = x.o + 1)) (fun i _ => x.o + 1 - (intOf i).toNat)
          case atStart => exact ⟨0, by omega, rfl, hid ⟨K7.out.mono (fun _ _ e => e.elim), _, B7.out, by simp [wcells, headsL_len]⟩⟩
          case round =>
            obtain ⟨a, ha, rfl, hR⟩ := hrel
            obtain ⟨hk9, cs, hb9, hcs⟩ := hR.out
            by_cases hla : a < x.o + 1
            · have hai : (a : Int) < ((x.o + 1 : Nat) : Int) := by omega
              have hai2 : (a : Int) < (x.o : Int) + 1 := by omega
              have hai3 : a ≤ x.o := by omega
              obtain ⟨u, hu⟩ : ∃ u, wr.cell? ⟨g1, a, none⟩ = some u := ⟨cs[a]'(by omega), by simp [World.cell?, hb9, show a < cs.size by omega]⟩
              have fz : wr.frozen? ⟨g1, a, none⟩ = false := by simp [World.frozen?, hb9]
              have D := hid (show Kept (fun y => y = g1) w5 (wr.setCell ⟨g1, a, none⟩ (.int .u64 99)) ∧ ∃ cs, (wr.setCell ⟨g1, a, none⟩ (.int .u64 99)).heap[g1]? = some (.cells cs 22 (0, 0)) ∧ cs.size = x.o + 1 from ⟨hk9.setCell (p := ⟨g1, a, none⟩) rfl _, _, heap_set hb9 a _, by simp [hcs]⟩)
              clear hR hk9 hb9 hcs
              go_wp2_with fail
              exact ⟨⟨a + 1, by omega, by simp, D⟩, by simp [intOf]; omega⟩
            · obtain rfl : a = x.o + 1 := by omega
              have hai : ¬ ((x.o + 1 : Nat) : Int) < ((x.o + 1 : Nat) : Int) := by omega
              have hai2 : ¬ (x.o : Int) + 1 < (x.o : Int) + 1 := by omega
              have D := hid (HH.out.open g1 b5 G1.out KD3.out (heap_lt BD3.out) O5.out hk9)
              have fz : wr.frozen? ⟨lw, 5, none⟩ = false := by
                have h1 := (HH.out.keep ((none_trans KD3.out KO.out).trans hk9 (fun _ _ e => e) (fun y hy e => by have e : y = g1 := e; have := G1.out; omega))).law
                exact h1.fz 5
              obtain ⟨_, _, _, _, _, c5⟩ := HC.out wr ((none_trans KD3.out KO.out).trans hk9 (fun _ _ e => e) (fun y hy e => by have e : y = g1 := e; have := G1.out; omega))
              clear hR hk9 hb9 hcs
              go_wp2_with fail
              go_ret
              exact D.out
set_option maxRecDepth 4000 in
set_option maxHeartbeats 2000000 in
theorem step_open {E w W lw c x t fr ls fa fc va n vc} (h : PW E w W lw c x t fr ls fa fc va n vc) (hc : n ≤ 1000) (od tt rf : Int) (sp a : Nat) :
    Calls Tryz.prog 12 #[.pointer (some ⟨lw, 0, none⟩), stV 9 od tt rf sp, .int .u64 (a : Int)] W fun e w' => StP E w W lw (c + 1) e w' := by
  have K0 := (Kept.refl none' W).alloc (stO 9 od tt rf sp)
  have X0 := hid (heap_new W (stO 9 od tt rf sp))
  have OX := hid (opened_x (h.keep K0) hc od)
  have HEX := hid (fun y (e : E y) => (h.ex y e).1)
  have HK0 := hid K0
  obtain ⟨s0, s1, s2, s3, s4⟩ := stc8 X0.out
  clear h K0
  go_enter Tryz.func12, Tryz.ntmps12
  go_wp2_with fail
  refine OX.out.mono ?_
  rintro e w1 hs
  have D := hid (hs.kl HK0.out HEX.out)
  obtain ⟨_, _, _, _, _, _, _, _, _, rfl, _⟩ := hs
  clear s0 s1 s2 s3 s4
  go_wp2_with fail
  go_ret
  exact D.out
end Go.Proofs.YthglogiglimebaaGreat
