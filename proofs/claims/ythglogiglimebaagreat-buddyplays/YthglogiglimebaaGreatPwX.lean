import Derived.Test.YthglogiglimebaaGreatPwQ
import Derived.Deep.RegionHeld3
/- BuddyPlays: the world at its beginning. -/
namespace Go.Proofs.YthglogiglimebaaGreat
open Go.RowKit
set_option linter.unusedVariables false

theorem FL.new {W : World} {va : Option Addr} {vc o : Nat} (h : W.ownsRow 0 79 1 (.slice va (o + 1) vc) (o + 1) (List.replicate (o + 1) (.slice none 0 0))) : FL W va vc o (fun _ => []) := by
  refine ⟨fun _ => none, fun _ => 0, ?_, fun k hk => NL.nil W⟩
  have e : slv (fun _ => none) (fun _ => 0) (fun _ => []) (o + 1) = List.replicate (o + 1) (Value.slice none 0 0) := by
    unfold slv
    exact List.eq_replicate_iff.2 ⟨by simp, fun b hb => by obtain ⟨_, _, rfl⟩ := List.mem_map.1 hb; rfl⟩
  rw [e]
  exact h
/-- While the rows are made. -/
structure N5x (w W : World) (o k : Nat) (v : Value) : Prop where
  y : W.heap[w.heap.size]? = some (r5O 0 0 (.slice none 0 0) (.slice none 0 0))
  x : W.heap[w.heap.size + 1]? = some (r5O (o : Int) 0 v (.slice none 0 0))
  gs : GS w W 79 1 v k (List.replicate k (.slice none 0 0))
  kp : Kept none' w W
/-- What New answers. -/
def New5Q (w : World) (o : Nat) (e : Ending) (w' : World) : Prop := ∃ ga gc, e = .returned (r5V (o : Int) 0 (.slice ga (o + 1) gc) (.slice none 0 0)) ∧ Kept none' w w' ∧ FL w' ga gc o (fun _ => [])
set_option maxRecDepth 4000 in
theorem New5x (o : Nat) (ho : o ≤ 8) (w : World) :
    Calls Tryz.prog 27 #[.int .i64 (o : Int)] w fun e w' => New5Q w o e w' := by
  have T2 := two5 w (r5O 0 0 (.slice none 0 0) (.slice none 0 0)) (r5O (o : Int) 0 (.slice none 0 0) (.slice none 0 0))
  have H0 := hid (show N5x w ((w.alloc (r5O 0 0 (.slice none 0 0) (.slice none 0 0))).alloc (r5O (o : Int) 0 (.slice none 0 0) (.slice none 0 0))) o 0 (.slice none 0 0) from ⟨T2.2.1, T2.2.2, GS.nil _ _ _ _ T2.1, T2.1⟩)
  clear T2
  go_enter Tryz.func27, Tryz.ntmps27
  go_wp2_with fail
  go_loopw [4] (fun i W => ∃ k : Nat, k ≤ o + 1 ∧ i = .int .i64 k ∧ Hid (∃ va vc, N5x w W o k (.slice va k vc))) (fun i _ => o + 1 - (intOf i).toNat)
  case atStart => exact ⟨0, by omega, rfl, ⟨none, 0, H0.out⟩⟩
  case round =>
    clear H0
    obtain ⟨k, hk, rfl, hR⟩ := hrel
    obtain ⟨va, vc, hR⟩ := hR.out
    have HR := hid hR
    obtain ⟨x0, x1, x2, x3, fx⟩ := r5c hR.x
    clear hR
    by_cases hlt : k ≤ o
    · have hki : (k : Int) ≤ (o : Int) := by omega
      have hgs := HR.out.gs
      obtain ⟨g, cap, w', hap, hg2, hge, hkeep⟩ := push_isl hgs (by omega)
      have hy' := hkeep w.heap.size (fun e => by
        rcases hgs.own.2 with ⟨h0, _⟩ | ⟨g2, c2, cur, h0, hb2, hgg, _⟩
        · rw [h0] at e; simp [Value.ownBlock] at e
        · rw [h0] at e; simp [Value.ownBlock] at e
          exact ty_ne hgg HR.out.y (by decide) e) _ HR.out.y
      have hx' := hkeep (w.heap.size + 1) (fun e => by
        rcases hgs.own.2 with ⟨h0, _⟩ | ⟨g2, c2, cur, h0, hb2, hgg, _⟩
        · rw [h0] at e; simp [Value.ownBlock] at e
        · rw [h0] at e; simp [Value.ownBlock] at e
          exact ty_ne hgg HR.out.x (by decide) e) _ HR.out.x
      obtain ⟨z0, z1, z2, z3, fz⟩ := r5c hx'
      have D := hid (show N5x w (w'.setCell ⟨w.heap.size + 1, 2, none⟩ (.slice (some ⟨g, 0, none⟩) (k + 1) cap)) o (k + 1) (.slice (some ⟨g, 0, none⟩) (k + 1) cap) from by
        have ks : Kept (fun y => y = w.heap.size + 1) w' (w'.setCell ⟨w.heap.size + 1, 2, none⟩ (.slice (some ⟨g, 0, none⟩) (k + 1) cap)) := (Kept.refl (fun y => y = w.heap.size + 1) w').setCell (p := ⟨w.heap.size + 1, 2, none⟩) rfl _
        have g3 := hg2.keptN ks (fun y hy e => by
          rcases hg2.own.2 with ⟨h0, _⟩ | ⟨g2, c2, cur, h0, hb2, hgg, h3⟩
          · simp at h0
          · rw [h0] at hy
            simp [Value.ownBlock] at hy
            subst hy
            exact ty_ne hgg hx' (by decide) e) (fun y e => by omega)
        exact ⟨(ks.block _ (heap_lt hy') (by omega)).trans hy', heap_set hx' 2 _, by rw [List.replicate_succ']; exact g3, g3.kp⟩)
      have HAP := hid hap
      clear hap hg2 hkeep hgs hy' hx'
      go_wp2_with (at_builtin; refine Lib.wpList_append_run _ rfl _ _ _ _ rfl (.slice va k vc) (.slice (some ⟨wr.heap.size, 0, none⟩) 1 1) rfl rfl _ _ (HAP.out _) ?_)
      exact ⟨⟨k + 1, by omega, by simp, ⟨_, _, D.out⟩⟩, by simp [intOf]; omega⟩
    · have hki : ¬ (k : Int) ≤ (o : Int) := by omega
      have hko : k = o + 1 := by omega
      obtain ⟨y0, y1, y2, y3, fy⟩ := r5c HR.out.y
      have hfin : ∀ u0 u1 u2 u3, Kept none' w ((((wr.setCell ⟨w.heap.size, 0, none⟩ u0).setCell ⟨w.heap.size, 1, none⟩ u1).setCell ⟨w.heap.size, 2, none⟩ u2).setCell ⟨w.heap.size, 3, none⟩ u3) := fun u0 u1 u2 u3 => (((HR.out.kp.setNew (p := ⟨w.heap.size, 0, none⟩) (fun e => absurd e (Nat.lt_irrefl _)) u0).setNew (p := ⟨w.heap.size, 1, none⟩) (fun e => absurd e (Nat.lt_irrefl _)) u1).setNew (p := ⟨w.heap.size, 2, none⟩) (fun e => absurd e (Nat.lt_irrefl _)) u2).setNew (p := ⟨w.heap.size, 3, none⟩) (fun e => absurd e (Nat.lt_irrefl _)) u3
      have HF := hid hfin
      subst hko
      have HFL := hid (fun u0 u1 u2 u3 => (FL.new HR.out.gs.own).set4 HR.out.y u0 u1 u2 u3)
      clear hfin HR
      go_wp2_with fail
      exact ⟨rfl, r5V (o : Int) 0 (.slice va (o + 1) vc) (.slice none 0 0), by simp [results, Tryz.results27, go_sem, y0, y1, y2, y3], _, _, rfl, HF.out _ _ _ _, HFL.out _ _ _ _⟩
/-- What begin leaves. -/
def BegX (w : World) (base lim o : Nat) (e : Ending) (w' : World) : Prop := ∃ lw x fa fc, e = .returned (.pointer (some ⟨lw, 0, none⟩)) ∧ LW w w' lw x ⟨fun _ => 0, newM o, fun _ => 0⟩ 0 (.slice fa (o + 1) fc) (.slice none 0 0) ∧ FL w' fa fc o (fun _ => []) ∧ x.base = base ∧ x.R = 4096 * 2 ^ o ∧ x.lim = lim ∧ x.n = 0 ∧ x.o = o
set_option maxRecDepth 4000 in
set_option maxHeartbeats 1000000 in
theorem begin_genx (b0 : Nat) (l0 o0 : Int) (base : Nat) (hb64 : base < 18446744073709551616) (lim o : Nat) (hl : lim ≤ 64) (ho : o ≤ 8) (hm : M.mayB base (lim : Int) (o : Int) = true) (hus : ∀ W, Calls Tryz.prog 23 #[cfgV b0 l0 o0] W fun e w' => UsP W base (lim : Int) (o : Int) e w') (w : World) :
    Calls Tryz.prog 6 #[cfgV b0 l0 o0] w fun e w' => BegX w base lim o e w' := by
  have K0 := hid ((Kept.refl none' w).alloc (cfgO b0 l0 o0))
  have X0 := hid (heap_new w (cfgO b0 l0 o0))
  have US := hid hus
  clear hus
  have NW := hid (fun W => M.New_ok base hb64 (lim : Int) (o : Int) (by omega) (by omega) (by omega) (by omega) hm (fun _ => 0) W)
  clear hm
  go_enter Tryz.func6, Tryz.ntmps6
  obtain ⟨x0, x1, x2⟩ := cfg3 X0.out
  go_wp2_with fail
  generalize w.alloc (cfgO b0 l0 o0) = W0 at *
  refine (US.out _).mono ?_
  rintro e w2 ⟨rfl, hk⟩
  have X2 := hid ((hk.block _ (heap_lt X0.out) (fun x => x)).trans X0.out)
  have K2 := hid (none_trans K0.out hk)
  clear x0 x1 x2 hk X0 K0 US
  obtain ⟨x0, x1, x2⟩ := cfg3 X2.out
  have fx : ∀ j, w2.frozen? ⟨w.heap.size, j, none⟩ = false := fun j => by simp [World.frozen?, X2.out]
  have X3 := hid (show (((w2.setCell ⟨w.heap.size, 0, none⟩ (.int .u64 (base : Int))).setCell ⟨w.heap.size, 1, none⟩ (.int .i64 (lim : Int))).setCell ⟨w.heap.size, 2, none⟩ (.int .i64 (o : Int))).heap[w.heap.size]? = some (cfgO base (lim : Int) (o : Int)) from heap_set (heap_set (heap_set X2.out 0 _) 1 _) 2 _)
  have K3 := hid (((K2.out.setNew (p := ⟨w.heap.size, 0, none⟩) (fun e => absurd e (Nat.lt_irrefl _)) (.int .u64 (base : Int))).setNew (p := ⟨w.heap.size, 1, none⟩) (fun e => absurd e (Nat.lt_irrefl _)) (.int .i64 (lim : Int))).setNew (p := ⟨w.heap.size, 2, none⟩) (fun e => absurd e (Nat.lt_irrefl _)) (.int .i64 (o : Int)))
  obtain ⟨z0, z1, z2⟩ := cfg3 X3.out
  go_wp2_with fail
  generalize (((w2.setCell ⟨w.heap.size, 0, none⟩ (.int .u64 (base : Int))).setCell ⟨w.heap.size, 1, none⟩ (.int .i64 (lim : Int))).setCell ⟨w.heap.size, 2, none⟩ (.int .i64 (o : Int))) = W3 at *
  refine (NW.out _).mono ?_
  rintro e w4 ⟨s, rfl, hS, hk', hs⟩
  have hk : Kept none' W3 w4 := toK hk'
  have S4 := hid (show M.SpaceAt w4 s none base (M.RS o) lim 0 (fun _ => 0) from by simpa using hS)
  have HS4 := hid (show w.heap.size ≤ s from Nat.le_trans K3.out.size hs)
  have X4 := hid ((hk.block _ (heap_lt X3.out) (fun x => x)).trans X3.out)
  have K4 := hid (none_trans K3.out hk)
  clear x0 x1 x2 z0 z1 z2 hk hk' hS hs fx X3 K3 X2 K2 NW
  obtain ⟨x0, x1, x2⟩ := cfg3 X4.out
  go_wp2_with fail
  refine (new_any (o : Int) _).mono ?_
  rintro e w5 ⟨m, B, rfl, hM, hk, hN⟩
  have M5 := hid (show MapAt w5 m B (newM o) from by rw [show ordN (o : Int) = o by unfold ordN; rw [if_neg (by omega), if_neg (by omega)]; simp] at hM; exact hM)
  have N5' := hid (show ∀ y, mown m B o y → w.heap.size ≤ y from fun y hy => by rw [show ordN (o : Int) = o by unfold ordN; rw [if_neg (by omega), if_neg (by omega)]; simp] at hN; exact Nat.le_trans K4.out.size (hN y hy))
  have S5 := hid (S4.out.keep (ofK hk))
  have X5 := hid ((hk.block _ (heap_lt X4.out) (fun x => x)).trans X4.out)
  have K5 := hid (none_trans K4.out hk)
  clear x0 x1 x2 hk hM hN X4 K4 S4
  obtain ⟨x0, x1, x2⟩ := cfg3 X5.out
  go_wp2_with fail
  refine (NewB_any base s m o (lim : Int) ho _).mono ?_
  rintro e w6 ⟨b, rfl, hO⟩
  have k6 : Kept none' w5 w6 := by obtain ⟨_, _, _, h, _⟩ := hO; exact h.kp
  have S6 := hid (S5.out.keep (ofK k6))
  have M6 := hid (M5.out.keep k6)
  have O6 := hid hO
  have K6 := hid (none_trans K5.out k6)
  have X6 := hid (show w6.drew.heap[w.heap.size]? = some (cfgO base (lim : Int) (o : Int)) from (k6.block _ (heap_lt X5.out) (fun x => x)).trans X5.out)
  clear x0 x1 x2 k6 hO X5 S5 M5
  obtain ⟨x0, x1, x2⟩ := cfg3 X6.out
  go_wp2_with fail
  go_region_held3 (fun w' => w'.cell? ⟨w.heap.size, 0, none⟩ = some (.int .u64 (base : Int)) ∧ w'.cell? ⟨w.heap.size, 1, none⟩ = some (.int .i64 (lim : Int)) ∧ w'.cell? ⟨w.heap.size, 2, none⟩ = some (.int .i64 (o : Int))) (first | with_reducible exact ⟨x0, x1, x2⟩ | with_reducible exact ⟨y0, y1, y2⟩ | with_reducible exact ⟨alloc_cellL y0, alloc_cellL y1, alloc_cellL y2⟩) ((go_at_call 27; refine (New5x o ho _).mono ?_; rintro e w7 ⟨ga, gc, rfl, hk, hfl⟩; have F7 := hid hfl; have K7 := hid (none_trans (Kept.refl none' w6).drew hk); have X7 := hid ((hk.block _ (heap_lt X6.out) (fun x => x)).trans X6.out); obtain ⟨y0, y1, y2⟩ := cfg3 X7.out; clear hk hfl))
  all_goals
    have D := hid (show ∃ x : Bx, LW w (w7.alloc (lwO x 0 (.slice ga (o + 1) gc) (.slice none 0 0))) w7.heap.size x ⟨fun _ => 0, newM o, fun _ => 0⟩ 0 (.slice ga (o + 1) gc) (.slice none 0 0) ∧ x.base = base ∧ x.R = 4096 * 2 ^ o ∧ x.lim = lim ∧ x.n = 0 ∧ x.o = o ∧ x.s = s ∧ x.m = m ∧ x.b = b from by
      obtain ⟨l, c, L, hB, h1, h2, h3, h4⟩ := O6.out.bd rfl S6.out M6.out rfl rfl
      have hz := K5.out.size
      refine ⟨_, ⟨heap_new _ _, (hB.keep K7.out).keep ((Kept.refl none' w7).alloc _), ?_, (none_trans K6.out K7.out).alloc _⟩, rfl, rfl, rfl, rfl, rfl, rfl, rfl, rfl⟩
      rintro y (hy | rfl | rfl | rfl)
      · rcases hy with hy | hy | ⟨k, hk, rfl⟩
        · rcases hy with rfl | hy
          · exact HS4.out
          · cases hy
        · exact N5'.out y hy
        · exact Nat.le_trans hz (h3 k hk)
      · exact Nat.le_trans hz h1
      · exact Nat.le_trans hz h2
      · exact (none_trans K6.out K7.out).size)
    clear x0 x1 x2 y0 y1 y2
    go_wp2_with fail
    go_ret
    obtain ⟨x, hL, e1, e2, e3, e4, e5, e6, e7, e8⟩ := D.out
    refine ⟨_, x, ga, gc, rfl, ?_, F7.out.keep ((Kept.refl none' w7).alloc _), e1, e2, e3, e4, e5⟩
    rw [lwO, e1, e3, e5, e6, e7, e8] at hL
    exact hL
theorem begin_okx (base : Nat) (hb64 : base < 18446744073709551616) (lim o : Nat) (hl : lim ≤ 64) (ho : o ≤ 8) (hm : M.mayB base (lim : Int) (o : Int) = true) (w : World) :
    Calls Tryz.prog 6 #[cfgV base (lim : Int) (o : Int)] w fun e w' => BegX w base lim o e w' :=
  begin_genx base lim o base hb64 lim o hl ho hm (fun W => usual_ok base hb64 lim o hl ho hm W) w
theorem begin_anyx (b0 : Nat) (hb64 : b0 < 18446744073709551616) (l0 o0 : Int) (l1 : -9223372036854775808 ≤ l0) (l2 : l0 ≤ 9223372036854775807) (o1 : -9223372036854775808 ≤ o0) (o2 : o0 ≤ 9223372036854775807) (w : World) :
    Calls Tryz.prog 6 #[cfgV b0 l0 o0] w fun e w' => ∃ base lim o, base % 4096 = 0 ∧ BegX w base lim o e w' := by
  cases hm : M.mayB b0 l0 o0 with
  | true =>
    obtain ⟨hB, _⟩ := M.mayB_cfg hm
    unfold M.Bounds at hB
    have hm4 : b0 % 4096 = 0 := by
      have h2 := hm
      simp only [M.mayB, Bool.and_eq_true, decide_eq_true_eq] at h2
      have h3 := h2.2.1.2
      unfold M.RS at h3
      exact Nat.mod_eq_zero_of_dvd (Nat.dvd_trans (Nat.dvd_mul_right _ _) (Nat.dvd_of_mod_eq_zero h3))
    obtain ⟨l, rfl⟩ := Int.eq_ofNat_of_zero_le (a := l0) (by omega)
    obtain ⟨o, rfl⟩ := Int.eq_ofNat_of_zero_le (a := o0) (by omega)
    exact (begin_okx b0 hb64 l o (by omega) (by omega) hm w).mono fun e w' h => ⟨_, _, _, hm4, h⟩
  | false =>
    exact (begin_genx b0 l0 o0 65536 (by decide) 2 2 (by decide) (by decide) (by decide) (fun W => usual_no b0 hb64 l0 o0 l1 l2 o1 o2 hm W) w).mono fun e w' h => ⟨_, _, _, by decide, h⟩
theorem Sf.new (x : Bx) (f : Nat → Nat) (ho : x.o ≤ 8) (hb : 1 ≤ x.base) (h63 : x.base + x.n ≤ 9223372036854775808) : Sf x ⟨f, newM x.o, fun _ => 0⟩ (fun _ => []) [] := by
  refine ⟨fun _ _ _ => False, ⟨rfl, ho, ⟨0, by simp [newM]⟩, by simp [newM], by simp [newM], hb, h63, fun _ _ _ h => h.elim, fun p k => ⟨fun h => h.elim, fun h => by cases h.2⟩, fun _ _ _ h => h.elim, fun _ _ _ _ _ _ h => h.elim, fun i hi => absurd hi (Nat.not_lt_zero _), fun _ _ _ h => h.elim, fun k hk => M.Chn.nil _ _ _, fun k hk => ?_, fun k hk i hi => ?_, fun k hk i h => by cases h.1⟩, fun _ _ h => h, fun _ _ => ⟨fun h => h.elim, fun h => by cases h⟩⟩
  · show 0 = (0 / 2 ^ (k + 1) + 63) / 64
    rw [Nat.zero_div]
  · have hi : i < 0 / 2 ^ (k + 1) := hi
    rw [Nat.zero_div] at hi
    omega
theorem beg_pw {E : Nat → Prop} {w W lw x fa fc} (o : Nat) (h : LW w W lw x ⟨fun _ => 0, newM o, fun _ => 0⟩ 0 (.slice fa (o + 1) fc) (.slice none 0 0)) (f : FL W fa fc o (fun _ => [])) (hn : x.n = 0) (ho : x.o = o) (hb : x.base % 4096 = 0) (hE : ∀ y, ¬ E y) : PW E w W lw 0 x ⟨fun _ => 0, newM o, fun _ => 0⟩ (fun _ => []) [] fa fc none 0 0 := by
  subst ho
  have hc := h.bd.sp.cfg
  have hbe := hc.be
  have h63 : x.base + x.n ≤ 9223372036854775808 := by
    rw [hn, Nat.add_zero]
    exact Nat.le_trans (Nat.le_add_right _ _) hbe
  exact ⟨h, rfl, f, World.ownsRow_nil _ _ _ _, Sf.new x _ h.bd.o8 hc.b1 h63, by rw [hn]; exact Nat.zero_mul 4096, Nat.le_refl _, hb, fun y e => absurd e (hE y)⟩
end Go.Proofs.YthglogiglimebaaGreat
