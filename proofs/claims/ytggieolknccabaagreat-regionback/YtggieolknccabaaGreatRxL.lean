/- RegionPlays: croftlaw6.played, Need. -/
import Derived.Test.YtggieolknccabaaGreatRxK
namespace Go.Proofs.YtggieolknccabaaGreat
open Go.RowKit
set_option linter.unusedVariables false

abbrev opV (kd od wh mo : Int) (dn : Bool) (at' : Int) (dv : Value) : Value := .agg #[.int .i64 kd, .int .i64 od, .int .i64 wh, .int .i64 mo, .bool dn, .int .u64 at', dv]
abbrev opO (kd od wh mo : Int) (dn : Bool) (at' : Int) (dv : Value) : Obj := .cells #[.int .i64 kd, .int .i64 od, .int .i64 wh, .int .i64 mo, .bool dn, .int .u64 at', dv] 41
theorem opc {w : World} {x : Nat} {kd od wh mo : Int} {dn : Bool} {at' : Int} {dv : Value} (h : w.heap[x]? = some (opO kd od wh mo dn at' dv)) : w.cell? ⟨x, 0, none⟩ = some (.int .i64 kd) ∧ w.cell? ⟨x, 1, none⟩ = some (.int .i64 od) ∧ w.cell? ⟨x, 2, none⟩ = some (.int .i64 wh) ∧ w.cell? ⟨x, 3, none⟩ = some (.int .i64 mo) ∧ w.cell? ⟨x, 4, none⟩ = some (.bool dn) ∧ w.cell? ⟨x, 5, none⟩ = some (.int .u64 at') ∧ w.cell? ⟨x, 6, none⟩ = some dv := by
  refine ⟨?_, ?_, ?_, ?_, ?_, ?_, ?_⟩ <;> simp [World.cell?, h]
theorem three6 (w : World) (A B C : Obj) : Kept none' w (((w.alloc A).alloc B).alloc C) ∧ (((w.alloc A).alloc B).alloc C).heap[w.heap.size]? = some A ∧ (((w.alloc A).alloc B).alloc C).heap[w.heap.size + 1]? = some B ∧ (((w.alloc A).alloc B).alloc C).heap[w.heap.size + 2]? = some C := by
  have h2 := two5 w A B
  have kc := (Kept.refl none' ((w.alloc A).alloc B)).alloc C
  refine ⟨none_trans h2.1 kc, (kc.block _ (heap_lt h2.2.1) (fun e => e)).trans h2.2.1, (kc.block _ (heap_lt h2.2.2) (fun e => e)).trans h2.2.2, ?_⟩
  have h3 := heap_new ((w.alloc A).alloc B) C
  rw [show ((w.alloc A).alloc B).heap.size = w.heap.size + 2 by simp] at h3
  exact h3
theorem cell_far6 {W : World} {y : Nat} {a : Addr} {v : Value} (h : W.cell? a = some v) (hne : a.block ≠ y) (u0 u1 u2 u3 u4 u5 : Value) : ((((((W.setCell ⟨y, 0, none⟩ u0).setCell ⟨y, 1, none⟩ u1).setCell ⟨y, 2, none⟩ u2).setCell ⟨y, 3, none⟩ u3).setCell ⟨y, 4, none⟩ u4).setCell ⟨y, 5, none⟩ u5).cell? a = some v := (set6_in W y u0 u1 u2 u3 u4 u5).cell hne h
/-- What played answers. -/
def Py6 (w W : World) (lw : Nat) (x : Bx) (b l o g0 fc : Nat) (va : Option Addr) (e : Ending) (w' : World) : Prop := ∃ x' t' fr' ls' r' va' vc', e = .returned (.tuple #[r6V b (l : Int) (o : Int) (r' : Nat) (.slice (some ⟨g0, 0, none⟩) (o + 1) fc) (.slice va' (ls' : List (Nat × Nat)).length vc'), .bool true]) ∧ RW w w' lw x' t' fr' ls' b l r' o g0 fc va' vc' ∧ Kept (fun y => bown x y ∨ S6 g0 va y) W w'
/-- In played: both sides, its three boxes. -/
structure PB (w W : World) (lw : Nat) (x0 : Bx) (va0 : Option Addr) (g0 : Nat) (tv ov : Obj) (V : World) : Prop where
  kp : Kept (fun y => bown x0 y ∨ S6 g0 va0 y) W V
  bx : V.heap[W.heap.size]? = some tv
  bo : V.heap[W.heap.size + 1]? = some ov
  by' : V.heap[W.heap.size + 1 + 1]? = some r6Z
theorem PB.keep {w W lw x0 va0 g0 tv ov V V'} (h : PB w W lw x0 va0 g0 tv ov V) (k : Kept none' V V') : PB w W lw x0 va0 g0 tv ov V' := ⟨h.kp.trans k (fun _ _ e => e) (fun _ _ e => e.elim), (k.block _ (heap_lt h.bx) (fun e => e)).trans h.bx, (k.block _ (heap_lt h.bo) (fun e => e)).trans h.bo, (k.block _ (heap_lt h.by') (fun e => e)).trans h.by'⟩
theorem PB.pool {w W lw x va0 g0 b l o r fv lv kd od wh mo dn at' dv V V' t fr ls} (h : PB w W lw x va0 g0 (r6O b l o r fv lv) (opO kd od wh mo dn at' dv) V) (p : PO w V lw x t fr ls) (k : Kept (bown x) V V') : PB w W lw x va0 g0 (r6O b l o r fv lv) (opO kd od wh mo dn at' dv) V' :=
  ⟨h.kp.trans k (fun _ _ e => e) (fun _ _ e => .inl e), p.bx k h.bx (.inr (.inr (.inr (.inl rfl)))), p.bx k h.bo (.inr (.inr (.inr (.inr (.inl rfl))))), p.bx k h.by' (.inr (.inr (.inr (.inl rfl))))⟩
theorem PB.ref {w W lw x va0 g0 b l o r fv lv kd od wh mo dn at' dv V V' N fc o' fr va vc ls} (h : PB w W lw x va0 g0 (r6O b l o r fv lv) (opO kd od wh mo dn at' dv) V) (p : R6 N V g0 fc o' fr va vc ls) (k : Kept (S6 g0 va) V V') (hS : ∀ y, y < W.heap.size → S6 g0 va y → S6 g0 va0 y) : PB w W lw x va0 g0 (r6O b l o r fv lv) (opO kd od wh mo dn at' dv) V' :=
  ⟨h.kp.trans k (fun _ _ e => e) (fun y hy e => .inr (hS y hy e)), p.bx k h.bx (by decide) (by decide), p.bx k h.bo (by decide) (by decide), p.bx k h.by' (by decide) (by decide)⟩
theorem PB.start {w W lw x va g0} (tv ov : Obj) : PB w W lw x va g0 tv ov (((W.alloc tv).alloc ov).alloc r6Z) := by
  obtain ⟨h1, h2, h3, h4⟩ := three6 W tv ov r6Z
  exact ⟨h1.mono (fun _ _ e => e.elim), h2, h3, h4⟩
theorem PB.fin {w W lw x va0 g0 tv ov V} (h : PB w W lw x va0 g0 tv ov V) (u0 u1 u2 u3 u4 u5 : Value) : Kept (fun y => bown x y ∨ S6 g0 va0 y) W (set6 V (W.heap.size + 1 + 1) u0 u1 u2 u3 u4 u5) := set6_kept h.kp _ (by omega) u0 u1 u2 u3 u4 u5
/-- The answer's box is written. -/
theorem RW.fin {w W lw x t fr ls b l r o g0 fc va vc} (h : RW w W lw x t fr ls b l r o g0 fc va vc) {y : Nat} {cs : Array Value} (hy : W.heap[y]? = some (.cells cs 35 (0, 0))) (hn : w.heap.size ≤ y) (u0 u1 u2 u3 u4 u5 : Value) : RW w (set6 W y u0 u1 u2 u3 u4 u5) lw x t fr ls b l r o g0 fc va vc := by
  have k := set6_in W y u0 u1 u2 u3 u4 u5
  have hp := (show PE (fun a => a = y) w W lw x t fr ls from ⟨h.po, fun a e => by rw [e]; exact ⟨heap_lt hy, h.po.pl.bty hy (.inr (.inr (.inr (.inl rfl))))⟩⟩).set k (fun a e => e) (fun a e => by rw [e]; exact hn)
  exact ⟨hp.po, h.rf.box hy k, h.eb, h.el, h.eo, h.er, h.nd⟩
set_option maxRecDepth 4000 in
set_option maxHeartbeats 4000000 in
theorem played1 {w W lw x t fr ls b l r o g0 fc va vc} (h : RW w W lw x t fr ls b l r o g0 fc va vc) (n : Nat) (hn : n = ls.length) (od wh mo : Int) (dn : Bool) (at' : Int) (dv : Value) :
    Calls Tryz.prog 10 #[.pointer (some ⟨lw, 0, none⟩), r6V b (l : Int) (o : Int) (r : Int) (.slice (some ⟨g0, 0, none⟩) (o + 1) fc) (.slice va n vc), opV 1 od wh mo dn at' dv] W fun e w' => Py6 w W lw x b l o g0 fc va e w' := by
  obtain ⟨pg, up, er, a', r', fr', ls', hB⟩ := need_both h od dn
  obtain ⟨n1, n2, n3, n4, n5, n6, n7⟩ := h.nums
  have HB := hid hB
  have B0 := hid (PB.start (w := w) (W := W) (lw := lw) (x := x) (va := va) (g0 := g0) (r6O b (l : Int) (o : Int) (r : Int) (.slice (some ⟨g0, 0, none⟩) (o + 1) fc) (.slice va n vc)) (opO 1 od wh mo dn at' dv))
  have R0 := hid (h.keep (three6 W (r6O b (l : Int) (o : Int) (r : Int) (.slice (some ⟨g0, 0, none⟩) (o + 1) fc) (.slice va n vc)) (opO 1 od wh mo dn at' dv) r6Z).1)
  have HN := hid hn
  have hwW := h.po.pl.kp.size
  have HEQ := hid (And.intro h.eb (And.intro h.el h.eo))
  clear h hB hn
  go_enter Tryz.func10, Tryz.ntmps10
  go_upto_region 1 with fail
  generalize ((W.alloc (r6O b (l : Int) (o : Int) (r : Int) (.slice (some ⟨g0, 0, none⟩) (o + 1) fc) (.slice va n vc))).alloc (opO 1 od wh mo dn at' dv)).alloc r6Z = W0 at *
  obtain ⟨x0, x1, x2, x3, x4, x5, xf⟩ := r6c B0.out.bx
  obtain ⟨o0, o1, o2, o3, o4, o5, o6⟩ := opc B0.out.bo
  have RF := hid (HB.out.ref W0 R0.out.po.pl.kp.size R0.out.rf)
  rw [← HN.out] at RF
  go_wp2_with fail
  refine RF.out.mono ?_
  rintro e w1 ⟨va', vc', rfl, hr1, hk1⟩
  obtain ⟨m, hm⟩ : ∃ m, m = ls'.length := ⟨_, rfl⟩
  rw [← hm]
  have HM := hid hm
  have ka := (Kept.refl none' w1).alloc (r6O b (l : Int) (o : Int) (r' : Int) (.slice (some ⟨g0, 0, none⟩) (o + 1) fc) (.slice va' m vc'))
  have U1 := hid (heap_new w1 (r6O b (l : Int) (o : Int) (r' : Int) (.slice (some ⟨g0, 0, none⟩) (o + 1) fc) (.slice va' m vc')))
  have B1 := hid ((B0.out.ref R0.out.rf hk1 (fun _ _ e => e)).keep ka)
  have P1 := hid ((R0.out.po.ref R0.out.rf (Nat.le_refl _) hk1).keep ka)
  have Q1 := hid (hr1.keep ka)
  have UN := hid (show W.heap.size + 1 + 1 < w1.heap.size from heap_lt (B0.out.ref R0.out.rf hk1 (fun _ _ e => e)).by')
  clear hm hr1 hk1 ka RF x0 x1 x2 x3 x4 x5 xf o0 o1 o2 o3 o4 o5 o6
  go_upto_region 3 with fail
  generalize w1.heap.size = ub at *
  generalize w1.alloc (r6O b (l : Int) (o : Int) (r' : Int) (.slice (some ⟨g0, 0, none⟩) (o + 1) fc) (.slice va' m vc')) = W1 at *
  obtain ⟨o0, o1, o2, o3, o4, o5, o6⟩ := opc B1.out.bo
  have PL := hid (HB.out.pool W1 P1.out)
  go_wp2_with fail
  refine PL.out.mono ?_
  rintro e w2 ⟨rfl, ⟨x2, t2, hp2, hs2, hn2⟩, hk2⟩
  have B2 := hid (B1.out.pool P1.out hk2)
  have U2 := hid (P1.out.bx hk2 U1.out (.inr (.inr (.inr (.inl rfl)))))
  have R2 := hid (show RW w w2 lw x2 t2 fr' ls' b l r' o g0 fc va' vc' from ⟨hp2, Q1.out.pool P1.out hk2, hs2.base.trans HEQ.out.1, hs2.lim.trans HEQ.out.2.1, hs2.o.trans HEQ.out.2.2, hn2, HB.out.nd⟩)
  clear hp2 hs2 hn2 hk2 PL o0 o1 o2 o3 o4 o5 o6
  obtain ⟨x0, x1, x2', x3, x4, x5, xf⟩ := r6c B2.out.bx
  obtain ⟨u0, u1, u2, u3, u4, u5, uf⟩ := r6c U2.out
  obtain ⟨y0, y1, y2, y3, y4, y5, yf⟩ := r6c (b := 0) (l := 0) (o := 0) (r := 0) B2.out.by'
  have FIN := hid (fun v0 v1 v2 v3 v4 v5 => And.intro (R2.out.fin B2.out.by' (by omega) v0 v1 v2 v3 v4 v5) (B2.out.fin v0 v1 v2 v3 v4 v5))
  rcases HB.out.ans with ⟨a1, a2, a3, a4, a5⟩ | ⟨p, a1, a2, a3, a4⟩
  · subst a3 a4
    have a1d : decide (pg < 0) = true := decide_eq_true a1
    have hpw : 3 + pg ≤ 3 := by omega
    subst a2
    clear HB
    go_wp2_with fail
    exact ⟨rfl, .tuple #[r6V b (l : Int) (o : Int) (r' : Int) (.slice (some ⟨g0, 0, none⟩) (o + 1) fc) (.slice va' m vc'), .bool true], by simp [results, Tryz.results10, go_sem, y0, y1, y2, y3, y4, y5], x2, t2, fr', ls', r', va', vc', by rw [HM.out], (FIN.out _ _ _ _ _ _).1, (FIN.out _ _ _ _ _ _).2⟩
  · subst a1 a2 a3
    have hp0 : ¬ (p : Int) < 0 := by omega
    have AD := hid (fun W => Address6 b (l : Int) (o : Int) p a4 (by omega) W)
    obtain ⟨y, hy⟩ : ∃ y, y = b + 4096 * p := ⟨_, rfl⟩
    rw [← hy] at AD ⊢
    clear hy HB
    have KD := hid ((Kept.refl none' w2).drew)
    have HX := hid (fun W' (k : Kept none' w2 W') => r6c ((k.block _ (heap_lt B2.out.bx) (fun e => e)).trans B2.out.bx))
    have HU := hid (fun W' (k : Kept none' w2 W') => r6c ((k.block _ (heap_lt U2.out) (fun e => e)).trans U2.out))
    have HY := hid (fun W' (k : Kept none' w2 W') => r6c (b := 0) (l := 0) (o := 0) (r := 0) ((k.block _ (heap_lt B2.out.by') (fun e => e)).trans B2.out.by'))
    have hn1 : W.heap.size ≠ W.heap.size + 1 + 1 := by omega
    have hn2 : ub ≠ W.heap.size + 1 + 1 := by have := UN.out; omega
    obtain ⟨d0, d1, d2, d3, d4, d5, df⟩ := HX.out _ KD.out
    obtain ⟨e0, e1, e2, e3, e4, e5, ef⟩ := HU.out _ KD.out
    clear x0 x1 x2' x3 x4 x5 xf u0 u1 u2 u3 u4 u5 uf y0 y1 y2 y3 y4 y5 yf FIN
    go_wp2_with fail
    go_region_held3 (fun w' => w'.cell? ⟨W.heap.size, 0, none⟩ = some (.int .u64 (b : Int)) ∧ w'.cell? ⟨W.heap.size, 1, none⟩ = some (.int .i64 (l : Int)) ∧ w'.cell? ⟨W.heap.size, 2, none⟩ = some (.int .i64 (o : Int)) ∧ w'.cell? ⟨ub, 0, none⟩ = some (.int .u64 (b : Int)) ∧ w'.cell? ⟨ub, 1, none⟩ = some (.int .i64 (l : Int)) ∧ w'.cell? ⟨ub, 2, none⟩ = some (.int .i64 (o : Int)) ∧ w'.cell? ⟨ub, 3, none⟩ = some (.int .i64 (r' : Int)) ∧ w'.cell? ⟨ub, 4, none⟩ = some (.slice (some ⟨g0, 0, none⟩) (o + 1) fc) ∧ w'.cell? ⟨ub, 5, none⟩ = some (.slice va' m vc')) ((refine ⟨?_, ?_, ?_, ?_, ?_, ?_, ?_, ?_, ?_⟩ <;> first | with_reducible assumption | with_reducible exact cell_far6 (by with_reducible assumption) (by with_reducible assumption) _ _ _ _ _ _)) (first
      | (go_at_call 31; (with_reducible refine (AD.out _).mono ?_); rintro e w5 ⟨rfl, hk5⟩; have K5 := hid (none_trans KD.out hk5); obtain ⟨f0, f1, f2, f3, f4, f5, ff⟩ := HX.out _ K5.out; obtain ⟨v0, v1, v2, v3, v4, v5, vf⟩ := HU.out _ K5.out; obtain ⟨y0, y1, y2, y3, y4, y5, yf⟩ := HY.out _ K5.out; clear hk5)
      | fail)
    all_goals
      have FIN := hid (fun v0 v1 v2 v3 v4 v5 => And.intro ((R2.out.keep K5.out).fin (B2.out.keep K5.out).by' (by omega) v0 v1 v2 v3 v4 v5) ((B2.out.keep K5.out).fin v0 v1 v2 v3 v4 v5))
      go_wp2_with fail
      exact ⟨rfl, .tuple #[r6V b (l : Int) (o : Int) (r' : Int) (.slice (some ⟨g0, 0, none⟩) (o + 1) fc) (.slice va' m vc'), .bool true], by simp [results, Tryz.results10, go_sem, y0, y1, y2, y3, y4, y5], x2, t2, fr', ls', r', va', vc', by rw [HM.out], (FIN.out _ _ _ _ _ _).1, (FIN.out _ _ _ _ _ _).2⟩
end Go.Proofs.YtggieolknccabaaGreat
