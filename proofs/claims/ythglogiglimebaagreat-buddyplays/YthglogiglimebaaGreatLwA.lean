import Derived.Test.YthglogiglimebaaGreatBdM
import Derived.Test.YthglogiglimebaaGreatKc
import Derived.Test.YthglogiglimebaaGreatKf
/- croftref5: New, Come of a buddy without a region. croftref5: Come of a buddy without a live block. croftlaw5: a world; usual, begin. croftlaw5: come. -/
namespace Go.Proofs.YthglogiglimebaaGreat
open Go.RowKit
set_option linter.unusedVariables false

abbrev r5V (o p : Int) (fv lv : Value) : Value := .agg #[.int .i64 o, .int .i64 p, fv, lv]
abbrev r5O (o p : Int) (fv lv : Value) : Obj := .cells #[.int .i64 o, .int .i64 p, fv, lv] 36
theorem r5c {w : World} {x : Nat} {o p : Int} {fv lv : Value} (h : w.heap[x]? = some (r5O o p fv lv)) : w.cell? ⟨x, 0, none⟩ = some (.int .i64 o) ∧ w.cell? ⟨x, 1, none⟩ = some (.int .i64 p) ∧ w.cell? ⟨x, 2, none⟩ = some fv ∧ w.cell? ⟨x, 3, none⟩ = some lv ∧ ∀ j, w.frozen? ⟨x, j, none⟩ = false := by
  refine ⟨?_, ?_, ?_, ?_, fun j => ?_⟩ <;> simp [World.cell?, World.frozen?, h]
theorem info_isl : (Tryz.prog.info? 79).map (fun i => (i.zero, i.size, i.bytes)) = some (some (.slice none 0 0), 1, 24) := by kernel_rfl
theorem info_run : (Tryz.prog.info? 104).map (fun i => (i.zero, i.size, i.bytes)) = some (some (.agg #[.int .i64 0, .int .i64 0]), 2, 16) := by kernel_rfl
theorem push_isl {w0 W : World} {v : Value} {n : Nat} {xs : List Value} (h : GS w0 W 79 1 v n xs) (hn : n ≤ 2000) :
    ∃ g cap w', (∀ ty, (Builtin.append_ #[33, 33] ty #[v, .slice (some ⟨W.heap.size, 0, none⟩) 1 1]).run Tryz.prog (W.alloc (.cells #[.slice none 0 0] 79)) = .ok (.slice (some ⟨g, 0, none⟩) (n + 1) cap) w') ∧ GS w0 w' 79 1 (.slice (some ⟨g, 0, none⟩) (n + 1) cap) (n + 1) (xs ++ [.slice none 0 0]) ∧ w0.heap.size ≤ g ∧ (∀ x, v.ownBlock ≠ some x → ∀ o, W.heap[x]? = some o → w'.heap[x]? = some o) := by
  obtain ⟨i, hi, hzz⟩ := Option.map_eq_some_iff.1 info_isl
  simp only [Prod.mk.injEq] at hzz
  have ka := (Kept.refl none' W).alloc (.cells #[.slice none 0 0] 79)
  obtain ⟨g, cap, w', h1, h2, h5, h4⟩ := (h.keep ka).push 33 i (.slice none 0 0) 24 Tryz.underlying33 hi hzz.1 hzz.2.1 hzz.2.2 rfl (by decide) ⟨W.heap.size, 0, none⟩ 1 [.slice none 0 0] rfl (fun j u hj => cells_new (cs := #[.slice none 0 0]) j u hj) (by simp [Value.oneCell']) (by simp only [maxLen]; omega) (by omega)
  exact ⟨g, cap, w', h1, h2, h5, fun x hx o ho => h4 x hx o ((ka.block x (heap_lt ho) (fun x => x)).trans ho)⟩
theorem push_run5 {w0 W : World} {v : Value} {n : Nat} {xs : List Value} (h : GS w0 W 104 2 v n xs) (a b : Int) (hn : n ≤ 2000) :
    ∃ g cap w', (∀ ty, (Builtin.append_ #[34, 34] ty #[v, .slice (some ⟨W.heap.size, 0, none⟩) 1 1]).run Tryz.prog (W.alloc (.cells #[.int .i64 a, .int .i64 b] 104)) = .ok (.slice (some ⟨g, 0, none⟩) (n + 1) cap) w') ∧ GS w0 w' 104 2 (.slice (some ⟨g, 0, none⟩) (n + 1) cap) (n + 1) (xs ++ [.int .i64 a, .int .i64 b]) ∧ w0.heap.size ≤ g ∧ (∀ x, v.ownBlock ≠ some x → ∀ o, W.heap[x]? = some o → w'.heap[x]? = some o) := by
  obtain ⟨i, hi, hzz⟩ := Option.map_eq_some_iff.1 info_run
  simp only [Prod.mk.injEq] at hzz
  have ka := (Kept.refl none' W).alloc (.cells #[.int .i64 a, .int .i64 b] 104)
  obtain ⟨g, cap, w', h1, h2, h5, h4⟩ := (h.keep ka).push 34 i (.agg #[.int .i64 0, .int .i64 0]) 16 Tryz.underlying34 hi hzz.1 hzz.2.1 hzz.2.2 rfl (by decide) ⟨W.heap.size, 0, none⟩ 1 [.int .i64 a, .int .i64 b] rfl (fun j u hj => cells_new (cs := #[.int .i64 a, .int .i64 b]) j u hj) (by simp [Value.oneCell']) (by simp only [maxLen]; omega) (by omega)
  exact ⟨g, cap, w', h1, h2, h5, fun x hx o ho => h4 x hx o ((ka.block x (heap_lt ho) (fun x => x)).trans ho)⟩
/-- While the rows are made. -/
structure N5 (w W : World) (o k : Nat) (v : Value) : Prop where
  y : W.heap[w.heap.size]? = some (r5O 0 0 (.slice none 0 0) (.slice none 0 0))
  x : W.heap[w.heap.size + 1]? = some (r5O (o : Int) 0 v (.slice none 0 0))
  gs : ∃ xs, GS w W 79 1 v k xs
  kp : Kept none' w W
/-- What New answers. -/
def New5P (w : World) (o : Nat) (e : Ending) (w' : World) : Prop := ∃ ga gc, e = .returned (r5V (o : Int) 0 (.slice ga (o + 1) gc) (.slice none 0 0)) ∧ Kept none' w w'
theorem GS.keptN {w0 W W' : World} {e : TypeId} {size : Nat} {v : Value} {n : Nat} {xs : List Value} {S : Nat → Prop} (h : GS w0 W e size v n xs) (k : Kept S W W') (hS : ∀ x, v.ownBlock = some x → ¬ S x) (h0 : ∀ x, S x → w0.heap.size ≤ x) : GS w0 W' e size v n xs := by
  refine ⟨⟨h.own.1, ?_⟩, h.new, h.kp.trans k (fun _ _ x => x) (fun x hx e => absurd (h0 x e) (by omega))⟩
  rcases h.own.2 with h0 | ⟨g, cap, cur, rfl, hb, hg, h3⟩
  · exact .inl h0
  · exact .inr ⟨g, cap, cur, rfl, hb, (k.block g (heap_lt hg) (hS g (by simp [Value.ownBlock]))).trans hg, h3⟩
theorem two5 (w : World) (a b : Obj) : Kept none' w ((w.alloc a).alloc b) ∧ ((w.alloc a).alloc b).heap[w.heap.size]? = some a ∧ ((w.alloc a).alloc b).heap[w.heap.size + 1]? = some b :=
  ⟨((Kept.refl none' w).alloc _).alloc _, (((Kept.refl none' (w.alloc a)).alloc b).block _ (heap_lt (heap_new w a)) (fun x => x)).trans (heap_new w a), heap_new2 w a b⟩
set_option maxRecDepth 4000 in
theorem New5_any (o : Nat) (ho : o ≤ 8) (w : World) :
    Calls Tryz.prog 27 #[.int .i64 (o : Int)] w fun e w' => New5P w o e w' := by
  have T2 := two5 w (r5O 0 0 (.slice none 0 0) (.slice none 0 0)) (r5O (o : Int) 0 (.slice none 0 0) (.slice none 0 0))
  have H0 := hid (show N5 w ((w.alloc (r5O 0 0 (.slice none 0 0) (.slice none 0 0))).alloc (r5O (o : Int) 0 (.slice none 0 0) (.slice none 0 0))) o 0 (.slice none 0 0) from ⟨T2.2.1, T2.2.2, ⟨[], GS.nil _ _ _ _ T2.1⟩, T2.1⟩)
  clear T2
  go_enter Tryz.func27, Tryz.ntmps27
  go_wp2_with fail
  go_loopw [4] (fun i W => ∃ k : Nat, k ≤ o + 1 ∧ i = .int .i64 k ∧ Hid (∃ va vc, N5 w W o k (.slice va k vc))) (fun i _ => o + 1 - (intOf i).toNat)
  case atStart => exact ⟨0, by omega, rfl, ⟨none, 0, H0.out⟩⟩
  case round =>
    clear H0
    obtain ⟨k, hk, rfl, hR⟩ := hrel
    obtain ⟨va, vc, hR⟩ := hR.out
    have HR := hid hR
    obtain ⟨x0, x1, x2, x3, fx⟩ := r5c hR.x
    clear hR
    by_cases hlt : k ≤ o
    · have hki : (k : Int) ≤ (o : Int) := by omega
      obtain ⟨xs, hgs⟩ := HR.out.gs
      obtain ⟨g, cap, w', hap, hg2, hge, hkeep⟩ := push_isl hgs (by omega)
      have hy' := hkeep w.heap.size (fun e => by
        rcases hgs.own.2 with ⟨h0, _⟩ | ⟨g2, c2, cur, h0, hb2, hgg, _⟩
        · rw [h0] at e; simp [Value.ownBlock] at e
        · rw [h0] at e; simp [Value.ownBlock] at e
          exact ty_ne hgg HR.out.y (by decide) e) _ HR.out.y
      have hx' := hkeep (w.heap.size + 1) (fun e => by
        rcases hgs.own.2 with ⟨h0, _⟩ | ⟨g2, c2, cur, h0, hb2, hgg, _⟩
        · rw [h0] at e; simp [Value.ownBlock] at e
        · rw [h0] at e; simp [Value.ownBlock] at e
          exact ty_ne hgg HR.out.x (by decide) e) _ HR.out.x
      obtain ⟨z0, z1, z2, z3, fz⟩ := r5c hx'
      have D := hid (show N5 w (w'.setCell ⟨w.heap.size + 1, 2, none⟩ (.slice (some ⟨g, 0, none⟩) (k + 1) cap)) o (k + 1) (.slice (some ⟨g, 0, none⟩) (k + 1) cap) from by
        have ks : Kept (fun y => y = w.heap.size + 1) w' (w'.setCell ⟨w.heap.size + 1, 2, none⟩ (.slice (some ⟨g, 0, none⟩) (k + 1) cap)) := (Kept.refl (fun y => y = w.heap.size + 1) w').setCell (p := ⟨w.heap.size + 1, 2, none⟩) rfl _
        have g3 := hg2.keptN ks (fun y hy e => by
          rcases hg2.own.2 with ⟨h0, _⟩ | ⟨g2, c2, cur, h0, hb2, hgg, h3⟩
          · simp at h0
          · rw [h0] at hy
            simp [Value.ownBlock] at hy
            subst hy
            exact ty_ne hgg hx' (by decide) e) (fun y e => by omega)
        exact ⟨(ks.block _ (heap_lt hy') (by omega)).trans hy', heap_set hx' 2 _, ⟨_, g3⟩, g3.kp⟩)
      have HAP := hid hap
      clear hap hg2 hkeep hgs hy' hx'
      go_wp2_with (at_builtin; refine Lib.wpList_append_run _ rfl _ _ _ _ rfl (.slice va k vc) (.slice (some ⟨wr.heap.size, 0, none⟩) 1 1) rfl rfl _ _ (HAP.out _) ?_)
      exact ⟨⟨k + 1, by omega, by simp, ⟨_, _, D.out⟩⟩, by simp [intOf]; omega⟩
    · have hki : ¬ (k : Int) ≤ (o : Int) := by omega
      have hko : k = o + 1 := by omega
      obtain ⟨y0, y1, y2, y3, fy⟩ := r5c HR.out.y
      have hfin : ∀ u0 u1 u2 u3, Kept none' w ((((wr.setCell ⟨w.heap.size, 0, none⟩ u0).setCell ⟨w.heap.size, 1, none⟩ u1).setCell ⟨w.heap.size, 2, none⟩ u2).setCell ⟨w.heap.size, 3, none⟩ u3) := fun u0 u1 u2 u3 => (((HR.out.kp.setNew (p := ⟨w.heap.size, 0, none⟩) (fun e => absurd e (Nat.lt_irrefl _)) u0).setNew (p := ⟨w.heap.size, 1, none⟩) (fun e => absurd e (Nat.lt_irrefl _)) u1).setNew (p := ⟨w.heap.size, 2, none⟩) (fun e => absurd e (Nat.lt_irrefl _)) u2).setNew (p := ⟨w.heap.size, 3, none⟩) (fun e => absurd e (Nat.lt_irrefl _)) u3
      have HF := hid hfin
      subst hko
      clear hfin HR
      go_wp2_with fail
      exact ⟨rfl, r5V (o : Int) 0 (.slice va (o + 1) vc) (.slice none 0 0), by simp [results, Tryz.results27, go_sem, y0, y1, y2, y3], _, _, rfl, HF.out _ _ _ _⟩
abbrev r5Z : Obj := .cells #[.int .i64 0, .int .i64 0, .slice none 0 0, .slice none 0 0] 36
theorem set4_kept {a w : World} (h : Kept none' a w) (x : Nat) (hx : a.heap.size ≤ x) (u0 u1 u2 u3 : Value) : Kept none' a ((((w.setCell ⟨x, 0, none⟩ u0).setCell ⟨x, 1, none⟩ u1).setCell ⟨x, 2, none⟩ u2).setCell ⟨x, 3, none⟩ u3) :=
  (((h.setNew (p := ⟨x, 0, none⟩) (fun e => absurd e (by show ¬ x < _; omega)) u0).setNew (p := ⟨x, 1, none⟩) (fun e => absurd e (by show ¬ x < _; omega)) u1).setNew (p := ⟨x, 2, none⟩) (fun e => absurd e (by show ¬ x < _; omega)) u2).setNew (p := ⟨x, 3, none⟩) (fun e => absurd e (by show ¬ x < _; omega)) u3
/-- What lives and Come answer. -/
def Live5P (w : World) (o p : Int) (fv : Value) (e : Ending) (w' : World) : Prop := ∃ ga gc, e = .returned (r5V o p fv (.slice ga 1 gc)) ∧ Kept none' w w'
set_option maxRecDepth 4000 in
theorem lives5_nil (o p : Int) (fa : Option Addr) (fl fc : Nat) (pg k : Int) (w : World) :
    Calls Tryz.prog 82 #[r5V o p (.slice fa fl fc) (.slice none 0 0), .int .i64 pg, .int .i64 k] w fun e w' => Live5P w o p (.slice fa fl fc) e w' := by
  have T2 := two5 w (r5O o p (.slice fa fl fc) (.slice none 0 0)) r5Z
  have K0 := hid T2.1
  have X0 := hid T2.2.1
  have Y0 := hid T2.2.2
  clear T2
  go_enter Tryz.func82, Tryz.ntmps82
  go_wp2_with fail
  generalize (w.alloc (r5O o p (.slice fa fl fc) (.slice none 0 0))).alloc r5Z = W0 at *
  go_loopw [7, 8] (fun l i W => l = .slice none 0 0 ∧ i = .int .i64 0 ∧ Hid (W = W0)) (fun _ i _ => 0)
  case atStart => exact ⟨rfl, rfl, rfl⟩
  case round =>
    obtain ⟨rfl, rfl, hW⟩ := hrel
    have hW := hW.out
    subst hW
    obtain ⟨x0, x1, x2, x3, fx⟩ := r5c X0.out
    obtain ⟨g, cap, w', hap, hg2, hge, hkeep⟩ := push_run5 (GS.nil w wr 104 2 K0.out) pg k (by omega)
    have hx' := hkeep w.heap.size (fun e => by simp [Value.ownBlock] at e) _ X0.out
    have hy' := hkeep (w.heap.size + 1) (fun e => by simp [Value.ownBlock] at e) _ Y0.out
    obtain ⟨z0, z1, z2, z3, fz⟩ := r5c hx'
    have HAP := hid hap
    have ks : Kept (fun y => y = w.heap.size) w' (w'.setCell ⟨w.heap.size, 3, none⟩ (.slice (some ⟨g, 0, none⟩) 1 cap)) := (Kept.refl (fun y => y = w.heap.size) w').setCell (p := ⟨w.heap.size, 3, none⟩) rfl _
    have X2 := hid (show (w'.setCell ⟨w.heap.size, 3, none⟩ (.slice (some ⟨g, 0, none⟩) 1 cap)).heap[w.heap.size]? = some (r5O o p (.slice fa fl fc) (.slice (some ⟨g, 0, none⟩) 1 cap)) from heap_set hx' 3 _)
    have Y2 := hid ((ks.block _ (heap_lt hy') (by omega)).trans hy')
    have K2 := hid (hg2.kp.setNew (p := ⟨w.heap.size, 3, none⟩) (fun e => absurd e (Nat.lt_irrefl _)) (.slice (some ⟨g, 0, none⟩) 1 cap))
    obtain ⟨a0, a1, a2, a3, fa4⟩ := r5c X2.out
    obtain ⟨b0, b1, b2, b3, fb⟩ := r5c Y2.out
    have HF := hid (fun u0 u1 u2 u3 => set4_kept K2.out (w.heap.size + 1) (by omega) u0 u1 u2 u3)
    clear hap hg2 hge hkeep hx' hy' ks
    go_wp2_with (at_builtin; refine Lib.wpList_append_run _ rfl _ _ _ _ rfl (.slice none 0 0) (.slice (some ⟨wr.heap.size, 0, none⟩) 1 1) rfl rfl _ _ (HAP.out _) ?_)
    exact ⟨rfl, r5V o p (.slice fa fl fc) (.slice (some ⟨g, 0, none⟩) 1 cap), by simp [results, Tryz.results82, go_sem, b0, b1, b2, b3], _, _, rfl, HF.out _ _ _ _⟩
set_option maxRecDepth 4000 in
theorem Come5_nil (o p : Nat) (ho : o ≤ 8) (hp : p ≤ 1024) (fa : Option Addr) (fl fc : Nat) (w : World) :
    Calls Tryz.prog 59 #[r5V (o : Int) (p : Int) (.slice fa fl fc) (.slice none 0 0)] w fun e w' => Live5P w (o : Int) ((p + 2 ^ o : Nat) : Int) (.slice fa fl fc) e w' := by
  have T2 := two5 w (r5O (o : Int) (p : Int) (.slice fa fl fc) (.slice none 0 0)) r5Z
  have K0 := hid T2.1
  have X0 := hid T2.2.1
  have Y0 := hid T2.2.2
  clear T2
  obtain ⟨z, hz⟩ : ∃ z, z = 2 ^ o := ⟨_, rfl⟩
  have hzi : (2 : Int) ^ o = (z : Int) := by rw [hz]; simp
  have hz2 : z ≤ 256 := by rw [hz]; exact Nat.pow_le_pow_right (n := 2) (by decide) ho
  rw [← hz]
  obtain ⟨P, hP⟩ : ∃ P, P = p + z := ⟨_, rfl⟩
  have hPi : (p : Int) + (z : Int) = (P : Int) := by omega
  rw [← hP]
  clear hz hP
  go_enter Tryz.func59, Tryz.ntmps59
  obtain ⟨x0, x1, x2, x3, fx⟩ := r5c X0.out
  have T3 := two5 w (r5O (o : Int) (P : Int) (.slice fa fl fc) (.slice none 0 0)) r5Z
  have K1 := hid T3.1
  have Y1 := hid T3.2.2
  clear T3
  go_wp2_with fail
  refine (lives5_nil (o : Int) (P : Int) fa fl fc (p : Int) (o : Int) _).mono ?_
  rintro e w4 ⟨ga, gc, rfl, hk⟩
  have Y4 := hid ((hk.block _ (heap_lt Y1.out) (fun x => x)).trans Y1.out)
  have K4 := hid (none_trans K1.out hk)
  obtain ⟨b0, b1, b2, b3, fb⟩ := r5c Y4.out
  have HF := hid (fun u0 u1 u2 u3 => set4_kept K4.out (w.heap.size + 1) (by omega) u0 u1 u2 u3)
  clear hk x0 x1 x2 x3 fx
  go_wp2_with fail
  exact ⟨rfl, r5V (o : Int) (P : Int) (.slice fa fl fc) (.slice ga 1 gc), by simp [results, Tryz.results59, go_sem, b0, b1, b2, b3], _, _, rfl, HF.out _ _ _ _⟩
abbrev lwO (x : Bx) (dP : Nat) (fv lv : Value) : Obj := .cells #[.int .u64 (x.base : Int), .int .i64 (x.lim : Int), .int .i64 (x.o : Int), .pointer (some ⟨x.s, 0, none⟩), .pointer (some ⟨x.m, 0, none⟩), .pointer (some ⟨x.b, 0, none⟩), .int .i64 (x.o : Int), .int .i64 (dP : Int), fv, lv] 43
/-- A law's world: its box, its buddy; all of it newer than w. -/
structure LW (w W : World) (lw : Nat) (x : Bx) (t : Bt) (dP : Nat) (fv lv : Value) : Prop where
  box : W.heap[lw]? = some (lwO x dP fv lv)
  bd : BdAt W x t
  nw : ∀ y, bown x y ∨ y = x.b ∨ y = x.l ∨ y = lw → w.heap.size ≤ y
  kp : Kept none' w W
theorem LW.nlw {w W lw x t dP fv lv} (h : LW w W lw x t dP fv lv) : ¬ bown x lw := by
  rintro (hx | hx | ⟨k, hk, e⟩)
  · obtain ⟨cs, t', z, h1, h2⟩ := space_ty h.bd.sp hx
    rw [h.box] at h1
    cases h1
    rcases h2 with e | e <;> exact absurd e (by decide)
  · rw [← h.bd.mo] at hx
    obtain ⟨cs, t', z, h1, h2⟩ := map_ty h.bd.mp hx
    rw [h.box] at h1
    cases h1
    rcases h2 with e | e | e | e | e <;> exact absurd e (by decide)
  · exact absurd e (ty_ne h.box (h.bd.ls k hk).hc (by decide))
theorem LW.call {w W W' lw x t t' dP fv lv} (h : LW w W lw x t dP fv lv) (hb : BdAt W' x t') (k : Kept (bown x) W W') : LW w W' lw x t' dP fv lv :=
  ⟨(k.block _ (heap_lt h.box) h.nlw).trans h.box, hb, h.nw, h.kp.trans k (fun _ _ e => e) (fun y hy e => absurd (h.nw y (.inl e)) (by omega))⟩
theorem LW.keep {w W W' lw x t dP fv lv} (h : LW w W lw x t dP fv lv) (k : Kept none' W W') : LW w W' lw x t dP fv lv := h.call (h.bd.keep k) (bown_none k)
theorem LW.c {w W lw x t dP fv lv} (h : LW w W lw x t dP fv lv) : W.cell? ⟨lw, 0, none⟩ = some (.int .u64 (x.base : Int)) ∧ W.cell? ⟨lw, 1, none⟩ = some (.int .i64 (x.lim : Int)) ∧ W.cell? ⟨lw, 2, none⟩ = some (.int .i64 (x.o : Int)) ∧ W.cell? ⟨lw, 3, none⟩ = some (.pointer (some ⟨x.s, 0, none⟩)) ∧ W.cell? ⟨lw, 4, none⟩ = some (.pointer (some ⟨x.m, 0, none⟩)) ∧ W.cell? ⟨lw, 5, none⟩ = some (.pointer (some ⟨x.b, 0, none⟩)) ∧ W.cell? ⟨lw, 6, none⟩ = some (.int .i64 (x.o : Int)) ∧ W.cell? ⟨lw, 7, none⟩ = some (.int .i64 (dP : Int)) ∧ W.cell? ⟨lw, 8, none⟩ = some fv ∧ W.cell? ⟨lw, 9, none⟩ = some lv := by
  refine ⟨?_, ?_, ?_, ?_, ?_, ?_, ?_, ?_, ?_, ?_⟩ <;> simp [World.cell?, h.box]
theorem LW.fz {w W lw x t dP fv lv} (h : LW w W lw x t dP fv lv) (j : Nat) : W.frozen? ⟨lw, j, none⟩ = false := by simp [World.frozen?, h.box]
theorem alloc_cellL {w : World} {a : Addr} {v : Value} {o : Obj} (h : w.cell? a = some v) : (w.alloc o).cell? a = some v := ((Kept.refl none' w).alloc o).cell (fun x => x) h
abbrev cfgZ : Obj := .cells #[.int .u64 0, .int .i64 0, .int .i64 0] 24
def UsP (w : World) (base : Nat) (lim o : Int) (e : Ending) (w' : World) : Prop := e = .returned (cfgV base lim o) ∧ Kept none' w w'
set_option maxRecDepth 4000 in
theorem usual_ok (base : Nat) (hb64 : base < 18446744073709551616) (lim o : Nat) (hl : lim ≤ 64) (ho : o ≤ 8) (hm : M.mayB base (lim : Int) (o : Int) = true) (w : World) :
    Calls Tryz.prog 23 #[cfgV base (lim : Int) (o : Int)] w fun e w' => UsP w base (lim : Int) (o : Int) e w' := by
  have T2 := two5 w (cfgO base (lim : Int) (o : Int)) cfgZ
  have K0 := hid T2.1
  have X0 := hid T2.2.1
  have Y0 := hid T2.2.2
  clear T2
  have MY := hid (fun W => M.May_any base hb64 (lim : Int) (o : Int) (by omega) (by omega) (by omega) (by omega) W)
  rw [hm] at MY
  clear hm
  go_enter Tryz.func23, Tryz.ntmps23
  obtain ⟨x0, x1, x2⟩ := cfg3 X0.out
  go_wp2_with fail
  generalize (w.alloc (cfgO base (lim : Int) (o : Int))).alloc cfgZ = W0 at *
  refine (MY.out _).mono ?_
  rintro e w2 ⟨rfl, hk'⟩
  have hk : Kept none' W0 w2 := toK hk'
  have X2 := hid ((hk.block _ (heap_lt X0.out) (fun x => x)).trans X0.out)
  have Y2 := hid ((hk.block _ (heap_lt Y0.out) (fun x => x)).trans Y0.out)
  have K2 := hid (none_trans K0.out hk)
  clear x0 x1 x2 hk hk'
  obtain ⟨x0, x1, x2⟩ := cfg3 X2.out
  have y0 : w2.cell? ⟨w.heap.size + 1, 0, none⟩ = some (.int .u64 0) := by simp [World.cell?, Y2.out]
  have y1 : w2.cell? ⟨w.heap.size + 1, 1, none⟩ = some (.int .i64 0) := by simp [World.cell?, Y2.out]
  have y2 : w2.cell? ⟨w.heap.size + 1, 2, none⟩ = some (.int .i64 0) := by simp [World.cell?, Y2.out]
  have fy : ∀ j, w2.frozen? ⟨w.heap.size + 1, j, none⟩ = false := fun j => by simp [World.frozen?, Y2.out]
  have HF := hid (fun u0 u1 u2 => ((K2.out.setNew (p := ⟨w.heap.size + 1, 0, none⟩) (fun e => absurd e (by show ¬ w.heap.size + 1 < _; omega)) u0).setNew (p := ⟨w.heap.size + 1, 1, none⟩) (fun e => absurd e (by show ¬ w.heap.size + 1 < _; omega)) u1).setNew (p := ⟨w.heap.size + 1, 2, none⟩) (fun e => absurd e (by show ¬ w.heap.size + 1 < _; omega)) u2)
  go_wp2_with fail
  exact ⟨rfl, cfgV base (lim : Int) (o : Int), by simp [results, Tryz.results23, go_sem, y0, y1, y2], rfl, HF.out _ _ _⟩
set_option maxRecDepth 4000 in
theorem usual_no (base : Nat) (hb64 : base < 18446744073709551616) (lim o : Int) (l1 : -9223372036854775808 ≤ lim) (l2 : lim ≤ 9223372036854775807) (o1 : -9223372036854775808 ≤ o) (o2 : o ≤ 9223372036854775807) (hm : M.mayB base lim o = false) (w : World) :
    Calls Tryz.prog 23 #[cfgV base lim o] w fun e w' => UsP w 65536 2 2 e w' := by
  have T2 := two5 w (cfgO base lim o) cfgZ
  have K0 := hid T2.1
  have X0 := hid T2.2.1
  have Y0 := hid T2.2.2
  clear T2
  have MY := hid (fun W => M.May_any base hb64 lim o l1 l2 o1 o2 W)
  rw [hm] at MY
  clear hm
  go_enter Tryz.func23, Tryz.ntmps23
  obtain ⟨x0, x1, x2⟩ := cfg3 X0.out
  go_wp2_with fail
  generalize (w.alloc (cfgO base lim o)).alloc cfgZ = W0 at *
  refine (MY.out _).mono ?_
  rintro e w2 ⟨rfl, hk'⟩
  have hk : Kept none' W0 w2 := toK hk'
  have X2 := hid ((hk.block _ (heap_lt X0.out) (fun x => x)).trans X0.out)
  have Y2 := hid ((hk.block _ (heap_lt Y0.out) (fun x => x)).trans Y0.out)
  have K2 := hid (none_trans K0.out hk)
  clear x0 x1 x2 hk hk'
  obtain ⟨x0, x1, x2⟩ := cfg3 X2.out
  have y0 : w2.cell? ⟨w.heap.size + 1, 0, none⟩ = some (.int .u64 0) := by simp [World.cell?, Y2.out]
  have y1 : w2.cell? ⟨w.heap.size + 1, 1, none⟩ = some (.int .i64 0) := by simp [World.cell?, Y2.out]
  have y2 : w2.cell? ⟨w.heap.size + 1, 2, none⟩ = some (.int .i64 0) := by simp [World.cell?, Y2.out]
  have fy : ∀ j, w2.frozen? ⟨w.heap.size + 1, j, none⟩ = false := fun j => by simp [World.frozen?, Y2.out]
  have HF := hid (fun u0 u1 u2 => ((K2.out.setNew (p := ⟨w.heap.size + 1, 0, none⟩) (fun e => absurd e (by show ¬ w.heap.size + 1 < _; omega)) u0).setNew (p := ⟨w.heap.size + 1, 1, none⟩) (fun e => absurd e (by show ¬ w.heap.size + 1 < _; omega)) u1).setNew (p := ⟨w.heap.size + 1, 2, none⟩) (fun e => absurd e (by show ¬ w.heap.size + 1 < _; omega)) u2)
  go_wp2_with fail
  exact ⟨rfl, cfgV 65536 2 2, by simp [results, Tryz.results23, go_sem, y0, y1, y2], rfl, HF.out _ _ _⟩
/-- What begin leaves. -/
def BegP (w : World) (base lim o : Nat) (e : Ending) (w' : World) : Prop := ∃ lw x fa fc, e = .returned (.pointer (some ⟨lw, 0, none⟩)) ∧ LW w w' lw x ⟨fun _ => 0, newM o, fun _ => 0⟩ 0 (.slice fa (o + 1) fc) (.slice none 0 0) ∧ x.base = base ∧ x.R = 4096 * 2 ^ o ∧ x.lim = lim ∧ x.n = 0 ∧ x.o = o
set_option maxRecDepth 4000 in
set_option maxHeartbeats 1000000 in
theorem begin_gen (b0 : Nat) (l0 o0 : Int) (base : Nat) (hb64 : base < 18446744073709551616) (lim o : Nat) (hl : lim ≤ 64) (ho : o ≤ 8) (hm : M.mayB base (lim : Int) (o : Int) = true) (hus : ∀ W, Calls Tryz.prog 23 #[cfgV b0 l0 o0] W fun e w' => UsP W base (lim : Int) (o : Int) e w') (w : World) :
    Calls Tryz.prog 6 #[cfgV b0 l0 o0] w fun e w' => BegP w base lim o e w' := by
  have K0 := hid ((Kept.refl none' w).alloc (cfgO b0 l0 o0))
  have X0 := hid (heap_new w (cfgO b0 l0 o0))
  have US := hid hus
  clear hus
  have NW := hid (fun W => M.New_ok base hb64 (lim : Int) (o : Int) (by omega) (by omega) (by omega) (by omega) hm (fun _ => 0) W)
  clear hm
  go_enter Tryz.func6, Tryz.ntmps6
  obtain ⟨x0, x1, x2⟩ := cfg3 X0.out
  go_wp2_with fail
  generalize w.alloc (cfgO b0 l0 o0) = W0 at *
  refine (US.out _).mono ?_
  rintro e w2 ⟨rfl, hk⟩
  have X2 := hid ((hk.block _ (heap_lt X0.out) (fun x => x)).trans X0.out)
  have K2 := hid (none_trans K0.out hk)
  clear x0 x1 x2 hk X0 K0 US
  obtain ⟨x0, x1, x2⟩ := cfg3 X2.out
  have fx : ∀ j, w2.frozen? ⟨w.heap.size, j, none⟩ = false := fun j => by simp [World.frozen?, X2.out]
  have X3 := hid (show (((w2.setCell ⟨w.heap.size, 0, none⟩ (.int .u64 (base : Int))).setCell ⟨w.heap.size, 1, none⟩ (.int .i64 (lim : Int))).setCell ⟨w.heap.size, 2, none⟩ (.int .i64 (o : Int))).heap[w.heap.size]? = some (cfgO base (lim : Int) (o : Int)) from heap_set (heap_set (heap_set X2.out 0 _) 1 _) 2 _)
  have K3 := hid (((K2.out.setNew (p := ⟨w.heap.size, 0, none⟩) (fun e => absurd e (Nat.lt_irrefl _)) (.int .u64 (base : Int))).setNew (p := ⟨w.heap.size, 1, none⟩) (fun e => absurd e (Nat.lt_irrefl _)) (.int .i64 (lim : Int))).setNew (p := ⟨w.heap.size, 2, none⟩) (fun e => absurd e (Nat.lt_irrefl _)) (.int .i64 (o : Int)))
  obtain ⟨z0, z1, z2⟩ := cfg3 X3.out
  go_wp2_with fail
  generalize (((w2.setCell ⟨w.heap.size, 0, none⟩ (.int .u64 (base : Int))).setCell ⟨w.heap.size, 1, none⟩ (.int .i64 (lim : Int))).setCell ⟨w.heap.size, 2, none⟩ (.int .i64 (o : Int))) = W3 at *
  refine (NW.out _).mono ?_
  rintro e w4 ⟨s, rfl, hS, hk', hs⟩
  have hk : Kept none' W3 w4 := toK hk'
  have S4 := hid (show M.SpaceAt w4 s none base (M.RS o) lim 0 (fun _ => 0) from by simpa using hS)
  have HS4 := hid (show w.heap.size ≤ s from Nat.le_trans K3.out.size hs)
  have X4 := hid ((hk.block _ (heap_lt X3.out) (fun x => x)).trans X3.out)
  have K4 := hid (none_trans K3.out hk)
  clear x0 x1 x2 z0 z1 z2 hk hk' hS hs fx X3 K3 X2 K2 NW
  obtain ⟨x0, x1, x2⟩ := cfg3 X4.out
  go_wp2_with fail
  refine (new_any (o : Int) _).mono ?_
  rintro e w5 ⟨m, B, rfl, hM, hk, hN⟩
  have M5 := hid (show MapAt w5 m B (newM o) from by rw [show ordN (o : Int) = o by unfold ordN; rw [if_neg (by omega), if_neg (by omega)]; simp] at hM; exact hM)
  have N5' := hid (show ∀ y, mown m B o y → w.heap.size ≤ y from fun y hy => by rw [show ordN (o : Int) = o by unfold ordN; rw [if_neg (by omega), if_neg (by omega)]; simp] at hN; exact Nat.le_trans K4.out.size (hN y hy))
  have S5 := hid (S4.out.keep (ofK hk))
  have X5 := hid ((hk.block _ (heap_lt X4.out) (fun x => x)).trans X4.out)
  have K5 := hid (none_trans K4.out hk)
  clear x0 x1 x2 hk hM hN X4 K4 S4
  obtain ⟨x0, x1, x2⟩ := cfg3 X5.out
  go_wp2_with fail
  refine (NewB_any base s m o (lim : Int) ho _).mono ?_
  rintro e w6 ⟨b, rfl, hO⟩
  have k6 : Kept none' w5 w6 := by obtain ⟨_, _, _, h, _⟩ := hO; exact h.kp
  have S6 := hid (S5.out.keep (ofK k6))
  have M6 := hid (M5.out.keep k6)
  have O6 := hid hO
  have K6 := hid (none_trans K5.out k6)
  have X6 := hid (show w6.drew.heap[w.heap.size]? = some (cfgO base (lim : Int) (o : Int)) from (k6.block _ (heap_lt X5.out) (fun x => x)).trans X5.out)
  clear x0 x1 x2 k6 hO X5 S5 M5
  obtain ⟨x0, x1, x2⟩ := cfg3 X6.out
  go_wp2_with fail
  go_region_held3 (fun w' => w'.cell? ⟨w.heap.size, 0, none⟩ = some (.int .u64 (base : Int)) ∧ w'.cell? ⟨w.heap.size, 1, none⟩ = some (.int .i64 (lim : Int)) ∧ w'.cell? ⟨w.heap.size, 2, none⟩ = some (.int .i64 (o : Int))) (first | with_reducible exact ⟨x0, x1, x2⟩ | with_reducible exact ⟨y0, y1, y2⟩ | with_reducible exact ⟨alloc_cellL y0, alloc_cellL y1, alloc_cellL y2⟩) ((go_at_call 27; refine (New5_any o ho _).mono ?_; rintro e w7 ⟨ga, gc, rfl, hk⟩; have K7 := hid (none_trans (Kept.refl none' w6).drew hk); have X7 := hid ((hk.block _ (heap_lt X6.out) (fun x => x)).trans X6.out); obtain ⟨y0, y1, y2⟩ := cfg3 X7.out; clear hk))
  all_goals
    have D := hid (show ∃ x : Bx, LW w (w7.alloc (lwO x 0 (.slice ga (o + 1) gc) (.slice none 0 0))) w7.heap.size x ⟨fun _ => 0, newM o, fun _ => 0⟩ 0 (.slice ga (o + 1) gc) (.slice none 0 0) ∧ x.base = base ∧ x.R = 4096 * 2 ^ o ∧ x.lim = lim ∧ x.n = 0 ∧ x.o = o ∧ x.s = s ∧ x.m = m ∧ x.b = b from by
      obtain ⟨l, c, L, hB, h1, h2, h3, h4⟩ := O6.out.bd rfl S6.out M6.out rfl rfl
      have hz := K5.out.size
      refine ⟨_, ⟨heap_new _ _, (hB.keep K7.out).keep ((Kept.refl none' w7).alloc _), ?_, (none_trans K6.out K7.out).alloc _⟩, rfl, rfl, rfl, rfl, rfl, rfl, rfl, rfl⟩
      rintro y (hy | rfl | rfl | rfl)
      · rcases hy with hy | hy | ⟨k, hk, rfl⟩
        · rcases hy with rfl | hy
          · exact HS4.out
          · cases hy
        · exact N5'.out y hy
        · exact Nat.le_trans hz (h3 k hk)
      · exact Nat.le_trans hz h1
      · exact Nat.le_trans hz h2
      · exact (none_trans K6.out K7.out).size)
    clear x0 x1 x2 y0 y1 y2
    go_wp2_with fail
    go_ret
    obtain ⟨x, hL, e1, e2, e3, e4, e5, e6, e7, e8⟩ := D.out
    refine ⟨_, x, ga, gc, rfl, ?_, e1, e2, e3, e4, e5⟩
    rw [lwO, e1, e3, e5, e6, e7, e8] at hL
    exact hL
theorem begin_ok (base : Nat) (hb64 : base < 18446744073709551616) (lim o : Nat) (hl : lim ≤ 64) (ho : o ≤ 8) (hm : M.mayB base (lim : Int) (o : Int) = true) (w : World) :
    Calls Tryz.prog 6 #[cfgV base (lim : Int) (o : Int)] w fun e w' => BegP w base lim o e w' :=
  begin_gen base lim o base hb64 lim o hl ho hm (fun W => usual_ok base hb64 lim o hl ho hm W) w
/-- begin of any Config. -/
theorem begin_any (b0 : Nat) (hb64 : b0 < 18446744073709551616) (l0 o0 : Int) (l1 : -9223372036854775808 ≤ l0) (l2 : l0 ≤ 9223372036854775807) (o1 : -9223372036854775808 ≤ o0) (o2 : o0 ≤ 9223372036854775807) (w : World) :
    Calls Tryz.prog 6 #[cfgV b0 l0 o0] w fun e w' => ∃ base lim o, base % 4096 = 0 ∧ BegP w base lim o e w' := by
  cases hm : M.mayB b0 l0 o0 with
  | true =>
    obtain ⟨hB, _⟩ := M.mayB_cfg hm
    unfold M.Bounds at hB
    have hm4 : b0 % 4096 = 0 := by
      have h2 := hm
      simp only [M.mayB, Bool.and_eq_true, decide_eq_true_eq] at h2
      have h3 := h2.2.1.2
      unfold M.RS at h3
      exact Nat.mod_eq_zero_of_dvd (Nat.dvd_trans (Nat.dvd_mul_right _ _) (Nat.dvd_of_mod_eq_zero h3))
    obtain ⟨l, rfl⟩ := Int.eq_ofNat_of_zero_le (a := l0) (by omega)
    obtain ⟨o, rfl⟩ := Int.eq_ofNat_of_zero_le (a := o0) (by omega)
    exact (begin_ok b0 hb64 l o (by omega) (by omega) hm w).mono fun e w' h => ⟨_, _, _, hm4, h⟩
  | false =>
    exact (begin_gen b0 l0 o0 65536 (by decide) 2 2 (by decide) (by decide) (by decide) (fun W => usual_no b0 hb64 l0 o0 l1 l2 o1 o2 hm W) w).mono fun e w' h => ⟨_, _, _, by decide, h⟩
theorem BdAt.space {w w' x t} {a' : Option Nat} {n' : Nat} {f' : Nat → Nat} (h : BdAt w x t) (k : Kept (M.own x.s x.a) w w') (hs : M.SpaceAt w' x.s a' x.base x.R x.lim n' f') : BdAt w' { x with a := a', n := n' } { t with f := f' } := by
  have nb := h.nb
  have nl := h.nl
  refine ⟨hs, h.mp.kept k (fun y hy e => map_space h.mp h.sp hy e), fun i hi => (h.ls i hi).kept (ofK k) (fun e => space_list h.sp (h.ls i hi) e), (k.block _ (heap_lt h.bs) (fun e => nb (.inl e))).trans h.bs, ?_, h.mo, h.iL, h.hR⟩
  obtain ⟨cs, hl, hc⟩ := h.lr
  exact ⟨cs, (k.block _ (heap_lt hl) (fun e => nl (.inl e))).trans hl, hc⟩
theorem BdAt.grow {w w' x t} {B' : Bs} {m' : Mp} (h : BdAt w x t) (k : Kept (mown x.m x.B t.m.o) w w') (hm : MapAt w' x.m B' m') (ho : m'.o = t.m.o) : BdAt w' { x with B := B' } { t with m := m' } := by
  have nb := h.nb
  have nl := h.nl
  refine ⟨h.sp.kept (ofK k) (fun y hy e => map_space h.mp h.sp e hy), hm, fun i hi => (h.ls i hi).kept (ofK k) (fun e => map_list h.mp (h.ls i hi) e), (k.block _ (heap_lt h.bs) (fun e => nb (.inr (.inl (h.mo ▸ e))))).trans h.bs, ?_, ho.trans h.mo, h.iL, h.hR⟩
  obtain ⟨cs, hl, hc⟩ := h.lr
  exact ⟨cs, (k.block _ (heap_lt hl) (fun e => nl (.inr (.inl (h.mo ▸ e))))).trans hl, hc⟩
theorem LW.space {w W W' lw x t dP fv lv} {g' n' : Nat} {f' : Nat → Nat} (h : LW w W lw x t dP fv lv) (k : Kept (M.own x.s x.a) W W') (hs : M.SpaceAt W' x.s (some g') x.base x.R x.lim n' f') (hg : x.a = some g' ∨ W.heap.size ≤ g') : LW w W' lw { x with a := some g', n := n' } { t with f := f' } dP fv lv := by
  refine ⟨(k.block _ (heap_lt h.box) (fun e => h.nlw (.inl e))).trans h.box, h.bd.space k hs, ?_, h.kp.trans k (fun _ _ e => e) (fun y hy e => absurd (h.nw y (.inl (.inl e))) (by omega))⟩
  have hz := h.kp.size
  rintro y (hy | rfl | rfl | rfl)
  · rcases hy with hy | hy | ⟨k, hk, rfl⟩
    · rcases hy with rfl | hy
      · exact h.nw _ (.inl (.inl (.inl rfl)))
      · have hy : some g' = some y := hy
        cases hy
        rcases hg with e | e
        · exact h.nw _ (.inl (.inl (.inr e)))
        · omega
    · exact h.nw _ (.inl (.inr (.inl hy)))
    · exact h.nw _ (.inl (.inr (.inr ⟨k, hk, rfl⟩)))
  · exact h.nw _ (.inr (.inl rfl))
  · exact h.nw _ (.inr (.inr (.inl rfl)))
  · exact h.nw _ (.inr (.inr (.inr rfl)))
theorem LW.grow {w W W' lw x t dP fv lv} {B' : Bs} {m' : Mp} (h : LW w W lw x t dP fv lv) (k : Kept (mown x.m x.B t.m.o) W W') (hm : MapAt W' x.m B' m') (ho : m'.o = t.m.o) (hF : From W x.m x.B B' t.m.o) : LW w W' lw { x with B := B' } { t with m := m' } dP fv lv := by
  refine ⟨(k.block _ (heap_lt h.box) (fun e => h.nlw (.inr (.inl (h.bd.mo ▸ e))))).trans h.box, h.bd.grow k hm ho, ?_, h.kp.trans k (fun _ _ e => e) (fun y hy e => absurd (h.nw y (.inl (.inr (.inl (h.bd.mo ▸ e))))) (by omega))⟩
  have hz := h.kp.size
  rintro y (hy | rfl | rfl | rfl)
  · rcases hy with hy | hy | ⟨k, hk, rfl⟩
    · exact h.nw _ (.inl (.inl hy))
    · have hy : mown x.m B' x.o y := hy
      rw [← h.bd.mo] at hy
      rcases hF y hy with e | e
      · exact h.nw _ (.inl (.inr (.inl (h.bd.mo ▸ e))))
      · omega
    · exact h.nw _ (.inl (.inr (.inr ⟨k, hk, rfl⟩)))
  · exact h.nw _ (.inr (.inl rfl))
  · exact h.nw _ (.inr (.inr (.inl rfl)))
  · exact h.nw _ (.inr (.inr (.inr rfl)))
/-- The document's part of the box is written. -/
theorem LW.doc {w W lw x t dP fv lv} (h : LW w W lw x t dP fv lv) (dP' : Nat) (fv' lv' : Value) : LW w ((((W.setCell ⟨lw, 6, none⟩ (.int .i64 (x.o : Int))).setCell ⟨lw, 7, none⟩ (.int .i64 (dP' : Int))).setCell ⟨lw, 8, none⟩ fv').setCell ⟨lw, 9, none⟩ lv') lw x t dP' fv' lv' := by
  have k : Kept (fun y => y = lw) W ((((W.setCell ⟨lw, 6, none⟩ (.int .i64 (x.o : Int))).setCell ⟨lw, 7, none⟩ (.int .i64 (dP' : Int))).setCell ⟨lw, 8, none⟩ fv').setCell ⟨lw, 9, none⟩ lv') := ((((Kept.refl (fun y => y = lw) W).setCell (p := ⟨lw, 6, none⟩) rfl _).setCell (p := ⟨lw, 7, none⟩) rfl _).setCell (p := ⟨lw, 8, none⟩) rfl _).setCell (p := ⟨lw, 9, none⟩) rfl _
  have hne : ∀ y, bown x y ∨ y = x.b ∨ y = x.l → ¬ y = lw := by
    rintro y (hy | rfl | rfl) rfl
    · exact h.nlw hy
    · exact ty_ne h.bd.bs h.box (by decide) rfl
    · obtain ⟨cs, hl, _⟩ := h.bd.lr
      exact ty_ne hl h.box (by decide) rfl
  exact ⟨heap_set (heap_set (heap_set (heap_set h.box 6 _) 7 _) 8 _) 9 _, h.bd.kept k hne, h.nw, h.kp.trans k (fun _ _ e => e) (fun y hy e => absurd (h.nw lw (.inr (.inr (.inr rfl)))) (by have e : y = lw := e; omega))⟩
theorem growM_o (m : Mp) : (growM m).o = m.o := by unfold growM; split <;> rfl
/-- What come leaves. -/
def ComeP (w : World) (lw : Nat) (x : Bx) (t : Bt) (dP : Nat) (fv : Value) (e : Ending) (w' : World) : Prop := ∃ x' ga gc, e = .returned (.bool true) ∧ LW w w' lw x' ⟨M.more t.f x.n, growM t.m, t.hd⟩ (dP + 2 ^ x.o) fv (.slice ga 1 gc) ∧ x'.base = x.base ∧ x'.R = x.R ∧ x'.lim = x.lim ∧ x'.n = x.n + x.R ∧ x'.o = x.o
set_option maxRecDepth 4000 in
set_option maxHeartbeats 1000000 in
theorem come_ok (lw : Nat) (x : Bx) (t : Bt) (dP : Nat) (fa : Option Addr) (fl fc : Nat) (w W : World) (h : LW w W lw x t dP (.slice fa fl fc) (.slice none 0 0)) (hk : ∃ k, x.n = k * x.R ∧ k + 1 ≤ x.lim) (hst : t.m.n * 4096 = x.n) (hd : dP = t.m.n) (hg : t.m.n + 2 ^ x.o ≤ 1024) :
    Calls Tryz.prog 14 #[.pointer (some ⟨lw, 0, none⟩)] W fun e w' => ComeP w lw x t dP (.slice fa fl fc) e w' := by
  have ho := h.bd.o8
  have CM := hid (M.Commit_ok x.s x.a x.base x.R x.lim x.n t.f W h.bd.sp hk)
  have hR1 := h.bd.sp.cfg.r1
  obtain ⟨c0, c1, c2, c3, c4, c5, c6, c7, c8, c9⟩ := h.c
  have H := hid h
  have HST := hid hst
  have HD := hid hd
  have HG := hid hg
  have HR1 := hid hR1
  clear h hk hst hd hg hR1
  go_enter Tryz.func14, Tryz.ntmps14
  go_wp2_with fail
  refine CM.out.mono ?_
  rintro e w1 ⟨rfl, g', hS, hK, hg'⟩
  have H1 := hid (H.out.space (toK hK) hS hg')
  have NT := hid (show ¬ topOk { x with a := some g', n := x.n + x.R } { t with f := M.more t.f x.n } from fun e => by
    have h2 : t.m.n * 4096 = x.n + x.R := e.2
    have := HST.out
    have := HR1.out
    omega)
  have FD := hid (Feed_no _ _ (.inl NT.out) w1 H1.out.bd)
  clear hS hK hg' c0 c1 c2 c3 c4 c5 c6 c7 c8 c9 CM
  obtain ⟨c0, c1, c2, c3, c4, c5, c6, c7, c8, c9⟩ := H1.out.c
  go_wp2_with fail
  refine FD.out.mono ?_
  rintro e w2 ⟨rfl, hk⟩
  have H2 := hid (H1.out.keep hk)
  have PL2 := hid (Pull_no _ _ (.inl NT.out) w2 H2.out.bd)
  clear hk c0 c1 c2 c3 c4 c5 c6 c7 c8 c9 FD H1
  obtain ⟨c0, c1, c2, c3, c4, c5, c6, c7, c8, c9⟩ := H2.out.c
  go_wp2_with fail
  refine PL2.out.mono ?_
  rintro e w3 ⟨rfl, hk⟩
  have H3 := hid (H2.out.keep hk)
  clear hk c0 c1 c2 c3 c4 c5 c6 c7 c8 c9 PL2 H2
  obtain ⟨c0, c1, c2, c3, c4, c5, c6, c7, c8, c9⟩ := H3.out.c
  go_wp2_with fail
  refine (Grow_any x.m x.B t.m _ H3.out.bd.mp).mono ?_
  rintro e w4 ⟨rfl, B', hM, hK, hF⟩
  have H4 := hid (H3.out.grow hK hM (growM_o _) hF)
  clear hM hK hF c0 c1 c2 c3 c4 c5 c6 c7 c8 c9 H3
  obtain ⟨c0, c1, c2, c3, c4, c5, c6, c7, c8, c9⟩ := H4.out.c
  go_wp2_with fail
  refine (Come5_nil x.o dP ho (by rw [HD.out]; exact Nat.le_trans (Nat.le_add_right _ _) HG.out) fa fl fc _).mono ?_
  rintro e w5 ⟨ga, gc, rfl, hk⟩
  have H5 := hid (H4.out.keep hk)
  clear hk c0 c1 c2 c3 c4 c5 c6 c7 c8 c9 H4
  obtain ⟨c0, c1, c2, c3, c4, c5, c6, c7, c8, c9⟩ := H5.out.c
  have fz := H5.out.fz
  obtain ⟨P, hP⟩ : ∃ P, P = dP + 2 ^ x.o := ⟨_, rfl⟩
  rw [← hP]
  have H6 := hid (H5.out.doc P (.slice fa fl fc) (.slice ga 1 gc))
  have HP := hid hP
  have PGN := hid (show (growM t.m).n = P from by
    have := HG.out
    have h2 := H5.out.bd.mo
    rw [growM_o] at h2
    rw [hP, HD.out]
    unfold growM
    rw [h2, if_neg (by show ¬ 1024 < t.m.n + 2 ^ x.o; omega)]
    rfl)
  clear hP
  go_wp2_with fail
  clear c0 c1 c2 c3 c4 c5 c6 c7 c8 c9 fz H5
  generalize (((w5.setCell ⟨lw, 6, none⟩ (.int .i64 (x.o : Int))).setCell ⟨lw, 7, none⟩ (.int .i64 (P : Int))).setCell ⟨lw, 8, none⟩ (.slice fa fl fc)).setCell ⟨lw, 9, none⟩ (.slice ga 1 gc) = W6 at *
  obtain ⟨c0, c1, c2, c3, c4, c5, c6, c7, c8, c9⟩ := H6.out.c
  have PG := hid (show ∀ n, Calls Tryz.prog 60 #[.pointer (some ⟨x.m, 0, none⟩)] (W6.drewN n) fun e w' => e = .returned (.int .i64 (P : Int)) ∧ w' = W6.drewN n from fun n => by
    have q := pages_any x.m B' (growM t.m) (W6.drewN n) (H6.out.bd.mp.keep ((Kept.refl none' W6).drewN n))
    rw [PGN.out] at q
    exact q)
  go_quiet ((go_at_call 60; exact Calls.quiet_of_same (PG.out _)))
  have H7 := hid (H6.out.keep ((Kept.refl none' W6).drewN nq))
  generalize W6.drewN nq = W7 at *
  go_wp2_with fail
  go_ret
  refine ⟨{ x with a := some g', n := x.n + x.R, B := B' }, ga, gc, ret_bool (by simp), ?_, rfl, rfl, rfl, rfl, rfl⟩
  rw [← HP.out]
  exact H7.out
end Go.Proofs.YthglogiglimebaaGreat
