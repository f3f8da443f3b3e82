import Derived.Test.YtocpnddacdpnmaaGreatDoorMb
import Derived.Deep.RegionWith
import Derived.Deep.RegionHeld3
/- croftref5.New, croftref7.New. -/
namespace Go.Proofs.YtocpnddacdpnmaaGreatDoor
open Go.RowKit
set_option linter.unusedVariables false

abbrev r5V (o p : Int) (fv lv : Value) : Value := .agg #[.int .i64 o, .int .i64 p, fv, lv]
abbrev r5O (o p : Int) (fv lv : Value) : Obj := .cells #[.int .i64 o, .int .i64 p, fv, lv] 35
theorem r5c {w : World} {x : Nat} {o p : Int} {fv lv : Value} (h : w.heap[x]? = some (r5O o p fv lv)) : w.cell? ⟨x, 0, none⟩ = some (.int .i64 o) ∧ w.cell? ⟨x, 1, none⟩ = some (.int .i64 p) ∧ w.cell? ⟨x, 2, none⟩ = some fv ∧ w.cell? ⟨x, 3, none⟩ = some lv ∧ ∀ j, w.frozen? ⟨x, j, none⟩ = false := by
  refine ⟨?_, ?_, ?_, ?_, fun j => ?_⟩ <;> simp [World.cell?, World.frozen?, h]
theorem info_isl : (Tryz.prog.info? 43).map (fun i => (i.zero, i.size, i.bytes)) = some (some (.slice none 0 0), 1, 24) := by kernel_rfl
theorem push_isl {w0 W : World} {v : Value} {n : Nat} {xs : List Value} (h : GS w0 W 43 1 v n xs) (hn : n ≤ 2000) :
    ∃ g cap w', (∀ ty, (Builtin.append_ #[32, 32] ty #[v, .slice (some ⟨W.heap.size, 0, none⟩) 1 1]).run Tryz.prog (W.alloc (.cells #[.slice none 0 0] 43)) = .ok (.slice (some ⟨g, 0, none⟩) (n + 1) cap) w') ∧ GS w0 w' 43 1 (.slice (some ⟨g, 0, none⟩) (n + 1) cap) (n + 1) (xs ++ [.slice none 0 0]) ∧ w0.heap.size ≤ g ∧ (∀ x, v.ownBlock ≠ some x → ∀ o, W.heap[x]? = some o → w'.heap[x]? = some o) := by
  obtain ⟨i, hi, hzz⟩ := Option.map_eq_some_iff.1 info_isl
  simp only [Prod.mk.injEq] at hzz
  have ka := (Kept.refl none' W).alloc (.cells #[.slice none 0 0] 43)
  obtain ⟨g, cap, w', h1, h2, h5, h4⟩ := (h.keep ka).push 32 i (.slice none 0 0) 24 Tryz.underlying32 hi hzz.1 hzz.2.1 hzz.2.2 rfl (by decide) ⟨W.heap.size, 0, none⟩ 1 [.slice none 0 0] rfl (fun j u hj => cells_new (cs := #[.slice none 0 0]) j u hj) (by simp [Value.oneCell']) (by simp only [maxLen]; omega) (by omega)
  exact ⟨g, cap, w', h1, h2, h5, fun x hx o ho => h4 x hx o ((ka.block x (heap_lt ho) (fun x => x)).trans ho)⟩
/-- While the rows are made. -/
structure N5x (w W : World) (o k : Nat) (v : Value) : Prop where
  y : W.heap[w.heap.size]? = some (r5O 0 0 (.slice none 0 0) (.slice none 0 0))
  x : W.heap[w.heap.size + 1]? = some (r5O (o : Int) 0 v (.slice none 0 0))
  gs : GS w W 43 1 v k (List.replicate k (.slice none 0 0))
  kp : Kept none' w W
/-- What New answers. -/
def New5Q (w : World) (o : Nat) (e : Ending) (w' : World) : Prop := ∃ ga gc, e = .returned (r5V (o : Int) 0 (.slice ga (o + 1) gc) (.slice none 0 0)) ∧ GS w w' 43 1 (.slice ga (o + 1) gc) (o + 1) (List.replicate (o + 1) (.slice none 0 0))
set_option maxRecDepth 4000 in
theorem New5x (o : Nat) (ho : o ≤ 8) (w : World) :
    Calls Tryz.prog 84 #[.int .i64 (o : Int)] w fun e w' => New5Q w o e w' := by
  have T2 := two5 w (r5O 0 0 (.slice none 0 0) (.slice none 0 0)) (r5O (o : Int) 0 (.slice none 0 0) (.slice none 0 0))
  have H0 := hid (show N5x w ((w.alloc (r5O 0 0 (.slice none 0 0) (.slice none 0 0))).alloc (r5O (o : Int) 0 (.slice none 0 0) (.slice none 0 0))) o 0 (.slice none 0 0) from ⟨T2.2.1, T2.2.2, GS.nil _ _ _ _ T2.1, T2.1⟩)
  clear T2
  go_enter Tryz.func84, Tryz.ntmps84
  go_wp2_with fail
  go_loopw [4] (fun i W => ∃ k : Nat, k ≤ o + 1 ∧ i = .int .i64 k ∧ Hid (∃ va vc, N5x w W o k (.slice va k vc))) (fun i _ => o + 1 - (intOf i).toNat)
  case atStart => exact ⟨0, by omega, rfl, ⟨none, 0, H0.out⟩⟩
  case round =>
    clear H0
    obtain ⟨k, hk, rfl, hR⟩ := hrel
    obtain ⟨va, vc, hR⟩ := hR.out
    have HR := hid hR
    obtain ⟨x0, x1, x2, x3, fx⟩ := r5c hR.x
    clear hR
    by_cases hlt : k ≤ o
    · have hki : (k : Int) ≤ (o : Int) := by omega
      have hgs := HR.out.gs
      obtain ⟨g, cap, w', hap, hg2, hge, hkeep⟩ := push_isl hgs (by omega)
      have hy' := hkeep w.heap.size (fun e => by
        rcases hgs.own.2 with ⟨h0, _⟩ | ⟨g2, c2, cur, h0, hb2, hgg, _⟩
        · rw [h0] at e; simp [Value.ownBlock] at e
        · rw [h0] at e; simp [Value.ownBlock] at e
          exact ty_ne hgg HR.out.y (by decide) e) _ HR.out.y
      have hx' := hkeep (w.heap.size + 1) (fun e => by
        rcases hgs.own.2 with ⟨h0, _⟩ | ⟨g2, c2, cur, h0, hb2, hgg, _⟩
        · rw [h0] at e; simp [Value.ownBlock] at e
        · rw [h0] at e; simp [Value.ownBlock] at e
          exact ty_ne hgg HR.out.x (by decide) e) _ HR.out.x
      obtain ⟨z0, z1, z2, z3, fz⟩ := r5c hx'
      have D := hid (show N5x w (w'.setCell ⟨w.heap.size + 1, 2, none⟩ (.slice (some ⟨g, 0, none⟩) (k + 1) cap)) o (k + 1) (.slice (some ⟨g, 0, none⟩) (k + 1) cap) from by
        have ks : Kept (fun y => y = w.heap.size + 1) w' (w'.setCell ⟨w.heap.size + 1, 2, none⟩ (.slice (some ⟨g, 0, none⟩) (k + 1) cap)) := (Kept.refl (fun y => y = w.heap.size + 1) w').setCell (p := ⟨w.heap.size + 1, 2, none⟩) rfl _
        have g3 := hg2.keptN ks (fun y hy e => by
          rcases hg2.own.2 with ⟨h0, _⟩ | ⟨g2, c2, cur, h0, hb2, hgg, h3⟩
          · simp at h0
          · rw [h0] at hy
            simp [Value.ownBlock] at hy
            subst hy
            exact ty_ne hgg hx' (by decide) e) (fun y e => by omega)
        exact ⟨(ks.block _ (heap_lt hy') (by omega)).trans hy', heap_set hx' 2 _, by rw [List.replicate_succ']; exact g3, g3.kp⟩)
      have HAP := hid hap
      clear hap hg2 hkeep hgs hy' hx'
      go_wp2_with (at_builtin; refine Lib.wpList_append_run _ rfl _ _ _ _ rfl (.slice va k vc) (.slice (some ⟨wr.heap.size, 0, none⟩) 1 1) rfl rfl _ _ (HAP.out _) ?_)
      exact ⟨⟨k + 1, by omega, by simp, ⟨_, _, D.out⟩⟩, by simp [intOf]; omega⟩
    · have hki : ¬ (k : Int) ≤ (o : Int) := by omega
      have hko : k = o + 1 := by omega
      obtain ⟨y0, y1, y2, y3, fy⟩ := r5c HR.out.y
      subst hko
      have HFL := hid (show ∀ u0 u1 u2 u3, GS w ((((wr.setCell ⟨w.heap.size, 0, none⟩ u0).setCell ⟨w.heap.size, 1, none⟩ u1).setCell ⟨w.heap.size, 2, none⟩ u2).setCell ⟨w.heap.size, 3, none⟩ u3) 43 1 (.slice va (o + 1) vc) (o + 1) (List.replicate (o + 1) (.slice none 0 0)) from fun u0 u1 u2 u3 => by
        have ks : Kept (fun y => y = w.heap.size) wr ((((wr.setCell ⟨w.heap.size, 0, none⟩ u0).setCell ⟨w.heap.size, 1, none⟩ u1).setCell ⟨w.heap.size, 2, none⟩ u2).setCell ⟨w.heap.size, 3, none⟩ u3) := ((((Kept.refl (fun y => y = w.heap.size) wr).setCell (p := ⟨w.heap.size, 0, none⟩) rfl u0).setCell (p := ⟨w.heap.size, 1, none⟩) rfl u1).setCell (p := ⟨w.heap.size, 2, none⟩) rfl u2).setCell (p := ⟨w.heap.size, 3, none⟩) rfl u3
        refine HR.out.gs.keptN ks (fun y hy e => ?_) (fun y e => by omega)
        rcases HR.out.gs.own.2 with ⟨h0, _⟩ | ⟨g2, c2, cur, h0, hb2, hgg, h3⟩
        · rw [h0] at hy; simp [Value.ownBlock] at hy
        · rw [h0] at hy
          simp [Value.ownBlock] at hy
          subst hy
          exact ty_ne hgg HR.out.y (by decide) e)
      clear HR
      go_wp2_with fail
      exact ⟨rfl, r5V (o : Int) 0 (.slice va (o + 1) vc) (.slice none 0 0), by simp [results, Tryz.results84, go_sem, y0, y1, y2, y3], _, _, rfl, HFL.out _ _ _ _⟩
abbrev s7V (b : Nat) (l o po pp : Int) (fv lv pv qv : Value) : Value := .agg #[.int .u64 (b : Int), .int .i64 l, .int .i64 o, .int .i64 po, .int .i64 pp, fv, lv, pv, qv]
abbrev s7O (b : Nat) (l o po pp : Int) (fv lv pv qv : Value) : Obj := .cells #[.int .u64 (b : Int), .int .i64 l, .int .i64 o, .int .i64 po, .int .i64 pp, fv, lv, pv, qv] 38
theorem s7c {W : World} {y : Nat} {b : Nat} {l o po pp : Int} {fv lv pv qv : Value} (h : W.heap[y]? = some (s7O b l o po pp fv lv pv qv)) : W.cell? ⟨y, 0, none⟩ = some (.int .u64 (b : Int)) ∧ W.cell? ⟨y, 1, none⟩ = some (.int .i64 l) ∧ W.cell? ⟨y, 2, none⟩ = some (.int .i64 o) ∧ W.cell? ⟨y, 3, none⟩ = some (.int .i64 po) ∧ W.cell? ⟨y, 4, none⟩ = some (.int .i64 pp) ∧ W.cell? ⟨y, 5, none⟩ = some fv ∧ W.cell? ⟨y, 6, none⟩ = some lv ∧ W.cell? ⟨y, 7, none⟩ = some pv ∧ W.cell? ⟨y, 8, none⟩ = some qv ∧ ∀ j, W.frozen? ⟨y, j, none⟩ = false := by
  refine ⟨?_, ?_, ?_, ?_, ?_, ?_, ?_, ?_, ?_, fun j => ?_⟩ <;> simp [World.cell?, World.frozen?, h]
abbrev s7Z : Obj := .cells #[.int .u64 0, .int .i64 0, .int .i64 0, .int .i64 0, .int .i64 0, .slice none 0 0, .slice none 0 0, .slice none 0 0, .slice none 0 0] 38
theorem s7z {W : World} {y : Nat} (h : W.heap[y]? = some s7Z) : W.cell? ⟨y, 0, none⟩ = some (.int .u64 0) ∧ W.cell? ⟨y, 1, none⟩ = some (.int .i64 0) ∧ W.cell? ⟨y, 2, none⟩ = some (.int .i64 0) ∧ W.cell? ⟨y, 3, none⟩ = some (.int .i64 0) ∧ W.cell? ⟨y, 4, none⟩ = some (.int .i64 0) ∧ W.cell? ⟨y, 5, none⟩ = some (.slice none 0 0) ∧ W.cell? ⟨y, 6, none⟩ = some (.slice none 0 0) ∧ W.cell? ⟨y, 7, none⟩ = some (.slice none 0 0) ∧ W.cell? ⟨y, 8, none⟩ = some (.slice none 0 0) ∧ ∀ j, W.frozen? ⟨y, j, none⟩ = false := by
  refine ⟨?_, ?_, ?_, ?_, ?_, ?_, ?_, ?_, ?_, fun j => ?_⟩ <;> simp [World.cell?, World.frozen?, h]
end Go.Proofs.YtocpnddacdpnmaaGreatDoor
/- croftref7.New: that it ends, and what it keeps. -/
namespace Go.Proofs.YtocpnddacdpnmaaGreatDoor
open Go.RowKit
set_option linter.unusedVariables false

theorem GS.from {w w1 W : World} {e : TypeId} {size : Nat} {v : Value} {n : Nat} {xs : List Value} (k : Kept none' w w1) (h : GS w1 W e size v n xs) : GS w W e size v n xs :=
  ⟨h.own, fun g cap hv => (h.new g cap hv).imp id (fun hg => Nat.le_trans k.size hg), none_trans k h.kp⟩
/-- While the rows are made. -/
structure N7 (w W : World) (base lim o : Nat) (ga : Option Addr) (gc y k : Nat) (v : Value) : Prop where
  z : W.heap[w.heap.size + 1]? = some s7Z
  x : W.heap[y]? = some (s7O base (lim : Int) (o : Int) (o : Int) 0 (.slice ga (o + 1) gc) (.slice none 0 0) (.slice none 0 0) v)
  yw : w.heap.size ≤ y ∧ y ≠ w.heap.size + 1
  q : GS w W 43 1 v k (List.replicate k (.slice none 0 0))
theorem N7.mkA {w W0 w7 : World} {base lim o gc : Nat} {ga : Option Addr} (K0 : Kept none' w W0) (Y0 : W0.heap[w.heap.size + 1]? = some s7Z) (kp : Kept none' W0.drew w7) : N7 w (w7.alloc (s7O base (lim : Int) (o : Int) (o : Int) 0 (.slice ga (o + 1) gc) (.slice none 0 0) (.slice none 0 0) (.slice none 0 0))) base lim o ga gc w7.heap.size 0 (.slice none 0 0) := by
  have k1 : Kept none' W0 w7 := none_trans (Kept.refl none' W0).drew kp
  have k2 := k1.alloc (s7O base (lim : Int) (o : Int) (o : Int) 0 (.slice ga (o + 1) gc) (.slice none 0 0) (.slice none 0 0) (.slice none 0 0))
  have h1 := heap_lt Y0
  have h2 := k1.size
  exact ⟨(k2.block _ h1 (fun e => e)).trans Y0, heap_new w7 _, by omega, GS.nil _ _ _ _ (none_trans K0 k2)⟩
theorem N7.mkB {w W0 w7 : World} {base lim o gc : Nat} {ga : Option Addr} (K0 : Kept none' w W0) (Y0 : W0.heap[w.heap.size + 1]? = some s7Z) (kp : Kept none' (W0.alloc s7Z).drew w7) : N7 w (((((((((w7.setCell ⟨W0.heap.size, 0, none⟩ (.int .u64 (base : Int))).setCell ⟨W0.heap.size, 1, none⟩ (.int .i64 (lim : Int))).setCell ⟨W0.heap.size, 2, none⟩ (.int .i64 (o : Int))).setCell ⟨W0.heap.size, 3, none⟩ (.int .i64 (o : Int))).setCell ⟨W0.heap.size, 4, none⟩ (.int .i64 0)).setCell ⟨W0.heap.size, 5, none⟩ (.slice ga (o + 1) gc)).setCell ⟨W0.heap.size, 6, none⟩ (.slice none 0 0)).setCell ⟨W0.heap.size, 7, none⟩ (.slice none 0 0)).setCell ⟨W0.heap.size, 8, none⟩ (.slice none 0 0)) base lim o ga gc W0.heap.size 0 (.slice none 0 0) := by
  have k1 : Kept none' W0 w7 := none_trans ((Kept.refl none' W0).alloc s7Z).drew kp
  have h1 := heap_lt Y0
  have hy : w7.heap[W0.heap.size]? = some s7Z := (kp.block _ (heap_lt (show (W0.alloc s7Z).drew.heap[W0.heap.size]? = some s7Z from heap_new W0 _)) (fun e => e)).trans (heap_new W0 _)
  have hz : w7.heap[w.heap.size + 1]? = some s7Z := (k1.block _ h1 (fun e => e)).trans Y0
  have ks := (((((((((Kept.refl (fun y => y = W0.heap.size) w7).setCell (p := ⟨W0.heap.size, 0, none⟩) rfl (.int .u64 (base : Int))).setCell (p := ⟨W0.heap.size, 1, none⟩) rfl (.int .i64 (lim : Int))).setCell (p := ⟨W0.heap.size, 2, none⟩) rfl (.int .i64 (o : Int))).setCell (p := ⟨W0.heap.size, 3, none⟩) rfl (.int .i64 (o : Int))).setCell (p := ⟨W0.heap.size, 4, none⟩) rfl (.int .i64 0)).setCell (p := ⟨W0.heap.size, 5, none⟩) rfl (.slice ga (o + 1) gc)).setCell (p := ⟨W0.heap.size, 6, none⟩) rfl (.slice none 0 0)).setCell (p := ⟨W0.heap.size, 7, none⟩) rfl (.slice none 0 0)).setCell (p := ⟨W0.heap.size, 8, none⟩) rfl (.slice none 0 0)
  have hk := K0.size
  refine ⟨(ks.block _ (heap_lt hz) (by omega)).trans hz, ?_, by omega, GS.nil _ _ _ _ ((none_trans K0 k1).trans ks (fun _ _ e => e) (fun y hy e => by omega))⟩
  have := heap_set (heap_set (heap_set (heap_set (heap_set (heap_set (heap_set (heap_set (heap_set hy 0 (.int .u64 (base : Int))) 1 (.int .i64 (lim : Int))) 2 (.int .i64 (o : Int))) 3 (.int .i64 (o : Int))) 4 (.int .i64 0)) 5 (.slice ga (o + 1) gc)) 6 (.slice none 0 0)) 7 (.slice none 0 0)) 8 (.slice none 0 0)
  simpa using this
theorem N7.push {w W w' : World} {base lim o gc y k g cap : Nat} {ga va : Option Addr} {vc : Nat} (h : N7 w W base lim o ga gc y k (.slice va k vc)) (hg2 : GS w w' 43 1 (.slice (some ⟨g, 0, none⟩) (k + 1) cap) (k + 1) (List.replicate k (.slice none 0 0) ++ [.slice none 0 0])) (hkeep : ∀ x, (Value.slice va k vc).ownBlock ≠ some x → ∀ o, W.heap[x]? = some o → w'.heap[x]? = some o) :
    w'.heap[y]? = some (s7O base (lim : Int) (o : Int) (o : Int) 0 (.slice ga (o + 1) gc) (.slice none 0 0) (.slice none 0 0) (.slice va k vc)) ∧ N7 w (w'.setCell ⟨y, 8, none⟩ (.slice (some ⟨g, 0, none⟩) (k + 1) cap)) base lim o ga gc y (k + 1) (.slice (some ⟨g, 0, none⟩) (k + 1) cap) := by
  have no : ∀ b ob, W.heap[b]? = some (.cells ob 38) → (Value.slice va k vc).ownBlock ≠ some b := fun b ob hb e => by
    rcases h.q.own.2 with ⟨h0, _⟩ | ⟨g2, c2, cur, h0, hb2, hgg, _⟩
    · rw [h0] at e; simp [Value.ownBlock] at e
    · rw [h0] at e; simp [Value.ownBlock] at e
      exact ty_ne hgg hb (by decide) e
  have hz' := hkeep _ (no _ _ h.z) _ h.z
  have hx' := hkeep _ (no _ _ h.x) _ h.x
  have ks : Kept (fun b => b = y) w' (w'.setCell ⟨y, 8, none⟩ (.slice (some ⟨g, 0, none⟩) (k + 1) cap)) := (Kept.refl (fun b => b = y) w').setCell (p := ⟨y, 8, none⟩) rfl _
  have g3 := hg2.keptN ks (fun b hb e => by
    rcases hg2.own.2 with ⟨h0, _⟩ | ⟨g2, c2, cur, h0, hb2, hgg, h3⟩
    · simp at h0
    · rw [h0] at hb
      simp [Value.ownBlock] at hb
      subst hb
      exact ty_ne hgg hx' (by decide) e) (fun b e => by rw [show b = y from e]; exact h.yw.1)
  refine ⟨hx', (ks.block _ (heap_lt hz') (fun e => h.yw.2 e.symm)).trans hz', ?_, h.yw, by rw [List.replicate_succ']; exact g3⟩
  have := heap_set hx' 8 (.slice (some ⟨g, 0, none⟩) (k + 1) cap)
  simpa using this
/-- What New answers. -/
def New7P (w : World) (base lim o : Nat) (e : Ending) (w' : World) : Prop := ∃ ga gc qa qc, e = .returned (s7V base (lim : Int) (o : Int) (o : Int) 0 (.slice ga (o + 1) gc) (.slice none 0 0) (.slice none 0 0) (.slice qa 8 qc)) ∧ Kept none' w w'
set_option maxRecDepth 4000 in
set_option maxHeartbeats 40000000 in
theorem New7r (base lim o : Nat) (ho : o ≤ 8) (w : World) :
    Calls Tryz.prog 35 #[cfgV base (lim : Int) (o : Int)] w fun e w' => New7P w base lim o e w' := by
  have X0 := hid (show ((w.alloc (cfgO base (lim : Int) (o : Int))).alloc s7Z).heap[w.heap.size]? = some (cfgO base (lim : Int) (o : Int)) from (two5 w _ _).2.1)
  have Y0 := hid (show ((w.alloc (cfgO base (lim : Int) (o : Int))).alloc s7Z).heap[w.heap.size + 1]? = some s7Z from (two5 w _ _).2.2)
  have K0 := hid (show Kept none' w ((w.alloc (cfgO base (lim : Int) (o : Int))).alloc s7Z) from (two5 w _ _).1)
  go_enter Tryz.func35, Tryz.ntmps35
  go_upto_region 1 with fail
  generalize (w.alloc (cfgO base (lim : Int) (o : Int))).alloc s7Z = W0 at *
  have X1 := hid (((Kept.refl none' W0).drew.block _ (heap_lt X0.out) (fun e => e)).trans X0.out)
  have Z1 := hid (show (W0.alloc s7Z).drew.heap[w.heap.size]? = some (cfgO base (lim : Int) (o : Int)) from ((((Kept.refl none' W0).alloc _).drew).block _ (heap_lt X0.out) (fun e => e)).trans X0.out)
  have NA := hid (New5x o ho W0.drew)
  have NB := hid (New5x o ho (W0.alloc s7Z).drew)
  obtain ⟨x0, x1, x2⟩ := cfg3 X0.out
  have ZY := hid (show (W0.alloc s7Z).drew.heap[W0.heap.size]? = some s7Z from heap_new W0 _)
  have Z2 := hid (show (W0.alloc s7Z).heap[w.heap.size]? = some (cfgO base (lim : Int) (o : Int)) from (((Kept.refl none' W0).alloc _).block _ (heap_lt X0.out) (fun e => e)).trans X0.out)
  obtain ⟨z0, z1, z2⟩ := cfg3 Z2.out
  go_cut [3] (fun s3 W => ∃ y ga gc, s3 = .pointer (some ⟨y, 0, none⟩) ∧ Hid (N7 w W base lim o ga gc y 0 (.slice none 0 0)))
  case first =>
    go_region_with (first
      | (go_at_call 84; (with_reducible refine NA.out.mono ?_); rintro e w7 ⟨ga, gc, rfl, hgs⟩; obtain ⟨y0, y1, y2⟩ := cfg3 ((hgs.kp.block _ (heap_lt X1.out) (fun x => x)).trans X1.out); have q0 : (w7.alloc s7Z).cell? ⟨w.heap.size, 0, none⟩ = some (.int .u64 (base : Int)) := alloc_cellL y0; have q1 : (w7.alloc s7Z).cell? ⟨w.heap.size, 1, none⟩ = some (.int .i64 (lim : Int)) := alloc_cellL y1; have q2 : (w7.alloc s7Z).cell? ⟨w.heap.size, 2, none⟩ = some (.int .i64 (o : Int)) := alloc_cellL y2; have D7 := hid (N7.mkA (base := base) (lim := lim) (o := o) (ga := ga) (gc := gc) K0.out Y0.out hgs.kp); clear hgs)
      | (go_at_call 84; (with_reducible refine NB.out.mono ?_); rintro e w7 ⟨ga, gc, rfl, hgs⟩; obtain ⟨y0, y1, y2⟩ := cfg3 ((hgs.kp.block _ (heap_lt Z1.out) (fun x => x)).trans Z1.out); obtain ⟨v0, v1, v2, v3, v4, v5, v6, v7, v8, vf⟩ := s7z ((hgs.kp.block _ (heap_lt ZY.out) (fun x => x)).trans ZY.out); have D7 := hid (N7.mkB (base := base) (lim := lim) (o := o) (ga := ga) (gc := gc) K0.out Y0.out hgs.kp); clear hgs)
      | fail)
    all_goals
      first | go_meet | (go_wp2_with fail; go_meet) | (simp only [Exit.then]; go_meet)
      case rel => exact ⟨_, _, _, rfl, D7⟩
  case rest =>
  obtain ⟨y, ga, gc, rfl, HC⟩ := hcut
  clear X0 Y0 K0 X1 Z1 NA NB x0 x1 x2 ZY Z2 z0 z1 z2
  go_wp2_with fail
  go_loopw [4] (fun i W => ∃ k : Nat, k ≤ 8 ∧ i = .int .i64 k ∧ Hid (∃ va vc, N7 w W base lim o ga gc y k (.slice va k vc))) (fun i _ => 8 - (intOf i).toNat)
  case atStart => exact ⟨0, by omega, rfl, ⟨none, 0, HC.out⟩⟩
  case round =>
    clear HC
    obtain ⟨k, hk, rfl, hR⟩ := hrel
    obtain ⟨va, vc, hR⟩ := hR.out
    have HR := hid hR
    obtain ⟨x0, x1, x2, x3, x4, x5, x6, x7, x8, fx⟩ := s7c hR.x
    clear hR
    by_cases hlt : k < 8
    · have hki : (k : Int) < 8 := by omega
      obtain ⟨g, cap, w', hap, hg2, hge, hkeep⟩ := push_isl HR.out.q (by omega)
      have hP := HR.out.push hg2 hkeep
      obtain ⟨z0, z1, z2, z3, z4, z5, z6, z7, z8, fz⟩ := s7c hP.1
      have D := hid hP.2
      have HAP := hid hap
      clear hap hg2 hkeep hP
      go_wp2_with (at_builtin; refine Lib.wpList_append_run _ rfl _ _ _ _ rfl (.slice va k vc) (.slice (some ⟨wr.heap.size, 0, none⟩) 1 1) rfl rfl _ _ (HAP.out _) ?_)
      exact ⟨⟨k + 1, by omega, by simp, ⟨_, _, D.out⟩⟩, by simp [intOf]; omega⟩
    · have hki : ¬ (k : Int) < 8 := by omega
      have hko : k = 8 := by omega
      subst hko
      obtain ⟨y0, y1, y2, y3, y4, y5, y6, y7, y8, fy⟩ := s7z HR.out.z
      have HF := hid (show ∀ u0 u1 u2 u3 u4 u5 u6 u7 u8, Kept none' w (((((((((wr.setCell ⟨w.heap.size + 1, 0, none⟩ u0).setCell ⟨w.heap.size + 1, 1, none⟩ u1).setCell ⟨w.heap.size + 1, 2, none⟩ u2).setCell ⟨w.heap.size + 1, 3, none⟩ u3).setCell ⟨w.heap.size + 1, 4, none⟩ u4).setCell ⟨w.heap.size + 1, 5, none⟩ u5).setCell ⟨w.heap.size + 1, 6, none⟩ u6).setCell ⟨w.heap.size + 1, 7, none⟩ u7).setCell ⟨w.heap.size + 1, 8, none⟩ u8) from fun u0 u1 u2 u3 u4 u5 u6 u7 u8 => by
        have nn : ¬ w.heap.size + 1 < w.heap.size := by omega
        exact ((((((((HR.out.q.kp.setNew (p := ⟨w.heap.size + 1, 0, none⟩) nn u0).setNew (p := ⟨w.heap.size + 1, 1, none⟩) nn u1).setNew (p := ⟨w.heap.size + 1, 2, none⟩) nn u2).setNew (p := ⟨w.heap.size + 1, 3, none⟩) nn u3).setNew (p := ⟨w.heap.size + 1, 4, none⟩) nn u4).setNew (p := ⟨w.heap.size + 1, 5, none⟩) nn u5).setNew (p := ⟨w.heap.size + 1, 6, none⟩) nn u6).setNew (p := ⟨w.heap.size + 1, 7, none⟩) nn u7).setNew (p := ⟨w.heap.size + 1, 8, none⟩) nn u8)
      clear HR
      go_wp2_with fail
      exact ⟨rfl, s7V base (lim : Int) (o : Int) (o : Int) 0 (.slice ga (o + 1) gc) (.slice none 0 0) (.slice none 0 0) (.slice va 8 vc), by simp [results, Tryz.results35, go_sem, y0, y1, y2, y3, y4, y5, y6, y7, y8], _, _, _, _, rfl, HF.out _ _ _ _ _ _ _ _ _⟩
end Go.Proofs.YtocpnddacdpnmaaGreatDoor
/- croftlaw7.begin. -/
namespace Go.Proofs.YtocpnddacdpnmaaGreatDoor
open Go.RowKit
set_option linter.unusedVariables false

/-- A world of croftlaw7 in memory. -/
abbrev w7O (base lim o lw sb : Nat) (fv lv pv qv : Value) (po pp : Int) : Obj := .cells #[.int .u64 (base : Int), .int .i64 (lim : Int), .int .i64 (o : Int), .pointer (some ⟨lw, 0, none⟩), .pointer (some ⟨sb, 0, none⟩), .int .u64 (base : Int), .int .i64 (lim : Int), .int .i64 (o : Int), .int .i64 po, .int .i64 pp, fv, lv, pv, qv] 40
def S0 : Sb := ⟨fun _ => none, fun _ => [], fun _ => []⟩
/-- What begin leaves. -/
def Beg7 (w : World) (base lim o : Nat) (e : Ending) (w' : World) : Prop := ∃ wb lw sb x fv lv pv qv, e = .returned (.pointer (some ⟨wb, 0, none⟩)) ∧ w'.heap[wb]? = some (w7O base lim o lw sb fv lv pv qv (o : Int) 0) ∧ w.heap.size ≤ wb ∧ SO w w' sb lw x ⟨fun _ => 0, newM o, fun _ => 0⟩ (fun _ => []) [] S0 (fun _ => -1) ∧ x.base = base ∧ x.R = 4096 * 2 ^ o ∧ x.lim = lim ∧ x.n = 0 ∧ x.o = o ∧ Kept none' w w' ∧ ¬ sown x sb wb
theorem PO.from {w w1 W lw x t fr ls} (k : Kept none' w w1) (h : PO w1 W lw x t fr ls) : PO w W lw x t fr ls := ⟨h.pl.from k, h.sf, h.st, h.bm⟩
set_option maxRecDepth 4000 in
set_option maxHeartbeats 4000000 in
theorem begin7_ok (base : Nat) (hb64 : base < 18446744073709551616) (lim o : Nat) (hl : lim ≤ 64) (ho : o ≤ 8) (hm : M.mayB base (lim : Int) (o : Int) = true) (hb4 : base % 4096 = 0) (w : World) (hT : Tab w) :
    Calls Tryz.prog 7 #[cfgV base (lim : Int) (o : Int)] w fun e w' => Beg7 w base lim o e w' := by
  have K0 := hid ((Kept.refl none' w).alloc (cfgO base (lim : Int) (o : Int)))
  have X0 := hid (heap_new w (cfgO base (lim : Int) (o : Int)))
  have MY := hid (fun W => M.May_any base hb64 (lim : Int) (o : Int) (by omega) (by omega) (by omega) (by omega) W)
  rw [hm] at MY
  have NW := hid (fun W => New6_ok base hb64 lim o hl ho hm W)
  have HT := hid hT
  clear hm hT
  go_enter Tryz.func7, Tryz.ntmps7
  obtain ⟨x0, x1, x2⟩ := cfg3 X0.out
  go_wp2_with fail
  refine (MY.out _).mono ?_
  rintro e w1 ⟨rfl, hk⟩
  have X1 := hid (((toK hk).block _ (heap_lt X0.out) (fun x => x)).trans X0.out)
  have K1 := hid (none_trans K0.out (toK hk))
  clear x0 x1 x2 hk X0 K0 MY
  obtain ⟨x0, x1, x2⟩ := cfg3 X1.out
  go_wp2_with fail
  refine (NW.out _).mono ?_
  rintro e w2 ⟨lw, x, rfl, hP, e1, e2, e3, e4, e5, e6⟩
  have P2 := hid (PO.from K1.out (New6_po o hP e4 e5 e6 (by rw [e1]; exact hb4)))
  have X2 := hid ((hP.kp.block _ (heap_lt X1.out) (fun x => x)).trans X1.out)
  have EX := hid (show x.base = base ∧ x.R = 4096 * 2 ^ o ∧ x.lim = lim ∧ x.n = 0 ∧ x.o = o ∧ x.P = fun _ => none from ⟨e1, e2, e3, e4, e5, e6⟩)
  clear hP e1 e2 e3 e4 e5 e6 x0 x1 x2 X1 NW
  have NS := hid (New7 P2.out HT.out)
  go_wp2_with fail
  refine NS.out.mono ?_
  rintro e w3 ⟨sb, rfl, hs, hk, hz⟩
  have S3 := hid hs
  have P3 := hid (P2.out.keep hk)
  have X3 := hid ((hk.block _ (heap_lt X2.out) (fun x => x)).trans X2.out)
  have O3 := hid (SO.new P3.out hs EX.out.2.2.2.2.2)
  clear hs hk hz NS X2 P2
  obtain ⟨x0, x1, x2⟩ := cfg3 X3.out
  have SP := hid (Space6 P3.out.pl)
  have MP := hid (Map6 P3.out.pl)
  have BP := hid (Buddy6 P3.out.pl)
  go_wp2_with fail
  refine SP.out.mono ?_
  rintro e w4 ⟨rfl, h4⟩
  replace h4 := h4.symm
  subst h4
  go_wp2_with fail
  refine MP.out.mono ?_
  rintro e w4 ⟨rfl, h4⟩
  replace h4 := h4.symm
  subst h4
  go_wp2_with fail
  refine BP.out.mono ?_
  rintro e w4 ⟨rfl, h4⟩
  replace h4 := h4.symm
  subst h4
  go_upto_region 9 with fail
  have KD := hid ((Kept.refl none' w3).drew)
  have X4 := hid ((KD.out.block _ (heap_lt X3.out) (fun x => x)).trans X3.out)
  have NR := hid (New7r base lim o ho w3.drew)
  clear x0 x1 x2 SP MP BP
  obtain ⟨x0, x1, x2⟩ := cfg3 X4.out
  go_region_held3 (fun w' => w'.cell? ⟨w.heap.size, 0, none⟩ = some (.int .u64 (base : Int)) ∧ w'.cell? ⟨w.heap.size, 1, none⟩ = some (.int .i64 (lim : Int)) ∧ w'.cell? ⟨w.heap.size, 2, none⟩ = some (.int .i64 (o : Int))) (first | with_reducible exact ⟨x0, x1, x2⟩ | with_reducible exact ⟨y0, y1, y2⟩ | with_reducible exact ⟨alloc_cellL y0, alloc_cellL y1, alloc_cellL y2⟩) (first
    | (go_at_call 35; (with_reducible refine NR.out.mono ?_); rintro e w5 ⟨ga, gc, qa, qc, rfl, hk⟩; have K5 := hid (none_trans KD.out hk); obtain ⟨y0, y1, y2⟩ := cfg3 ((hk.block _ (heap_lt X4.out) (fun x => x)).trans X4.out); clear hk)
    | fail)
  all_goals
    have D := hid (show (w5.alloc (w7O base lim o lw sb (.slice ga (o + 1) gc) (.slice none 0 0) (.slice none 0 0) (.slice qa 8 qc) (o : Int) 0)).heap[w5.heap.size]? = some (w7O base lim o lw sb (.slice ga (o + 1) gc) (.slice none 0 0) (.slice none 0 0) (.slice qa 8 qc) (o : Int) 0) ∧ w.heap.size ≤ w5.heap.size ∧ SO w (w5.alloc (w7O base lim o lw sb (.slice ga (o + 1) gc) (.slice none 0 0) (.slice none 0 0) (.slice qa 8 qc) (o : Int) 0)) sb lw x ⟨fun _ => 0, newM o, fun _ => 0⟩ (fun _ => []) [] S0 (fun _ => -1) ∧ x.base = base ∧ x.R = 4096 * 2 ^ o ∧ x.lim = lim ∧ x.n = 0 ∧ x.o = o ∧ Kept none' w (w5.alloc (w7O base lim o lw sb (.slice ga (o + 1) gc) (.slice none 0 0) (.slice none 0 0) (.slice qa 8 qc) (o : Int) 0)) ∧ ¬ sown x sb w5.heap.size from by
      obtain ⟨e1, e2, e3, e4, e5, e6⟩ := EX.out
      have k := K5.out.alloc (w7O base lim o lw sb (.slice ga (o + 1) gc) (.slice none 0 0) (.slice none 0 0) (.slice qa 8 qc) (o : Int) 0)
      have hs := heap_lt O3.out.sw.bx
      have h5 := K5.out.size
      have hz := P3.out.pl.kp.size
      exact ⟨heap_new w5 _, by omega, O3.out.keep k, e1, e2, e3, e4, e5, none_trans P3.out.pl.kp k, fun e => e.elim (fun e => by have := P3.out.pl.lt _ (.inl e); omega) (fun e => by omega)⟩)
    clear x0 x1 x2 y0 y1 y2
    go_wp2_with fail
    go_ret
    exact ⟨_, lw, sb, x, _, _, _, _, rfl, D.out⟩
end Go.Proofs.YtocpnddacdpnmaaGreatDoor
/- croftlaw7.begin of any Config. (Written by mksmg.py.) -/
namespace Go.Proofs.YtocpnddacdpnmaaGreatDoor
open Go.RowKit
set_option linter.unusedVariables false

theorem heap_set8 {w : World} {k : Nat} {cs : Array Value} {t : TypeId} {z : Nat × Nat} (h : w.heap[k]? = some (.cells cs t z)) (i : Nat) (u : Value) : (w.setCell ⟨k, i, none⟩ u).heap[k]? = some (.cells (cs.setIfInBounds i u) t z) := by
  obtain ⟨hlt, hk⟩ := Array.getElem?_eq_some_iff.1 h
  show (w.heap.modify k _)[k]? = _
  rw [Array.getElem?_eq_getElem (by rw [Array.size_modify]; exact hlt), Array.getElem_modify_self, hk]
  rfl
set_option maxRecDepth 4000 in
set_option maxHeartbeats 4000000 in
theorem begin7_bad (b0 : Nat) (hb064 : b0 < 18446744073709551616) (l0 o0 : Int) (l1 : -9223372036854775808 ≤ l0) (l2 : l0 ≤ 9223372036854775807) (o1 : -9223372036854775808 ≤ o0) (o2 : o0 ≤ 9223372036854775807) (hm0 : M.mayB b0 l0 o0 = false) (base lim o : Nat) (e0 : base = 65536) (e1 : lim = 1) (e2 : o = 1) (w : World) (hT : Tab w) :
    Calls Tryz.prog 7 #[cfgV b0 l0 o0] w fun e w' => Beg7 w base lim o e w' := by
  have hb64 : base < 18446744073709551616 := by omega
  have hl : lim ≤ 64 := by omega
  have ho : o ≤ 8 := by omega
  have hb4 : base % 4096 = 0 := by omega
  have hm : M.mayB base (lim : Int) (o : Int) = true := by subst e0 e1 e2; decide
  have K0 := hid ((Kept.refl none' w).alloc (cfgO b0 l0 o0))
  have X0 := hid (heap_new w (cfgO b0 l0 o0))
  have MY := hid (fun W => M.May_any b0 hb064 l0 o0 l1 l2 o1 o2 W)
  rw [hm0] at MY
  have NW := hid (fun W => New6_ok base hb64 lim o hl ho hm W)
  have HT := hid hT
  have E0 := hid e0
  have E1 := hid e1
  have E2 := hid e2
  clear hm hT e0 e1 e2
  go_enter Tryz.func7, Tryz.ntmps7
  obtain ⟨x0, x1, x2⟩ := cfg3 X0.out
  go_wp2_with fail
  refine (MY.out _).mono ?_
  rintro e w0 ⟨rfl, hk⟩
  have X1' := hid (((toK hk).block _ (heap_lt X0.out) (fun x => x)).trans X0.out)
  have K1' := hid (none_trans K0.out (toK hk))
  clear x0 x1 x2 hk X0 K0 MY
  obtain ⟨x0, x1, x2⟩ := cfg3 X1'.out
  have fz : ∀ j, w0.frozen? ⟨w.heap.size, j, none⟩ = false := fun j => by simp [World.frozen?, X1'.out]
  have hk := (((Kept.refl (fun x => x = w.heap.size) w0).setCell (p := ⟨w.heap.size, 0, none⟩) rfl (.int .u64 65536)).setCell (p := ⟨w.heap.size, 1, none⟩) rfl (.int .i64 1)).setCell (p := ⟨w.heap.size, 2, none⟩) rfl (.int .i64 1)
  have X1 := hid (show (((w0.setCell ⟨w.heap.size, 0, none⟩ (.int .u64 65536)).setCell ⟨w.heap.size, 1, none⟩ (.int .i64 1)).setCell ⟨w.heap.size, 2, none⟩ (.int .i64 1)).heap[w.heap.size]? = some (cfgO base (lim : Int) (o : Int)) from by
    rw [E0.out, E1.out, E2.out]
    have h1 : (w0.setCell ⟨w.heap.size, 0, none⟩ (.int .u64 65536)).heap[w.heap.size]? = some (cfgO 65536 l0 o0) := heap_set8 X1'.out 0 _
    generalize w0.setCell ⟨w.heap.size, 0, none⟩ (.int .u64 65536) = v1 at *
    have h2 : (v1.setCell ⟨w.heap.size, 1, none⟩ (.int .i64 1)).heap[w.heap.size]? = some (cfgO 65536 1 o0) := heap_set8 h1 1 _
    generalize v1.setCell ⟨w.heap.size, 1, none⟩ (.int .i64 1) = v2 at *
    exact heap_set8 h2 2 _)
  have K1 := hid (K1'.out.trans hk (fun _ _ e => e) (fun y hy e => absurd hy (by rw [e]; exact Nat.lt_irrefl _)))
  go_upto_region 3 with fail
  generalize ((w0.setCell ⟨w.heap.size, 0, none⟩ (.int .u64 65536)).setCell ⟨w.heap.size, 1, none⟩ (.int .i64 1)).setCell ⟨w.heap.size, 2, none⟩ (.int .i64 1) = w1 at *
  clear x0 x1 x2 hk X1' K1' fz
  obtain ⟨x0, x1, x2⟩ := cfg3 X1.out
  go_wp2_with fail
  refine (NW.out _).mono ?_
  rintro e w2 ⟨lw, x, rfl, hP, e1, e2, e3, e4, e5, e6⟩
  have P2 := hid (PO.from K1.out (New6_po o hP e4 e5 e6 (by rw [e1]; exact hb4)))
  have X2 := hid ((hP.kp.block _ (heap_lt X1.out) (fun x => x)).trans X1.out)
  have EX := hid (show x.base = base ∧ x.R = 4096 * 2 ^ o ∧ x.lim = lim ∧ x.n = 0 ∧ x.o = o ∧ x.P = fun _ => none from ⟨e1, e2, e3, e4, e5, e6⟩)
  clear hP e1 e2 e3 e4 e5 e6 x0 x1 x2 X1 NW
  have NS := hid (New7 P2.out HT.out)
  go_wp2_with fail
  refine NS.out.mono ?_
  rintro e w3 ⟨sb, rfl, hs, hk, hz⟩
  have S3 := hid hs
  have P3 := hid (P2.out.keep hk)
  have X3 := hid ((hk.block _ (heap_lt X2.out) (fun x => x)).trans X2.out)
  have O3 := hid (SO.new P3.out hs EX.out.2.2.2.2.2)
  clear hs hk hz NS X2 P2
  obtain ⟨x0, x1, x2⟩ := cfg3 X3.out
  have SP := hid (Space6 P3.out.pl)
  have MP := hid (Map6 P3.out.pl)
  have BP := hid (Buddy6 P3.out.pl)
  go_wp2_with fail
  refine SP.out.mono ?_
  rintro e w4 ⟨rfl, h4⟩
  replace h4 := h4.symm
  subst h4
  go_wp2_with fail
  refine MP.out.mono ?_
  rintro e w4 ⟨rfl, h4⟩
  replace h4 := h4.symm
  subst h4
  go_wp2_with fail
  refine BP.out.mono ?_
  rintro e w4 ⟨rfl, h4⟩
  replace h4 := h4.symm
  subst h4
  go_upto_region 9 with fail
  have KD := hid ((Kept.refl none' w3).drew)
  have X4 := hid ((KD.out.block _ (heap_lt X3.out) (fun x => x)).trans X3.out)
  have NR := hid (New7r base lim o ho w3.drew)
  clear x0 x1 x2 SP MP BP
  obtain ⟨x0, x1, x2⟩ := cfg3 X4.out
  go_region_held3 (fun w' => w'.cell? ⟨w.heap.size, 0, none⟩ = some (.int .u64 (base : Int)) ∧ w'.cell? ⟨w.heap.size, 1, none⟩ = some (.int .i64 (lim : Int)) ∧ w'.cell? ⟨w.heap.size, 2, none⟩ = some (.int .i64 (o : Int))) (first | with_reducible exact ⟨x0, x1, x2⟩ | with_reducible exact ⟨y0, y1, y2⟩ | with_reducible exact ⟨alloc_cellL y0, alloc_cellL y1, alloc_cellL y2⟩) (first
    | (go_at_call 35; (with_reducible refine NR.out.mono ?_); rintro e w5 ⟨ga, gc, qa, qc, rfl, hk⟩; have K5 := hid (none_trans KD.out hk); obtain ⟨y0, y1, y2⟩ := cfg3 ((hk.block _ (heap_lt X4.out) (fun x => x)).trans X4.out); clear hk)
    | fail)
  all_goals
    have D := hid (show (w5.alloc (w7O base lim o lw sb (.slice ga (o + 1) gc) (.slice none 0 0) (.slice none 0 0) (.slice qa 8 qc) (o : Int) 0)).heap[w5.heap.size]? = some (w7O base lim o lw sb (.slice ga (o + 1) gc) (.slice none 0 0) (.slice none 0 0) (.slice qa 8 qc) (o : Int) 0) ∧ w.heap.size ≤ w5.heap.size ∧ SO w (w5.alloc (w7O base lim o lw sb (.slice ga (o + 1) gc) (.slice none 0 0) (.slice none 0 0) (.slice qa 8 qc) (o : Int) 0)) sb lw x ⟨fun _ => 0, newM o, fun _ => 0⟩ (fun _ => []) [] S0 (fun _ => -1) ∧ x.base = base ∧ x.R = 4096 * 2 ^ o ∧ x.lim = lim ∧ x.n = 0 ∧ x.o = o ∧ Kept none' w (w5.alloc (w7O base lim o lw sb (.slice ga (o + 1) gc) (.slice none 0 0) (.slice none 0 0) (.slice qa 8 qc) (o : Int) 0)) ∧ ¬ sown x sb w5.heap.size from by
      obtain ⟨e1, e2, e3, e4, e5, e6⟩ := EX.out
      have k := K5.out.alloc (w7O base lim o lw sb (.slice ga (o + 1) gc) (.slice none 0 0) (.slice none 0 0) (.slice qa 8 qc) (o : Int) 0)
      have hs := heap_lt O3.out.sw.bx
      have h5 := K5.out.size
      have hz := P3.out.pl.kp.size
      exact ⟨heap_new w5 _, by omega, O3.out.keep k, e1, e2, e3, e4, e5, none_trans P3.out.pl.kp k, fun e => e.elim (fun e => by have := P3.out.pl.lt _ (.inl e); omega) (fun e => by omega)⟩)
    clear x0 x1 x2 y0 y1 y2
    go_wp2_with fail
    go_ret
    exact ⟨_, lw, sb, x, _, _, _, _, rfl, D.out⟩
/-- begin of any Config. -/
theorem begin7_any (b0 : Nat) (hb64 : b0 < 18446744073709551616) (l0 o0 : Int) (l1 : -9223372036854775808 ≤ l0) (l2 : l0 ≤ 9223372036854775807) (o1 : -9223372036854775808 ≤ o0) (o2 : o0 ≤ 9223372036854775807) (w : World) (hT : Tab w) :
    Calls Tryz.prog 7 #[cfgV b0 l0 o0] w fun e w' => ∃ base lim o, base % (4096 * 2 ^ o) = 0 ∧ Beg7 w base lim o e w' := by
  cases hm : M.mayB b0 l0 o0 with
  | true =>
    obtain ⟨hB, _⟩ := M.mayB_cfg hm
    unfold M.Bounds at hB
    have h2 := hm
    simp only [M.mayB, Bool.and_eq_true, decide_eq_true_eq] at h2
    have h3 := h2.2.1.2
    unfold M.RS at h3
    have hm4 : b0 % 4096 = 0 := Nat.mod_eq_zero_of_dvd (Nat.dvd_trans (Nat.dvd_mul_right _ _) (Nat.dvd_of_mod_eq_zero h3))
    obtain ⟨l, rfl⟩ := Int.eq_ofNat_of_zero_le (a := l0) (by omega)
    obtain ⟨o, rfl⟩ := Int.eq_ofNat_of_zero_le (a := o0) (by omega)
    exact (begin7_ok b0 hb64 l o (by omega) (by omega) hm hm4 w hT).mono fun e w' h => ⟨_, _, _, h3, h⟩
  | false =>
    exact (begin7_bad b0 hb64 l0 o0 l1 l2 o1 o2 hm 65536 1 1 rfl rfl rfl w hT).mono fun e w' h => ⟨_, _, _, by decide, h⟩
end Go.Proofs.YtocpnddacdpnmaaGreatDoor
/- croftlaw7.ints of the same numbers. -/
namespace Go.Proofs.YtocpnddacdpnmaaGreatDoor
open Go.RowKit
set_option linter.unusedVariables false

theorem Kept.drewK {S : Nat → Prop} {w w' : World} (k : Kept S w w') : ∀ d, Kept S w (w'.drewN d)
  | 0 => k
  | d + 1 => (Kept.drewK k d).drew
/-- Numbers that lie in a row. -/
def NumC (W : World) (b : Nat) (n : Nat) (f : Nat → Int) : Prop := ∀ j, j < n → W.cell? ⟨b, j, none⟩ = some (.int .i64 (f j))
set_option maxRecDepth 4000 in
theorem ints7 (a b : Nat) (n ca cb : Nat) (f : Nat → Int) (hn : n ≤ 2000) (W : World) (ha : NumC W a n f) (hb : NumC W b n f) :
    Calls Tryz.prog 10 #[.slice (some ⟨a, 0, none⟩) n ca, .slice (some ⟨b, 0, none⟩) n cb] W fun e w' => e = .returned (.bool true) ∧ Kept none' W w' := by
  have HA := hid ha
  have HB := hid hb
  clear ha hb
  go_enter Tryz.func10, Tryz.ntmps10
  go_wp2
  go_loopw [5] (fun i wr => ∃ k : Nat, k ≤ n ∧ i = .int .i64 k ∧ ∃ d, wr = W.drewN d) (fun i _ => n - (intOf i).toNat)
  case atStart => exact ⟨0, by omega, rfl, 0, rfl⟩
  case round =>
    obtain ⟨k, hk, rfl, d, rfl⟩ := hrel
    by_cases hlt : k < n
    · have hca := HA.out k hlt
      have hcb := HB.out k hlt
      generalize f k = v at *
      have hik : (k : Int) < (n : Int) := by omega
      clear HA HB
      go_wp2
      go_quiet (fail)
      go_wp2
      exact ⟨⟨k + 1, by omega, by simp, _, rfl⟩, by simp [intOf]; omega⟩
    · have hik : ¬ (k : Int) < (n : Int) := by omega
      have D := hid (Kept.drewK (Kept.refl none' W) d)
      clear HA HB
      go_wp2
      go_ret
      exact ⟨rfl, D.out⟩
end Go.Proofs.YtocpnddacdpnmaaGreatDoor
/- croftlaw7.lives. -/
namespace Go.Proofs.YtocpnddacdpnmaaGreatDoor
open Go.RowKit
set_option linter.unusedVariables false

theorem w7c {W : World} {y base lim o lw sb : Nat} {fv lv pv qv : Value} {po pp : Int} (h : W.heap[y]? = some (w7O base lim o lw sb fv lv pv qv po pp)) : W.cell? ⟨y, 3, none⟩ = some (.pointer (some ⟨lw, 0, none⟩)) ∧ W.cell? ⟨y, 4, none⟩ = some (.pointer (some ⟨sb, 0, none⟩)) := by
  refine ⟨?_, ?_⟩ <;> simp [World.cell?, h]
/-- A world of {65536, 1, 1} at its beginning. -/
theorem Beg7.ks {w w' : World} {e : Ending} (h : Beg7 w 65536 1 1 e w') : ∃ wb lw sb fv lv pv qv, e = .returned (.pointer (some ⟨wb, 0, none⟩)) ∧ w'.heap[wb]? = some (w7O 65536 1 1 lw sb fv lv pv qv 1 0) ∧ KS7 w w' (fun y => y = wb) sb lw 0 [] [] [] S0 ∧ Kept none' w w' ∧ w.heap.size ≤ wb := by
  obtain ⟨wb, lw, sb, x, fv, lv, pv, qv, h1, h2, h3, h4, h5, h6, h7, h8, h9, h10, h11⟩ := h
  refine ⟨wb, lw, sb, fv, lv, pv, qv, h1, h2, ⟨x, _, _, _, h4, Lve.none, fun y hy => ?_, h5, h7, h9, h6, h8, rfl, rfl⟩, h10, h3⟩
  rw [show y = wb from hy]
  exact ⟨heap_lt h2, h11⟩
theorem KS7.heads {w W E sb lw n f0 f1 ls S} (s : KS7 w W E sb lw n f0 f1 ls S) :
    Calls Tryz.prog 11 #[.pointer (some ⟨sb, 0, none⟩)] W fun e w' => ∃ b, e = .returned (.slice (some ⟨b, 0, none⟩) 8 8) ∧ NumC w' b 8 (fun j => hdI (S.pl j)) ∧ Kept none' W w' ∧ W.heap.size ≤ b := by
  obtain ⟨x, t, fr, h, o, v, hE, r⟩ := s
  refine (Partial_s o.sw).mono ?_
  rintro e w' ⟨b, rfl, hb, kp, hz⟩
  refine ⟨b, rfl, fun j hj => ?_, kp, hz⟩
  have hd := o.hd
  rcases (show j = 0 ∨ j = 1 ∨ j = 2 ∨ j = 3 ∨ j = 4 ∨ j = 5 ∨ j = 6 ∨ j = 7 by omega) with rfl | rfl | rfl | rfl | rfl | rfl | rfl | rfl <;> (simp [World.cell?, hb]; exact hd _ (by decide))
theorem NumC.keep {W W' : World} {b n : Nat} {f : Nat → Int} (h : NumC W b n f) (k : Kept none' W W') : NumC W' b n f := fun j hj => k.cell (fun e => e) (h j hj)
theorem KS7.open {w W E sb lw n f0 f1 ls S} (s : KS7 w W E sb lw n f0 f1 ls S) (hT : Tab w) (b : Nat) (hb : NumC W b 8 (fun j => hdI (S.pl j))) :
    Calls Tryz.prog 36 #[.pointer (some ⟨lw, 0, none⟩), .slice (some ⟨b, 0, none⟩) 8 8] W fun e w' => ∃ sb2, e = .returned (.tuple #[.pointer (some ⟨sb2, 0, none⟩), .int .i64 0]) ∧ KS7 w w' E sb2 lw n f0 f1 ls S ∧ KS7 w w' E sb lw n f0 f1 ls S ∧ Kept none' W w' := by
  have s0 := s
  obtain ⟨x, t, fr, h, o, v, hE, r⟩ := s
  refine (Open7 o.po hT ⟨b, 0, none⟩ 8 (fun j => hdI (S.pl j)) (fun j hj => ?_)).mono ?_
  · have := hb j hj
    rw [show (⟨b, 0, none⟩ : Addr).add j = ⟨b, j, none⟩ from by
      cases j with
      | zero => rfl
      | succ j => simp [Addr.add]]
    exact this
  · rintro e w' ⟨sb2, rfl, sw, kp, hz⟩
    have o2 := o.keep kp
    refine ⟨sb2, rfl, ⟨x, t, fr, _, ⟨sw, o2.sf, o2.st, o2.bm, o2.si, fun k hk => rfl⟩, v, fun y hy => ⟨Nat.lt_of_lt_of_le (hE y hy).1 kp.size, fun e => e.elim (fun e => (hE y hy).2 (.inl e)) (fun e => absurd (hE y hy).1 (by omega))⟩, r⟩, s0.keep kp, kp⟩
end Go.Proofs.YtocpnddacdpnmaaGreatDoor
/- croftlaw7.lives. -/
namespace Go.Proofs.YtocpnddacdpnmaaGreatDoor
open Go.RowKit
set_option linter.unusedVariables false

def S1 : Sb := takS (freS S0 0 7) 0 7 (List.range' 1 (ncl 7 - 1))
def S2 : Sb := takS S1 0 7 []
theorem S1_pl : S1.pl 7 = [0] := by decide
theorem S1_fl : S1.fl 0 = [1] := by decide
theorem S2_no : ∀ g k i, ¬ Lv7 S2 67585 g k i := by
  rintro g k i ⟨h1, h2, h3, h4⟩
  by_cases e : g = 0
  · subst e
    have e2 : S2.c 0 = some 7 := rfl
    rw [e2] at h1
    cases h1
    rw [show szC 7 = 2048 by decide] at h4
    omega
  · have e2 : S2.c g = none := by
      show updF S0.c 0 (some 7) g = none
      rw [updF_ne _ _ e]
      rfl
    rw [e2] at h1
    cases h1
set_option maxRecDepth 8000 in
set_option maxHeartbeats 8000000 in
theorem lives7 (w : World) (hT : Tab w) :
    Calls Tryz.prog 8 #[] w fun e w' => e = .returned (.bool true) ∧ Kept none' w w' := by
  have BG := hid (begin7_ok 65536 (by decide) 1 1 (by decide) (by decide) (by decide) (by decide) w hT)
  have HT := hid hT
  clear hT
  go_enter Tryz.func8, Tryz.ntmps8
  go_wp2_with fail
  refine BG.out.mono ?_
  rintro e w1 hB
  obtain ⟨wb, lw, sb, fv, lv, pv, qv, rfl, hx, hks, hk, hz⟩ := hB.ks
  have X1 := hid hx
  have S1' := hid hks
  have K1 := hid hk
  have HZ := hid hz
  obtain ⟨c3, c4⟩ := w7c hx
  clear hB hx hks hk hz BG
  have T1 := hid (S1'.out.stuck 0 (by decide) rfl true (.inl rfl))
  go_wp2_with fail
  refine T1.out.mono ?_
  rintro e w2 ⟨rfl, hs, hk⟩
  have X2 := hid ((hk.block _ (heap_lt X1.out) (fun e => e)).trans X1.out)
  have K2 := hid (none_trans K1.out hk)
  have T2 := hid (hs.grow 7 (by decide) rfl)
  clear hs hk c3 c4 T1
  obtain ⟨c3, c4⟩ := w7c X2.out
  go_wp2_with fail
  refine T2.out.mono ?_
  rintro e w3 ⟨rfl, hs, hk⟩
  have X3 := hid ((hk.block _ (heap_lt X2.out) (fun e => e.1 rfl)).trans X2.out)
  have K3 := hid (K2.out.trans hk (fun _ _ e => e) (fun y hy e => absurd hy (Nat.not_lt.2 e.2)))
  have T3 := hid (hs.old 7 (by decide) S1_pl S1_fl false)
  rw [show 65536 + 4096 * 0 + 1 * szC 7 = 67584 by decide] at T3
  clear hs hk c3 c4 T2
  obtain ⟨c3, c4⟩ := w7c X3.out
  go_wp2_with fail
  refine T3.out.mono ?_
  rintro e w4 ⟨rfl, hs, hk⟩
  have X4 := hid ((hk.block _ (heap_lt X3.out) (fun e => e.1 rfl)).trans X3.out)
  have K4 := hid (K3.out.trans hk (fun _ _ e => e) (fun y hy e => absurd hy (Nat.not_lt.2 e.2)))
  have S4 := hid hs
  clear hs hk c3 c4 T3
  go_upto_region 7 with fail
  have KD := hid ((Kept.refl none' w4).drew)
  have X5 := hid ((KD.out.block _ (heap_lt X4.out) (fun e => e)).trans X4.out)
  have S5 := hid (S4.out.keep KD.out)
  have HP := hid S5.out.heads
  obtain ⟨c3, c4⟩ := w7c X5.out
  go_region_held3 (fun w' => w'.cell? ⟨wb, 3, none⟩ = some (.pointer (some ⟨lw, 0, none⟩)) ∧ w'.cell? ⟨wb, 4, none⟩ = some (.pointer (some ⟨sb, 0, none⟩))) ((refine ⟨?_, ?_⟩ <;> first | with_reducible assumption | fail)) (first
    | (go_at_call 11; (with_reducible refine HP.out.mono ?_); rintro e w5 ⟨b, rfl, hb, hk5, hz5⟩; have K5 := hid (none_trans KD.out hk5); have X6 := hid ((hk5.block _ (heap_lt X5.out) (fun e => e)).trans X5.out); obtain ⟨f3, f4⟩ := w7c X6.out; have OP := hid ((S5.out.keep hk5).open HT.out b hb); clear hb hk5 hz5)
    | (go_at_call 36; (with_reducible refine OP.out.mono ?_); rintro e w6 ⟨sb2, rfl, hs2, hs1, hk6⟩; have K6 := hid (none_trans K4.out (none_trans K5.out hk6)); have X7 := hid ((hk6.block _ (heap_lt X6.out) (fun e => e)).trans X6.out); have Q2 := hid hs2; have Q1 := hid hs1; obtain ⟨g3, g4⟩ := w7c X7.out; clear hs2 hs1 hk6)
    | fail)
  all_goals
    clear c3 c4 f3 f4 HP OP
    go_upto_region 8 with fail
    have KE := hid ((Kept.refl none' w6).drew)
    have X8 := hid ((KE.out.block _ (heap_lt X7.out) (fun e => e)).trans X7.out)
    have PA := hid (show ∀ W', Kept none' w6 W' → Calls Tryz.prog 11 #[.pointer (some ⟨sb, 0, none⟩)] W' fun e w' => ∃ b, e = .returned (.slice (some ⟨b, 0, none⟩) 8 8) ∧ NumC w' b 8 (fun j => hdI (S2.pl j)) ∧ Kept none' W' w' ∧ Kept none' w6 w' from fun W' k => (Q1.out.keep k).heads.mono fun e w' ⟨b, h1, h2, h3, _⟩ => ⟨b, h1, h2, h3, none_trans k h3⟩)
    have PB := hid (show ∀ W', Kept none' w6 W' → Calls Tryz.prog 11 #[.pointer (some ⟨sb2, 0, none⟩)] W' fun e w' => ∃ b, e = .returned (.slice (some ⟨b, 0, none⟩) 8 8) ∧ NumC w' b 8 (fun j => hdI (S2.pl j)) ∧ Kept none' W' w' ∧ Kept none' w6 w' from fun W' k => (Q2.out.keep k).heads.mono fun e w' ⟨b, h1, h2, h3, _⟩ => ⟨b, h1, h2, h3, none_trans k h3⟩)
    obtain ⟨c3, c4⟩ := w7c X8.out
    clear g3 g4
    go_region_held3 (fun w' => w'.cell? ⟨wb, 4, none⟩ = some (.pointer (some ⟨sb, 0, none⟩))) (first | with_reducible assumption | fail) (first
      | (go_at_call 11; (with_reducible refine (PB.out _ KE.out).mono ?_); rintro e wB ⟨b2, rfl, hb, hk, hk6⟩; have N2 := hid hb; have KB := hid hk6; obtain ⟨i3, i4⟩ := w7c ((hk6.block _ (heap_lt X7.out) (fun e => e)).trans X7.out); clear hb hk hk6)
      | (go_at_call 11; (with_reducible refine (PA.out _ KE.out).mono ?_); rintro e wA ⟨b1, rfl, hb, hk, hk6⟩; have N1 := hid hb; have KA := hid hk6; obtain ⟨j3, j4⟩ := w7c ((hk6.block _ (heap_lt X7.out) (fun e => e)).trans X7.out); clear hb hk hk6)
      | (go_at_call 11; (with_reducible refine (PA.out _ KB.out).mono ?_); rintro e wA ⟨b1, rfl, hb, hk, hk6⟩; have N1 := hid hb; have KA := hid hk6; have M2 := hid (N2.out.keep hk); obtain ⟨j3, j4⟩ := w7c ((hk6.block _ (heap_lt X7.out) (fun e => e)).trans X7.out); clear hb hk hk6)
      | (go_at_call 11; (with_reducible refine (PB.out _ KA.out).mono ?_); rintro e wB ⟨b2, rfl, hb, hk, hk6⟩; have N2 := hid hb; have KB := hid hk6; have M1 := hid (N1.out.keep hk); obtain ⟨i3, i4⟩ := w7c ((hk6.block _ (heap_lt X7.out) (fun e => e)).trans X7.out); clear hb hk hk6)
      | (go_at_call 10; (with_reducible refine (ints7 b2 b1 8 8 8 _ (by decide) _ M2.out N1.out).mono ?_); rintro e w8 ⟨rfl, hk8⟩; have K8 := hid (none_trans KA.out hk8); obtain ⟨l3, l4⟩ := w7c ((K8.out.block _ (heap_lt X7.out) (fun e => e)).trans X7.out); clear hk8)
      | (go_at_call 10; (with_reducible refine (ints7 b2 b1 8 8 8 _ (by decide) _ N2.out M1.out).mono ?_); rintro e w8 ⟨rfl, hk8⟩; have K8 := hid (none_trans KB.out hk8); obtain ⟨l3, l4⟩ := w7c ((K8.out.block _ (heap_lt X7.out) (fun e => e)).trans X7.out); clear hk8)
      | fail)
    all_goals
      have Z1 := hid ((Q1.out.keep K8.out).size_yes (a := 67584) (g := 0) (k := 7) (i := 1) ⟨rfl, by decide, by decide, by decide⟩)
      have K9 := hid (none_trans K6.out K8.out)
      rw [show szC 7 = 2048 by decide] at Z1
      clear c3 c4
      go_wp2_with fail
      refine Z1.out.mono ?_
      rintro e w9 ⟨rfl, hs9, hk9⟩
      have L9 := hid ((K8.out.block _ (heap_lt X7.out) (fun e => e)).trans X7.out)
      obtain ⟨m3, m4⟩ := w7c ((hk9.block _ (heap_lt L9.out) (fun e => e)).trans L9.out)
      have Z2 := hid (hs9.size_no 67585 (by decide) S2_no)
      have K10 := hid (none_trans K9.out hk9)
      clear hs9 hk9
      go_wp2_with fail
      refine Z2.out.mono ?_
      rintro e w10 ⟨rfl, hs10, hk10⟩
      have D := hid (none_trans K10.out hk10)
      clear hs10 hk10
      go_wp2_with fail
      go_ret
      exact ⟨rfl, D.out⟩
end Go.Proofs.YtocpnddacdpnmaaGreatDoor
