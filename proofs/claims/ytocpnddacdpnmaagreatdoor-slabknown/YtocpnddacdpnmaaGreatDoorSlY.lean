/- croftref5.New, croftref7.New. -/
import Derived.Test.YtocpnddacdpnmaaGreatDoorSlv
namespace Go.Proofs.YtocpnddacdpnmaaGreatDoor
open Go.RowKit
set_option linter.unusedVariables false

abbrev r5V (o p : Int) (fv lv : Value) : Value := .agg #[.int .i64 o, .int .i64 p, fv, lv]
abbrev r5O (o p : Int) (fv lv : Value) : Obj := .cells #[.int .i64 o, .int .i64 p, fv, lv] 35
theorem r5c {w : World} {x : Nat} {o p : Int} {fv lv : Value} (h : w.heap[x]? = some (r5O o p fv lv)) : w.cell? ⟨x, 0, none⟩ = some (.int .i64 o) ∧ w.cell? ⟨x, 1, none⟩ = some (.int .i64 p) ∧ w.cell? ⟨x, 2, none⟩ = some fv ∧ w.cell? ⟨x, 3, none⟩ = some lv ∧ ∀ j, w.frozen? ⟨x, j, none⟩ = false := by
  refine ⟨?_, ?_, ?_, ?_, fun j => ?_⟩ <;> simp [World.cell?, World.frozen?, h]
theorem info_isl : (Tryz.prog.info? 43).map (fun i => (i.zero, i.size, i.bytes)) = some (some (.slice none 0 0), 1, 24) := by kernel_rfl
theorem push_isl {w0 W : World} {v : Value} {n : Nat} {xs : List Value} (h : GS w0 W 43 1 v n xs) (hn : n ≤ 2000) :
    ∃ g cap w', (∀ ty, (Builtin.append_ #[32, 32] ty #[v, .slice (some ⟨W.heap.size, 0, none⟩) 1 1]).run Tryz.prog (W.alloc (.cells #[.slice none 0 0] 43)) = .ok (.slice (some ⟨g, 0, none⟩) (n + 1) cap) w') ∧ GS w0 w' 43 1 (.slice (some ⟨g, 0, none⟩) (n + 1) cap) (n + 1) (xs ++ [.slice none 0 0]) ∧ w0.heap.size ≤ g ∧ (∀ x, v.ownBlock ≠ some x → ∀ o, W.heap[x]? = some o → w'.heap[x]? = some o) := by
  obtain ⟨i, hi, hzz⟩ := Option.map_eq_some_iff.1 info_isl
  simp only [Prod.mk.injEq] at hzz
  have ka := (Kept.refl none' W).alloc (.cells #[.slice none 0 0] 43)
  obtain ⟨g, cap, w', h1, h2, h5, h4⟩ := (h.keep ka).push 32 i (.slice none 0 0) 24 Tryz.underlying32 hi hzz.1 hzz.2.1 hzz.2.2 rfl (by decide) ⟨W.heap.size, 0, none⟩ 1 [.slice none 0 0] rfl (fun j u hj => cells_new (cs := #[.slice none 0 0]) j u hj) (by simp [Value.oneCell']) (by simp only [maxLen]; omega) (by omega)
  exact ⟨g, cap, w', h1, h2, h5, fun x hx o ho => h4 x hx o ((ka.block x (heap_lt ho) (fun x => x)).trans ho)⟩
/-- While the rows are made. -/
structure N5x (w W : World) (o k : Nat) (v : Value) : Prop where
  y : W.heap[w.heap.size]? = some (r5O 0 0 (.slice none 0 0) (.slice none 0 0))
  x : W.heap[w.heap.size + 1]? = some (r5O (o : Int) 0 v (.slice none 0 0))
  gs : GS w W 43 1 v k (List.replicate k (.slice none 0 0))
  kp : Kept none' w W
/-- What New answers. -/
def New5Q (w : World) (o : Nat) (e : Ending) (w' : World) : Prop := ∃ ga gc, e = .returned (r5V (o : Int) 0 (.slice ga (o + 1) gc) (.slice none 0 0)) ∧ GS w w' 43 1 (.slice ga (o + 1) gc) (o + 1) (List.replicate (o + 1) (.slice none 0 0))
set_option maxRecDepth 4000 in
theorem New5x (o : Nat) (ho : o ≤ 8) (w : World) :
    Calls Tryz.prog 84 #[.int .i64 (o : Int)] w fun e w' => New5Q w o e w' := by
  have T2 := two5 w (r5O 0 0 (.slice none 0 0) (.slice none 0 0)) (r5O (o : Int) 0 (.slice none 0 0) (.slice none 0 0))
  have H0 := hid (show N5x w ((w.alloc (r5O 0 0 (.slice none 0 0) (.slice none 0 0))).alloc (r5O (o : Int) 0 (.slice none 0 0) (.slice none 0 0))) o 0 (.slice none 0 0) from ⟨T2.2.1, T2.2.2, GS.nil _ _ _ _ T2.1, T2.1⟩)
  clear T2
  go_enter Tryz.func84, Tryz.ntmps84
  go_wp2_with fail
  go_loopw [4] (fun i W => ∃ k : Nat, k ≤ o + 1 ∧ i = .int .i64 k ∧ Hid (∃ va vc, N5x w W o k (.slice va k vc))) (fun i _ => o + 1 - (intOf i).toNat)
  case atStart => exact ⟨0, by omega, rfl, ⟨none, 0, H0.out⟩⟩
  case round =>
    clear H0
    obtain ⟨k, hk, rfl, hR⟩ := hrel
    obtain ⟨va, vc, hR⟩ := hR.out
    have HR := hid hR
    obtain ⟨x0, x1, x2, x3, fx⟩ := r5c hR.x
    clear hR
    by_cases hlt : k ≤ o
    · have hki : (k : Int) ≤ (o : Int) := by omega
      have hgs := HR.out.gs
      obtain ⟨g, cap, w', hap, hg2, hge, hkeep⟩ := push_isl hgs (by omega)
      have hy' := hkeep w.heap.size (fun e => by
        rcases hgs.own.2 with ⟨h0, _⟩ | ⟨g2, c2, cur, h0, hb2, hgg, _⟩
        · rw [h0] at e; simp [Value.ownBlock] at e
        · rw [h0] at e; simp [Value.ownBlock] at e
          exact ty_ne hgg HR.out.y (by decide) e) _ HR.out.y
      have hx' := hkeep (w.heap.size + 1) (fun e => by
        rcases hgs.own.2 with ⟨h0, _⟩ | ⟨g2, c2, cur, h0, hb2, hgg, _⟩
        · rw [h0] at e; simp [Value.ownBlock] at e
        · rw [h0] at e; simp [Value.ownBlock] at e
          exact ty_ne hgg HR.out.x (by decide) e) _ HR.out.x
      obtain ⟨z0, z1, z2, z3, fz⟩ := r5c hx'
      have D := hid (show N5x w (w'.setCell ⟨w.heap.size + 1, 2, none⟩ (.slice (some ⟨g, 0, none⟩) (k + 1) cap)) o (k + 1) (.slice (some ⟨g, 0, none⟩) (k + 1) cap) from by
        have ks : Kept (fun y => y = w.heap.size + 1) w' (w'.setCell ⟨w.heap.size + 1, 2, none⟩ (.slice (some ⟨g, 0, none⟩) (k + 1) cap)) := (Kept.refl (fun y => y = w.heap.size + 1) w').setCell (p := ⟨w.heap.size + 1, 2, none⟩) rfl _
        have g3 := hg2.keptN ks (fun y hy e => by
          rcases hg2.own.2 with ⟨h0, _⟩ | ⟨g2, c2, cur, h0, hb2, hgg, h3⟩
          · simp at h0
          · rw [h0] at hy
            simp [Value.ownBlock] at hy
            subst hy
            exact ty_ne hgg hx' (by decide) e) (fun y e => by omega)
        exact ⟨(ks.block _ (heap_lt hy') (by omega)).trans hy', heap_set hx' 2 _, by rw [List.replicate_succ']; exact g3, g3.kp⟩)
      have HAP := hid hap
      clear hap hg2 hkeep hgs hy' hx'
      go_wp2_with (at_builtin; refine Lib.wpList_append_run _ rfl _ _ _ _ rfl (.slice va k vc) (.slice (some ⟨wr.heap.size, 0, none⟩) 1 1) rfl rfl _ _ (HAP.out _) ?_)
      exact ⟨⟨k + 1, by omega, by simp, ⟨_, _, D.out⟩⟩, by simp [intOf]; omega⟩
    · have hki : ¬ (k : Int) ≤ (o : Int) := by omega
      have hko : k = o + 1 := by omega
      obtain ⟨y0, y1, y2, y3, fy⟩ := r5c HR.out.y
      subst hko
      have HFL := hid (show ∀ u0 u1 u2 u3, GS w ((((wr.setCell ⟨w.heap.size, 0, none⟩ u0).setCell ⟨w.heap.size, 1, none⟩ u1).setCell ⟨w.heap.size, 2, none⟩ u2).setCell ⟨w.heap.size, 3, none⟩ u3) 43 1 (.slice va (o + 1) vc) (o + 1) (List.replicate (o + 1) (.slice none 0 0)) from fun u0 u1 u2 u3 => by
        have ks : Kept (fun y => y = w.heap.size) wr ((((wr.setCell ⟨w.heap.size, 0, none⟩ u0).setCell ⟨w.heap.size, 1, none⟩ u1).setCell ⟨w.heap.size, 2, none⟩ u2).setCell ⟨w.heap.size, 3, none⟩ u3) := ((((Kept.refl (fun y => y = w.heap.size) wr).setCell (p := ⟨w.heap.size, 0, none⟩) rfl u0).setCell (p := ⟨w.heap.size, 1, none⟩) rfl u1).setCell (p := ⟨w.heap.size, 2, none⟩) rfl u2).setCell (p := ⟨w.heap.size, 3, none⟩) rfl u3
        refine HR.out.gs.keptN ks (fun y hy e => ?_) (fun y e => by omega)
        rcases HR.out.gs.own.2 with ⟨h0, _⟩ | ⟨g2, c2, cur, h0, hb2, hgg, h3⟩
        · rw [h0] at hy; simp [Value.ownBlock] at hy
        · rw [h0] at hy
          simp [Value.ownBlock] at hy
          subst hy
          exact ty_ne hgg HR.out.y (by decide) e)
      clear HR
      go_wp2_with fail
      exact ⟨rfl, r5V (o : Int) 0 (.slice va (o + 1) vc) (.slice none 0 0), by simp [results, Tryz.results84, go_sem, y0, y1, y2, y3], _, _, rfl, HFL.out _ _ _ _⟩
abbrev s7V (b : Nat) (l o po pp : Int) (fv lv pv qv : Value) : Value := .agg #[.int .u64 (b : Int), .int .i64 l, .int .i64 o, .int .i64 po, .int .i64 pp, fv, lv, pv, qv]
abbrev s7O (b : Nat) (l o po pp : Int) (fv lv pv qv : Value) : Obj := .cells #[.int .u64 (b : Int), .int .i64 l, .int .i64 o, .int .i64 po, .int .i64 pp, fv, lv, pv, qv] 38
theorem s7c {W : World} {y : Nat} {b : Nat} {l o po pp : Int} {fv lv pv qv : Value} (h : W.heap[y]? = some (s7O b l o po pp fv lv pv qv)) : W.cell? ⟨y, 0, none⟩ = some (.int .u64 (b : Int)) ∧ W.cell? ⟨y, 1, none⟩ = some (.int .i64 l) ∧ W.cell? ⟨y, 2, none⟩ = some (.int .i64 o) ∧ W.cell? ⟨y, 3, none⟩ = some (.int .i64 po) ∧ W.cell? ⟨y, 4, none⟩ = some (.int .i64 pp) ∧ W.cell? ⟨y, 5, none⟩ = some fv ∧ W.cell? ⟨y, 6, none⟩ = some lv ∧ W.cell? ⟨y, 7, none⟩ = some pv ∧ W.cell? ⟨y, 8, none⟩ = some qv ∧ ∀ j, W.frozen? ⟨y, j, none⟩ = false := by
  refine ⟨?_, ?_, ?_, ?_, ?_, ?_, ?_, ?_, ?_, fun j => ?_⟩ <;> simp [World.cell?, World.frozen?, h]
abbrev s7Z : Obj := .cells #[.int .u64 0, .int .i64 0, .int .i64 0, .int .i64 0, .int .i64 0, .slice none 0 0, .slice none 0 0, .slice none 0 0, .slice none 0 0] 38
theorem s7z {W : World} {y : Nat} (h : W.heap[y]? = some s7Z) : W.cell? ⟨y, 0, none⟩ = some (.int .u64 0) ∧ W.cell? ⟨y, 1, none⟩ = some (.int .i64 0) ∧ W.cell? ⟨y, 2, none⟩ = some (.int .i64 0) ∧ W.cell? ⟨y, 3, none⟩ = some (.int .i64 0) ∧ W.cell? ⟨y, 4, none⟩ = some (.int .i64 0) ∧ W.cell? ⟨y, 5, none⟩ = some (.slice none 0 0) ∧ W.cell? ⟨y, 6, none⟩ = some (.slice none 0 0) ∧ W.cell? ⟨y, 7, none⟩ = some (.slice none 0 0) ∧ W.cell? ⟨y, 8, none⟩ = some (.slice none 0 0) ∧ ∀ j, W.frozen? ⟨y, j, none⟩ = false := by
  refine ⟨?_, ?_, ?_, ?_, ?_, ?_, ?_, ?_, ?_, fun j => ?_⟩ <;> simp [World.cell?, World.frozen?, h]
end Go.Proofs.YtocpnddacdpnmaaGreatDoor
