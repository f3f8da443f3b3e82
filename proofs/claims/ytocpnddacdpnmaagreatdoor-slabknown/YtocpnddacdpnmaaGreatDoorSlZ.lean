/- croftref7.New: that it ends, and what it keeps. -/
import Derived.Test.YtocpnddacdpnmaaGreatDoorSlY
import Derived.Deep.RegionWith
namespace Go.Proofs.YtocpnddacdpnmaaGreatDoor
open Go.RowKit
set_option linter.unusedVariables false

theorem GS.from {w w1 W : World} {e : TypeId} {size : Nat} {v : Value} {n : Nat} {xs : List Value} (k : Kept none' w w1) (h : GS w1 W e size v n xs) : GS w W e size v n xs :=
  ⟨h.own, fun g cap hv => (h.new g cap hv).imp id (fun hg => Nat.le_trans k.size hg), none_trans k h.kp⟩
/-- While the rows are made. -/
structure N7 (w W : World) (base lim o : Nat) (ga : Option Addr) (gc y k : Nat) (v : Value) : Prop where
  z : W.heap[w.heap.size + 1]? = some s7Z
  x : W.heap[y]? = some (s7O base (lim : Int) (o : Int) (o : Int) 0 (.slice ga (o + 1) gc) (.slice none 0 0) (.slice none 0 0) v)
  yw : w.heap.size ≤ y ∧ y ≠ w.heap.size + 1
  q : GS w W 43 1 v k (List.replicate k (.slice none 0 0))
theorem N7.mkA {w W0 w7 : World} {base lim o gc : Nat} {ga : Option Addr} (K0 : Kept none' w W0) (Y0 : W0.heap[w.heap.size + 1]? = some s7Z) (kp : Kept none' W0.drew w7) : N7 w (w7.alloc (s7O base (lim : Int) (o : Int) (o : Int) 0 (.slice ga (o + 1) gc) (.slice none 0 0) (.slice none 0 0) (.slice none 0 0))) base lim o ga gc w7.heap.size 0 (.slice none 0 0) := by
  have k1 : Kept none' W0 w7 := none_trans (Kept.refl none' W0).drew kp
  have k2 := k1.alloc (s7O base (lim : Int) (o : Int) (o : Int) 0 (.slice ga (o + 1) gc) (.slice none 0 0) (.slice none 0 0) (.slice none 0 0))
  have h1 := heap_lt Y0
  have h2 := k1.size
  exact ⟨(k2.block _ h1 (fun e => e)).trans Y0, heap_new w7 _, by omega, GS.nil _ _ _ _ (none_trans K0 k2)⟩
theorem N7.mkB {w W0 w7 : World} {base lim o gc : Nat} {ga : Option Addr} (K0 : Kept none' w W0) (Y0 : W0.heap[w.heap.size + 1]? = some s7Z) (kp : Kept none' (W0.alloc s7Z).drew w7) : N7 w (((((((((w7.setCell ⟨W0.heap.size, 0, none⟩ (.int .u64 (base : Int))).setCell ⟨W0.heap.size, 1, none⟩ (.int .i64 (lim : Int))).setCell ⟨W0.heap.size, 2, none⟩ (.int .i64 (o : Int))).setCell ⟨W0.heap.size, 3, none⟩ (.int .i64 (o : Int))).setCell ⟨W0.heap.size, 4, none⟩ (.int .i64 0)).setCell ⟨W0.heap.size, 5, none⟩ (.slice ga (o + 1) gc)).setCell ⟨W0.heap.size, 6, none⟩ (.slice none 0 0)).setCell ⟨W0.heap.size, 7, none⟩ (.slice none 0 0)).setCell ⟨W0.heap.size, 8, none⟩ (.slice none 0 0)) base lim o ga gc W0.heap.size 0 (.slice none 0 0) := by
  have k1 : Kept none' W0 w7 := none_trans ((Kept.refl none' W0).alloc s7Z).drew kp
  have h1 := heap_lt Y0
  have hy : w7.heap[W0.heap.size]? = some s7Z := (kp.block _ (heap_lt (show (W0.alloc s7Z).drew.heap[W0.heap.size]? = some s7Z from heap_new W0 _)) (fun e => e)).trans (heap_new W0 _)
  have hz : w7.heap[w.heap.size + 1]? = some s7Z := (k1.block _ h1 (fun e => e)).trans Y0
  have ks := (((((((((Kept.refl (fun y => y = W0.heap.size) w7).setCell (p := ⟨W0.heap.size, 0, none⟩) rfl (.int .u64 (base : Int))).setCell (p := ⟨W0.heap.size, 1, none⟩) rfl (.int .i64 (lim : Int))).setCell (p := ⟨W0.heap.size, 2, none⟩) rfl (.int .i64 (o : Int))).setCell (p := ⟨W0.heap.size, 3, none⟩) rfl (.int .i64 (o : Int))).setCell (p := ⟨W0.heap.size, 4, none⟩) rfl (.int .i64 0)).setCell (p := ⟨W0.heap.size, 5, none⟩) rfl (.slice ga (o + 1) gc)).setCell (p := ⟨W0.heap.size, 6, none⟩) rfl (.slice none 0 0)).setCell (p := ⟨W0.heap.size, 7, none⟩) rfl (.slice none 0 0)).setCell (p := ⟨W0.heap.size, 8, none⟩) rfl (.slice none 0 0)
  have hk := K0.size
  refine ⟨(ks.block _ (heap_lt hz) (by omega)).trans hz, ?_, by omega, GS.nil _ _ _ _ ((none_trans K0 k1).trans ks (fun _ _ e => e) (fun y hy e => by omega))⟩
  have := heap_set (heap_set (heap_set (heap_set (heap_set (heap_set (heap_set (heap_set (heap_set hy 0 (.int .u64 (base : Int))) 1 (.int .i64 (lim : Int))) 2 (.int .i64 (o : Int))) 3 (.int .i64 (o : Int))) 4 (.int .i64 0)) 5 (.slice ga (o + 1) gc)) 6 (.slice none 0 0)) 7 (.slice none 0 0)) 8 (.slice none 0 0)
  simpa using this
theorem N7.push {w W w' : World} {base lim o gc y k g cap : Nat} {ga va : Option Addr} {vc : Nat} (h : N7 w W base lim o ga gc y k (.slice va k vc)) (hg2 : GS w w' 43 1 (.slice (some ⟨g, 0, none⟩) (k + 1) cap) (k + 1) (List.replicate k (.slice none 0 0) ++ [.slice none 0 0])) (hkeep : ∀ x, (Value.slice va k vc).ownBlock ≠ some x → ∀ o, W.heap[x]? = some o → w'.heap[x]? = some o) :
    w'.heap[y]? = some (s7O base (lim : Int) (o : Int) (o : Int) 0 (.slice ga (o + 1) gc) (.slice none 0 0) (.slice none 0 0) (.slice va k vc)) ∧ N7 w (w'.setCell ⟨y, 8, none⟩ (.slice (some ⟨g, 0, none⟩) (k + 1) cap)) base lim o ga gc y (k + 1) (.slice (some ⟨g, 0, none⟩) (k + 1) cap) := by
  have no : ∀ b ob, W.heap[b]? = some (.cells ob 38) → (Value.slice va k vc).ownBlock ≠ some b := fun b ob hb e => by
    rcases h.q.own.2 with ⟨h0, _⟩ | ⟨g2, c2, cur, h0, hb2, hgg, _⟩
    · rw [h0] at e; simp [Value.ownBlock] at e
    · rw [h0] at e; simp [Value.ownBlock] at e
      exact ty_ne hgg hb (by decide) e
  have hz' := hkeep _ (no _ _ h.z) _ h.z
  have hx' := hkeep _ (no _ _ h.x) _ h.x
  have ks : Kept (fun b => b = y) w' (w'.setCell ⟨y, 8, none⟩ (.slice (some ⟨g, 0, none⟩) (k + 1) cap)) := (Kept.refl (fun b => b = y) w').setCell (p := ⟨y, 8, none⟩) rfl _
  have g3 := hg2.keptN ks (fun b hb e => by
    rcases hg2.own.2 with ⟨h0, _⟩ | ⟨g2, c2, cur, h0, hb2, hgg, h3⟩
    · simp at h0
    · rw [h0] at hb
      simp [Value.ownBlock] at hb
      subst hb
      exact ty_ne hgg hx' (by decide) e) (fun b e => by rw [show b = y from e]; exact h.yw.1)
  refine ⟨hx', (ks.block _ (heap_lt hz') (fun e => h.yw.2 e.symm)).trans hz', ?_, h.yw, by rw [List.replicate_succ']; exact g3⟩
  have := heap_set hx' 8 (.slice (some ⟨g, 0, none⟩) (k + 1) cap)
  simpa using this
/-- What New answers. -/
def New7P (w : World) (base lim o : Nat) (e : Ending) (w' : World) : Prop := ∃ ga gc qa qc, e = .returned (s7V base (lim : Int) (o : Int) (o : Int) 0 (.slice ga (o + 1) gc) (.slice none 0 0) (.slice none 0 0) (.slice qa 8 qc)) ∧ Kept none' w w'
set_option maxRecDepth 4000 in
set_option maxHeartbeats 40000000 in
theorem New7r (base lim o : Nat) (ho : o ≤ 8) (w : World) :
    Calls Tryz.prog 35 #[cfgV base (lim : Int) (o : Int)] w fun e w' => New7P w base lim o e w' := by
  have X0 := hid (show ((w.alloc (cfgO base (lim : Int) (o : Int))).alloc s7Z).heap[w.heap.size]? = some (cfgO base (lim : Int) (o : Int)) from (two5 w _ _).2.1)
  have Y0 := hid (show ((w.alloc (cfgO base (lim : Int) (o : Int))).alloc s7Z).heap[w.heap.size + 1]? = some s7Z from (two5 w _ _).2.2)
  have K0 := hid (show Kept none' w ((w.alloc (cfgO base (lim : Int) (o : Int))).alloc s7Z) from (two5 w _ _).1)
  go_enter Tryz.func35, Tryz.ntmps35
  go_upto_region 1 with fail
  generalize (w.alloc (cfgO base (lim : Int) (o : Int))).alloc s7Z = W0 at *
  have X1 := hid (((Kept.refl none' W0).drew.block _ (heap_lt X0.out) (fun e => e)).trans X0.out)
  have Z1 := hid (show (W0.alloc s7Z).drew.heap[w.heap.size]? = some (cfgO base (lim : Int) (o : Int)) from ((((Kept.refl none' W0).alloc _).drew).block _ (heap_lt X0.out) (fun e => e)).trans X0.out)
  have NA := hid (New5x o ho W0.drew)
  have NB := hid (New5x o ho (W0.alloc s7Z).drew)
  obtain ⟨x0, x1, x2⟩ := cfg3 X0.out
  have ZY := hid (show (W0.alloc s7Z).drew.heap[W0.heap.size]? = some s7Z from heap_new W0 _)
  have Z2 := hid (show (W0.alloc s7Z).heap[w.heap.size]? = some (cfgO base (lim : Int) (o : Int)) from (((Kept.refl none' W0).alloc _).block _ (heap_lt X0.out) (fun e => e)).trans X0.out)
  obtain ⟨z0, z1, z2⟩ := cfg3 Z2.out
  go_cut [3] (fun s3 W => ∃ y ga gc, s3 = .pointer (some ⟨y, 0, none⟩) ∧ Hid (N7 w W base lim o ga gc y 0 (.slice none 0 0)))
  case first =>
    go_region_with (first
      | (go_at_call 84; (with_reducible refine NA.out.mono ?_); rintro e w7 ⟨ga, gc, rfl, hgs⟩; obtain ⟨y0, y1, y2⟩ := cfg3 ((hgs.kp.block _ (heap_lt X1.out) (fun x => x)).trans X1.out); have q0 : (w7.alloc s7Z).cell? ⟨w.heap.size, 0, none⟩ = some (.int .u64 (base : Int)) := alloc_cellL y0; have q1 : (w7.alloc s7Z).cell? ⟨w.heap.size, 1, none⟩ = some (.int .i64 (lim : Int)) := alloc_cellL y1; have q2 : (w7.alloc s7Z).cell? ⟨w.heap.size, 2, none⟩ = some (.int .i64 (o : Int)) := alloc_cellL y2; have D7 := hid (N7.mkA (base := base) (lim := lim) (o := o) (ga := ga) (gc := gc) K0.out Y0.out hgs.kp); clear hgs)
      | (go_at_call 84; (with_reducible refine NB.out.mono ?_); rintro e w7 ⟨ga, gc, rfl, hgs⟩; obtain ⟨y0, y1, y2⟩ := cfg3 ((hgs.kp.block _ (heap_lt Z1.out) (fun x => x)).trans Z1.out); obtain ⟨v0, v1, v2, v3, v4, v5, v6, v7, v8, vf⟩ := s7z ((hgs.kp.block _ (heap_lt ZY.out) (fun x => x)).trans ZY.out); have D7 := hid (N7.mkB (base := base) (lim := lim) (o := o) (ga := ga) (gc := gc) K0.out Y0.out hgs.kp); clear hgs)
      | fail)
    all_goals
      first | go_meet | (go_wp2_with fail; go_meet) | (simp only [Exit.then]; go_meet)
      case rel => exact ⟨_, _, _, rfl, D7⟩
  case rest =>
  obtain ⟨y, ga, gc, rfl, HC⟩ := hcut
  clear X0 Y0 K0 X1 Z1 NA NB x0 x1 x2 ZY Z2 z0 z1 z2
  go_wp2_with fail
  go_loopw [4] (fun i W => ∃ k : Nat, k ≤ 8 ∧ i = .int .i64 k ∧ Hid (∃ va vc, N7 w W base lim o ga gc y k (.slice va k vc))) (fun i _ => 8 - (intOf i).toNat)
  case atStart => exact ⟨0, by omega, rfl, ⟨none, 0, HC.out⟩⟩
  case round =>
    clear HC
    obtain ⟨k, hk, rfl, hR⟩ := hrel
    obtain ⟨va, vc, hR⟩ := hR.out
    have HR := hid hR
    obtain ⟨x0, x1, x2, x3, x4, x5, x6, x7, x8, fx⟩ := s7c hR.x
    clear hR
    by_cases hlt : k < 8
    · have hki : (k : Int) < 8 := by omega
      obtain ⟨g, cap, w', hap, hg2, hge, hkeep⟩ := push_isl HR.out.q (by omega)
      have hP := HR.out.push hg2 hkeep
      obtain ⟨z0, z1, z2, z3, z4, z5, z6, z7, z8, fz⟩ := s7c hP.1
      have D := hid hP.2
      have HAP := hid hap
      clear hap hg2 hkeep hP
      go_wp2_with (at_builtin; refine Lib.wpList_append_run _ rfl _ _ _ _ rfl (.slice va k vc) (.slice (some ⟨wr.heap.size, 0, none⟩) 1 1) rfl rfl _ _ (HAP.out _) ?_)
      exact ⟨⟨k + 1, by omega, by simp, ⟨_, _, D.out⟩⟩, by simp [intOf]; omega⟩
    · have hki : ¬ (k : Int) < 8 := by omega
      have hko : k = 8 := by omega
      subst hko
      obtain ⟨y0, y1, y2, y3, y4, y5, y6, y7, y8, fy⟩ := s7z HR.out.z
      have HF := hid (show ∀ u0 u1 u2 u3 u4 u5 u6 u7 u8, Kept none' w (((((((((wr.setCell ⟨w.heap.size + 1, 0, none⟩ u0).setCell ⟨w.heap.size + 1, 1, none⟩ u1).setCell ⟨w.heap.size + 1, 2, none⟩ u2).setCell ⟨w.heap.size + 1, 3, none⟩ u3).setCell ⟨w.heap.size + 1, 4, none⟩ u4).setCell ⟨w.heap.size + 1, 5, none⟩ u5).setCell ⟨w.heap.size + 1, 6, none⟩ u6).setCell ⟨w.heap.size + 1, 7, none⟩ u7).setCell ⟨w.heap.size + 1, 8, none⟩ u8) from fun u0 u1 u2 u3 u4 u5 u6 u7 u8 => by
        have nn : ¬ w.heap.size + 1 < w.heap.size := by omega
        exact ((((((((HR.out.q.kp.setNew (p := ⟨w.heap.size + 1, 0, none⟩) nn u0).setNew (p := ⟨w.heap.size + 1, 1, none⟩) nn u1).setNew (p := ⟨w.heap.size + 1, 2, none⟩) nn u2).setNew (p := ⟨w.heap.size + 1, 3, none⟩) nn u3).setNew (p := ⟨w.heap.size + 1, 4, none⟩) nn u4).setNew (p := ⟨w.heap.size + 1, 5, none⟩) nn u5).setNew (p := ⟨w.heap.size + 1, 6, none⟩) nn u6).setNew (p := ⟨w.heap.size + 1, 7, none⟩) nn u7).setNew (p := ⟨w.heap.size + 1, 8, none⟩) nn u8)
      clear HR
      go_wp2_with fail
      exact ⟨rfl, s7V base (lim : Int) (o : Int) (o : Int) 0 (.slice ga (o + 1) gc) (.slice none 0 0) (.slice none 0 0) (.slice va 8 vc), by simp [results, Tryz.results35, go_sem, y0, y1, y2, y3, y4, y5, y6, y7, y8], _, _, _, _, rfl, HF.out _ _ _ _ _ _ _ _ _⟩
end Go.Proofs.YtocpnddacdpnmaaGreatDoor
