/- RegionPlays: croftref6.Take. -/
import Derived.Test.YtggieolknccabaaGreatRxA
import Derived.Deep.DeepCutAuto
import Derived.Deep.CutBlock
namespace Go.Proofs.YtggieolknccabaaGreat
open Go.RowKit
set_option linter.unusedVariables false

/-- The blocks that a call on the document's own pool may write. -/
def S6 (g0 : Nat) (va : Option Addr) (y : Nat) : Prop := y = g0 ∨ va.map (fun a => a.block) = some y
/-- The document's own pool: its rows of lists, its live blocks. -/
structure R6 (N : Nat) (W : World) (g0 fc o : Nat) (fr : Nat → List Nat) (va : Option Addr) (vc : Nat) (ls : List (Nat × Nat)) : Prop where
  fl : FL W (some ⟨g0, 0, none⟩) fc o fr
  rn : RN W (.slice va ls.length vc) ls
  nf : N ≤ g0
  nv : ∀ y, va.map (fun a => a.block) = some y → N ≤ y
theorem R6.keep {N W W' g0 fc o fr va vc ls} (h : R6 N W g0 fc o fr va vc ls) (k : Kept none' W W') : R6 N W' g0 fc o fr va vc ls := ⟨h.fl.keep k, h.rn.keep k, h.nf, h.nv⟩
theorem R6.kept {N W W' g0 fc o fr va vc ls} {S : Nat → Prop} (h : R6 N W g0 fc o fr va vc ls) (k : Kept S W W') (h1 : ∀ y cs, W.heap[y]? = some (.cells cs 3 (0, 0)) → ¬ S y) (h2 : ∀ y cs, W.heap[y]? = some (.cells cs 89 (0, 0)) → ¬ S y) (h3 : ∀ y cs, W.heap[y]? = some (.cells cs 82 (0, 0)) → ¬ S y) : R6 N W' g0 fc o fr va vc ls := ⟨h.fl.kept k h1 h2, h.rn.kept k h3, h.nf, h.nv⟩
theorem ownBlock_map (va : Option Addr) (n c : Nat) : (Value.slice va n c).ownBlock = va.map (fun a => a.block) := by cases va <;> rfl
theorem R6.ty0 {N W g0 fc o fr va vc ls} (h : R6 N W g0 fc o fr va vc ls) : ∃ cs, W.heap[g0]? = some (.cells cs 89 (0, 0)) := by
  obtain ⟨A, C, h1, _⟩ := h.fl
  exact own_ty h1 (y := g0) rfl
theorem R6.tyv {N W g0 fc o fr va vc ls y} (h : R6 N W g0 fc o fr va vc ls) (hy : va.map (fun a => a.block) = some y) : ∃ cs, W.heap[y]? = some (.cells cs 82 (0, 0)) := own_ty h.rn (by rw [ownBlock_map]; exact hy)
/-- The list of an order is put anew. -/
theorem R6.put {N W g0 fc o fr va vc ls} (h : R6 N W g0 fc o fr va vc ls) (k : Nat) (hk : k ≤ o) (a : Option Addr) (c : Nat) (l : List Nat) (hl : NL W (.slice a l.length c) l) : R6 N (W.setCell ⟨g0, k, none⟩ (.slice a l.length c)) g0 fc o (frU fr k l) va vc ls := by
  obtain ⟨cs, hg⟩ := h.ty0
  have ks : Kept (fun y => y = g0) W (W.setCell ⟨g0, k, none⟩ (.slice a l.length c)) := (Kept.refl (fun y => y = g0) W).setCell (p := ⟨g0, k, none⟩) rfl _
  exact ⟨h.fl.put k hk a c l hl, h.rn.kept ks (fun y cs' hy e => ty_ne hy hg (by decide) e), h.nf, h.nv⟩
/-- Six cells of a box. -/
def set6 (W : World) (b : Nat) (u0 u1 u2 u3 u4 u5 : Value) : World := (((((W.setCell ⟨b, 0, none⟩ u0).setCell ⟨b, 1, none⟩ u1).setCell ⟨b, 2, none⟩ u2).setCell ⟨b, 3, none⟩ u3).setCell ⟨b, 4, none⟩ u4).setCell ⟨b, 5, none⟩ u5
theorem set6_kept {S : Nat → Prop} {w W : World} (k : Kept S w W) (b : Nat) (hb : w.heap.size ≤ b) (u0 u1 u2 u3 u4 u5 : Value) : Kept S w (set6 W b u0 u1 u2 u3 u4 u5) := by
  have e : ∀ j : Nat, (⟨b, j, none⟩ : Addr).block < w.heap.size → S (⟨b, j, none⟩ : Addr).block := fun j h => absurd h (Nat.not_lt.2 hb)
  exact (((((k.setNew (e 0) u0).setNew (e 1) u1).setNew (e 2) u2).setNew (e 3) u3).setNew (e 4) u4).setNew (e 5) u5
theorem set6_in (W : World) (b : Nat) (u0 u1 u2 u3 u4 u5 : Value) : Kept (fun y => y = b) W (set6 W b u0 u1 u2 u3 u4 u5) :=
  ((((((Kept.refl (fun y => y = b) W).setCell (p := ⟨b, 0, none⟩) rfl u0).setCell (p := ⟨b, 1, none⟩) rfl u1).setCell (p := ⟨b, 2, none⟩) rfl u2).setCell (p := ⟨b, 3, none⟩) rfl u3).setCell (p := ⟨b, 4, none⟩) rfl u4).setCell (p := ⟨b, 5, none⟩) rfl u5
/-- A box of the pool's type is written: the lists and the live blocks stay. -/
theorem R6.box {N W g0 fc o fr va vc ls} (h : R6 N W g0 fc o fr va vc ls) {y : Nat} {cs : Array Value} {z : Nat × Nat} (hy : W.heap[y]? = some (.cells cs 35 z)) {W' : World} (k : Kept (fun x => x = y) W W') : R6 N W' g0 fc o fr va vc ls :=
  h.kept k (fun x cs' hx e => ty_ne hx hy (by decide) e) (fun x cs' hx e => ty_ne hx hy (by decide) e) (fun x cs' hx e => ty_ne hx hy (by decide) e)
set_option maxRecDepth 4000 in
set_option maxHeartbeats 1000000 in
theorem Take6_no (b : Nat) (l r : Int) (o : Nat) (ho : o ≤ 8) (N g0 fc : Nat) (fr : Nat → List Nat) (va : Option Addr) (vc : Nat) (ls : List (Nat × Nat)) (k : Nat) (hk : k ≤ o) (hz : ∀ a, k ≤ a → a ≤ o → fr a = []) (w : World) (h : R6 N w g0 fc o fr va vc ls) :
    Calls Tryz.prog 57 #[r6V b l (o : Int) r (.slice (some ⟨g0, 0, none⟩) (o + 1) fc) (.slice va ls.length vc), .int .i64 (k : Int)] w fun e w' => e = .returned (.tuple #[r6V b l (o : Int) r (.slice (some ⟨g0, 0, none⟩) (o + 1) fc) (.slice va ls.length vc), .int .i64 (-1)]) ∧ Kept none' w w' := by
  obtain ⟨n, hn⟩ : ∃ n, n = ls.length := ⟨_, rfl⟩
  rw [← hn]
  clear hn
  have T2 := two5 w (r6O b l (o : Int) r (.slice (some ⟨g0, 0, none⟩) (o + 1) fc) (.slice va n vc)) r6Z
  have K0 := hid T2.1
  obtain ⟨x0, x1, x2, x3, x4, x5, xf⟩ := r6c T2.2.1
  obtain ⟨y0, y1, y2, y3, y4, y5, yf⟩ := r6c (b := 0) (l := 0) (o := 0) (r := 0) T2.2.2
  have F0 := hid (h.fl.keep T2.1)
  clear T2 h
  go_enter Tryz.func57, Tryz.ntmps57
  go_wp2_with fail
  generalize (w.alloc (r6O b l (o : Int) r (.slice (some ⟨g0, 0, none⟩) (o + 1) fc) (.slice va n vc))).alloc r6Z = W0 at *
  go_loopw [6] (fun i W => ∃ j : Nat, k ≤ j ∧ j ≤ o + 1 ∧ i = .int .i64 j ∧ Hid (W = W0)) (fun i _ => o + 1 - (intOf i).toNat)
  case atStart => exact ⟨k, Nat.le_refl _, by omega, rfl, hid rfl⟩
  case round =>
    obtain ⟨j, hkj, hjo, rfl, hR⟩ := hrel
    have hw := hR.out.symm
    subst hw
    clear hR
    by_cases hlt : j ≤ o
    · have hji : (j : Int) ≤ (o : Int) := by omega
      have hjd : decide ((j : Int) ≤ (o : Int)) = true := decide_eq_true hji
      have hj2 : (j : Int) < ((o + 1 : Nat) : Int) := by omega
      have hj3 : (j : Int) < (o : Int) + 1 := by omega
      obtain ⟨g, A, C, hg, r1, _⟩ := F0.out.get j hlt
      injection hg with hg
      injection hg with hg
      subst hg
      rw [hz j hkj hlt, List.length_nil] at r1
      go_wp2_with fail
      exact ⟨⟨j + 1, by omega, by omega, by simp, hid (by first | rfl | trivial)⟩, by simp [intOf]; omega⟩
    · obtain rfl : j = o + 1 := by omega
      have hji : ¬ ((o + 1 : Nat) : Int) ≤ (o : Int) := by omega
      have hji2 : ¬ (o : Int) + 1 ≤ (o : Int) := by omega
      have hjd : decide ((o : Int) + 1 ≤ (o : Int)) = false := decide_eq_false hji2
      have hgt : (o : Int) < (o : Int) + 1 := by omega
      have FIN := hid (fun u0 u1 u2 u3 u4 u5 => set6_kept K0.out (w.heap.size + 1) (by omega) u0 u1 u2 u3 u4 u5)
      go_wp2_with fail
      exact ⟨rfl, .tuple #[r6V b l (o : Int) r (.slice (some ⟨g0, 0, none⟩) (o + 1) fc) (.slice va n vc), .int .i64 (-1)], by simp [results, Tryz.results57, go_sem, y0, y1, y2, y3, y4, y5], rfl, FIN.out _ _ _ _ _ _⟩
/-- What Take answers, where there is a block. -/
def Tk6P (w : World) (b : Nat) (l r : Int) (o N g0 fc : Nat) (fr : Nat → List Nat) (va : Option Addr) (ls : List (Nat × Nat)) (p : Nat) (e : Ending) (w' : World) : Prop := ∃ va' vc', e = .returned (.tuple #[r6V b l (o : Int) r (.slice (some ⟨g0, 0, none⟩) (o + 1) fc) (.slice va' ls.length vc'), .int .i64 (p : Int)]) ∧ R6 N w' g0 fc o fr va' vc' ls ∧ Kept (S6 g0 va) w w'
theorem info_blk : (Tryz.prog.info? 82).map (fun i => (i.zero, i.size, i.bytes)) = some (some (.agg #[.int .i64 0, .int .i64 0]), 2, 16) := by kernel_rfl
/-- One more live block. -/
theorem R6.live {N W g0 fc o fr va vc ls} (h : R6 N W g0 fc o fr va vc ls) (hN : N ≤ W.heap.size) (hn : ls.length ≤ 1100) (p k : Nat) :
    ∃ ga vc' w', (∀ ty, (Builtin.append_ #[33, 33] ty #[.slice va ls.length vc, .slice (some ⟨W.heap.size, 0, none⟩) 1 1]).run Tryz.prog (W.alloc (.cells #[.int .i64 (p : Int), .int .i64 (k : Int)] 82)) = .ok (.slice (some ga) (ls.length + 1) vc') w') ∧ R6 N w' g0 fc o fr (some ga) vc' (ls ++ [(p, k)]) ∧ Kept (fun y => va.map (fun a => a.block) = some y) W w' := by
  obtain ⟨i, hi, hzz⟩ := Option.map_eq_some_iff.1 info_blk
  simp only [Prod.mk.injEq] at hzz
  have ka := (Kept.refl none' W).alloc (.cells #[.int .i64 (p : Int), .int .i64 (k : Int)] 82)
  have h1 := h.keep ka
  have ho : (W.alloc (.cells #[.int .i64 (p : Int), .int .i64 (k : Int)] 82)).ownsRow N 82 2 (.slice va ls.length vc) ls.length (runs ls) := by
    refine ⟨h1.rn.1, ?_⟩
    rcases h1.rn.2 with e | ⟨g, cap, cur, e, _, e2⟩
    · exact .inl e
    · refine .inr ⟨g, cap, cur, e, h.nv g ?_, e2⟩
      have e3 := congrArg Value.ownBlock e
      rw [ownBlock_map] at e3
      exact e3
  obtain ⟨v', w', hrun, hown, hgr, _⟩ := run_append_own (P := Tryz.prog) _ N 33 0 82 i (.agg #[.int .i64 0, .int .i64 0]) 2 16 Tryz.underlying33 hi hzz.1 hzz.2.1 hzz.2.2 rfl (by decide) (.slice va ls.length vc) ls.length _ ho ⟨W.heap.size, 0, none⟩ 1 1 [.int .i64 (p : Int), .int .i64 (k : Int)] rfl (fun j u hj => cells_new (cs := #[.int .i64 (p : Int), .int .i64 (k : Int)]) j u hj) (by simp [Value.oneCell']) (by simp only [maxLen]; omega) (by omega) (by simp; omega)
  have hk : Kept (fun y => va.map (fun a => a.block) = some y) W w' := ka.trans (grown_kept' hgr) (fun _ _ e => e.elim) (fun x hx e => by rw [ownBlock_map] at e; exact e)
  rcases hown.2 with ⟨_, h0⟩ | ⟨g, cap, cur, rfl, hb, hg, h3⟩
  · omega
  · refine ⟨⟨g, 0, none⟩, cap, w', fun ty => ?_, ⟨?_, ?_, h.nf, fun y hy => ?_⟩, hk⟩
    · rw [← hrun]; simp [Builtin.append_]
    · refine h.fl.kept hk (fun y cs hy e => ?_) (fun y cs hy e => ?_)
      · obtain ⟨cs', hc⟩ := h.tyv e
        exact ty_ne hy hc (by decide) rfl
      · obtain ⟨cs', hc⟩ := h.tyv e
        exact ty_ne hy hc (by decide) rfl
    · have h4 : w'.ownsRow 0 82 2 (.slice (some ⟨g, 0, none⟩) (ls.length + 1) cap) (ls.length + 1) (runs ls ++ [.int .i64 (p : Int), .int .i64 (k : Int)]) := ⟨hown.1, .inr ⟨g, cap, cur, rfl, Nat.zero_le _, hg, h3⟩⟩
      show w'.ownsRow 0 82 2 (.slice (some ⟨g, 0, none⟩) (ls ++ [(p, k)]).length cap) (ls ++ [(p, k)]).length (runs (ls ++ [(p, k)]))
      rw [runs_app, List.length_append]
      exact h4
    · have hy : some g = some y := hy
      cases hy
      exact hb
/-- Inside Take: the two boxes, what is told of lists and live blocks. -/
structure Tk6Q (w : World) (b : Nat) (l r : Int) (o N g0 fc : Nat) (va : Option Addr) (n vc : Nat) (ls : List (Nat × Nat)) (fr : Nat → List Nat) (W : World) : Prop where
  kp : Kept (S6 g0 va) w W
  x0 : W.heap[w.heap.size]? = some (r6O b l (o : Int) r (.slice (some ⟨g0, 0, none⟩) (o + 1) fc) (.slice va n vc))
  y0 : W.heap[w.heap.size + 1]? = some r6Z
  r6 : R6 N W g0 fc o fr va vc ls
theorem Tk6Q.put {w b l r o N g0 fc va n vc ls fr W W2} (h : Tk6Q w b l r o N g0 fc va n vc ls fr W) (k : Kept none' W W2) (c : Nat) (hc : c ≤ o) (a : Option Addr) (cc : Nat) (m : List Nat) (hm : NL W2 (.slice a m.length cc) m) : Tk6Q w b l r o N g0 fc va n vc ls (frU fr c m) (W2.setCell ⟨g0, c, none⟩ (.slice a m.length cc)) := by
  have hx := (k.block _ (heap_lt h.x0) (fun e => e)).trans h.x0
  have hy := (k.block _ (heap_lt h.y0) (fun e => e)).trans h.y0
  obtain ⟨cs, hc'⟩ := (h.r6.keep k).ty0
  have ks : Kept (fun y => y = g0) W2 (W2.setCell ⟨g0, c, none⟩ (.slice a m.length cc)) := (Kept.refl (fun y => y = g0) W2).setCell (p := ⟨g0, c, none⟩) rfl _
  exact ⟨(h.kp.trans k (fun _ _ e => e) (fun _ _ e => e.elim)).trans ks (fun _ _ e => e) (fun _ _ e => .inl e), (ks.block _ (heap_lt hx) (fun e => ty_ne hc' hx (by decide) e.symm)).trans hx, (ks.block _ (heap_lt hy) (fun e => ty_ne hc' hy (by decide) e.symm)).trans hy, (h.r6.keep k).put c hc a cc m hm⟩
end Go.Proofs.YtggieolknccabaaGreat
