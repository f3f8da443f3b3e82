/- RegionPlays: croftref6.Need. -/
import Derived.Test.YtggieolknccabaaGreatRxC
import Derived.Test.YtggieolknccabaaGreatRxE
namespace Go.Proofs.YtggieolknccabaaGreat
open Go.RowKit
set_option linter.unusedVariables false

theorem FL.congr {W fa fc o fr fr'} (h : FL W fa fc o fr) (e : ∀ k, k ≤ o → fr' k = fr k) : FL W fa fc o fr' := by
  obtain ⟨A, C, h1, h2⟩ := h
  refine ⟨A, C, ?_, fun k hk => by rw [e k hk]; exact h2 k hk⟩
  have : slv A C fr' (o + 1) = slv A C fr (o + 1) := by
    unfold slv
    apply List.map_congr_left
    intro k hk
    rw [e k (by have := List.mem_range.1 hk; omega)]
  rw [this]
  exact h1
theorem R6.congr {N W g0 fc o fr fr' va vc ls} (h : R6 N W g0 fc o fr va vc ls) (e : ∀ k, k ≤ o → fr' k = fr k) : R6 N W g0 fc o fr' va vc ls := ⟨h.fl.congr e, h.rn, h.nf, h.nv⟩
theorem R6.nS {N W g0 fc o fr va vc ls} (h : R6 N W g0 fc o fr va vc ls) {y : Nat} {cs : Array Value} {z : Nat × Nat} (hy : W.heap[y]? = some (.cells cs 35 z)) : ¬ S6 g0 va y := by
  rintro (e | e)
  · obtain ⟨cs', hc⟩ := h.ty0
    exact ty_ne hc hy (by decide) e.symm
  · obtain ⟨cs', hc⟩ := h.tyv e
    exact ty_ne hc hy (by decide) rfl
/-- What Need answers. -/
def Nd6P (w : World) (b l r o N g0 fc : Nat) (fr : Nat → List Nat) (va : Option Addr) (ls : List (Nat × Nat)) (pg : Int) (up : Bool) (e : Ending) (w' : World) : Prop := ∃ va' vc', e = .returned (.tuple #[r6V b (l : Int) (o : Int) (r : Int) (.slice (some ⟨g0, 0, none⟩) (o + 1) fc) (.slice va' ls.length vc'), .int .i64 pg, .bool up]) ∧ R6 N w' g0 fc o fr va' vc' ls ∧ Kept (S6 g0 va) w w'
theorem set6_heap {W : World} {y b0 : Nat} {l0 o0 r0 : Int} {fv0 lv0 : Value} (hy : W.heap[y]? = some (r6O b0 l0 o0 r0 fv0 lv0)) (b : Nat) (l o r : Int) (fv lv : Value) : (set6 W y (.int .u64 (b : Int)) (.int .i64 l) (.int .i64 o) (.int .i64 r) fv lv).heap[y]? = some (r6O b l o r fv lv) := by
  have h1 := heap_set hy 0 (.int .u64 (b : Int))
  have h2 := heap_set h1 1 (.int .i64 l)
  have h3 := heap_set h2 2 (.int .i64 o)
  have h4 := heap_set h3 3 (.int .i64 r)
  have h5 := heap_set h4 4 fv
  have h6 := heap_set h5 5 lv
  exact h6
set_option maxRecDepth 4000 in
set_option maxHeartbeats 1000000 in
theorem Need6_bad (b l r : Nat) (o : Nat) (N g0 fc : Nat) (fr : Nat → List Nat) (va : Option Addr) (vc : Nat) (ls : List (Nat × Nat)) (k : Int) (hk : inR (o + 1) k = false) (d : Bool) (w : World) (h : R6 N w g0 fc o fr va vc ls) :
    Calls Tryz.prog 30 #[r6V b (l : Int) (o : Int) (r : Int) (.slice (some ⟨g0, 0, none⟩) (o + 1) fc) (.slice va ls.length vc), .int .i64 k, .bool d] w fun e w' => Nd6P w b l r o N g0 fc fr va ls (-2) false e w' := by
  obtain ⟨n, hn⟩ : ∃ n, n = ls.length := ⟨_, rfl⟩
  have T2 := two5 w (r6O b (l : Int) (o : Int) (r : Int) (.slice (some ⟨g0, 0, none⟩) (o + 1) fc) (.slice va n vc)) (r6O b (l : Int) (o : Int) (r : Int) (.slice (some ⟨g0, 0, none⟩) (o + 1) fc) (.slice va n vc))
  have D := hid (And.intro (h.keep T2.1) (T2.1.mono (fun y _ e => show S6 g0 va y from e.elim)))
  obtain ⟨y0, y1, y2, y3, y4, y5, yf⟩ := r6c T2.2.2
  rw [← hn]
  have HN := hid hn
  clear T2 h hn
  by_cases h1 : k < 0
  · have d1 : decide (k < 0) = true := decide_eq_true h1
    clear hk
    go_enter Tryz.func30, Tryz.ntmps30
    go_wp2_with fail
    exact ⟨rfl, .tuple #[r6V b (l : Int) (o : Int) (r : Int) (.slice (some ⟨g0, 0, none⟩) (o + 1) fc) (.slice va n vc), .int .i64 (-2), .bool false], by simp [results, Tryz.results30, go_sem, y0, y1, y2, y3, y4, y5], va, vc, by rw [HN.out], D.out.1, D.out.2⟩
  · have d1 : decide (k < 0) = false := decide_eq_false h1
    have h2 : (o : Int) < k := by
      unfold inR at hk
      simp only [decide_eq_false_iff_not] at hk
      omega
    clear hk
    go_enter Tryz.func30, Tryz.ntmps30
    go_wp2_with fail
    exact ⟨rfl, .tuple #[r6V b (l : Int) (o : Int) (r : Int) (.slice (some ⟨g0, 0, none⟩) (o + 1) fc) (.slice va n vc), .int .i64 (-2), .bool false], by simp [results, Tryz.results30, go_sem, y0, y1, y2, y3, y4, y5], va, vc, by rw [HN.out], D.out.1, D.out.2⟩
set_option maxRecDepth 4000 in
set_option maxHeartbeats 2000000 in
theorem Need6_here (b l r : Nat) (o : Nat) (ho : o ≤ 8) (N g0 fc : Nat) (fr : Nat → List Nat) (va : Option Addr) (vc : Nat) (ls : List (Nat × Nat)) (hls : ls.length ≤ 1100) (hf : ∀ j, j ≤ o → (fr j).length ≤ 1024) (k j p : Nat) (t : List Nat) (hkj : k ≤ j) (hjo : j ≤ o) (hz : ∀ a, k ≤ a → a < j → fr a = []) (hp : fr j = p :: t) (hpb : p ≤ 1024) (d : Bool) (w : World) (hN : N ≤ w.heap.size) (h : R6 N w g0 fc o fr va vc ls) :
    Calls Tryz.prog 30 #[r6V b (l : Int) (o : Int) (r : Int) (.slice (some ⟨g0, 0, none⟩) (o + 1) fc) (.slice va ls.length vc), .int .i64 (k : Int), .bool d] w fun e w' => Nd6P w b l r o N g0 fc (cutF (frU fr j (M.dropL (fr j) p)) p j k) va (ls ++ [(p, k)]) (p : Int) false e w' := by
  obtain ⟨n, hn⟩ : ∃ n, n = ls.length := ⟨_, rfl⟩
  have T2 := two5 w (r6O b (l : Int) (o : Int) (r : Int) (.slice (some ⟨g0, 0, none⟩) (o + 1) fc) (.slice va n vc)) r6Z
  have Q0 := hid (show Tk6Q w b (l : Int) (r : Int) o N g0 fc va n vc ls fr ((w.alloc (r6O b (l : Int) (o : Int) (r : Int) (.slice (some ⟨g0, 0, none⟩) (o + 1) fc) (.slice va n vc))).alloc r6Z) from ⟨T2.1.mono (fun _ _ e => e.elim), T2.2.1, T2.2.2, h.keep T2.1⟩)
  have TK := hid (Take6_yes b (l : Int) (r : Int) o ho N g0 fc fr va vc ls hls hf k j p t hkj hjo hz hp hpb _ (by simp; omega) Q0.out.r6)
  rw [← hn] at TK ⊢
  have HN := hid hn
  have hk0 : ¬ (k : Int) < 0 := by omega
  have d0 : decide ((k : Int) < 0) = false := decide_eq_false hk0
  have hk1 : ¬ (o : Int) < (k : Int) := by omega
  clear T2 h hn hz hp hf
  go_enter Tryz.func30, Tryz.ntmps30
  go_wp2_with fail
  generalize (w.alloc (r6O b (l : Int) (o : Int) (r : Int) (.slice (some ⟨g0, 0, none⟩) (o + 1) fc) (.slice va n vc))).alloc r6Z = W0 at *
  refine TK.out.mono ?_
  rintro e w2 ⟨va', vc', rfl, hr2, hk2⟩
  have hx2 := (hk2.block _ (heap_lt Q0.out.x0) (Q0.out.r6.nS Q0.out.x0)).trans Q0.out.x0
  have hy2 := (hk2.block _ (heap_lt Q0.out.y0) (Q0.out.r6.nS Q0.out.y0)).trans Q0.out.y0
  obtain ⟨m, hm⟩ : ∃ m, m = (ls ++ [(p, k)]).length := ⟨_, rfl⟩
  rw [← hm]
  have HM := hid hm
  have hsz := Q0.out.kp.size
  have hsz2 := hk2.size
  have hlt := heap_lt hy2
  have ka := (Kept.refl none' w2).alloc (r6O b (l : Int) (o : Int) (r : Int) (.slice (some ⟨g0, 0, none⟩) (o + 1) fc) (.slice va' m vc'))
  have hy3 := (ka.block _ hlt (fun e => e)).trans hy2
  obtain ⟨y0, y1, y2, y3, y4, y5, yf⟩ := r6c (b := 0) (l := 0) (o := 0) (r := 0) hy3
  obtain ⟨z0, z1, z2, z3, z4, z5, zf⟩ := r6c (heap_new w2 (r6O b (l : Int) (o : Int) (r : Int) (.slice (some ⟨g0, 0, none⟩) (o + 1) fc) (.slice va' m vc')))
  have FIN := hid (fun u0 u1 u2 u3 u4 u5 => And.intro (set6_kept (show Kept (S6 g0 va) w (w2.alloc (r6O b (l : Int) (o : Int) (r : Int) (.slice (some ⟨g0, 0, none⟩) (o + 1) fc) (.slice va' m vc'))) from (Q0.out.kp.trans hk2 (fun _ _ e => e) (fun _ _ e => e)).trans ka (fun _ _ e => e) (fun _ _ e => e.elim)) (w.heap.size + 1) (by omega) u0 u1 u2 u3 u4 u5) ((hr2.keep ka).box hy3 (set6_in _ _ u0 u1 u2 u3 u4 u5)))
  have hge : ¬ (p : Int) < 0 := by omega
  clear hm hr2 hk2 hx2 hy2 ka hy3 TK
  go_upto_region 4 with fail
  generalize w2.alloc (r6O b (l : Int) (o : Int) (r : Int) (.slice (some ⟨g0, 0, none⟩) (o + 1) fc) (.slice va' m vc')) = W3 at *
  go_wp2_with fail
  exact ⟨rfl, .tuple #[r6V b (l : Int) (o : Int) (r : Int) (.slice (some ⟨g0, 0, none⟩) (o + 1) fc) (.slice va' m vc'), .int .i64 (p : Int), .bool false], by simp [results, Tryz.results30, go_sem, y0, y1, y2, y3, y4, y5], va', vc', by rw [HM.out], (FIN.out _ _ _ _ _ _).2, (FIN.out _ _ _ _ _ _).1⟩
end Go.Proofs.YtggieolknccabaaGreat
