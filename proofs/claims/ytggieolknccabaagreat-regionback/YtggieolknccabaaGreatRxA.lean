/- RegionPlays: the document's own pool as a thing: lists of numbers, rows of these, live blocks. (Written by mk6e.py.) -/
import Derived.Test.YtggieolknccabaaGreatGonB
import Derived.Deep.RegionHeld3
namespace Go.Proofs.YtggieolknccabaaGreat
open Go.RowKit
set_option linter.unusedVariables false

/-- Numbers as cells. -/
def nums (l : List Nat) : List Value := l.map fun (q : Nat) => .int .i64 (q : Int)
/-- A list of numbers. -/
def NL (W : World) (v : Value) (l : List Nat) : Prop := W.ownsRow 0 3 1 v l.length (nums l)
theorem NL.get {W a l c} (h : NL W (.slice a l.length c) l) {i : Nat} (hi : i < l.length) : ∃ g, a = some ⟨g, 0, none⟩ ∧ W.cell? ⟨g, i, none⟩ = some (.int .i64 ((l.getD i 0 : Nat) : Int)) :=
  own_get h (by simp [nums, List.getD, hi])
theorem NL.keep {W W' v l} (h : NL W v l) (k : Kept none' W W') : NL W' v l := own_kept h k (fun _ _ e => e)
theorem NL.nil (W : World) : NL W (.slice none 0 0) [] := World.ownsRow_nil _ _ _ _
/-- The rows of free blocks. -/
def slv (A : Nat → Option Addr) (C : Nat → Nat) (fr : Nat → List Nat) (n : Nat) : List Value := (List.range n).map fun k => .slice (A k) (fr k).length (C k)
def FL (W : World) (fa : Option Addr) (fc o : Nat) (fr : Nat → List Nat) : Prop := ∃ A C, W.ownsRow 0 89 1 (.slice fa (o + 1) fc) (o + 1) (slv A C fr (o + 1)) ∧ ∀ k, k ≤ o → NL W (.slice (A k) (fr k).length (C k)) (fr k)
theorem FL.get {W fa fc o fr} (h : FL W fa fc o fr) (k : Nat) (hk : k ≤ o) : ∃ g A C, fa = some ⟨g, 0, none⟩ ∧ W.cell? ⟨g, k, none⟩ = some (.slice A (fr k).length C) ∧ NL W (.slice A (fr k).length C) (fr k) := by
  obtain ⟨A, C, h1, h2⟩ := h
  obtain ⟨g, h3, h4⟩ := own_get h1 (i := k) (u := .slice (A k) (fr k).length (C k)) (by rw [slv, List.getElem?_map, List.getElem?_range (by omega)]; rfl)
  exact ⟨g, A k, C k, h3, h4, h2 k hk⟩
theorem FL.kept {W W' fa fc o fr} {S : Nat → Prop} (h : FL W fa fc o fr) (k : Kept S W W') (h1 : ∀ y cs, W.heap[y]? = some (.cells cs 3 (0, 0)) → ¬ S y) (h2 : ∀ y cs, W.heap[y]? = some (.cells cs 89 (0, 0)) → ¬ S y) : FL W' fa fc o fr := by
  obtain ⟨A, C, h3, h4⟩ := h
  refine ⟨A, C, own_kept h3 k (fun x e => ?_), fun j hj => own_kept (h4 j hj) k (fun x e => ?_)⟩
  · obtain ⟨cs, hc⟩ := own_ty h3 e
    exact h2 x cs hc
  · obtain ⟨cs, hc⟩ := own_ty (h4 j hj) e
    exact h1 x cs hc
theorem FL.keep {W W' fa fc o fr} (h : FL W fa fc o fr) (k : Kept none' W W') : FL W' fa fc o fr := h.kept k (fun _ _ _ e => e) (fun _ _ _ e => e)
/-- Runs as cells. -/
def runs : List (Nat × Nat) → List Value
  | [] => []
  | r :: l => .int .i64 (r.1 : Int) :: .int .i64 (r.2 : Int) :: runs l
theorem runs_len : ∀ l, (runs l).length = l.length * 2
  | [] => rfl
  | r :: l => by rw [runs, List.length_cons, List.length_cons, runs_len l, List.length_cons]; omega
theorem runs_get : ∀ (l : List (Nat × Nat)) (i : Nat), i < l.length → (runs l)[i * 2]? = some (.int .i64 ((l.getD i (0, 0)).1 : Int)) ∧ (runs l)[i * 2 + 1]? = some (.int .i64 ((l.getD i (0, 0)).2 : Int))
  | [], i, h => absurd h (Nat.not_lt_zero _)
  | r :: l, 0, h => ⟨rfl, rfl⟩
  | r :: l, i + 1, h => by
    have := runs_get l i (by simpa using h)
    rw [runs, show (i + 1) * 2 = i * 2 + 1 + 1 by omega]
    exact this
theorem runs_app : ∀ (l m : List (Nat × Nat)), runs (l ++ m) = runs l ++ runs m
  | [], m => rfl
  | r :: l, m => by rw [List.cons_append, runs, runs, runs_app l m]; rfl
/-- The live blocks. -/
def RN (W : World) (v : Value) (l : List (Nat × Nat)) : Prop := W.ownsRow 0 82 2 v l.length (runs l)
theorem RN.get {W a l c} (h : RN W (.slice a l.length c) l) {i : Nat} (hi : i < l.length) : ∃ g, a = some ⟨g, 0, none⟩ ∧ W.cell? ⟨g, i * 2, none⟩ = some (.int .i64 ((l.getD i (0, 0)).1 : Int)) ∧ W.cell? ⟨g, i * 2 + 1, none⟩ = some (.int .i64 ((l.getD i (0, 0)).2 : Int)) := by
  obtain ⟨h1, h2⟩ := runs_get l i hi
  obtain ⟨g, hg, h3⟩ := own_get h h1
  obtain ⟨g', hg', h4⟩ := own_get h h2
  rw [hg] at hg'
  injection hg' with hg'
  injection hg' with hg'
  subst hg'
  exact ⟨g, hg, h3, h4⟩
theorem RN.keep {W W' v l} (h : RN W v l) (k : Kept none' W W') : RN W' v l := own_kept h k (fun _ _ e => e)
theorem take_next (l : List Nat) {j : Nat} (hj : j < l.length) : l.take (j + 1) = l.take j ++ [l.getD j 0] := by
  rw [List.take_add_one, List.getElem?_eq_getElem hj, List.getD_eq_getElem?_getD, List.getElem?_eq_getElem hj]
  rfl
theorem nums_app (l m : List Nat) : nums (l ++ m) = nums l ++ nums m := by unfold nums; rw [List.map_append]
theorem num_one (W : World) (y : Int) : (W.alloc (.cells #[.int .i64 y] 3)).ownsRow 0 3 1 (.slice (some ⟨W.heap.size, 0, none⟩) 1 1) 1 [.int .i64 y] :=
  ⟨rfl, .inr ⟨_, 1, #[.int .i64 y], rfl, Nat.zero_le _, heap_new _ _, by omega, by decide, rfl, rfl⟩⟩
set_option maxRecDepth 4000 in
theorem Power6 (k : Nat) (hk : k ≤ 8) (w : World) : Calls Tryz.prog 35 #[.int .i64 (k : Int)] w fun e w' => e = .returned (.int .i64 ((2 ^ k : Nat) : Int)) ∧ w' = w := by
  go_enter Tryz.func35, Tryz.ntmps35
  go_wp2_with fail
  go_loopw [3, 4] (fun x i W => ∃ j z : Nat, j ≤ k ∧ z ≤ 256 ∧ i = .int .i64 j ∧ x = .int .i64 z ∧ Hid (z = 2 ^ j ∧ W = w)) (fun _ i _ => k - (intOf i).toNat)
  case atStart => exact ⟨0, 1, Nat.zero_le _, by omega, rfl, rfl, hid ⟨rfl, rfl⟩⟩
  case round =>
    obtain ⟨j, z, hj, hz, rfl, rfl, hZ⟩ := hrel
    by_cases hlt : j < k
    · have hji : (j : Int) < (k : Int) := by omega
      obtain ⟨z2, hz2⟩ : ∃ z2, z2 = z * 2 := ⟨_, rfl⟩
      have hzi : (z : Int) * 2 = (z2 : Int) := by omega
      have hz256 : z2 ≤ 256 := by
        have : 2 ^ (j + 1) ≤ 2 ^ 8 := Nat.pow_le_pow_right (by decide) (by omega)
        rw [hz2, hZ.out.1, ← Nat.pow_succ]
        exact this
      have hzi2 : (z : Int) ≤ 256 := by omega
      have D := hid (show z2 = 2 ^ (j + 1) ∧ wr = w from ⟨by rw [hz2, hZ.out.1, Nat.pow_succ], hZ.out.2⟩)
      clear hz2 hZ
      go_wp2_with fail
      exact ⟨⟨j + 1, z2, by omega, hz256, by simp, by simp, D⟩, by simp [intOf]; omega⟩
    · obtain rfl : j = k := by omega
      have hji : ¬ (j : Int) < (j : Int) := by omega
      go_wp2_with fail
      go_ret
      exact ⟨by first | rw [← hZ.out.1] | (rw [hZ.out.1]; rfl) | simp [hZ.out.1], hZ.out.2⟩
abbrev r6V (b : Nat) (l o r : Int) (fv lv : Value) : Value := .agg #[.int .u64 (b : Int), .int .i64 l, .int .i64 o, .int .i64 r, fv, lv]
abbrev r6O (b : Nat) (l o r : Int) (fv lv : Value) : Obj := .cells #[.int .u64 (b : Int), .int .i64 l, .int .i64 o, .int .i64 r, fv, lv] 35
abbrev r6Z : Obj := .cells #[.int .u64 0, .int .i64 0, .int .i64 0, .int .i64 0, .slice none 0 0, .slice none 0 0] 35
theorem r6c {w : World} {x b : Nat} {l o r : Int} {fv lv : Value} (h : w.heap[x]? = some (r6O b l o r fv lv)) : w.cell? ⟨x, 0, none⟩ = some (.int .u64 (b : Int)) ∧ w.cell? ⟨x, 1, none⟩ = some (.int .i64 l) ∧ w.cell? ⟨x, 2, none⟩ = some (.int .i64 o) ∧ w.cell? ⟨x, 3, none⟩ = some (.int .i64 r) ∧ w.cell? ⟨x, 4, none⟩ = some fv ∧ w.cell? ⟨x, 5, none⟩ = some lv ∧ ∀ j, w.frozen? ⟨x, j, none⟩ = false := by
  refine ⟨?_, ?_, ?_, ?_, ?_, ?_, fun j => ?_⟩ <;> simp [World.cell?, World.frozen?, h]
theorem NL.kept {W W' v l} {S : Nat → Prop} (h : NL W v l) (k : Kept S W W') (hS : ∀ y cs, W.heap[y]? = some (.cells cs 3 (0, 0)) → ¬ S y) : NL W' v l := own_kept h k (fun x e => by
  obtain ⟨cs, hc⟩ := own_ty h e
  exact hS x cs hc)
theorem RN.kept {W W' v l} {S : Nat → Prop} (h : RN W v l) (k : Kept S W W') (hS : ∀ y cs, W.heap[y]? = some (.cells cs 82 (0, 0)) → ¬ S y) : RN W' v l := own_kept h k (fun x e => by
  obtain ⟨cs, hc⟩ := own_ty h e
  exact hS x cs hc)
/-- One of the lists is put anew. -/
theorem FL.put {W g0 fc o fr} (h : FL W (some ⟨g0, 0, none⟩) fc o fr) (k : Nat) (hk : k ≤ o) (a : Option Addr) (c : Nat) (l : List Nat) (hl : NL W (.slice a l.length c) l) : FL (W.setCell ⟨g0, k, none⟩ (.slice a l.length c)) (some ⟨g0, 0, none⟩) fc o (frU fr k l) := by
  obtain ⟨A, C, h1, h2⟩ := h
  have ks : Kept (fun y => y = g0) W (W.setCell ⟨g0, k, none⟩ (.slice a l.length c)) := (Kept.refl (fun y => y = g0) W).setCell (p := ⟨g0, k, none⟩) rfl _
  obtain ⟨cs, hg⟩ := own_ty h1 (y := g0) rfl
  have hty : ∀ y cs', W.heap[y]? = some (.cells cs' 3 (0, 0)) → ¬ y = g0 := fun y cs' hy e => ty_ne hy hg (by decide) e
  refine ⟨fun j => if j = k then a else A j, fun j => if j = k then c else C j, ?_, fun j hj => ?_⟩
  · have h3 := (h1.stored k (.slice a l.length c)).1
    have e : (slv A C fr (o + 1)).set k (.slice a l.length c) = slv (fun j => if j = k then a else A j) (fun j => if j = k then c else C j) (frU fr k l) (o + 1) := by
      apply List.ext_getElem?
      intro i
      rw [List.getElem?_set]
      unfold slv
      by_cases hi : i < o + 1
      · by_cases e : k = i
        · subst e
          rw [if_pos rfl, List.length_map, List.length_range, if_pos (by omega), List.getElem?_map, List.getElem?_range hi]
          simp [frU]
        · rw [if_neg e, List.getElem?_map, List.getElem?_range hi, List.getElem?_map, List.getElem?_range hi]
          have e' : ¬ i = k := fun e2 => e e2.symm
          simp [frU, e']
      · rw [if_neg (by omega), List.getElem?_eq_none (by simp; omega), List.getElem?_eq_none (by simp; omega)]
    rw [e] at h3
    exact h3
  · by_cases e : j = k
    · subst e
      have := hl.kept ks hty
      simpa [frU] using this
    · have := (h2 j hj).kept ks hty
      simpa [frU, e] using this
theorem FL.fz {W g0 fc o fr} (h : FL W (some ⟨g0, 0, none⟩) fc o fr) (j : Nat) : W.frozen? ⟨g0, j, none⟩ = false := by
  obtain ⟨A, C, h1, h2⟩ := h
  exact h1.frozenAt j
/-- What push answers. -/
def PshP (w : World) (p : Nat) (l : List Nat) (e : Ending) (w' : World) : Prop := ∃ g cap, e = .returned (.slice (some ⟨g, 0, none⟩) (l.length + 1) cap) ∧ Kept none' w w' ∧ NL w' (.slice (some ⟨g, 0, none⟩) (p :: l).length cap) (p :: l)
set_option maxRecDepth 4000 in
theorem push6 (la : Option Addr) (lc : Nat) (l : List Nat) (hn : l.length ≤ 1100) (p : Nat) (w : World) (h : NL w (.slice la l.length lc) l) :
    Calls Tryz.prog 83 #[.slice la l.length lc, .int .i64 (p : Int)] w fun e w' => PshP w p l e w' := by
  obtain ⟨i, hi, hzz⟩ := Option.map_eq_some_iff.1 info_num
  simp only [Prod.mk.injEq] at hzz
  have ka := (Kept.refl none' w).alloc (.cells #[.int .i64 (p : Int)] 3)
  have h1 := h.keep ka
  have key : ∃ g cap w', (∀ ty, (Builtin.append_ #[89, 89] ty #[.slice (some ⟨w.heap.size, 0, none⟩) 1 1, .slice la l.length lc]).run Tryz.prog (w.alloc (.cells #[.int .i64 (p : Int)] 3)) = .ok (.slice (some ⟨g, 0, none⟩) (l.length + 1) cap) w') ∧ Kept none' w w' ∧ NL w' (.slice (some ⟨g, 0, none⟩) (p :: l).length cap) (p :: l) := by
    have ho := num_one w (p : Int)
    have ho2 : (w.alloc (.cells #[.int .i64 (p : Int)] 3)).ownsRow w.heap.size 3 1 (.slice (some ⟨w.heap.size, 0, none⟩) 1 1) 1 [.int .i64 (p : Int)] := ⟨rfl, .inr ⟨_, 1, #[.int .i64 (p : Int)], rfl, Nat.le_refl _, heap_new _ _, by omega, by decide, rfl, rfl⟩⟩
    cases la with
    | none =>
      have hl : l = [] := by
        rcases h.2 with ⟨h2, h3⟩ | ⟨g, cap, cur, h2, _⟩
        · exact List.eq_nil_of_length_eq_zero h3
        · cases h2
      subst hl
      have hlc : lc = 0 := by
        rcases h.2 with ⟨h2, h3⟩ | ⟨g, cap, cur, h2, _⟩
        · simpa using h2
        · cases h2
      subst hlc
      refine ⟨w.heap.size, 1, _, fun ty => run_append_owned_none (P := Tryz.prog) _ 0 89 ty 3 i 1 Tryz.underlying89 hi _ _ _ ho, ka, ho⟩
    | some a =>
      have hrow : ∀ j u, (nums l)[j]? = some u → (w.alloc (.cells #[.int .i64 (p : Int)] 3)).cell? (a.add j) = some u := fun j u hj => by
        obtain ⟨g, hg, hc⟩ := own_get h1 (i := j) hj
        injection hg with hg
        rw [hg, add0]
        exact hc
      have hnl : (nums l).length = l.length := by simp [nums]
      obtain ⟨v', w', hrun, hown, hgr, _⟩ := run_append_own (P := Tryz.prog) _ w.heap.size 89 0 3 i (.int .i64 0) 1 8 Tryz.underlying89 hi hzz.1 hzz.2.1 hzz.2.2 rfl (by decide) (.slice (some ⟨w.heap.size, 0, none⟩) 1 1) 1 _ ho2 a l.length lc (nums l) (by rw [hnl, Nat.mul_one]) hrow (by
        intro u hu
        obtain ⟨q, _, rfl⟩ := List.mem_map.1 hu
        rfl) (by simp only [maxLen]; omega) (by omega) (by simp)
      have hk : Kept none' w w' := ka.trans (grown_kept' hgr) (fun _ _ e => e) (fun x hx e => by
        simp [Value.ownBlock] at e
        omega)
      rcases hown.2 with ⟨_, h0⟩ | ⟨g, cap, cur, rfl, hb, hg, h3⟩
      · omega
      · refine ⟨g, cap, w', fun ty => ?_, hk, ?_⟩
        · rw [Nat.add_comm l.length 1, ← hrun]; simp [Builtin.append_]
        · have h4 : w'.ownsRow 0 3 1 (.slice (some ⟨g, 0, none⟩) (1 + l.length) cap) (1 + l.length) ([.int .i64 (p : Int)] ++ nums l) := ⟨hown.1, .inr ⟨g, cap, cur, rfl, Nat.zero_le _, hg, h3⟩⟩
          rw [Nat.add_comm 1] at h4
          exact h4
  obtain ⟨g, cap, w', hap, hk, hN⟩ := key
  have HAP := hid hap
  have D := hid (And.intro hk hN)
  clear hap hk hN h h1 ka
  obtain ⟨n, hn'⟩ : ∃ n, n = l.length := ⟨_, rfl⟩
  rw [← hn'] at HAP ⊢
  have HN := hid hn'
  clear hn'
  go_enter Tryz.func83, Tryz.ntmps83
  go_wp2_with (at_builtin; refine Lib.wpList_append_run _ rfl _ _ _ _ rfl (.slice (some ⟨w.heap.size, 0, none⟩) 1 1) (.slice la n lc) rfl rfl _ _ (HAP.out _) ?_)
  go_ret
  exact ⟨g, cap, by rw [HN.out]; rfl, D.out.1, D.out.2⟩
/-- What without answers. -/
def WioP (w : World) (p : Nat) (l : List Nat) (e : Ending) (w' : World) : Prop := ∃ a c, e = .returned (.tuple #[.slice a (M.dropL l p).length c, .bool (decide (p ∈ l))]) ∧ Kept none' w w' ∧ NL w' (.slice a (M.dropL l p).length c) (M.dropL l p)
theorem drop_take (l : List Nat) (p : Nat) {j : Nat} (hj : j < l.length) : M.dropL (l.take (j + 1)) p = if l.getD j 0 = p then M.dropL (l.take j) p else M.dropL (l.take j) p ++ [l.getD j 0] := by
  rw [take_next l hj]
  unfold M.dropL
  rw [List.filter_append]
  generalize l.getD j 0 = x
  by_cases e : x = p
  · rw [if_pos e]; simp [e]
  · rw [if_neg e]; simp [e]
theorem mem_take (l : List Nat) (p : Nat) {j : Nat} (hj : j < l.length) : p ∈ l.take (j + 1) ↔ (p ∈ l.take j ∨ l.getD j 0 = p) := by
  rw [take_next l hj, List.mem_append, List.mem_singleton]
  constructor
  · rintro (h | h)
    · exact .inl h
    · exact .inr h.symm
  · rintro (h | h)
    · exact .inl h
    · exact .inr h.symm
set_option maxRecDepth 4000 in
set_option maxHeartbeats 1000000 in
theorem without6 (la : Option Addr) (lc : Nat) (l : List Nat) (hn : l.length ≤ 1100) (p : Nat) (w : World) (h : NL w (.slice la l.length lc) l) :
    Calls Tryz.prog 59 #[.slice la l.length lc, .int .i64 (p : Int)] w fun e w' => WioP w p l e w' := by
  have H0 := hid h
  clear h
  obtain ⟨n, hn'⟩ : ∃ n, n = l.length := ⟨_, rfl⟩
  rw [← hn'] at H0 hn ⊢
  have HN := hid hn'
  clear hn'
  go_enter Tryz.func59, Tryz.ntmps59
  go_wp2_with fail
  go_loopw [6, 7, 8] (fun f b i W => ∃ j : Nat, j ≤ n ∧ i = .int .i64 j ∧ (∃ q : Nat, q ≤ j ∧ ∃ ga gc, f = .slice ga q gc ∧ Hid (q = (M.dropL (l.take j) p).length ∧ GS w W 3 1 f q (nums (M.dropL (l.take j) p)))) ∧ ∃ bb : Bool, b = .bool bb ∧ Hid (bb = decide (p ∈ l.take j))) (fun _ _ i _ => n - (intOf i).toNat)
  case atStart => exact ⟨0, Nat.zero_le _, rfl, ⟨0, Nat.le_refl _, none, 0, rfl, hid ⟨rfl, GS.nil _ _ _ _ (Kept.refl none' _)⟩⟩, false, rfl, hid (by simp)⟩
  case round =>
    obtain ⟨j, hj, rfl, ⟨q, hqj, ga, gc, rfl, hR⟩, bb, rfl, hB⟩ := hrel
    by_cases hlt : j < n
    · have hji : (j : Int) < (n : Int) := by omega
      have hjl : j < l.length := by rw [← HN.out]; exact hlt
      have h1 := H0.out.keep hR.out.2.kp
      rw [HN.out] at h1
      obtain ⟨g2, hA, r2⟩ := h1.get hjl
      subst hA
      have TD := hid (drop_take l p hjl)
      have TM := hid (mem_take l p hjl)
      clear hjl h1
      generalize l.getD j 0 = x at *
      by_cases hx : x = p
      · subst hx
        have D1 := hid (show q = (M.dropL (l.take (j + 1)) x).length ∧ GS w wr 3 1 (.slice ga q gc) q (nums (M.dropL (l.take (j + 1)) x)) from by
          rw [TD.out, if_pos rfl]
          exact hR.out)
        have D2 := hid (show true = decide (x ∈ l.take (j + 1)) from (decide_eq_true (TM.out.2 (.inr rfl))).symm)
        go_wp2_with fail
        exact ⟨⟨j + 1, by omega, by simp, ⟨q, by omega, _, _, rfl, D1⟩, true, rfl, D2⟩, by simp [intOf]; omega⟩
      · have hxi : ¬ (x : Int) = (p : Int) := by omega
        have hxb : ((x : Int) == (p : Int)) = false := beq_eq_false_iff_ne.2 hxi
        obtain ⟨g, cap, w', hap, hg2, _⟩ := push_nK hR.out.2 (x : Int) (by omega)
        have D1 := hid (show q + 1 = (M.dropL (l.take (j + 1)) p).length ∧ GS w w' 3 1 (.slice (some ⟨g, 0, none⟩) (q + 1) cap) (q + 1) (nums (M.dropL (l.take (j + 1)) p)) from by
          rw [TD.out, if_neg hx, nums_app, List.length_append, ← hR.out.1]
          exact ⟨rfl, hg2⟩)
        have D2 := hid (show bb = decide (p ∈ l.take (j + 1)) from by
          rw [hB.out]
          by_cases e : p ∈ l.take j
          · rw [decide_eq_true e, decide_eq_true (TM.out.2 (.inl e))]
          · rw [decide_eq_false e, decide_eq_false (fun e2 => (TM.out.1 e2).elim e hx)])
        have HAP := hid hap
        clear hap hg2
        go_wp2_with (at_builtin; refine Lib.wpList_append_run _ rfl _ _ _ _ rfl (.slice ga q gc) (.slice (some ⟨wr.heap.size, 0, none⟩) 1 1) rfl rfl _ _ (HAP.out _) ?_)
        exact ⟨⟨j + 1, by omega, by simp, ⟨q + 1, by omega, _, _, rfl, D1⟩, bb, rfl, D2⟩, by simp [intOf]; omega⟩
    · obtain rfl : j = n := by omega
      have hji : ¬ (j : Int) < (j : Int) := by omega
      have D := hid (show WioP w p l (.returned (.tuple #[.slice ga q gc, .bool bb])) wr from by
        have h1 := hR.out
        have h2 := hB.out
        rw [HN.out, List.take_length] at h1 h2
        obtain ⟨h3, h4⟩ := h1
        refine ⟨ga, gc, by rw [h3, h2], h4.kp, ?_⟩
        have := h4.own
        rw [h3] at this
        exact this)
      go_wp2_with fail
      exact ⟨rfl, .tuple #[.slice ga q gc, .bool bb], by simp [results, Tryz.results59, go_sem], D.out⟩
end Go.Proofs.YtggieolknccabaaGreat
