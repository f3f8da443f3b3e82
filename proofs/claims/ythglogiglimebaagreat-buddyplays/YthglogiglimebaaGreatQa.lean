import Derived.Test.YthglogiglimebaaGreatTlA
/- BuddyPlays: the document's own buddy as a thing: lists of numbers, rows of these, live blocks. -/
namespace Go.Proofs.YthglogiglimebaaGreat
open Go.RowKit
set_option linter.unusedVariables false

theorem own_kept {W W' : World} {b : Nat} {e : TypeId} {size : Nat} {v : Value} {n : Nat} {xs : List Value} {S : Nat → Prop} (h : W.ownsRow b e size v n xs) (k : Kept S W W') (hS : ∀ x, v.ownBlock = some x → ¬ S x) : W'.ownsRow b e size v n xs := by
  refine ⟨h.1, ?_⟩
  rcases h.2 with h0 | ⟨g, cap, cur, h0, hb, hg, h3⟩
  · exact .inl h0
  · refine .inr ⟨g, cap, cur, h0, hb, (k.block _ (heap_lt hg) (hS g (by rw [h0]; rfl))).trans hg, h3⟩
theorem own_ty {W : World} {b : Nat} {e : TypeId} {size : Nat} {v : Value} {n : Nat} {xs : List Value} (h : W.ownsRow b e size v n xs) {y : Nat} (hy : v.ownBlock = some y) : ∃ cs, W.heap[y]? = some (.cells cs e (0, 0)) := by
  rcases h.2 with ⟨h0, _⟩ | ⟨g, cap, cur, h0, hb, hg, h3⟩
  · rw [h0] at hy; simp [Value.ownBlock] at hy
  · rw [h0] at hy; simp [Value.ownBlock] at hy
    subst hy
    exact ⟨_, hg⟩
theorem own_val {W : World} {b : Nat} {e : TypeId} {size : Nat} {v : Value} {n : Nat} {xs : List Value} (h : W.ownsRow b e size v n xs) : ∃ va vc, v = .slice va n vc := by
  rcases h.2 with ⟨h0, h1⟩ | ⟨g, cap, cur, h0, _⟩
  · exact ⟨none, 0, by rw [h0, h1]⟩
  · exact ⟨_, _, h0⟩
theorem own_get {W : World} {b : Nat} {e : TypeId} {size : Nat} {va : Option Addr} {n vc : Nat} {xs : List Value} (h : W.ownsRow b e size (.slice va n vc) n xs) {i : Nat} {u : Value} (hi : xs[i]? = some u) : ∃ g, va = some ⟨g, 0, none⟩ ∧ W.cell? ⟨g, i, none⟩ = some u := by
  rcases h.2 with ⟨_, h1⟩ | ⟨g, cap, cur, h0, _⟩
  · have := h.1
    rw [h1, Nat.zero_mul] at this
    rw [List.eq_nil_of_length_eq_zero this] at hi
    simp at hi
  · injection h0 with h0
    refine ⟨g, h0, ?_⟩
    have := World.ownsRow.cells h (g := g) (by rw [h0]; rfl) _ _ hi
    rw [add0] at this
    exact this
/-- Numbers as cells. -/
def nums (l : List Nat) : List Value := l.map fun (q : Nat) => .int .i64 (q : Int)
/-- A list of numbers. -/
def NL (W : World) (v : Value) (l : List Nat) : Prop := W.ownsRow 0 3 1 v l.length (nums l)
theorem NL.get {W a l c} (h : NL W (.slice a l.length c) l) {i : Nat} (hi : i < l.length) : ∃ g, a = some ⟨g, 0, none⟩ ∧ W.cell? ⟨g, i, none⟩ = some (.int .i64 ((l.getD i 0 : Nat) : Int)) :=
  own_get h (by simp [nums, List.getD, hi])
theorem NL.keep {W W' v l} (h : NL W v l) (k : Kept none' W W') : NL W' v l := own_kept h k (fun _ _ e => e)
theorem NL.nil (W : World) : NL W (.slice none 0 0) [] := World.ownsRow_nil _ _ _ _
/-- The rows of free blocks. -/
def slv (A : Nat → Option Addr) (C : Nat → Nat) (fr : Nat → List Nat) (n : Nat) : List Value := (List.range n).map fun k => .slice (A k) (fr k).length (C k)
def FL (W : World) (fa : Option Addr) (fc o : Nat) (fr : Nat → List Nat) : Prop := ∃ A C, W.ownsRow 0 79 1 (.slice fa (o + 1) fc) (o + 1) (slv A C fr (o + 1)) ∧ ∀ k, k ≤ o → NL W (.slice (A k) (fr k).length (C k)) (fr k)
theorem FL.get {W fa fc o fr} (h : FL W fa fc o fr) (k : Nat) (hk : k ≤ o) : ∃ g A C, fa = some ⟨g, 0, none⟩ ∧ W.cell? ⟨g, k, none⟩ = some (.slice A (fr k).length C) ∧ NL W (.slice A (fr k).length C) (fr k) := by
  obtain ⟨A, C, h1, h2⟩ := h
  obtain ⟨g, h3, h4⟩ := own_get h1 (i := k) (u := .slice (A k) (fr k).length (C k)) (by rw [slv, List.getElem?_map, List.getElem?_range (by omega)]; rfl)
  exact ⟨g, A k, C k, h3, h4, h2 k hk⟩
theorem FL.kept {W W' fa fc o fr} {S : Nat → Prop} (h : FL W fa fc o fr) (k : Kept S W W') (h1 : ∀ y cs, W.heap[y]? = some (.cells cs 3 (0, 0)) → ¬ S y) (h2 : ∀ y cs, W.heap[y]? = some (.cells cs 79 (0, 0)) → ¬ S y) : FL W' fa fc o fr := by
  obtain ⟨A, C, h3, h4⟩ := h
  refine ⟨A, C, own_kept h3 k (fun x e => ?_), fun j hj => own_kept (h4 j hj) k (fun x e => ?_)⟩
  · obtain ⟨cs, hc⟩ := own_ty h3 e
    exact h2 x cs hc
  · obtain ⟨cs, hc⟩ := own_ty (h4 j hj) e
    exact h1 x cs hc
theorem FL.keep {W W' fa fc o fr} (h : FL W fa fc o fr) (k : Kept none' W W') : FL W' fa fc o fr := h.kept k (fun _ _ _ e => e) (fun _ _ _ e => e)
/-- Runs as cells. -/
def runs : List (Nat × Nat) → List Value
  | [] => []
  | r :: l => .int .i64 (r.1 : Int) :: .int .i64 (r.2 : Int) :: runs l
theorem runs_len : ∀ l, (runs l).length = l.length * 2
  | [] => rfl
  | r :: l => by rw [runs, List.length_cons, List.length_cons, runs_len l, List.length_cons]; omega
theorem runs_get : ∀ (l : List (Nat × Nat)) (i : Nat), i < l.length → (runs l)[i * 2]? = some (.int .i64 ((l.getD i (0, 0)).1 : Int)) ∧ (runs l)[i * 2 + 1]? = some (.int .i64 ((l.getD i (0, 0)).2 : Int))
  | [], i, h => absurd h (Nat.not_lt_zero _)
  | r :: l, 0, h => ⟨rfl, rfl⟩
  | r :: l, i + 1, h => by
    have := runs_get l i (by simpa using h)
    rw [runs, show (i + 1) * 2 = i * 2 + 1 + 1 by omega]
    exact this
theorem runs_app : ∀ (l m : List (Nat × Nat)), runs (l ++ m) = runs l ++ runs m
  | [], m => rfl
  | r :: l, m => by rw [List.cons_append, runs, runs, runs_app l m]; rfl
/-- The live blocks. -/
def RN (W : World) (v : Value) (l : List (Nat × Nat)) : Prop := W.ownsRow 0 104 2 v l.length (runs l)
theorem RN.get {W a l c} (h : RN W (.slice a l.length c) l) {i : Nat} (hi : i < l.length) : ∃ g, a = some ⟨g, 0, none⟩ ∧ W.cell? ⟨g, i * 2, none⟩ = some (.int .i64 ((l.getD i (0, 0)).1 : Int)) ∧ W.cell? ⟨g, i * 2 + 1, none⟩ = some (.int .i64 ((l.getD i (0, 0)).2 : Int)) := by
  obtain ⟨h1, h2⟩ := runs_get l i hi
  obtain ⟨g, hg, h3⟩ := own_get h h1
  obtain ⟨g', hg', h4⟩ := own_get h h2
  rw [hg] at hg'
  injection hg' with hg'
  injection hg' with hg'
  subst hg'
  exact ⟨g, hg, h3, h4⟩
theorem RN.keep {W W' v l} (h : RN W v l) (k : Kept none' W W') : RN W' v l := own_kept h k (fun _ _ e => e)
/-- What a call of the document's answers. -/
def D5P (w : World) (o P : Nat) (fr : Nat → List Nat) (ls : List (Nat × Nat)) (e : Ending) (w' : World) : Prop := ∃ fa fc va vc, e = .returned (r5V (o : Int) (P : Int) (.slice fa (o + 1) fc) (.slice va ls.length vc)) ∧ Kept none' w w' ∧ FL w' fa fc o fr ∧ RN w' (.slice va ls.length vc) ls
theorem push_num {w0 W : World} {v : Value} {n : Nat} {xs : List Value} (h : GS w0 W 3 1 v n xs) (y : Int) (hn : n ≤ 2000) :
    ∃ g cap w', (∀ ty, (Builtin.append_ #[79, 79] ty #[v, .slice (some ⟨W.heap.size, 0, none⟩) 1 1]).run Tryz.prog (W.alloc (.cells #[.int .i64 y] 3)) = .ok (.slice (some ⟨g, 0, none⟩) (n + 1) cap) w') ∧ GS w0 w' 3 1 (.slice (some ⟨g, 0, none⟩) (n + 1) cap) (n + 1) (xs ++ [.int .i64 y]) ∧ w0.heap.size ≤ g ∧ (∀ x, v.ownBlock ≠ some x → ∀ o, W.heap[x]? = some o → w'.heap[x]? = some o) := by
  obtain ⟨i, hi, hzz⟩ := Option.map_eq_some_iff.1 info_num
  simp only [Prod.mk.injEq] at hzz
  have ka := (Kept.refl none' W).alloc (.cells #[.int .i64 y] 3)
  obtain ⟨g, cap, w', h1, h2, h5, h4⟩ := (h.keep ka).push 79 i (.int .i64 0) 8 Tryz.underlying79 hi hzz.1 hzz.2.1 hzz.2.2 rfl (by decide) ⟨W.heap.size, 0, none⟩ 1 [.int .i64 y] rfl (fun j u hj => cells_new (cs := #[.int .i64 y]) j u hj) (by simp [Value.oneCell']) (by simp only [maxLen]; omega) (by omega)
  exact ⟨g, cap, w', h1, h2, h5, fun x hx o ho => h4 x hx o ((ka.block x (heap_lt ho) (fun x => x)).trans ho)⟩
theorem push_sl {w0 W : World} {v : Value} {n : Nat} {xs : List Value} (h : GS w0 W 79 1 v n xs) (a : Option Addr) (l c : Nat) (hn : n ≤ 2000) :
    ∃ g cap w', (∀ ty, (Builtin.append_ #[33, 33] ty #[v, .slice (some ⟨W.heap.size, 0, none⟩) 1 1]).run Tryz.prog (W.alloc (.cells #[.slice a l c] 79)) = .ok (.slice (some ⟨g, 0, none⟩) (n + 1) cap) w') ∧ GS w0 w' 79 1 (.slice (some ⟨g, 0, none⟩) (n + 1) cap) (n + 1) (xs ++ [.slice a l c]) ∧ w0.heap.size ≤ g ∧ (∀ x, v.ownBlock ≠ some x → ∀ o, W.heap[x]? = some o → w'.heap[x]? = some o) := by
  obtain ⟨i, hi, hzz⟩ := Option.map_eq_some_iff.1 info_isl
  simp only [Prod.mk.injEq] at hzz
  have ka := (Kept.refl none' W).alloc (.cells #[.slice a l c] 79)
  obtain ⟨g, cap, w', h1, h2, h5, h4⟩ := (h.keep ka).push 33 i (.slice none 0 0) 24 Tryz.underlying33 hi hzz.1 hzz.2.1 hzz.2.2 rfl (by decide) ⟨W.heap.size, 0, none⟩ 1 [.slice a l c] rfl (fun j u hj => cells_new (cs := #[.slice a l c]) j u hj) (by simp [Value.oneCell']) (by simp only [maxLen]; omega) (by omega)
  exact ⟨g, cap, w', h1, h2, h5, fun x hx o ho => h4 x hx o ((ka.block x (heap_lt ho) (fun x => x)).trans ho)⟩
/-- The value of the document's own buddy, with what lies behind it. -/
structure D5 (W : World) (o P : Nat) (fr : Nat → List Nat) (ls : List (Nat × Nat)) (fa : Option Addr) (fc : Nat) (va : Option Addr) (vc : Nat) : Prop where
  fl : FL W fa fc o fr
  rn : RN W (.slice va ls.length vc) ls
theorem D5.keep {W W' o P fr ls fa fc va vc} (h : D5 W o P fr ls fa fc va vc) (k : Kept none' W W') : D5 W' o P fr ls fa fc va vc := ⟨h.fl.keep k, h.rn.keep k⟩
end Go.Proofs.YthglogiglimebaaGreat
/- BuddyPlays: croftref5's with, enter, leave, Is, IsLive. -/
namespace Go.Proofs.YthglogiglimebaaGreat
open Go.RowKit
set_option linter.unusedVariables false

theorem slv_succ (A : Nat → Option Addr) (C : Nat → Nat) (fr : Nat → List Nat) (n : Nat) : slv A C fr n ++ [.slice (A n) (fr n).length (C n)] = slv A C fr (n + 1) := by
  rw [slv, slv, List.range_succ, List.map_append]; rfl
/-- Two boxes ahead of all else: a buddy, and the answer's. -/
theorem box5 {W0 W : World} {x : Nat} {o p : Int} {fv lv : Value} (h : W0.heap[x]? = some (r5O o p fv lv)) (k : Kept none' W0 W) : W.heap[x]? = some (r5O o p fv lv) := (k.block _ (heap_lt h) (fun e => e)).trans h
/-- What with, enter, leave answer. -/
def F5P (w : World) (o P : Int) (on : Nat) (fr : Nat → List Nat) (lv : Value) (e : Ending) (w' : World) : Prop := ∃ fa fc, e = .returned (r5V o P (.slice fa (on + 1) fc) lv) ∧ Kept none' w w' ∧ FL w' fa fc on fr
set_option maxRecDepth 4000 in
set_option maxHeartbeats 1000000 in
theorem with5 (o : Nat) (ho : o ≤ 8) (oi P : Int) (fa : Option Addr) (fc : Nat) (va : Option Addr) (n vc : Nat) (fr : Nat → List Nat) (k : Nat) (hk : k ≤ o) (la : Option Addr) (lc : Nat) (l : List Nat) (w : World) (h : FL w fa fc o fr) (hl : NL w (.slice la l.length lc) l) :
    Calls Tryz.prog 83 #[r5V oi P (.slice fa (o + 1) fc) (.slice va n vc), .int .i64 (k : Int), .slice la l.length lc] w fun e w' => F5P w oi P o (frU fr k l) (.slice va n vc) e w' := by
  have T2 := two5 w (r5O oi P (.slice fa (o + 1) fc) (.slice va n vc)) r5Z
  have K0 := hid T2.1
  have S0 : ((w.alloc (r5O oi P (.slice fa (o + 1) fc) (.slice va n vc))).alloc r5Z).heap.size = w.heap.size + 2 := by simp
  have X0 := hid T2.2.1
  have Y0 := hid T2.2.2
  obtain ⟨A, C, h1, h2⟩ := h
  have H1 := hid (own_kept h1 T2.1 (fun _ _ e => e))
  have H2 := hid (fun j hj => (h2 j hj).keep T2.1)
  have HL := hid (hl.keep T2.1)
  have HE := hid (show ∀ j, (if j = k then Value.slice la l.length lc else .slice (A j) (fr j).length (C j)) = .slice (if j = k then la else A j) ((frU fr k l) j).length (if j = k then lc else C j) from fun j => by
    unfold frU
    by_cases e : j = k <;> simp [e])
  have LL := hid (show (frU fr k l) k = l from by unfold frU; rw [if_pos rfl])
  clear T2 h1 h2 hl
  obtain ⟨m, hm⟩ : ∃ m, m = l.length := ⟨_, rfl⟩
  rw [← hm] at HE ⊢
  have HM := hid hm
  clear hm
  go_enter Tryz.func83, Tryz.ntmps83
  go_wp2_with fail
  generalize (w.alloc (r5O oi P (.slice fa (o + 1) fc) (.slice va n vc))).alloc r5Z = W0 at *
  have HS0 := hid S0
  clear S0
  go_loopw [7, 8] (fun f i W => ∃ j : Nat, j ≤ o + 1 ∧ i = .int .i64 j ∧ (∃ ga gc, f = .slice ga j gc) ∧ Hid (GS W0 W 79 1 f j (slv (fun j => if j = k then la else A j) (fun j => if j = k then lc else C j) (frU fr k l) j) ∧ ∀ g, f.ownBlock = some g → W0.heap.size ≤ g)) (fun _ i _ => o + 1 - (intOf i).toNat)
  case atStart => exact ⟨0, by omega, rfl, ⟨none, 0, rfl⟩, hid ⟨GS.nil _ _ _ _ (Kept.refl none' _), fun g e => by simp [Value.ownBlock] at e⟩⟩
  case round =>
    obtain ⟨j, hj, rfl, ⟨ga, gc, rfl⟩, hR⟩ := hrel
    obtain ⟨x0, x1, x2, x3, fx⟩ := r5c (box5 X0.out hR.out.1.kp)
    by_cases hlt : j ≤ o
    · have hji : (j : Int) < ((o + 1 : Nat) : Int) := by omega
      have hji2 : (j : Int) < (o : Int) + 1 := by omega
      by_cases hjk : j = k
      · subst hjk
        obtain ⟨g, cap, w', hap, hg2, hge, hkeep⟩ := push_sl hR.out.1 la m lc (by omega)
        have D := hid (show GS W0 w' 79 1 (.slice (some ⟨g, 0, none⟩) (j + 1) cap) (j + 1) (slv (fun i => if i = j then la else A i) (fun i => if i = j then lc else C i) (frU fr j l) (j + 1)) ∧ ∀ g', (Value.slice (some ⟨g, 0, none⟩) (j + 1) cap).ownBlock = some g' → W0.heap.size ≤ g' from ⟨by
          have := HE.out j
          rw [if_pos rfl] at this
          rw [← slv_succ, ← this]
          exact hg2, fun g' e => by simp [Value.ownBlock] at e; omega⟩)
        have HAP := hid hap
        clear hap hg2 hge hkeep
        go_wp2_with (at_builtin; refine Lib.wpList_append_run _ rfl _ _ _ _ rfl (.slice ga j gc) (.slice (some ⟨wr.heap.size, 0, none⟩) 1 1) rfl rfl _ _ (HAP.out _) ?_)
        exact ⟨⟨j + 1, by omega, by simp, ⟨_, _, rfl⟩, D⟩, by simp [intOf]; omega⟩
      · have hjki : ¬ (j : Int) = (k : Int) := by omega
        obtain ⟨g0, hfa, r0⟩ := own_get (own_kept H1.out hR.out.1.kp (fun _ _ e => e)) (i := j) (u := .slice (A j) (fr j).length (C j)) (by rw [slv, List.getElem?_map, List.getElem?_range (by omega)]; rfl)
        subst hfa
        obtain ⟨g, cap, w', hap, hg2, hge, hkeep⟩ := push_sl hR.out.1 (A j) (fr j).length (C j) (by omega)
        have D := hid (show GS W0 w' 79 1 (.slice (some ⟨g, 0, none⟩) (j + 1) cap) (j + 1) (slv (fun i => if i = k then la else A i) (fun i => if i = k then lc else C i) (frU fr k l) (j + 1)) ∧ ∀ g', (Value.slice (some ⟨g, 0, none⟩) (j + 1) cap).ownBlock = some g' → W0.heap.size ≤ g' from ⟨by
          have := HE.out j
          rw [if_neg hjk] at this
          rw [← slv_succ, ← this]
          exact hg2, fun g' e => by simp [Value.ownBlock] at e; omega⟩)
        have HAP := hid hap
        clear hap hg2 hge hkeep
        go_wp2_with (at_builtin; refine Lib.wpList_append_run _ rfl _ _ _ _ rfl (.slice ga j gc) (.slice (some ⟨wr.heap.size, 0, none⟩) 1 1) rfl rfl _ _ (HAP.out _) ?_)
        exact ⟨⟨j + 1, by omega, by simp, ⟨_, _, rfl⟩, D⟩, by simp [intOf]; omega⟩
    · have hjo : j = o + 1 := by omega
      subst hjo
      have hji : ¬ ((o + 1 : Nat) : Int) < ((o + 1 : Nat) : Int) := by omega
      have hji2 : ¬ (o : Int) + 1 < (o : Int) + 1 := by omega
      have hsz := HS0.out
      have hx' := box5 X0.out hR.out.1.kp
      have hy' : wr.heap[w.heap.size + 1]? = some r5Z := (hR.out.1.kp.block _ (heap_lt Y0.out) (fun e => e)).trans Y0.out
      have ks : Kept (fun y => y = w.heap.size) wr (wr.setCell ⟨w.heap.size, 2, none⟩ (.slice ga (o + 1) gc)) := (Kept.refl (fun y => y = w.heap.size) wr).setCell (p := ⟨w.heap.size, 2, none⟩) rfl _
      have X2 := hid (show (wr.setCell ⟨w.heap.size, 2, none⟩ (.slice ga (o + 1) gc)).heap[w.heap.size]? = some (r5O oi P (.slice ga (o + 1) gc) (.slice va n vc)) from heap_set hx' 2 _)
      have Y2 := hid ((ks.block _ (heap_lt hy') (by omega)).trans hy')
      have K2 := hid ((none_trans K0.out hR.out.1.kp).setNew (p := ⟨w.heap.size, 2, none⟩) (fun e => absurd e (Nat.lt_irrefl _)) (.slice ga (o + 1) gc))
      have F1 : FL wr ga gc o (frU fr k l) := ⟨_, _, hR.out.1.own, fun i hi => by
        have := HE.out i
        by_cases e : i = k
        · rw [if_pos e] at this
          rw [← this, HM.out, e, LL.out]
          exact HL.out.keep hR.out.1.kp
        · rw [if_neg e] at this
          rw [← this, show frU fr k l i = fr i by unfold frU; rw [if_neg e]]
          exact (H2.out i hi).keep hR.out.1.kp⟩
      have bx : ∀ y cs (t : TypeId) z, t ≠ 36 → wr.heap[y]? = some (.cells cs t z) → y ≠ w.heap.size ∧ y ≠ w.heap.size + 1 := fun y cs t z ht hy => ⟨fun e => ty_ne hy hx' ht e, fun e => ty_ne hy hy' ht e⟩
      have F3 := hid (show ∀ u0 u1 u2 u3, FL (((((wr.setCell ⟨w.heap.size, 2, none⟩ (.slice ga (o + 1) gc)).setCell ⟨w.heap.size + 1, 0, none⟩ u0).setCell ⟨w.heap.size + 1, 1, none⟩ u1).setCell ⟨w.heap.size + 1, 2, none⟩ u2).setCell ⟨w.heap.size + 1, 3, none⟩ u3) ga gc o (frU fr k l) from fun u0 u1 u2 u3 => by
        refine F1.kept (S := fun y => y = w.heap.size ∨ y = w.heap.size + 1) ((((((Kept.refl _ wr).setCell (p := ⟨w.heap.size, 2, none⟩) (.inl rfl) _).setCell (p := ⟨w.heap.size + 1, 0, none⟩) (.inr rfl) u0).setCell (p := ⟨w.heap.size + 1, 1, none⟩) (.inr rfl) u1).setCell (p := ⟨w.heap.size + 1, 2, none⟩) (.inr rfl) u2).setCell (p := ⟨w.heap.size + 1, 3, none⟩) (.inr rfl) u3) (fun y cs hy => ?_) (fun y cs hy => ?_)
        · have := bx y cs _ _ (by decide) hy; omega
        · have := bx y cs _ _ (by decide) hy; omega)
      obtain ⟨a0, a1, a2, a3, fa4⟩ := r5c X2.out
      obtain ⟨b0, b1, b2, b3, fb⟩ := r5c Y2.out
      have HF := hid (fun u0 u1 u2 u3 => set4_kept K2.out (w.heap.size + 1) (by omega) u0 u1 u2 u3)
      clear hx' hy' ks F1 bx hsz
      go_wp2_with fail
      exact ⟨rfl, r5V oi P (.slice ga (o + 1) gc) (.slice va n vc), by simp [results, Tryz.results83, go_sem, b0, b1, b2, b3], _, _, rfl, HF.out _ _ _ _, F3.out _ _ _ _⟩
end Go.Proofs.YthglogiglimebaaGreat
/- BuddyPlays: croftref5's enter, leave, Is, IsLive. -/
namespace Go.Proofs.YthglogiglimebaaGreat
open Go.RowKit
set_option linter.unusedVariables false

theorem take_next (l : List Nat) {j : Nat} (hj : j < l.length) : l.take (j + 1) = l.take j ++ [l.getD j 0] := by
  rw [List.take_add_one, List.getElem?_eq_getElem hj, List.getD_eq_getElem?_getD, List.getElem?_eq_getElem hj]
  rfl
theorem nums_app (l m : List Nat) : nums (l ++ m) = nums l ++ nums m := by unfold nums; rw [List.map_append]
theorem num_one (W : World) (y : Int) : (W.alloc (.cells #[.int .i64 y] 3)).ownsRow 0 3 1 (.slice (some ⟨W.heap.size, 0, none⟩) 1 1) 1 [.int .i64 y] :=
  ⟨rfl, .inr ⟨_, 1, #[.int .i64 y], rfl, Nat.zero_le _, heap_new _ _, by omega, by decide, rfl, rfl⟩⟩
/-- The answer's box is written. -/
theorem F5P.fin {w W0 w2 : World} {o : Nat} {fr : Nat → List Nat} {fa : Option Addr} {fc : Nat} (k0 : Kept none' w W0) (hs : W0.heap.size = w.heap.size + 2) (hy : W0.heap[w.heap.size + 1]? = some r5Z) (k : Kept none' W0 w2) (f : FL w2 fa fc o fr) : w2.heap[w.heap.size + 1]? = some r5Z ∧ ∀ u0 u1 u2 u3, Kept none' w ((((w2.setCell ⟨w.heap.size + 1, 0, none⟩ u0).setCell ⟨w.heap.size + 1, 1, none⟩ u1).setCell ⟨w.heap.size + 1, 2, none⟩ u2).setCell ⟨w.heap.size + 1, 3, none⟩ u3) ∧ FL ((((w2.setCell ⟨w.heap.size + 1, 0, none⟩ u0).setCell ⟨w.heap.size + 1, 1, none⟩ u1).setCell ⟨w.heap.size + 1, 2, none⟩ u2).setCell ⟨w.heap.size + 1, 3, none⟩ u3) fa fc o fr := by
  have hy2 := (k.block _ (heap_lt hy) (fun e => e)).trans hy
  refine ⟨hy2, fun u0 u1 u2 u3 => ⟨set4_kept (none_trans k0 k) _ (by omega) u0 u1 u2 u3, ?_⟩⟩
  refine f.kept (S := fun y => y = w.heap.size + 1) (((((Kept.refl (fun y => y = w.heap.size + 1) w2).setCell (p := ⟨w.heap.size + 1, 0, none⟩) rfl u0).setCell (p := ⟨w.heap.size + 1, 1, none⟩) rfl u1).setCell (p := ⟨w.heap.size + 1, 2, none⟩) rfl u2).setCell (p := ⟨w.heap.size + 1, 3, none⟩) rfl u3) (fun y cs h e => ?_) (fun y cs h e => ?_)
  · exact ty_ne h hy2 (by decide) e
  · exact ty_ne h hy2 (by decide) e
set_option maxRecDepth 4000 in
set_option maxHeartbeats 1000000 in
theorem enter5 (o : Nat) (ho : o ≤ 8) (oi P : Int) (fa : Option Addr) (fc : Nat) (va : Option Addr) (n vc : Nat) (fr : Nat → List Nat) (k : Nat) (hk : k ≤ o) (hf : (fr k).length ≤ 1024) (pg : Nat) (w : World) (h : FL w fa fc o fr) :
    Calls Tryz.prog 81 #[r5V oi P (.slice fa (o + 1) fc) (.slice va n vc), .int .i64 (k : Int), .int .i64 (pg : Int)] w fun e w' => F5P w oi P o (frU fr k (pg :: fr k)) (.slice va n vc) e w' := by
  have T2 := two5 w (r5O oi P (.slice fa (o + 1) fc) (.slice va n vc)) r5Z
  have K0 := hid T2.1
  have S0 := hid (show ((w.alloc (r5O oi P (.slice fa (o + 1) fc) (.slice va n vc))).alloc r5Z).heap.size = w.heap.size + 2 by simp)
  have X0 := hid T2.2.1
  have Y0 := hid T2.2.2
  have F0 := hid (h.keep T2.1)
  clear T2 h
  go_enter Tryz.func81, Tryz.ntmps81
  go_wp2_with fail
  generalize (w.alloc (r5O oi P (.slice fa (o + 1) fc) (.slice va n vc))).alloc r5Z = W0 at *
  obtain ⟨g0, A, C, hfa, _, _⟩ := F0.out.get k hk
  subst hfa
  have hki : (k : Int) < ((o + 1 : Nat) : Int) := by omega
  have hki2 : (k : Int) < (o : Int) + 1 := by omega
  obtain ⟨L, hL⟩ : ∃ L, L = (fr k).length := ⟨_, rfl⟩
  rw [← hL] at hf
  have HL := hid hL
  clear hL
  have K1 := (Kept.refl none' W0).alloc (.cells #[.int .i64 (pg : Int)] 3)
  have G1 := hid (show GS W0 (W0.alloc (.cells #[.int .i64 (pg : Int)] 3)) 3 1 (.slice (some ⟨W0.heap.size, 0, none⟩) 1 1) 1 (nums (pg :: (fr k).take 0)) from ⟨num_one W0 _, fun g cap e => by injection e with e; injection e with e; injection e with e; exact .inr (by omega), K1⟩)
  rw [S0.out] at G1
  generalize W0.alloc (.cells #[.int .i64 (pg : Int)] 3) = W1 at *
  clear K1
  go_loopw [7, 8] (fun f i W => ∃ j : Nat, j ≤ L ∧ i = .int .i64 j ∧ (∃ ga gc, f = .slice ga (j + 1) gc) ∧ Hid (GS W0 W 3 1 f (j + 1) (nums (pg :: (fr k).take j)))) (fun _ i _ => L - (intOf i).toNat)
  case atStart => exact ⟨0, by omega, rfl, ⟨_, _, rfl⟩, G1⟩
  case round =>
    clear G1
    obtain ⟨j, hj, rfl, ⟨ga, gc, rfl⟩, hR⟩ := hrel
    obtain ⟨x0, x1, x2, x3, fx⟩ := r5c (box5 X0.out hR.out.kp)
    obtain ⟨g1, A1, C1, hfa, r1, hN⟩ := (F0.out.keep hR.out.kp).get k hk
    injection hfa with hfa
    injection hfa with hfa
    subst hfa
    rw [← HL.out] at r1
    by_cases hlt : j < L
    · have hji : (j : Int) < (L : Int) := by omega
      have hjl : j < (fr k).length := by rw [← HL.out]; exact hlt
      obtain ⟨g2, hA, r2⟩ := hN.get hjl
      subst hA
      have TN := hid (take_next _ hjl)
      clear hjl hN
      generalize (fr k).getD j 0 = q at *
      obtain ⟨g, cap, w', hap, hg2, hge, hkeep⟩ := push_num hR.out (q : Int) (by omega)
      have D := hid (show GS W0 w' 3 1 (.slice (some ⟨g, 0, none⟩) (j + 1 + 1) cap) (j + 1 + 1) (nums (pg :: (fr k).take (j + 1))) from by
        rw [TN.out, ← List.cons_append, nums_app]
        exact hg2)
      have HAP := hid hap
      clear hap hg2 hge hkeep
      go_wp2_with (at_builtin; refine Lib.wpList_append_run _ rfl _ _ _ _ rfl (.slice ga (j + 1) gc) (.slice (some ⟨wr.heap.size, 0, none⟩) 1 1) rfl rfl _ _ (HAP.out _) ?_)
      exact ⟨⟨j + 1, by omega, by simp, ⟨_, _, rfl⟩, D⟩, by simp [intOf]; omega⟩
    · obtain rfl : j = L := by omega
      have hji : ¬ (j : Int) < (j : Int) := by omega
      have NLw := hid (show NL wr (.slice ga (pg :: fr k).length gc) (pg :: fr k) from by
        have := hR.out.own
        rw [HL.out, List.take_length] at this
        exact this)
      have WI := hid (with5 o ho oi P (some ⟨g0, 0, none⟩) fc va n vc fr k hk ga gc (pg :: fr k) wr (F0.out.keep hR.out.kp) NLw.out)
      rw [show (pg :: fr k).length = j + 1 by rw [HL.out]; rfl] at WI
      have KR := hid hR.out.kp
      clear hN NLw
      go_wp2_with fail
      refine WI.out.mono ?_
      rintro e w2 ⟨fa2, fc2, rfl, hk2, hf2⟩
      obtain ⟨hy2, hfin⟩ := F5P.fin K0.out S0.out Y0.out (none_trans KR.out hk2) hf2
      obtain ⟨b0, b1, b2, b3, fb⟩ := r5c hy2
      have FIN := hid hfin
      clear hk2 hf2 hy2 hfin WI
      go_wp2_with fail
      exact ⟨rfl, r5V oi P (.slice fa2 (o + 1) fc2) (.slice va n vc), by simp [results, Tryz.results81, go_sem, b0, b1, b2, b3], _, _, rfl, (FIN.out _ _ _ _).1, (FIN.out _ _ _ _).2⟩
theorem drop_take (l : List Nat) (p : Nat) {j : Nat} (hj : j < l.length) : M.dropL (l.take (j + 1)) p = if l.getD j 0 = p then M.dropL (l.take j) p else M.dropL (l.take j) p ++ [l.getD j 0] := by
  rw [take_next l hj]
  generalize l.getD j 0 = q
  unfold M.dropL
  rw [List.filter_append]
  by_cases e : q = p <;> simp [e]
theorem drop_len (l : List Nat) (p j : Nat) : (M.dropL (l.take j) p).length ≤ j := Nat.le_trans (List.length_filter_le _ _) (by rw [List.length_take]; omega)
set_option maxRecDepth 4000 in
set_option maxHeartbeats 1000000 in
theorem leave5 (o : Nat) (ho : o ≤ 8) (oi P : Int) (fa : Option Addr) (fc : Nat) (va : Option Addr) (n vc : Nat) (fr : Nat → List Nat) (k : Nat) (hk : k ≤ o) (hf : (fr k).length ≤ 1024) (pg : Nat) (w : World) (h : FL w fa fc o fr) :
    Calls Tryz.prog 32 #[r5V oi P (.slice fa (o + 1) fc) (.slice va n vc), .int .i64 (k : Int), .int .i64 (pg : Int)] w fun e w' => F5P w oi P o (frU fr k (M.dropL (fr k) pg)) (.slice va n vc) e w' := by
  have T2 := two5 w (r5O oi P (.slice fa (o + 1) fc) (.slice va n vc)) r5Z
  have K0 := hid T2.1
  have S0 := hid (show ((w.alloc (r5O oi P (.slice fa (o + 1) fc) (.slice va n vc))).alloc r5Z).heap.size = w.heap.size + 2 by simp)
  have X0 := hid T2.2.1
  have Y0 := hid T2.2.2
  have F0 := hid (h.keep T2.1)
  clear T2 h
  go_enter Tryz.func32, Tryz.ntmps32
  go_wp2_with fail
  generalize (w.alloc (r5O oi P (.slice fa (o + 1) fc) (.slice va n vc))).alloc r5Z = W0 at *
  obtain ⟨g0, A, C, hfa, _, _⟩ := F0.out.get k hk
  subst hfa
  have hki : (k : Int) < ((o + 1 : Nat) : Int) := by omega
  have hki2 : (k : Int) < (o : Int) + 1 := by omega
  obtain ⟨L, hL⟩ : ∃ L, L = (fr k).length := ⟨_, rfl⟩
  rw [← hL] at hf
  have HL := hid hL
  clear hL
  go_loopw [7, 8] (fun f i W => ∃ j m : Nat, j ≤ L ∧ m ≤ j ∧ i = .int .i64 j ∧ (∃ ga gc, f = .slice ga m gc) ∧ Hid (m = (M.dropL ((fr k).take j) pg).length ∧ GS W0 W 3 1 f m (nums (M.dropL ((fr k).take j) pg)))) (fun _ i _ => L - (intOf i).toNat)
  case atStart => exact ⟨0, 0, by omega, by omega, rfl, ⟨_, _, rfl⟩, hid ⟨rfl, GS.nil _ _ _ _ (Kept.refl none' W0)⟩⟩
  case round =>
    obtain ⟨j, m, hj, hm, rfl, ⟨ga, gc, rfl⟩, hR⟩ := hrel
    obtain ⟨x0, x1, x2, x3, fx⟩ := r5c (box5 X0.out hR.out.2.kp)
    obtain ⟨g1, A1, C1, hfa, r1, hN⟩ := (F0.out.keep hR.out.2.kp).get k hk
    injection hfa with hfa
    injection hfa with hfa
    subst hfa
    rw [← HL.out] at r1
    by_cases hlt : j < L
    · have hji : (j : Int) < (L : Int) := by omega
      have hjl : j < (fr k).length := by rw [← HL.out]; exact hlt
      obtain ⟨g2, hA, r2⟩ := hN.get hjl
      subst hA
      have TN := hid (drop_take _ pg hjl)
      clear hjl hN
      generalize (fr k).getD j 0 = q at *
      by_cases hq : q = pg
      · subst hq
        have D := hid (show m = (M.dropL ((fr k).take (j + 1)) q).length ∧ GS W0 wr 3 1 (.slice ga m gc) m (nums (M.dropL ((fr k).take (j + 1)) q)) from by
          rw [TN.out, if_pos rfl]; exact hR.out)
        go_wp2_with fail
        exact ⟨⟨j + 1, m, by omega, by omega, by simp, ⟨_, _, rfl⟩, D⟩, by simp [intOf]; omega⟩
      · have hqi : ¬ (q : Int) = (pg : Int) := by omega
        obtain ⟨g, cap, w', hap, hg2, hge, hkeep⟩ := push_num hR.out.2 (q : Int) (by omega)
        have D := hid (show m + 1 = (M.dropL ((fr k).take (j + 1)) pg).length ∧ GS W0 w' 3 1 (.slice (some ⟨g, 0, none⟩) (m + 1) cap) (m + 1) (nums (M.dropL ((fr k).take (j + 1)) pg)) from by
          rw [TN.out, if_neg hq, nums_app, List.length_append, ← hR.out.1]
          exact ⟨rfl, hg2⟩)
        have HAP := hid hap
        clear hap hg2 hge hkeep hq
        go_wp2_with (at_builtin; refine Lib.wpList_append_run _ rfl _ _ _ _ rfl (.slice ga m gc) (.slice (some ⟨wr.heap.size, 0, none⟩) 1 1) rfl rfl _ _ (HAP.out _) ?_)
        exact ⟨⟨j + 1, m + 1, by omega, by omega, by simp, ⟨_, _, rfl⟩, D⟩, by simp [intOf]; omega⟩
    · obtain rfl : j = L := by omega
      have hji : ¬ (j : Int) < (j : Int) := by omega
      have hml : m = (M.dropL (fr k) pg).length := by
        have := hR.out.1
        rw [HL.out, List.take_length] at this
        exact this
      have NLw := hid (show NL wr (.slice ga (M.dropL (fr k) pg).length gc) (M.dropL (fr k) pg) from by
        have := hR.out.2.own
        rw [HL.out, List.take_length, hml] at this
        exact this)
      have WI := hid (with5 o ho oi P (some ⟨g0, 0, none⟩) fc va n vc fr k hk ga gc (M.dropL (fr k) pg) wr (F0.out.keep hR.out.2.kp) NLw.out)
      rw [← hml] at WI
      have KR := hid hR.out.2.kp
      clear hN NLw hml
      go_wp2_with fail
      refine WI.out.mono ?_
      rintro e w2 ⟨fa2, fc2, rfl, hk2, hf2⟩
      obtain ⟨hy2, hfin⟩ := F5P.fin K0.out S0.out Y0.out (none_trans KR.out hk2) hf2
      obtain ⟨b0, b1, b2, b3, fb⟩ := r5c hy2
      have FIN := hid hfin
      clear hk2 hf2 hy2 hfin WI
      go_wp2_with fail
      exact ⟨rfl, r5V oi P (.slice fa2 (o + 1) fc2) (.slice va n vc), by simp [results, Tryz.results32, go_sem, b0, b1, b2, b3], _, _, rfl, (FIN.out _ _ _ _).1, (FIN.out _ _ _ _).2⟩
set_option maxRecDepth 4000 in
set_option maxHeartbeats 1000000 in
theorem Is5 (o : Nat) (oi P : Int) (fa : Option Addr) (fc : Nat) (va : Option Addr) (n vc : Nat) (fr : Nat → List Nat) (k : Nat) (hk : k ≤ o) (hf : (fr k).length ≤ 1024) (ho : o ≤ 8) (pg : Nat) (w : World) (h : FL w fa fc o fr) :
    Calls Tryz.prog 89 #[r5V oi P (.slice fa (o + 1) fc) (.slice va n vc), .int .i64 (k : Int), .int .i64 (pg : Int)] w fun e w' => e = .returned (.bool (decide (pg ∈ fr k))) ∧ Kept none' w w' := by
  have K0 := hid ((Kept.refl none' w).alloc (r5O oi P (.slice fa (o + 1) fc) (.slice va n vc)))
  have X0 := hid (heap_new w (r5O oi P (.slice fa (o + 1) fc) (.slice va n vc)))
  have F0 := hid (h.keep K0.out)
  clear h
  go_enter Tryz.func89, Tryz.ntmps89
  go_wp2_with fail
  generalize w.alloc (r5O oi P (.slice fa (o + 1) fc) (.slice va n vc)) = W0 at *
  obtain ⟨g0, A, C, hfa, _, _⟩ := F0.out.get k hk
  subst hfa
  have hki : (k : Int) < ((o + 1 : Nat) : Int) := by omega
  have hki2 : (k : Int) < (o : Int) + 1 := by omega
  obtain ⟨L, hL⟩ : ∃ L, L = (fr k).length := ⟨_, rfl⟩
  rw [← hL] at hf
  have HL := hid hL
  clear hL
  go_loopw [7] (fun i W => ∃ j : Nat, j ≤ L ∧ i = .int .i64 j ∧ Hid (Kept none' W0 W ∧ ∀ i, i < j → (fr k).getD i 0 ≠ pg)) (fun i _ => L - (intOf i).toNat)
  case atStart => exact ⟨0, by omega, rfl, hid ⟨Kept.refl none' W0, fun i hi => by omega⟩⟩
  case round =>
    obtain ⟨j, hj, rfl, hR⟩ := hrel
    obtain ⟨x0, x1, x2, x3, fx⟩ := r5c (box5 X0.out hR.out.1)
    obtain ⟨g1, A1, C1, hfa, r1, hN⟩ := (F0.out.keep hR.out.1).get k hk
    injection hfa with hfa
    injection hfa with hfa
    subst hfa
    rw [← HL.out] at r1
    have KF := hid (none_trans K0.out hR.out.1)
    by_cases hlt : j < L
    · have hji : (j : Int) < (L : Int) := by omega
      have hjl : j < (fr k).length := by rw [← HL.out]; exact hlt
      obtain ⟨g2, hA, r2⟩ := hN.get hjl
      subst hA
      have ME := hid (M.getD_mem hjl)
      have NX := hid (fun (hne : (fr k).getD j 0 ≠ pg) i (hi : i < j + 1) => show (fr k).getD i 0 ≠ pg from by
        by_cases e : i = j
        · rw [e]; exact hne
        · exact hR.out.2 i (by omega))
      clear hjl hN
      generalize (fr k).getD j 0 = q at *
      by_cases hq : q = pg
      · subst hq
        have DT := hid (decide_eq_true ME.out)
        go_wp2_with fail
        go_ret
        exact ⟨by rw [DT.out]; rfl, KF.out⟩
      · have hqi : ¬ (q : Int) = (pg : Int) := by omega
        have NX2 := hid (NX.out hq)
        clear NX hq
        go_wp2_with fail
        exact ⟨⟨j + 1, by omega, by simp, hid ⟨hR.out.1, NX2.out⟩⟩, by simp [intOf]; omega⟩
    · obtain rfl : j = L := by omega
      have hji : ¬ (j : Int) < (j : Int) := by omega
      have DF := hid (show decide (pg ∈ fr k) = false from decide_eq_false fun e => by
        obtain ⟨i, hi, he⟩ := M.mem_getD e
        exact hR.out.2 i (by rw [HL.out]; exact hi) he)
      clear hN
      go_wp2_with fail
      go_ret
      exact ⟨by rw [DF.out]; rfl, KF.out⟩
/-- Is there a live block of that page and order? -/
def liveL (ls : List (Nat × Nat)) (pg od : Int) : Bool := ls.any fun r => decide ((r.1 : Int) = pg) && decide ((r.2 : Int) = od)
set_option maxRecDepth 4000 in
set_option maxHeartbeats 1000000 in
theorem IsLive5 (oi P : Int) (fa : Option Addr) (fl fc : Nat) (va : Option Addr) (vc : Nat) (ls : List (Nat × Nat)) (hn : ls.length ≤ 1000) (pg od : Int) (w : World) (h : RN w (.slice va ls.length vc) ls) :
    Calls Tryz.prog 45 #[r5V oi P (.slice fa fl fc) (.slice va ls.length vc), .int .i64 pg, .int .i64 od] w fun e w' => e = .returned (.bool (liveL ls pg od)) ∧ Kept none' w w' := by
  obtain ⟨n, hn'⟩ : ∃ n, n = ls.length := ⟨_, rfl⟩
  have K0 := hid ((Kept.refl none' w).alloc (r5O oi P (.slice fa fl fc) (.slice va n vc)))
  have X0 := hid (heap_new w (r5O oi P (.slice fa fl fc) (.slice va n vc)))
  have R0 := hid (h.keep K0.out)
  rw [← hn'] at hn ⊢
  have HN := hid hn'
  clear h hn'
  go_enter Tryz.func45, Tryz.ntmps45
  go_wp2_with fail
  generalize w.alloc (r5O oi P (.slice fa fl fc) (.slice va n vc)) = W0 at *
  go_loopw [7] (fun i W => ∃ j : Nat, j ≤ n ∧ i = .int .i64 j ∧ Hid (Kept none' W0 W ∧ ∀ i, i < j → ¬ (((ls.getD i (0, 0)).1 : Int) = pg ∧ ((ls.getD i (0, 0)).2 : Int) = od))) (fun i _ => n - (intOf i).toNat)
  case atStart => exact ⟨0, by omega, rfl, hid ⟨Kept.refl none' W0, fun i hi => by omega⟩⟩
  case round =>
    obtain ⟨j, hj, rfl, hR⟩ := hrel
    obtain ⟨x0, x1, x2, x3, fx⟩ := r5c (box5 X0.out hR.out.1)
    have KF := hid (none_trans K0.out hR.out.1)
    by_cases hlt : j < n
    · have hji : (j : Int) < (n : Int) := by omega
      have hjl : j < ls.length := by rw [← HN.out]; exact hlt
      obtain ⟨g2, hA, r1, r2⟩ := (R0.out.keep hR.out.1).get hjl
      subst hA
      have ME := hid (show ls.getD j (0, 0) ∈ ls from by
        rw [List.getD_eq_getElem?_getD, List.getElem?_eq_getElem hjl]
        exact List.getElem_mem hjl)
      have NX := hid (fun (hne : ¬ (((ls.getD j (0, 0)).1 : Int) = pg ∧ ((ls.getD j (0, 0)).2 : Int) = od)) i (hi : i < j + 1) => show ¬ (((ls.getD i (0, 0)).1 : Int) = pg ∧ ((ls.getD i (0, 0)).2 : Int) = od) from by
        by_cases e : i = j
        · rw [e]; exact hne
        · exact hR.out.2 i (by omega))
      clear hjl
      generalize ls.getD j (0, 0) = q at *
      obtain ⟨a, b⟩ := q
      by_cases h1 : (a : Int) = pg
      · by_cases h2 : (b : Int) = od
        · have DT := hid (show liveL ls pg od = true from List.any_eq_true.2 ⟨(a, b), ME.out, by rw [decide_eq_true h1, decide_eq_true h2]; rfl⟩)
          subst h1 h2
          clear NX ME
          go_wp2_with fail
          go_ret
          exact ⟨by rw [DT.out]; rfl, KF.out⟩
        · have NX2 := hid (NX.out fun e => h2 e.2)
          have h2b : ((b : Int) == od) = false := beq_eq_false_iff_ne.2 h2
          subst h1
          clear NX ME
          go_wp2_with fail
          exact ⟨⟨j + 1, by omega, by simp, hid ⟨hR.out.1, NX2.out⟩⟩, by simp [intOf]; omega⟩
      · have NX2 := hid (NX.out fun e => h1 e.1)
        have h1b : ((a : Int) == pg) = false := beq_eq_false_iff_ne.2 h1
        clear NX ME
        go_wp2_with fail
        exact ⟨⟨j + 1, by omega, by simp, hid ⟨hR.out.1, NX2.out⟩⟩, by simp [intOf]; omega⟩
    · obtain rfl : j = n := by omega
      have hji : ¬ (j : Int) < (j : Int) := by omega
      have DF := hid (show liveL ls pg od = false from by
        cases e : liveL ls pg od with
        | false => rfl
        | true =>
          obtain ⟨r, h1, h2⟩ := List.any_eq_true.1 e
          rw [Bool.and_eq_true, decide_eq_true_iff, decide_eq_true_iff] at h2
          obtain ⟨i, hi, he⟩ := List.mem_iff_getElem.1 h1
          refine absurd h2 (fun h3 => hR.out.2 i (by rw [HN.out]; exact hi) ?_)
          rw [List.getD_eq_getElem?_getD, List.getElem?_eq_getElem hi, Option.getD_some, he]
          exact h3)
      go_wp2_with fail
      go_ret
      exact ⟨by rw [DF.out]; rfl, KF.out⟩
end Go.Proofs.YthglogiglimebaaGreat
/- BuddyPlays: croftref5's lives, dies, cut, of lists. -/
namespace Go.Proofs.YthglogiglimebaaGreat
open Go.RowKit
set_option linter.unusedVariables false

theorem take_nextR (l : List (Nat × Nat)) {j : Nat} (hj : j < l.length) : l.take (j + 1) = l.take j ++ [l.getD j (0, 0)] := by
  rw [List.take_add_one, List.getElem?_eq_getElem hj, List.getD_eq_getElem?_getD, List.getElem?_eq_getElem hj]
  rfl
theorem flat_runs (ls : List (Nat × Nat)) : ∀ n, n ≤ ls.length → flatR (fun i => (((ls.getD i (0, 0)).1 : Int), ((ls.getD i (0, 0)).2 : Int))) n = runs (ls.take n)
  | 0, _ => by rw [List.take_zero]; rfl
  | n + 1, h => by
    rw [flatR, flat_runs ls n (by omega), take_nextR ls (by omega), runs_app]
    rfl
/-- What lives, dies answer. -/
def L5P (w : World) (o P : Int) (fv : Value) (ls : List (Nat × Nat)) (e : Ending) (w' : World) : Prop := ∃ va vc, e = .returned (r5V o P fv (.slice va ls.length vc)) ∧ Kept none' w w' ∧ RN w' (.slice va ls.length vc) ls
theorem lives5 (o p : Int) (fa : Option Addr) (fl fc : Nat) (va : Option Addr) (vc : Nat) (ls : List (Nat × Nat)) (hn : ls.length ≤ 1000) (pg k : Nat) (w : World) (h : RN w (.slice va ls.length vc) ls) :
    Calls Tryz.prog 82 #[r5V o p (.slice fa fl fc) (.slice va ls.length vc), .int .i64 (pg : Int), .int .i64 (k : Int)] w fun e w' => L5P w o p (.slice fa fl fc) (ls ++ [(pg, k)]) e w' := by
  have hR : ∀ i, i < ls.length → (fun i => ((((ls ++ [(pg, k)]).getD i (0, 0)).1 : Int), (((ls ++ [(pg, k)]).getD i (0, 0)).2 : Int))) i = (fun i => (((ls.getD i (0, 0)).1 : Int), ((ls.getD i (0, 0)).2 : Int))) i := fun i hi => by
    simp only [List.getD_eq_getElem?_getD, List.getElem?_append_left hi]
  refine (lives5_any o p fa fl fc va ls.length vc (fun i => ((((ls ++ [(pg, k)]).getD i (0, 0)).1 : Int), (((ls ++ [(pg, k)]).getD i (0, 0)).2 : Int))) hn pg k ?_ w ?_).mono ?_
  · simp [List.getD_eq_getElem?_getD]
  · unfold Rns
    rw [flatR_congr _ hR, flat_runs ls ls.length (Nat.le_refl _), List.take_length]
    exact h
  · rintro e w' ⟨g, cap, rfl, h1, h2, h3⟩
    have e1 : (ls ++ [(pg, k)]).length = ls.length + 1 := by simp
    refine ⟨_, cap, by rw [e1], h1, ?_⟩
    unfold Rns at h2
    rw [← e1, flat_runs _ _ (Nat.le_refl _), List.take_length] at h2
    exact h2
/-- The live blocks without those of a page. -/
def dropR (ls : List (Nat × Nat)) (pg : Nat) : List (Nat × Nat) := ls.filter fun r => decide (r.1 ≠ pg)
theorem dropR_take (l : List (Nat × Nat)) (p : Nat) {j : Nat} (hj : j < l.length) : dropR (l.take (j + 1)) p = if (l.getD j (0, 0)).1 = p then dropR (l.take j) p else dropR (l.take j) p ++ [l.getD j (0, 0)] := by
  rw [take_nextR l hj]
  generalize l.getD j (0, 0) = q
  unfold dropR
  rw [List.filter_append]
  by_cases e : q.1 = p <;> simp [e]
/-- A buddy's box is written. -/
abbrev set4 (W : World) (b : Nat) (u0 u1 u2 u3 : Value) : World := (((W.setCell ⟨b, 0, none⟩ u0).setCell ⟨b, 1, none⟩ u1).setCell ⟨b, 2, none⟩ u2).setCell ⟨b, 3, none⟩ u3
theorem set4_k (W : World) (b : Nat) (u0 u1 u2 u3 : Value) : Kept (fun y => y = b) W (set4 W b u0 u1 u2 u3) := ((((Kept.refl (fun y => y = b) W).setCell (p := ⟨b, 0, none⟩) rfl u0).setCell (p := ⟨b, 1, none⟩) rfl u1).setCell (p := ⟨b, 2, none⟩) rfl u2).setCell (p := ⟨b, 3, none⟩) rfl u3
theorem set4_box {W : World} {b : Nat} {o p : Int} {fv lv : Value} (h : W.heap[b]? = some (r5O o p fv lv)) (o' p' : Int) (fv' lv' : Value) : (set4 W b (.int .i64 o') (.int .i64 p') fv' lv').heap[b]? = some (r5O o' p' fv' lv') := by
  have h1 := heap_set h 0 (.int .i64 o')
  have h2 := heap_set h1 1 (.int .i64 p')
  have h3 := heap_set h2 2 fv'
  have h4 := heap_set h3 3 lv'
  exact h4
theorem FL.set4 {W fa fc o fr b cs z} (f : FL W fa fc o fr) (hb : W.heap[b]? = some (.cells cs 36 z)) (u0 u1 u2 u3 : Value) : FL (set4 W b u0 u1 u2 u3) fa fc o fr :=
  f.kept (set4_k W b u0 u1 u2 u3) (fun y cs h e => ty_ne h hb (by decide) e) (fun y cs h e => ty_ne h hb (by decide) e)
theorem RN.set4 {W v ls b cs z} (f : RN W v ls) (hb : W.heap[b]? = some (.cells cs 36 z)) (u0 u1 u2 u3 : Value) : RN (Go.Proofs.YthglogiglimebaaGreat.set4 W b u0 u1 u2 u3) v ls :=
  own_kept f (set4_k W b u0 u1 u2 u3) (fun y e he => by
    obtain ⟨cs, hc⟩ := own_ty f e
    exact ty_ne hc hb (by decide) he)
set_option maxRecDepth 4000 in
set_option maxHeartbeats 1000000 in
theorem dies5 (oi P : Int) (fa : Option Addr) (fl fc : Nat) (va : Option Addr) (vc : Nat) (ls : List (Nat × Nat)) (hn : ls.length ≤ 1000) (pg : Nat) (w : World) (h : RN w (.slice va ls.length vc) ls) :
    Calls Tryz.prog 94 #[r5V oi P (.slice fa fl fc) (.slice va ls.length vc), .int .i64 (pg : Int)] w fun e w' => L5P w oi P (.slice fa fl fc) (dropR ls pg) e w' := by
  obtain ⟨n, hn'⟩ : ∃ n, n = ls.length := ⟨_, rfl⟩
  have T2 := two5 w (r5O oi P (.slice fa fl fc) (.slice va n vc)) r5Z
  have K0 := hid T2.1
  have S0 := hid (show ((w.alloc (r5O oi P (.slice fa fl fc) (.slice va n vc))).alloc r5Z).heap.size = w.heap.size + 2 by simp)
  have X0 := hid T2.2.1
  have Y0 := hid T2.2.2
  have R0 := hid (h.keep T2.1)
  rw [← hn'] at hn ⊢
  have HN := hid hn'
  clear T2 h hn'
  go_enter Tryz.func94, Tryz.ntmps94
  go_wp2_with fail
  generalize (w.alloc (r5O oi P (.slice fa fl fc) (.slice va n vc))).alloc r5Z = W0 at *
  go_loopw [5, 6] (fun f i W => ∃ j m : Nat, j ≤ n ∧ m ≤ j ∧ i = .int .i64 j ∧ (∃ ga gc, f = .slice ga m gc) ∧ Hid (m = (dropR (ls.take j) pg).length ∧ GS W0 W 104 2 f m (runs (dropR (ls.take j) pg)) ∧ ∀ g, f.ownBlock = some g → W0.heap.size ≤ g)) (fun _ i _ => n - (intOf i).toNat)
  case atStart => exact ⟨0, 0, by omega, by omega, rfl, ⟨_, _, rfl⟩, hid ⟨rfl, GS.nil _ _ _ _ (Kept.refl none' W0), fun g e => by simp [Value.ownBlock] at e⟩⟩
  case round =>
    obtain ⟨j, m, hj, hm, rfl, ⟨ga, gc, rfl⟩, hR⟩ := hrel
    obtain ⟨x0, x1, x2, x3, fx⟩ := r5c (box5 X0.out hR.out.2.1.kp)
    by_cases hlt : j < n
    · have hji : (j : Int) < (n : Int) := by omega
      have hjl : j < ls.length := by rw [← HN.out]; exact hlt
      obtain ⟨g2, hA, r1, r2⟩ := (R0.out.keep hR.out.2.1.kp).get hjl
      subst hA
      have TN := hid (dropR_take _ pg hjl)
      clear hjl
      generalize ls.getD j (0, 0) = q at *
      obtain ⟨a, b⟩ := q
      by_cases hq : a = pg
      · subst hq
        have D := hid (show m = (dropR (ls.take (j + 1)) a).length ∧ GS W0 wr 104 2 (.slice ga m gc) m (runs (dropR (ls.take (j + 1)) a)) ∧ ∀ g, (Value.slice ga m gc).ownBlock = some g → W0.heap.size ≤ g from by
          rw [TN.out, if_pos rfl]; exact hR.out)
        go_wp2_with fail
        exact ⟨⟨j + 1, m, by omega, by omega, by simp, ⟨_, _, rfl⟩, D⟩, by simp [intOf]; omega⟩
      · have hqi : ¬ (a : Int) = (pg : Int) := by omega
        obtain ⟨g, cap, w', hap, hg2, hge, hkeep⟩ := push_run5 hR.out.2.1 (a : Int) (b : Int) (by omega)
        have D := hid (show m + 1 = (dropR (ls.take (j + 1)) pg).length ∧ GS W0 w' 104 2 (.slice (some ⟨g, 0, none⟩) (m + 1) cap) (m + 1) (runs (dropR (ls.take (j + 1)) pg)) ∧ ∀ g', (Value.slice (some ⟨g, 0, none⟩) (m + 1) cap).ownBlock = some g' → W0.heap.size ≤ g' from by
          rw [TN.out, if_neg hq, runs_app, List.length_append, ← hR.out.1]
          exact ⟨rfl, hg2, fun g' e => by simp [Value.ownBlock] at e; omega⟩)
        have HAP := hid hap
        clear hap hg2 hge hkeep hq
        go_wp2_with (at_builtin; refine Lib.wpList_append_run _ rfl _ _ _ _ rfl (.slice ga m gc) (.slice (some ⟨wr.heap.size, 0, none⟩) 1 1) rfl rfl _ _ (HAP.out _) ?_)
        exact ⟨⟨j + 1, m + 1, by omega, by omega, by simp, ⟨_, _, rfl⟩, D⟩, by simp [intOf]; omega⟩
    · obtain rfl : j = n := by omega
      have hji : ¬ (j : Int) < (j : Int) := by omega
      have hml : m = (dropR ls pg).length := by
        have := hR.out.1
        rw [HN.out, List.take_length] at this
        exact this
      have RNw : RN wr (.slice ga m gc) (dropR ls pg) := by
        have := hR.out.2.1.own
        rw [HN.out, List.take_length] at this
        unfold RN
        rw [← hml]
        exact this
      have hx' := box5 X0.out hR.out.2.1.kp
      have hy' : wr.heap[w.heap.size + 1]? = some r5Z := (hR.out.2.1.kp.block _ (heap_lt Y0.out) (fun e => e)).trans Y0.out
      have ks : Kept (fun y => y = w.heap.size) wr (wr.setCell ⟨w.heap.size, 3, none⟩ (.slice ga m gc)) := (Kept.refl (fun y => y = w.heap.size) wr).setCell (p := ⟨w.heap.size, 3, none⟩) rfl _
      have X2 := hid (show (wr.setCell ⟨w.heap.size, 3, none⟩ (.slice ga m gc)).heap[w.heap.size]? = some (r5O oi P (.slice fa fl fc) (.slice ga m gc)) from heap_set hx' 3 _)
      have Y2 := hid ((ks.block _ (heap_lt hy') (by omega)).trans hy')
      have K2 := (none_trans K0.out hR.out.2.1.kp).setNew (p := ⟨w.heap.size, 3, none⟩) (fun e => absurd e (Nat.lt_irrefl _)) (.slice ga m gc)
      have R2 := own_kept RNw ks (fun y e he => by
        obtain ⟨cs, hc⟩ := own_ty RNw e
        exact ty_ne hc hx' (by decide) he)
      have HML := hid hml
      have FIN := hid (fun u0 u1 u2 u3 => And.intro (set4_kept K2 (w.heap.size + 1) (by omega) u0 u1 u2 u3) (RN.set4 R2 Y2.out u0 u1 u2 u3))
      obtain ⟨a0, a1, a2, a3, fa4⟩ := r5c X2.out
      obtain ⟨b0, b1, b2, b3, fb⟩ := r5c Y2.out
      clear hx' hy' ks RNw R2 K2 hml
      go_wp2_with fail
      exact ⟨rfl, r5V oi P (.slice fa fl fc) (.slice ga m gc), by simp [results, Tryz.results94, go_sem, b0, b1, b2, b3], ga, gc, by rw [HML.out], (FIN.out _ _ _ _).1, by rw [← HML.out]; exact (FIN.out _ _ _ _).2⟩
end Go.Proofs.YthglogiglimebaaGreat
