import Derived.Test.YthomkkboeldgnaaGreatGonA
import Derived.ArgAppend
import Derived.Laws.OwnMore
import Derived.Maps.AppendAt
import Derived.Lib.AppendZeros
/- RegionGone: rows that grow beside a pool; the law's small; rows of truths. -/
namespace Go.Proofs.YthomkkboeldgnaaGreat
open Go.RowKit
set_option linter.unusedVariables false

theorem GS.pushK {w0 W : World} {e : TypeId} {size : Nat} {v : Value} {n : Nat} {xs : List Value} (h : GS w0 W e size v n xs) (t : TypeId) (i : TypeInfo) (z : Value) (bytes : Nat)
    (ht : Tryz.prog.underlying t = some (.slice e)) (hi : Tryz.prog.info? e = some i) (hz : i.zero = some z) (hs : i.size = size) (hby : i.bytes = bytes) (hzs : z.cells.size = size) (hsz : 0 < size)
    (a : Addr) (c : Nat) (news : List Value) (hl : news.length = size) (hnews : ∀ j u, news[j]? = some u → W.cell? (a.add j) = some u) (h1 : ∀ u ∈ news, u.oneCell' = true) (h63 : n + 1 ≤ maxLen) (hbb : (n + 1) * bytes ≤ 140737488355328) :
    ∃ g cap w', (∀ ty, (Builtin.append_ #[t, t] ty #[v, .slice (some a) 1 c]).run Tryz.prog W = .ok (.slice (some ⟨g, 0, none⟩) (n + 1) cap) w') ∧ GS w0 w' e size (.slice (some ⟨g, 0, none⟩) (n + 1) cap) (n + 1) (xs ++ news) ∧ w0.heap.size ≤ g ∧ Kept (fun b => v.ownBlock = some b) W w' ∧ (v.ownBlock = some g ∨ W.heap.size ≤ g) := by
  have hl' : news.length = 1 * size := by rw [hl, Nat.one_mul]
  have ho := h.own
  by_cases hr : ∃ g cap, v = .slice (some ⟨g, 0, none⟩) n cap ∧ n + 1 ≤ cap
  · obtain ⟨g, cap, rfl, hroom⟩ := hr
    obtain ⟨w', hrun, hown, hgr⟩ := run_append_fits (P := Tryz.prog) W 0 t 0 e i size ht hi hs g n cap xs ho a 1 c news hl' hnews h1 hroom
    have hg := (h.new g cap rfl).resolve_left (by omega)
    have hk := grown_kept' hgr
    refine ⟨g, cap, w', fun ty => ?_, ⟨hown, fun g' cap' e => ?_, h.kp.trans hk (fun _ _ x => x) (fun x hx e => ?_)⟩, hg, hk, .inl (by simp [Value.ownBlock])⟩
    · rw [← hrun]; simp [Builtin.append_]
    · simp at e; exact .inr (by omega)
    · cases e; omega
  · have key : ∃ v' w', (Builtin.append_ #[t, t] 0 #[v, .slice (some a) 1 c]).run Tryz.prog W = .ok v' w' ∧ w'.ownsRow W.heap.size e size v' (n + 1) (xs ++ news) ∧ Kept none' W w' := by
      rcases ho.2 with ⟨rfl, h0⟩ | ⟨g, cap, cur, rfl, hb, hg, hnc, hcm, hcs, htake⟩
      · subst h0
        have : xs = [] := List.eq_nil_of_length_eq_zero (by rw [ho.1, Nat.zero_mul])
        subst this
        obtain ⟨v', w', hrun, hown, hgr, _⟩ := run_append_own (P := Tryz.prog) W W.heap.size t 0 e i z size bytes ht hi hz hs hby hzs hsz (.slice none 0 0) 0 [] (World.ownsRow_nil _ _ _ _) a 1 c news hl' hnews h1 h63 hbb (Nat.le_refl _)
        exact ⟨v', w', hrun, hown, (grown_kept' hgr).mono (fun _ _ e => by cases e)⟩
      · obtain ⟨v', w', hrun, hown, hgr⟩ := run_append_arg_grows (P := Tryz.prog) W t 0 e i z size bytes ht hi hz hs hby hzs hsz ⟨g, 0, none⟩ n cap xs ho.1 (fun j u hj => by
          rw [Addr.add_lit, Nat.zero_add]
          rw [← htake, List.getElem?_take] at hj
          split at hj
          · simp only [World.cell?, hg]
            rw [← Array.getElem?_toList, hj]
            rfl
          · cases hj) a 1 c news hl' hnews (Nat.lt_of_not_le fun hle => hr ⟨g, cap, rfl, hle⟩) h63 hbb
        exact ⟨v', w', hrun, hown, (grown_kept' hgr).mono (fun _ _ e => by cases e)⟩
    obtain ⟨v', w', hrun, hown, hk⟩ := key
    rcases hown.2 with ⟨_, h0⟩ | ⟨g, cap, cur, rfl, hb, hg, h3⟩
    · omega
    · refine ⟨g, cap, w', fun ty => ?_, ⟨⟨hown.1, .inr ⟨g, cap, cur, rfl, Nat.zero_le _, hg, h3⟩⟩, fun g' cap' e => ?_, none_trans h.kp hk⟩, Nat.le_trans h.kp.size hb, hk.mono (fun _ _ e => e.elim), .inr hb⟩
      · rw [← hrun]; simp [Builtin.append_]
      · simp at e
        exact .inr (by have := h.kp.size; omega)
theorem add0 (g j : Nat) : (⟨g, 0, none⟩ : Addr).add j = ⟨g, j, none⟩ := by
  cases j <;> simp [Addr.add]
theorem own_val {W : World} {b : Nat} {e : TypeId} {size : Nat} {v : Value} {n : Nat} {xs : List Value} (h : W.ownsRow b e size v n xs) : ∃ va vc, v = .slice va n vc := by
  rcases h.2 with ⟨h0, h1⟩ | ⟨g, cap, cur, h0, _⟩
  · exact ⟨none, 0, by rw [h0, h1]⟩
  · exact ⟨_, _, h0⟩
theorem own_get {W : World} {b : Nat} {e : TypeId} {size : Nat} {va : Option Addr} {n vc : Nat} {xs : List Value} (h : W.ownsRow b e size (.slice va n vc) n xs) {i : Nat} {u : Value} (hi : xs[i]? = some u) : ∃ g, va = some ⟨g, 0, none⟩ ∧ W.cell? ⟨g, i, none⟩ = some u := by
  rcases h.2 with ⟨_, h1⟩ | ⟨g, cap, cur, h0, _⟩
  · have := h.1
    rw [h1, Nat.zero_mul] at this
    rw [List.eq_nil_of_length_eq_zero this] at hi
    simp at hi
  · injection h0 with h0
    refine ⟨g, h0, ?_⟩
    have := World.ownsRow.cells h (g := g) (by rw [h0]; rfl) _ _ hi
    rw [add0] at this
    exact this
theorem own_kept {W W' : World} {b : Nat} {e : TypeId} {size : Nat} {v : Value} {n : Nat} {xs : List Value} {S : Nat → Prop} (h : W.ownsRow b e size v n xs) (k : Kept S W W') (hS : ∀ x, v.ownBlock = some x → ¬ S x) : W'.ownsRow b e size v n xs := by
  refine ⟨h.1, ?_⟩
  rcases h.2 with h0 | ⟨g, cap, cur, h0, hb, hg, h3⟩
  · exact .inl h0
  · refine .inr ⟨g, cap, cur, h0, hb, (k.block _ (heap_lt hg) (hS g (by rw [h0]; rfl))).trans hg, h3⟩
theorem own_ty {W : World} {b : Nat} {e : TypeId} {size : Nat} {v : Value} {n : Nat} {xs : List Value} (h : W.ownsRow b e size v n xs) {y : Nat} (hy : v.ownBlock = some y) : ∃ cs, W.heap[y]? = some (.cells cs e (0, 0)) := by
  rcases h.2 with ⟨h0, _⟩ | ⟨g, cap, cur, h0, hb, hg, h3⟩
  · rw [h0] at hy; simp [Value.ownBlock] at hy
  · rw [h0] at hy; simp [Value.ownBlock] at hy
    subst hy
    exact ⟨_, hg⟩
theorem info_num : (Tryz.prog.info? 3).map (fun i => (i.zero, i.size, i.bytes)) = some (some (.int .i64 0), 1, 8) := by kernel_rfl
theorem info_bool : (Tryz.prog.info? 4).map (fun i => (i.zero, i.size, i.bytes)) = some (some (.bool false), 1, 1) := by kernel_rfl
theorem push_uK {w0 W : World} {v : Value} {n : Nat} {xs : List Value} (h : GS w0 W 24 1 v n xs) (y : Int) (hn : n ≤ 2000) :
    ∃ g cap w', (∀ t, (Builtin.append_ #[61, 61] t #[v, .slice (some ⟨W.heap.size, 0, none⟩) 1 1]).run Tryz.prog (W.alloc (.cells #[.int .u64 y] 24)) = .ok (.slice (some ⟨g, 0, none⟩) (n + 1) cap) w') ∧ GS w0 w' 24 1 (.slice (some ⟨g, 0, none⟩) (n + 1) cap) (n + 1) (xs ++ [.int .u64 y]) ∧ w0.heap.size ≤ g ∧ g < w'.heap.size ∧ Kept (fun b => v.ownBlock = some b) W w' ∧ (v.ownBlock = some g ∨ W.heap.size ≤ g) := by
  obtain ⟨i, hi, hzz⟩ := Option.map_eq_some_iff.1 info_w64
  simp only [Prod.mk.injEq] at hzz
  have ka := (Kept.refl none' W).alloc (.cells #[.int .u64 y] 24)
  obtain ⟨g, cap, w', h1, h2, h5, h6, h7⟩ := (h.keep ka).pushK 61 i (.int .u64 0) 8 Tryz.underlying61 hi hzz.1 hzz.2.1 hzz.2.2 rfl (by decide) ⟨W.heap.size, 0, none⟩ 1 [.int .u64 y] rfl (fun j u hj => cells_new (cs := #[.int .u64 y]) j u hj) (by simp [Value.oneCell']) (by simp only [maxLen]; omega) (by omega)
  obtain ⟨cs, hc⟩ := own_ty h2.own (y := g) (by simp [Value.ownBlock])
  refine ⟨g, cap, w', h1, h2, h5, heap_lt hc, ka.trans h6 (fun _ _ e => e.elim) (fun _ _ e => e), h7.imp (fun e => e) (fun e => Nat.le_trans ka.size e)⟩
theorem GS.keptE {w W W' : World} {e : TypeId} {v : Value} {n : Nat} {xs : List Value} (h : GS w W e 1 v n xs) (k : Kept none' w W') (hE : ∀ y, v.ownBlock = some y → W'.heap[y]? = W.heap[y]?) : GS w W' e 1 v n xs := by
  refine ⟨⟨h.own.1, ?_⟩, h.new, k⟩
  rcases h.own.2 with h0 | ⟨g, cap, cur, rfl, hb, hg, h3⟩
  · exact .inl h0
  · exact .inr ⟨g, cap, cur, rfl, hb, (hE g (by simp [Value.ownBlock])).trans hg, h3⟩
/-- A row of truths. -/
def BR (w : World) (I n : Nat) (f : Nat → Bool) : Prop := ∃ cs : Array Value, w.heap[I]? = some (.cells cs 4 (0, 0)) ∧ cs.size = n ∧ ∀ j, j < n → cs[j]? = some (.bool (f j))
theorem BR.cell {w I n f} (h : BR w I n f) (j : Nat) (hj : j < n) : w.cell? ⟨I, j, none⟩ = some (.bool (f j)) := by
  obtain ⟨cs, hg, hs, hc⟩ := h
  simp [World.cell?, hg, hc j hj]
theorem BR.froz {w I n f} (h : BR w I n f) (j : Nat) : w.frozen? ⟨I, j, none⟩ = false := by
  obtain ⟨cs, hg, hs, hc⟩ := h
  simp [World.frozen?, hg]
theorem BR.lt {w I n f} (h : BR w I n f) : I < w.heap.size := by
  obtain ⟨cs, hg, hs, hc⟩ := h
  exact heap_lt hg
theorem BR.same {w w' I n f} (h : BR w I n f) (k : w'.heap[I]? = w.heap[I]?) : BR w' I n f := by
  obtain ⟨cs, hg, hs, hc⟩ := h
  exact ⟨cs, k.trans hg, hs, hc⟩
theorem BR.set {w I n f} (h : BR w I n f) (c : Nat) (hc : c < n) (v : Bool) : BR (w.setCell ⟨I, c, none⟩ (.bool v)) I n (fun j => if j = c then v else f j) := by
  obtain ⟨cs, hg, hs, hh⟩ := h
  refine ⟨_, heap_set hg c _, by simpa using hs, fun j hj => ?_⟩
  show _ = some (Value.bool (if j = c then v else f j))
  rw [Array.getElem?_setIfInBounds]
  by_cases e : j = c
  · subst e
    rw [if_pos rfl, if_pos (by omega), if_pos rfl]
  · rw [if_neg (by omega), if_neg e]
    exact hh j hj
theorem tm4 (a : Int) : -3 ≤ a.tmod 4 ∧ a.tmod 4 ≤ 3 := by
  have h1 := Int.tmod_lt_of_pos a (show (0 : Int) < 4 by omega)
  have h2 := Int.lt_tmod_of_pos a (show (0 : Int) < 4 by omega)
  omega
set_option maxRecDepth 4000 in
theorem small_any (a b : Int) (w : World) :
    Calls Tryz.prog 5 #[.int .i64 a, .int .i64 b] w fun e w' => ∃ l o : Nat, l ≤ 3 ∧ o ≤ 3 ∧ e = .returned (cfgV 1048576 ((l + 1 : Nat) : Int) (o : Int)) ∧ Kept none' w w' := by
  have K0 := hid ((Kept.refl none' w).alloc (cfgO 0 0 0))
  have X0 := hid (heap_new w (cfgO 0 0 0))
  have hp : (∃ l : Nat, l ≤ 3 ∧ Int.tmod a 4 = (l : Int)) ∨ ∃ l : Nat, l ≤ 3 ∧ 0 < l ∧ Int.tmod a 4 = -(l : Int) := by
    have ha := tm4 a
    by_cases e : Int.tmod a 4 < 0
    · exact .inr ⟨(-(Int.tmod a 4)).toNat, by omega, by omega, by omega⟩
    · exact .inl ⟨(Int.tmod a 4).toNat, by omega, by omega⟩
  have hq : (∃ l : Nat, l ≤ 3 ∧ Int.tmod b 4 = (l : Int)) ∨ ∃ l : Nat, l ≤ 3 ∧ 0 < l ∧ Int.tmod b 4 = -(l : Int) := by
    have hb := tm4 b
    by_cases e : Int.tmod b 4 < 0
    · exact .inr ⟨(-(Int.tmod b 4)).toNat, by omega, by omega, by omega⟩
    · exact .inl ⟨(Int.tmod b 4).toNat, by omega, by omega⟩
  obtain ⟨x0, x1, x2⟩ := cfg3 X0.out
  go_enter Tryz.func5, Tryz.ntmps5
  clear x0 x1 x2
  rcases hp with ⟨l, hl3, hp⟩ | ⟨l, hl3, hl0, hp⟩ <;> rcases hq with ⟨o, ho3, hq⟩ | ⟨o, ho3, ho0, hq⟩
  all_goals
    go_wp2_with fail
    exact ⟨rfl, cfgV 1048576 ((l : Int) + 1) (o : Int), by simp [results, Tryz.results5, go_sem], l, o, hl3, ho3, by simp, (Kept.refl none' w).alloc _⟩
end Go.Proofs.YthomkkboeldgnaaGreat
