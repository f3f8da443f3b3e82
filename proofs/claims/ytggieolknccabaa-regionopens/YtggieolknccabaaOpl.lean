/- RegionOpens: rows that the law has made. -/
import Derived.Test.YtggieolknccabaaOpo
import Derived.ArgAppend
import Derived.Laws.OwnMore
import Derived.Maps.AppendAt
import Derived.Lib.AppendZeros
namespace Go.Proofs.Ytggieolknccabaa
open Go.RowKit
set_option linter.unusedVariables false

theorem GS.pushK {w0 W : World} {e : TypeId} {size : Nat} {v : Value} {n : Nat} {xs : List Value} (h : GS w0 W e size v n xs) (t : TypeId) (i : TypeInfo) (z : Value) (bytes : Nat)
    (ht : Try.prog.underlying t = some (.slice e)) (hi : Try.prog.info? e = some i) (hz : i.zero = some z) (hs : i.size = size) (hby : i.bytes = bytes) (hzs : z.cells.size = size) (hsz : 0 < size)
    (a : Addr) (c : Nat) (news : List Value) (hl : news.length = size) (hnews : ∀ j u, news[j]? = some u → W.cell? (a.add j) = some u) (h1 : ∀ u ∈ news, u.oneCell' = true) (h63 : n + 1 ≤ maxLen) (hbb : (n + 1) * bytes ≤ 140737488355328) :
    ∃ g cap w', (∀ ty, (Builtin.append_ #[t, t] ty #[v, .slice (some a) 1 c]).run Try.prog W = .ok (.slice (some ⟨g, 0, none⟩) (n + 1) cap) w') ∧ GS w0 w' e size (.slice (some ⟨g, 0, none⟩) (n + 1) cap) (n + 1) (xs ++ news) ∧ w0.heap.size ≤ g ∧ Kept (fun b => v.ownBlock = some b) W w' ∧ (v.ownBlock = some g ∨ W.heap.size ≤ g) := by
  have hl' : news.length = 1 * size := by rw [hl, Nat.one_mul]
  have ho := h.own
  by_cases hr : ∃ g cap, v = .slice (some ⟨g, 0, none⟩) n cap ∧ n + 1 ≤ cap
  · obtain ⟨g, cap, rfl, hroom⟩ := hr
    obtain ⟨w', hrun, hown, hgr⟩ := run_append_fits (P := Try.prog) W 0 t 0 e i size ht hi hs g n cap xs ho a 1 c news hl' hnews h1 hroom
    have hg := (h.new g cap rfl).resolve_left (by omega)
    have hk := grown_kept' hgr
    refine ⟨g, cap, w', fun ty => ?_, ⟨hown, fun g' cap' e => ?_, h.kp.trans hk (fun _ _ x => x) (fun x hx e => ?_)⟩, hg, hk, .inl (by simp [Value.ownBlock])⟩
    · rw [← hrun]; simp [Builtin.append_]
    · simp at e; exact .inr (by omega)
    · cases e; omega
  · have key : ∃ v' w', (Builtin.append_ #[t, t] 0 #[v, .slice (some a) 1 c]).run Try.prog W = .ok v' w' ∧ w'.ownsRow W.heap.size e size v' (n + 1) (xs ++ news) ∧ Kept none' W w' := by
      rcases ho.2 with ⟨rfl, h0⟩ | ⟨g, cap, cur, rfl, hb, hg, hnc, hcm, hcs, htake⟩
      · subst h0
        have : xs = [] := List.eq_nil_of_length_eq_zero (by rw [ho.1, Nat.zero_mul])
        subst this
        obtain ⟨v', w', hrun, hown, hgr, _⟩ := run_append_own (P := Try.prog) W W.heap.size t 0 e i z size bytes ht hi hz hs hby hzs hsz (.slice none 0 0) 0 [] (World.ownsRow_nil _ _ _ _) a 1 c news hl' hnews h1 h63 hbb (Nat.le_refl _)
        exact ⟨v', w', hrun, hown, (grown_kept' hgr).mono (fun _ _ e => by cases e)⟩
      · obtain ⟨v', w', hrun, hown, hgr⟩ := run_append_arg_grows (P := Try.prog) W t 0 e i z size bytes ht hi hz hs hby hzs hsz ⟨g, 0, none⟩ n cap xs ho.1 (fun j u hj => by
          rw [Addr.add_lit, Nat.zero_add]
          rw [← htake, List.getElem?_take] at hj
          split at hj
          · simp only [World.cell?, hg]
            rw [← Array.getElem?_toList, hj]
            rfl
          · cases hj) a 1 c news hl' hnews (Nat.lt_of_not_le fun hle => hr ⟨g, cap, rfl, hle⟩) h63 hbb
        exact ⟨v', w', hrun, hown, (grown_kept' hgr).mono (fun _ _ e => by cases e)⟩
    obtain ⟨v', w', hrun, hown, hk⟩ := key
    rcases hown.2 with ⟨_, h0⟩ | ⟨g, cap, cur, rfl, hb, hg, h3⟩
    · omega
    · refine ⟨g, cap, w', fun ty => ?_, ⟨⟨hown.1, .inr ⟨g, cap, cur, rfl, Nat.zero_le _, hg, h3⟩⟩, fun g' cap' e => ?_, none_trans h.kp hk⟩, Nat.le_trans h.kp.size hb, hk.mono (fun _ _ e => e.elim), .inr hb⟩
      · rw [← hrun]; simp [Builtin.append_]
      · simp at e
        exact .inr (by have := h.kp.size; omega)
theorem add0 (g j : Nat) : (⟨g, 0, none⟩ : Addr).add j = ⟨g, j, none⟩ := by
  cases j <;> simp [Addr.add]
theorem own_val {W : World} {b : Nat} {e : TypeId} {size : Nat} {v : Value} {n : Nat} {xs : List Value} (h : W.ownsRow b e size v n xs) : ∃ va vc, v = .slice va n vc := by
  rcases h.2 with ⟨h0, h1⟩ | ⟨g, cap, cur, h0, _⟩
  · exact ⟨none, 0, by rw [h0, h1]⟩
  · exact ⟨_, _, h0⟩
theorem own_get {W : World} {b : Nat} {e : TypeId} {size : Nat} {va : Option Addr} {n vc : Nat} {xs : List Value} (h : W.ownsRow b e size (.slice va n vc) n xs) {i : Nat} {u : Value} (hi : xs[i]? = some u) : ∃ g, va = some ⟨g, 0, none⟩ ∧ W.cell? ⟨g, i, none⟩ = some u := by
  rcases h.2 with ⟨_, h1⟩ | ⟨g, cap, cur, h0, _⟩
  · have := h.1
    rw [h1, Nat.zero_mul] at this
    rw [List.eq_nil_of_length_eq_zero this] at hi
    simp at hi
  · injection h0 with h0
    refine ⟨g, h0, ?_⟩
    have := World.ownsRow.cells h (g := g) (by rw [h0]; rfl) _ _ hi
    rw [add0] at this
    exact this
theorem own_kept {W W' : World} {b : Nat} {e : TypeId} {size : Nat} {v : Value} {n : Nat} {xs : List Value} {S : Nat → Prop} (h : W.ownsRow b e size v n xs) (k : Kept S W W') (hS : ∀ x, v.ownBlock = some x → ¬ S x) : W'.ownsRow b e size v n xs := by
  refine ⟨h.1, ?_⟩
  rcases h.2 with h0 | ⟨g, cap, cur, h0, hb, hg, h3⟩
  · exact .inl h0
  · refine .inr ⟨g, cap, cur, h0, hb, (k.block _ (heap_lt hg) (hS g (by rw [h0]; rfl))).trans hg, h3⟩
theorem own_ty {W : World} {b : Nat} {e : TypeId} {size : Nat} {v : Value} {n : Nat} {xs : List Value} (h : W.ownsRow b e size v n xs) {y : Nat} (hy : v.ownBlock = some y) : ∃ cs, W.heap[y]? = some (.cells cs e (0, 0)) := by
  rcases h.2 with ⟨h0, _⟩ | ⟨g, cap, cur, h0, hb, hg, h3⟩
  · rw [h0] at hy; simp [Value.ownBlock] at hy
  · rw [h0] at hy; simp [Value.ownBlock] at hy
    subst hy
    exact ⟨_, hg⟩
/-- A page's fields, n times. -/
def reps (p : Pg) : Nat → List Value
  | 0 => []
  | n + 1 => reps p n ++ flds p
theorem reps_len (p : Pg) : ∀ n, (reps p n).length = n * 11
  | 0 => rfl
  | n + 1 => by
    show (reps p n ++ flds p).length = _
    rw [List.length_append, reps_len p n, Nat.add_mul]
    rfl
theorem reps_get (p : Pg) : ∀ n i j, i < n → j < 11 → (reps p n)[i * 11 + j]? = (flds p)[j]?
  | 0, i, j, hi, hj => by omega
  | n + 1, i, j, hi, hj => by
    show (reps p n ++ flds p)[i * 11 + j]? = _
    have hl := reps_len p n
    rcases Nat.lt_or_ge i n with e | e
    · rw [List.getElem?_append_left (by omega)]
      exact reps_get p n i j e hj
    · obtain rfl : i = n := by omega
      rw [List.getElem?_append_right (by omega), hl, Nat.add_sub_cancel_left]
/-- Pages that were appended one by one, as Open looks at them. -/
theorem pages_in {w0 W : World} {la : Option Addr} {n lc : Nat} {p : Pg} (h : GS w0 W 53 11 (.slice la n lc) n (reps p n)) (hp : PgIn p) (hn : n ≤ 9223372036854775807) : PagesIn W (.slice la n lc) n (fun _ => p) := by
  refine ⟨hn, la, lc, rfl, ?_⟩
  rcases Nat.eq_zero_or_pos n with h0 | h0
  · exact .inl h0
  · have c : ∀ i j u, i < n → j < 11 → (flds p)[j]? = some u → ∃ g, la = some ⟨g, 0, none⟩ ∧ W.cell? ⟨g, i * 11 + j, none⟩ = some u := fun i j u hi hj hu => own_get h.own (i := i * 11 + j) (by rw [reps_get p n i j hi hj]; exact hu)
    obtain ⟨g, hg, c0⟩ := c 0 0 _ h0 (by omega) rfl
    have d : ∀ i j u, i < n → j < 11 → (flds p)[j]? = some u → W.cell? ⟨g, i * 11 + j, none⟩ = some u := fun i j u hi hj hu => by
      obtain ⟨g', hg', h1⟩ := c i j u hi hj hu
      rw [hg] at hg'
      injection hg' with hg'
      injection hg' with hg'
      rw [hg']
      exact h1
    refine .inr ⟨g, 0, hg, World.block_lt_of_cell? W _ c0, fun i hi => ⟨hp, ?_⟩⟩
    unfold PgC
    rw [Nat.zero_add]
    exact ⟨d i 0 _ hi (by omega) rfl, d i 1 _ hi (by omega) rfl, d i 2 _ hi (by omega) rfl, d i 3 _ hi (by omega) rfl, d i 4 _ hi (by omega) rfl, d i 5 _ hi (by omega) rfl, d i 6 _ hi (by omega) rfl, d i 7 _ hi (by omega) rfl, d i 8 _ hi (by omega) rfl, d i 9 _ hi (by omega) rfl, d i 10 _ hi (by omega) rfl⟩
theorem src_zero {W : World} {g n : Nat} (h : W.heap[g]? = some (.cells (wcells (List.replicate n 0)) 23 (0, 0))) : Src W (.slice (some ⟨g, 0, none⟩) n n) (List.replicate n 0) := by
  refine ⟨fun i => ?_, some ⟨g, 0, none⟩, n, by rw [List.length_replicate], ?_⟩
  · rw [List.getD_eq_getElem?_getD, List.getElem?_replicate]
    split <;> decide
  · refine .inr ⟨⟨g, 0, none⟩, rfl, heap_lt h, fun j hj => ?_⟩
    rw [List.length_replicate] at hj
    rw [Addr.add_lit, Nat.zero_add]
    simp [World.cell?, h, wcells, hj, List.getD]
set_option maxRecDepth 4000 in
theorem Power6 (k : Nat) (hk : k ≤ 8) (w : World) : Calls Try.prog 21 #[.int .i64 (k : Int)] w fun e w' => e = .returned (.int .i64 ((2 ^ k : Nat) : Int)) ∧ w' = w := by
  go_enter Try.func21, Try.ntmps21
  go_wp2_with fail
  go_loopw [3, 4] (fun x i W => ∃ j z : Nat, j ≤ k ∧ z ≤ 256 ∧ i = .int .i64 j ∧ x = .int .i64 z ∧ Hid (z = 2 ^ j ∧ W = w)) (fun _ i _ => k - (intOf i).toNat)
  case atStart => exact ⟨0, 1, Nat.zero_le _, by omega, rfl, rfl, hid ⟨rfl, rfl⟩⟩
  case round =>
    obtain ⟨j, z, hj, hz, rfl, rfl, hZ⟩ := hrel
    by_cases hlt : j < k
    · have hji : (j : Int) < (k : Int) := by omega
      obtain ⟨z2, hz2⟩ : ∃ z2, z2 = z * 2 := ⟨_, rfl⟩
      have hzi : (z : Int) * 2 = (z2 : Int) := by omega
      have hz256 : z2 ≤ 256 := by
        have : 2 ^ (j + 1) ≤ 2 ^ 8 := Nat.pow_le_pow_right (by decide) (by omega)
        rw [hz2, hZ.out.1, ← Nat.pow_succ]
        exact this
      have hzi2 : (z : Int) ≤ 256 := by omega
      have D := hid (show z2 = 2 ^ (j + 1) ∧ wr = w from ⟨by rw [hz2, hZ.out.1, Nat.pow_succ], hZ.out.2⟩)
      clear hz2 hZ
      go_wp2_with fail
      exact ⟨⟨j + 1, z2, by omega, hz256, by simp, by simp, D⟩, by simp [intOf]; omega⟩
    · obtain rfl : j = k := by omega
      have hji : ¬ (j : Int) < (j : Int) := by omega
      go_wp2_with fail
      go_ret
      exact ⟨by first | rw [← hZ.out.1] | (rw [hZ.out.1]; rfl) | simp [hZ.out.1], hZ.out.2⟩
end Go.Proofs.Ytggieolknccabaa
