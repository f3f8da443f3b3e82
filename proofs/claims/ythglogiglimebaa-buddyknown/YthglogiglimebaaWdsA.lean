/- Rows of numbers: owned, read, appended to. -/
import Derived.Test.YthglogiglimebaaRngC
import Derived.ArgAppend
import Derived.Laws.OwnMore
namespace Go.Proofs.Ythglogiglimebaa.M
open Go.RowKit Go.Shelf
set_option linter.unusedVariables false

def e64 (x : Nat) : Value := .int .u64 (x : Int)
/-- A slice that owns its row of numbers. -/
structure Lst (w : World) (v : Value) (xs : List Nat) : Prop where
  lt : ∀ x ∈ xs, x < 18446744073709551616
  own : w.ownsRow 0 24 1 v xs.length (xs.map e64)
/-- A slice of numbers that is read. -/
def Wds (w : World) (v : Value) (xs : List Nat) : Prop :=
  (∀ x ∈ xs, x < 18446744073709551616) ∧ ∃ ao cap, v = .slice (adr ao) xs.length cap ∧ (xs ≠ [] → ∃ g, ao = some g) ∧ ∀ g, ao = some g → g < w.heap.size ∧ xs.length ≤ cap ∧ ∀ i, i < xs.length → w.cell? ⟨g, i, none⟩ = some (e64 (xs.getD i 0))
theorem Lst.wds {w v xs} (h : Lst w v xs) : Wds w v xs := by
  refine ⟨h.lt, ?_⟩
  rcases h.own.2 with ⟨rfl, h0⟩ | ⟨g, cap, cur, rfl, hb, hg, hnc, hcm, hcs, htake⟩
  · have : xs = [] := List.eq_nil_of_length_eq_zero h0
    subst this
    exact ⟨none, 0, rfl, fun h => absurd rfl h, fun g hg => by cases hg⟩
  · refine ⟨some g, cap, rfl, fun _ => ⟨g, rfl⟩, fun g' e => ?_⟩
    cases e
    refine ⟨(Array.getElem?_eq_some_iff.1 hg).1, hnc, fun i hi => ?_⟩
    have hti : (cur.toList.take (xs.length * 1))[i]? = (xs.map e64)[i]? := by rw [htake]
    rw [List.getElem?_take, if_pos (by omega)] at hti
    rw [List.getElem?_map] at hti
    simp only [World.cell?, hg]
    rw [← Array.getElem?_toList, hti, List.getElem?_eq_getElem hi]
    simp [hi, List.getD]
theorem Wds.kept {w w' v xs} {S : Nat → Prop} (h : Wds w v xs) (k : Kept S w w') (hS : ∀ r, v.ownBlock = some r → ¬ S r) : Wds w' v xs := by
  obtain ⟨h1, ao, cap, rfl, h2, h3⟩ := h
  refine ⟨h1, ao, cap, rfl, h2, fun g hg => ?_⟩
  obtain ⟨hl, hc, hcell⟩ := h3 g hg
  subst hg
  refine ⟨Nat.lt_of_lt_of_le hl k.size, hc, fun i hi => ?_⟩
  exact k.cell (hS g rfl) (hcell i hi)
theorem Wds.keep {w w' v xs} (h : Wds w v xs) (k : Kept none' w w') : Wds w' v xs := h.kept k (fun _ _ x => x)
theorem Wds.lt {w v xs r} (h : Wds w v xs) (hr : v.ownBlock = some r) : r < w.heap.size := by
  obtain ⟨h1, ao, cap, rfl, h2, h3⟩ := h
  cases ao with
  | none => simp [adr, Value.ownBlock] at hr
  | some g => simp [adr, Value.ownBlock] at hr; subst hr; exact (h3 g rfl).1
theorem Lst.kept {w w' v xs} {S : Nat → Prop} (h : Lst w v xs) (k : Kept S w w') (hS : ∀ r, v.ownBlock = some r → ¬ S r) : Lst w' v xs := by
  refine ⟨h.lt, h.own.1, ?_⟩
  rcases h.own.2 with h0 | ⟨g, cap, cur, rfl, hb, hg, h3⟩
  · exact .inl h0
  · exact .inr ⟨g, cap, cur, rfl, hb, (k.block g (Array.getElem?_eq_some_iff.1 hg).1 (hS g rfl)).trans hg, h3⟩
theorem Lst.keep {w w' v xs} (h : Lst w v xs) (k : Kept none' w w') : Lst w' v xs := h.kept k (fun _ _ x => x)
theorem Lst.nil (w : World) : Lst w (.slice none 0 0) [] := ⟨fun _ h => (by cases h), World.ownsRow_nil _ _ _ _⟩
theorem Lst.blk {w v xs r} (h : Lst w v xs) (hr : v.ownBlock = some r) : ∃ cs, w.heap[r]? = some (.cells cs 24 (0, 0)) := by
  rcases h.own.2 with ⟨rfl, _⟩ | ⟨g, cap, cur, rfl, hb, hg, h3⟩
  · simp [Value.ownBlock] at hr
  · simp [Value.ownBlock] at hr
    subst hr
    exact ⟨_, hg⟩

theorem info_u64 : (Try.prog.info? 24).map (fun i => (i.zero, i.size, i.bytes)) = some (some (.int .u64 0), 1, 8) := by kernel_rfl

theorem grown_kept {w w' : World} {row : Option Nat} (h : w.grownBy w' row) : Kept (fun b => row = some b) w w' := ⟨h.os, h.tape, h.output, h.size, fun k hk hn => h.block k hk (fun e => hn e.symm)⟩

/-- One number more. -/
theorem push_run (w : World) (v : Value) (xs : List Nat) (x : Nat) (h : Lst w v xs) (hx : x < 18446744073709551616) (hlen : xs.length + 1 ≤ 4194305) (a : Addr) (c : Nat) (ha : w.cell? (a.add 0) = some (e64 x)) :
    ∃ v' w', (∀ ty, (Builtin.append_ #[43, 43] ty #[v, .slice (some a) 1 c]).run Try.prog w = .ok v' w') ∧ Lst w' v' (xs ++ [x]) ∧ Kept (fun b => v.ownBlock = some b) w w' ∧
      (v'.ownBlock = v.ownBlock ∨ ∃ r, v'.ownBlock = some r ∧ w.heap.size ≤ r) ∧ ∃ g cap, v' = .slice (some ⟨g, 0, none⟩) (xs.length + 1) cap := by
  obtain ⟨i, hi, hz0, hz1, hz2⟩ := info_parts info_u64
  have hmax : xs.length + 1 ≤ maxLen := by simp only [maxLen]; omega
  have hlt : ∀ y ∈ xs ++ [x], y < 18446744073709551616 := by
    intro y hy
    rcases List.mem_append.1 hy with hy | hy
    · exact h.lt y hy
    · simp at hy; subst hy; exact hx
  have hnews : ∀ j u, [e64 x][j]? = some u → w.cell? (a.add j) = some u := by
    intro j u hj
    match j, hj with
    | 0, hj => simp at hj; subst hj; exact ha
    | j + 1, hj => simp at hj
  have hmap : (xs ++ [x]).map e64 = xs.map e64 ++ [e64 x] := by simp
  have hl1 : (xs ++ [x]).length = xs.length + 1 := by simp
  by_cases hr : ∃ g cap, v = .slice (some ⟨g, 0, none⟩) xs.length cap ∧ xs.length + 1 ≤ cap
  · obtain ⟨g, cap, rfl, hroom⟩ := hr
    obtain ⟨w', hrun, hown, hgr⟩ := run_append_fits (P := Try.prog) w 0 43 0 24 i 1 Try.underlying43 hi hz1 g xs.length cap (xs.map e64) h.own a 1 c [e64 x] rfl hnews (by simp [Value.oneCell', e64]) hroom
    refine ⟨.slice (some ⟨g, 0, none⟩) (xs.length + 1) cap, w', fun ty => ?_, ⟨hlt, ?_⟩, grown_kept hgr, .inl rfl, g, cap, rfl⟩
    · rw [← hrun]; simp [Builtin.append_]
    · rw [hmap, hl1]; exact hown
  · have key : ∃ v' w', (Builtin.append_ #[43, 43] 0 #[v, .slice (some a) 1 c]).run Try.prog w = .ok v' w' ∧ w'.ownsRow w.heap.size 24 1 v' (xs.length + 1) (xs.map e64 ++ [e64 x]) ∧ Kept (fun b => v.ownBlock = some b) w w' := by
      have ho := h.own
      rcases ho.2 with ⟨rfl, h0⟩ | ⟨g, cap, cur, rfl, hb, hg, hnc, hcm, hcs, htake⟩
      · have : xs = [] := List.eq_nil_of_length_eq_zero h0
        subst this
        obtain ⟨v', w', hrun, hown, hgr, _⟩ := run_append_own (P := Try.prog) w w.heap.size 43 0 24 i (.int .u64 0) 1 8 Try.underlying43 hi hz0 hz1 hz2 rfl (by decide) (.slice none 0 0) 0 [] (World.ownsRow_nil _ _ _ _) a 1 c [e64 x] rfl hnews (by simp [Value.oneCell', e64]) hmax (by simp) (Nat.le_refl _)
        exact ⟨v', w', hrun, hown, grown_kept hgr⟩
      · obtain ⟨v', w', hrun, hown, hgr⟩ := run_append_arg_grows (P := Try.prog) w 43 0 24 i (.int .u64 0) 1 8 Try.underlying43 hi hz0 hz1 hz2 rfl (by decide) ⟨g, 0, none⟩ xs.length cap (xs.map e64) (by simp) (fun j u hj => by
          rw [Addr.add_lit, Nat.zero_add]
          rw [← htake, List.getElem?_take] at hj
          split at hj
          · simp only [World.cell?, hg]
            rw [← Array.getElem?_toList, hj]
            rfl
          · cases hj) a 1 c [e64 x] rfl hnews (Nat.lt_of_not_le fun hle => hr ⟨g, cap, rfl, hle⟩) hmax (by omega)
        exact ⟨v', w', hrun, hown, (grown_kept hgr).mono (fun _ _ e => by cases e)⟩
    obtain ⟨v', w', hrun, hown, hk⟩ := key
    rcases hown.2 with ⟨_, h0⟩ | ⟨g, cap, cur, rfl, hb, hg, h3⟩
    · omega
    · refine ⟨_, w', fun ty => ?_, ⟨hlt, ?_⟩, hk, .inr ⟨g, rfl, hb⟩, g, cap, rfl⟩
      · rw [← hrun]; simp [Builtin.append_]
      · rw [hmap, hl1]
        exact ⟨hown.1, .inr ⟨g, cap, cur, rfl, Nat.zero_le _, hg, h3⟩⟩

theorem wpListIn_append_run {F : Fence} {n : Nat} {P : Program} (w : World) {ops : Array Oper} {rest : List Oper} {o : Oper} {a : Act} {Q : Exit → Act → World → Prop} (hg : o.guard = none) (s x : Operand) (t : TypeId)
    (hop : o.op = Op.call { callee := Callee.builtin Builtin.append, args := #[s, x], argTypes := #[t, t] }) (v u : Value) (hs : a.eval s = v) (hx : a.eval x = u) (v' : Value) (w' : World)
    (hr : ∀ ty, (Builtin.append_ #[t, t] ty #[v, u]).run P w = .ok v' w') (h : wpListIn F n P ops Q rest (a.put o.dst v') w') : wpListIn F n P ops Q (o :: rest) a w := by
  refine wpListIn_plain hg fun K hK' => ?_
  have hrun := hr o.type
  unfold Oper.wpIn
  refine ⟨?_, ?_⟩
  · simp [Oper.about, hop, resolve, Target.leads, Sem.run_pure]
  · rw [Oper.semAt_plain F _ _ (by rw [hop]; intro c hc'; cases hc')]
    simp [execOp, hop, resolve, invoke, builtin, hs, hx, hrun, Result.andThen]
    exact hK' _ _ h
end Go.Proofs.Ythglogiglimebaa.M
