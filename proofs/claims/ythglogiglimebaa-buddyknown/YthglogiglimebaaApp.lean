/- Rows that grow by append. -/
import Derived.Test.YthglogiglimebaaPgO
import Derived.ArgAppend
import Derived.Laws.OwnMore
import Derived.Maps.AppendAt
import Derived.Lib.AppendZeros
namespace Go.Proofs.Ythglogiglimebaa
open Go.RowKit
set_option linter.unusedVariables false

/-- A row that grows, since w0: it is full, or newer than w0. -/
structure GS (w0 W : World) (e : TypeId) (size : Nat) (v : Value) (n : Nat) (xs : List Value) : Prop where
  own : W.ownsRow 0 e size v n xs
  new : ∀ g cap, v = .slice (some ⟨g, 0, none⟩) n cap → cap ≤ n ∨ w0.heap.size ≤ g
  kp : Kept none' w0 W
theorem grown_kept' {w w' : World} {row : Option Nat} (h : w.grownBy w' row) : Kept (fun b => row = some b) w w' := ⟨h.os, h.tape, h.output, h.size, fun k hk hn => h.block k hk (fun e => hn e.symm)⟩
theorem GS.nil (w0 W : World) (e : TypeId) (size : Nat) (k : Kept none' w0 W) : GS w0 W e size (.slice none 0 0) 0 [] :=
  ⟨World.ownsRow_nil _ _ _ _, fun g cap h => by simp at h, k⟩
theorem GS.keep {w0 W W' e size v n xs} (h : GS w0 W e size v n xs) (k : Kept none' W W') : GS w0 W' e size v n xs := by
  refine ⟨⟨h.own.1, ?_⟩, h.new, none_trans h.kp k⟩
  rcases h.own.2 with h0 | ⟨g, cap, cur, rfl, hb, hg, h3⟩
  · exact .inl h0
  · exact .inr ⟨g, cap, cur, rfl, hb, (k.block g (heap_lt hg) (fun x => x)).trans hg, h3⟩
theorem GS.push {w0 W : World} {e : TypeId} {size : Nat} {v : Value} {n : Nat} {xs : List Value} (h : GS w0 W e size v n xs) (t : TypeId) (i : TypeInfo) (z : Value) (bytes : Nat)
    (ht : Try.prog.underlying t = some (.slice e)) (hi : Try.prog.info? e = some i) (hz : i.zero = some z) (hs : i.size = size) (hby : i.bytes = bytes) (hzs : z.cells.size = size) (hsz : 0 < size)
    (a : Addr) (c : Nat) (news : List Value) (hl : news.length = size) (hnews : ∀ j u, news[j]? = some u → W.cell? (a.add j) = some u) (h1 : ∀ u ∈ news, u.oneCell' = true) (h63 : n + 1 ≤ maxLen) (hbb : (n + 1) * bytes ≤ 140737488355328) :
    ∃ g cap w', (∀ ty, (Builtin.append_ #[t, t] ty #[v, .slice (some a) 1 c]).run Try.prog W = .ok (.slice (some ⟨g, 0, none⟩) (n + 1) cap) w') ∧ GS w0 w' e size (.slice (some ⟨g, 0, none⟩) (n + 1) cap) (n + 1) (xs ++ news) ∧ w0.heap.size ≤ g ∧ (∀ x, v.ownBlock ≠ some x → ∀ o, W.heap[x]? = some o → w'.heap[x]? = some o) := by
  have hl' : news.length = 1 * size := by rw [hl, Nat.one_mul]
  have ho := h.own
  by_cases hr : ∃ g cap, v = .slice (some ⟨g, 0, none⟩) n cap ∧ n + 1 ≤ cap
  · obtain ⟨g, cap, rfl, hroom⟩ := hr
    obtain ⟨w', hrun, hown, hgr⟩ := run_append_fits (P := Try.prog) W 0 t 0 e i size ht hi hs g n cap xs ho a 1 c news hl' hnews h1 hroom
    have hg := (h.new g cap rfl).resolve_left (by omega)
    have hk := grown_kept' hgr
    refine ⟨g, cap, w', fun ty => ?_, ⟨hown, fun g' cap' e => ?_, h.kp.trans hk (fun _ _ x => x) (fun x hx e => ?_)⟩, hg, fun x hx o hxo => (hk.block x (heap_lt hxo) hx).trans hxo⟩
    · rw [← hrun]; simp [Builtin.append_]
    · simp at e; exact .inr (by omega)
    · cases e; omega
  · have key : ∃ v' w', (Builtin.append_ #[t, t] 0 #[v, .slice (some a) 1 c]).run Try.prog W = .ok v' w' ∧ w'.ownsRow W.heap.size e size v' (n + 1) (xs ++ news) ∧ Kept none' W w' := by
      rcases ho.2 with ⟨rfl, h0⟩ | ⟨g, cap, cur, rfl, hb, hg, hnc, hcm, hcs, htake⟩
      · subst h0
        have : xs = [] := List.eq_nil_of_length_eq_zero (by rw [ho.1, Nat.zero_mul])
        subst this
        obtain ⟨v', w', hrun, hown, hgr, _⟩ := run_append_own (P := Try.prog) W W.heap.size t 0 e i z size bytes ht hi hz hs hby hzs hsz (.slice none 0 0) 0 [] (World.ownsRow_nil _ _ _ _) a 1 c news hl' hnews h1 h63 hbb (Nat.le_refl _)
        exact ⟨v', w', hrun, hown, (grown_kept' hgr).mono (fun _ _ e => by cases e)⟩
      · obtain ⟨v', w', hrun, hown, hgr⟩ := run_append_arg_grows (P := Try.prog) W t 0 e i z size bytes ht hi hz hs hby hzs hsz ⟨g, 0, none⟩ n cap xs ho.1 (fun j u hj => by
          rw [Addr.add_lit, Nat.zero_add]
          rw [← htake, List.getElem?_take] at hj
          split at hj
          · simp only [World.cell?, hg]
            rw [← Array.getElem?_toList, hj]
            rfl
          · cases hj) a 1 c news hl' hnews (Nat.lt_of_not_le fun hle => hr ⟨g, cap, rfl, hle⟩) h63 hbb
        exact ⟨v', w', hrun, hown, (grown_kept' hgr).mono (fun _ _ e => by cases e)⟩
    obtain ⟨v', w', hrun, hown, hk⟩ := key
    rcases hown.2 with ⟨_, h0⟩ | ⟨g, cap, cur, rfl, hb, hg, h3⟩
    · omega
    · refine ⟨g, cap, w', fun ty => ?_, ⟨⟨hown.1, .inr ⟨g, cap, cur, rfl, Nat.zero_le _, hg, h3⟩⟩, fun g' cap' e => ?_, none_trans h.kp hk⟩, Nat.le_trans h.kp.size hb, fun x hx o hxo => (hk.block x (heap_lt hxo) (fun x => x)).trans hxo⟩
      · rw [← hrun]; simp [Builtin.append_]
      · simp at e
        exact .inr (by have := h.kp.size; omega)
theorem info_w64 : (Try.prog.info? 24).map (fun i => (i.zero, i.size, i.bytes)) = some (some (.int .u64 0), 1, 8) := by kernel_rfl
theorem cells_new {w : World} {cs : Array Value} {t : TypeId} (j : Nat) (u : Value) (h : cs.toList[j]? = some u) : (w.alloc (.cells cs t)).cell? (Addr.add ⟨w.heap.size, 0, none⟩ j) = some u := by
  rw [Addr.add_lit, Nat.zero_add]
  have := heap_new w (.cells cs t)
  simp only [World.cell?, this]
  rw [← Array.getElem?_toList, h]
  rfl
theorem push_w64 {w0 W : World} {v : Value} {n : Nat} {xs : List Value} (h : GS w0 W 24 1 v n xs) (y : Int) (hn : n ≤ 2000) :
    ∃ g cap w', (∀ ty, (Builtin.append_ #[43, 43] ty #[v, .slice (some ⟨W.heap.size, 0, none⟩) 1 1]).run Try.prog (W.alloc (.cells #[.int .u64 y] 24)) = .ok (.slice (some ⟨g, 0, none⟩) (n + 1) cap) w') ∧ GS w0 w' 24 1 (.slice (some ⟨g, 0, none⟩) (n + 1) cap) (n + 1) (xs ++ [.int .u64 y]) := by
  obtain ⟨i, hi, hzz⟩ := Option.map_eq_some_iff.1 info_w64
  simp only [Prod.mk.injEq] at hzz
  obtain ⟨g, cap, w', h1, h2, _⟩ := (h.keep ((Kept.refl none' W).alloc (.cells #[.int .u64 y] 24))).push 43 i (.int .u64 0) 8 Try.underlying43 hi hzz.1 hzz.2.1 hzz.2.2 rfl (by decide) ⟨W.heap.size, 0, none⟩ 1 [.int .u64 y] rfl (fun j u hj => cells_new (cs := #[.int .u64 y]) j u hj) (by simp [Value.oneCell']) (by simp only [maxLen]; omega) (by omega)
  exact ⟨g, cap, w', h1, h2⟩
def flds (p : Pg) : List Value := [.int .i64 p.kd, .int .i64 p.od, .int .i64 p.cl, .int .i64 p.lv, .int .i64 p.nx, .int .i64 p.pv, .int .i64 p.fs, .int .u64 (p.b0 : Int), .int .u64 (p.b1 : Int), .int .u64 (p.b2 : Int), .int .u64 (p.b3 : Int)]
theorem push_page {w0 W : World} {v : Value} {n : Nat} {xs : List Value} (h : GS w0 W 131 11 v n xs) (p : Pg) (hn : n ≤ 2000) :
    ∃ g cap w', (∀ ty, (Builtin.append_ #[99, 99] ty #[v, .slice (some ⟨W.heap.size, 0, none⟩) 1 1]).run Try.prog (W.alloc (.cells (flds p).toArray 131)) = .ok (.slice (some ⟨g, 0, none⟩) (n + 1) cap) w') ∧ GS w0 w' 131 11 (.slice (some ⟨g, 0, none⟩) (n + 1) cap) (n + 1) (xs ++ flds p) := by
  obtain ⟨i, hi, hz, hs, hb⟩ := info_page_parts
  obtain ⟨g, cap, w', h1, h2, _⟩ := (h.keep ((Kept.refl none' W).alloc (.cells (flds p).toArray 131))).push 99 i (pval zeroP) 88 Try.underlying99 hi hz hs hb rfl (by decide) ⟨W.heap.size, 0, none⟩ 1 (flds p) rfl (fun j u hj => cells_new (cs := (flds p).toArray) j u hj) (by simp [Value.oneCell', flds]) (by simp only [maxLen]; omega) (by omega)
  exact ⟨g, cap, w', h1, h2⟩
end Go.Proofs.Ythglogiglimebaa
