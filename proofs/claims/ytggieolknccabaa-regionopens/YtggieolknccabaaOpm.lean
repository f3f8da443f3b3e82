/- RegionOpens: rows of rows of words; Open of all that the law has made. -/
import Derived.Test.YtggieolknccabaaOpl
namespace Go.Proofs.Ytggieolknccabaa
open Go.RowKit
set_option linter.unusedVariables false

def rowN (np k : Nat) : Nat := (np / 2 ^ (k + 1) + 63) / 64
/-- The first K rows are zeros, of the right length. -/
structure PR (w0 W : World) (v : Value) (np K n : Nat) (vs : List Value) : Prop where
  gs : GS w0 W 43 1 v n vs
  vl : vs.length = n
  kn : K ≤ n
  rw : ∀ k, k < K → ∃ g, vs[k]? = some (.slice (some ⟨g, 0, none⟩) (rowN np k) (rowN np k)) ∧ W.heap[g]? = some (.cells (wcells (List.replicate (rowN np k) 0)) 23 (0, 0))
theorem PR.keep {w0 W W' v np K n vs} (h : PR w0 W v np K n vs) (k : Kept none' W W') : PR w0 W' v np K n vs := ⟨h.gs.keep k, h.vl, h.kn, fun i hi => by
  obtain ⟨g, h1, h2⟩ := h.rw i hi
  exact ⟨g, h1, (k.block _ (heap_lt h2) (fun e => e)).trans h2⟩⟩
theorem PR.nil (w0 W : World) (np : Nat) (k : Kept none' w0 W) : PR w0 W (.slice none 0 0) np 0 0 [] := ⟨GS.nil _ _ _ _ k, rfl, Nat.le_refl _, fun i hi => by omega⟩
/-- One more row. -/
theorem PR.push {w0 W v np K n vs} (h : PR w0 W v np K n vs) (u : Value) (hu : u.oneCell' = true) (hn : n ≤ 2000) :
    ∃ g cap w', (∀ ty, (Builtin.append_ #[54, 54] ty #[v, .slice (some ⟨W.heap.size, 0, none⟩) 1 1]).run Try.prog (W.alloc (.cells #[u] 43)) = .ok (.slice (some ⟨g, 0, none⟩) (n + 1) cap) w') ∧ PR w0 w' (.slice (some ⟨g, 0, none⟩) (n + 1) cap) np K (n + 1) (vs ++ [u]) ∧ Kept (fun b => v.ownBlock = some b) W w' := by
  obtain ⟨i, hi, hzz⟩ := Option.map_eq_some_iff.1 info_wsl
  simp only [Prod.mk.injEq] at hzz
  have ka := (Kept.refl none' W).alloc (.cells #[u] 43)
  obtain ⟨g, cap, w', h1, h2, h5, h6, h7⟩ := (h.gs.keep ka).pushK 54 i (.slice none 0 0) 24 Try.underlying54 hi hzz.1 hzz.2.1 hzz.2.2 rfl (by decide) ⟨W.heap.size, 0, none⟩ 1 [u] rfl (fun j u' hj => cells_new (cs := #[u]) j u' hj) (by simpa using hu) (by simp only [maxLen]; omega) (by omega)
  have kk : Kept (fun b => v.ownBlock = some b) W w' := ka.trans h6 (fun _ _ e => e.elim) (fun _ _ e => e)
  have kn := h.kn
  have vl := h.vl
  refine ⟨g, cap, w', h1, ⟨h2, by rw [List.length_append, h.vl]; rfl, by omega, fun k hk => ?_⟩, kk⟩
  obtain ⟨g', e1, e2⟩ := h.rw k hk
  refine ⟨g', by rw [List.getElem?_append_left (by omega)]; exact e1, (kk.block _ (heap_lt e2) (fun e => ?_)).trans e2⟩
  obtain ⟨cs, hc⟩ := own_ty h.gs.own e
  exact absurd (ty_ne' hc e2) (by decide)
/-- The last row is a row of zeros, too. -/
theorem PR.more {w0 W v np n vs g} (h : PR w0 W v np n (n + 1) vs) (h1 : vs[n]? = some (.slice (some ⟨g, 0, none⟩) (rowN np n) (rowN np n))) (h2 : W.heap[g]? = some (.cells (wcells (List.replicate (rowN np n) 0)) 23 (0, 0))) : PR w0 W v np (n + 1) (n + 1) vs := ⟨h.gs, h.vl, Nat.le_refl _, fun k hk => by
  by_cases e : k = n
  · rw [e]; exact ⟨g, h1, h2⟩
  · exact h.rw k (by omega)⟩
abbrev pg2 : Pg := blankP 2 0
theorem pg2_in : PgIn pg2 := by constructor <;> first | decide | exact ⟨by decide, by decide⟩
theorem pg2_ok : PgOk pg2 := by constructor <;> decide
/-- pagemap.Open of what the law has made. -/
theorem open_made {w0 W : World} {la qa : Option Addr} {np lc nq qc o : Nat} {vs : List Value} (ho : o ≤ 8) (hnp : np ≤ 1024) (hd : ∃ r, np = r * 2 ^ o) (hl : GS w0 W 53 11 (.slice la np lc) np (reps pg2 np)) (K : Nat) (hK : nq = o → K = o) (hq : PR w0 W (.slice qa nq qc) np K nq vs) (hq2 : nq ≤ 2000) (V : World) (k : Kept none' W V) :
    Calls Try.prog 30 #[.int .i64 (o : Int), .slice la np lc, .slice qa nq qc] V fun e w' => ((decide (nq = o) = false ∧ e = .returned (.tuple #[.pointer none, .int .i64 7])) ∨ ∃ b, decide (nq = o) = true ∧ e = .returned (.tuple #[.pointer (some ⟨b, 0, none⟩), .int .i64 0])) ∧ Kept none' V w' := by
  by_cases hno : nq = o
  · subst hno
    obtain rfl : K = nq := hK rfl
    have hl2 := hl.keep k
    have hq3 := hq.keep k
    refine (open_in (.slice la np lc) (.slice qa K qc) (fun i => vs.getD i (.slice none 0 0)) ⟨K, np, fun _ => pg2, fun i => List.replicate (rowN np i) 0⟩ ho hnp hd V (pages_in hl2 pg2_in (by omega)) ?_ (fun i hi => ?_) (fun i hi => ?_)).mono ?_
    · refine ⟨show K ≤ 9223372036854775807 by omega, qa, qc, rfl, ?_⟩
      rcases Nat.eq_zero_or_pos K with h0 | h0
      · exact .inl h0
      · have c : ∀ i, i < K → ∃ g, qa = some ⟨g, 0, none⟩ ∧ V.cell? ⟨g, i, none⟩ = some (vs.getD i (.slice none 0 0)) := fun i hi => own_get hq3.gs.own (i := i) (by
          have := hq3.vl
          rw [List.getD_eq_getElem?_getD, List.getElem?_eq_getElem (by omega)]
          rfl)
        obtain ⟨g, hg, c0⟩ := c 0 h0
        refine .inr ⟨g, 0, hg, World.block_lt_of_cell? V _ c0, fun i hi => ⟨?_, ?_⟩⟩
        · obtain ⟨g', hg', c1⟩ := c i hi
          rw [hg] at hg'
          injection hg' with hg'
          injection hg' with hg'
          rw [Nat.zero_add, hg']
          exact c1
        · obtain ⟨g', e1, e2⟩ := hq3.rw i hi
          show Src V (vs.getD i _) (List.replicate (rowN np i) 0)
          rw [List.getD_eq_getElem?_getD, e1]
          exact src_zero e2
    · refine ⟨?_, ?_⟩
      · show clampP _ pg2 = pg2
        unfold clampP clampI pg2 blankP
        simp
        omega
      · exact pg2_ok
    · show (List.replicate (rowN np i) 0).length = _
      rw [List.length_replicate]
      rfl
    · rintro e w' ⟨b, rfl, hb⟩
      obtain ⟨B', _, _, hk⟩ := hb.out
      exact ⟨.inr ⟨b, by simp, rfl⟩, hk⟩
  · refine (open_nums (o : Int) np nq la qa lc qc (by omega) (by omega) (fun h => hno ?_) V).mono ?_
    · obtain ⟨_, _, _, _, h5⟩ := h
      omega
    · rintro e w' ⟨rfl, hk⟩
      exact ⟨.inl ⟨by simpa using hno, rfl⟩, hk⟩
end Go.Proofs.Ytggieolknccabaa
