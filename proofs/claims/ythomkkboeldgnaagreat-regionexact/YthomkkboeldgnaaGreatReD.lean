import Derived.Test.YthomkkboeldgnaaGreatReC
/- RegionExact: the book of spans beside a pool; one more span. -/
namespace Go.Proofs.YthomkkboeldgnaaGreat
open Go.RowKit
set_option linter.unusedVariables false

/-- A row of spans lies beside a pool. -/
theorem Pol.sty {w W lw x t} (h : Pol w W lw x t) {y : Nat} {cs : Array Value} {z : Nat × Nat} (hy : W.heap[y]? = some (.cells cs 50 z)) : ¬ (bown x y ∨ y = x.b ∨ y = x.l ∨ y = lw) := by
  rintro ((hx | hx | ⟨k, hk, e2⟩) | rfl | rfl | rfl)
  · obtain ⟨cs', t', z', h1, h2⟩ := space_ty h.bd.sp hx
    have e3 := ty_ne' hy h1
    rcases h2 with rfl | rfl <;> exact absurd e3 (by decide)
  · rw [← h.bd.mo] at hx
    obtain ⟨cs', t', z', h1, h2⟩ := map_ty h.bd.mp hx
    have e3 := ty_ne' hy h1
    rcases h2 with rfl | rfl | rfl | rfl | rfl <;> exact absurd e3 (by decide)
  · rw [e2] at hy
    exact absurd (ty_ne' hy (h.bd.ls k hk).hc) (by decide)
  · exact absurd (ty_ne' hy h.bd.bs) (by decide)
  · obtain ⟨cs', hl, _⟩ := h.bd.lr
    exact absurd (ty_ne' hy hl) (by decide)
  · exact absurd (ty_ne' hy h.box) (by decide)
/-- The pool is called: the spans stay. -/
theorem SPR.pool {w W W' lw x t fr ls1 b v ls dl} (h : SPR W b v ls dl) (p : PO w W lw x t fr ls1) (k : Kept (bown x) W W') : SPR W' b v ls dl :=
  ⟨h.1, own_kept h.2 k (fun y hy e => by
    obtain ⟨cs, hc⟩ := own_ty h.2 hy
    exact p.pl.sty hc (.inl e))⟩
/-- One span as cells. -/
def sp1 (b : Nat) (r : Nat × Nat) (d : Value) : List Value := [.int .u64 ((b + 4096 * r.1 : Nat) : Int), .int .u64 ((4096 * 2 ^ r.2 : Nat) : Int), .int .i64 (r.2 : Int), d]
theorem spn_one (b : Nat) (ls : List (Nat × Nat)) (dl : List Value) (h : dl.length = ls.length) (r : Nat × Nat) (d : Value) : spn b (ls ++ [r]) (dl ++ [d]) = spn b ls dl ++ sp1 b r d := by
  rw [spn_app b ls dl [r] [d] h]
  rfl
theorem info_span : (Tryz.prog.info? 50).map (fun i => (i.zero, i.size, i.bytes)) = some (some (.agg #[.int .u64 0, .int .u64 0, .int .i64 0, .slice none 0 0]), 4, 48) := by kernel_rfl
/-- One more span. -/
theorem push_span {w0 W : World} {v : Value} {n : Nat} {xs : List Value} (h : GS w0 W 50 4 v n xs) (b : Nat) (r : Nat × Nat) (d : Value) (hd : d.oneCell' = true) (hn : n ≤ 2000) :
    ∃ g cap w', (∀ t, (Builtin.append_ #[32, 32] t #[v, .slice (some ⟨W.heap.size, 0, none⟩) 1 1]).run Tryz.prog (W.alloc (.cells (sp1 b r d).toArray 50)) = .ok (.slice (some ⟨g, 0, none⟩) (n + 1) cap) w') ∧ GS w0 w' 50 4 (.slice (some ⟨g, 0, none⟩) (n + 1) cap) (n + 1) (xs ++ sp1 b r d) ∧ w0.heap.size ≤ g ∧ g < w'.heap.size ∧ Kept (fun b => v.ownBlock = some b) W w' ∧ (v.ownBlock = some g ∨ W.heap.size ≤ g) := by
  obtain ⟨i, hi, hzz⟩ := Option.map_eq_some_iff.1 info_span
  simp only [Prod.mk.injEq] at hzz
  have ka := (Kept.refl none' W).alloc (.cells (sp1 b r d).toArray 50)
  obtain ⟨g, cap, w', h1, h2, h5, h6, h7⟩ := (h.keep ka).pushK 32 i _ 48 Tryz.underlying32 hi hzz.1 hzz.2.1 hzz.2.2 rfl (by decide) ⟨W.heap.size, 0, none⟩ 1 (sp1 b r d) rfl (fun j u hj => cells_new (cs := (sp1 b r d).toArray) j u hj) (by simp [Value.oneCell', sp1]; exact hd) (by simp only [maxLen]; omega) (by omega)
  obtain ⟨cs, hc⟩ := own_ty h2.own (y := g) (by simp [Value.ownBlock])
  exact ⟨g, cap, w', h1, h2, h5, heap_lt hc, ka.trans h6 (fun _ _ e => e.elim) (fun _ _ e => e), h7.imp (fun e => e) (fun e => Nat.le_trans ka.size e)⟩
end Go.Proofs.YthomkkboeldgnaaGreat
