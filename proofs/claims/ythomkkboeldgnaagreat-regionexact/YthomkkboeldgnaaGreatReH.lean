import Derived.Test.YthomkkboeldgnaaGreatReG
/- RegionExact: the book of spans as the loop keeps it. -/
namespace Go.Proofs.YthomkkboeldgnaaGreat
open Go.RowKit
set_option linter.unusedVariables false

/-- The book of spans: a row of the law's own. -/
structure SB (w W : World) (b : Nat) (v : Value) (ls : List (Nat × Nat)) (dl : List Value) : Prop where
  gs : GS w W 50 4 v ls.length (spn b ls dl)
  ln : dl.length = ls.length
  nw : ∀ g, v.ownBlock = some g → w.heap.size ≤ g
theorem SB.spr {w W b v ls dl} (h : SB w W b v ls dl) : SPR W b v ls dl := ⟨h.ln, h.gs.own⟩
theorem SB.nil (w W : World) (b : Nat) (k : Kept none' w W) : SB w W b (.slice none 0 0) [] [] := ⟨GS.nil _ _ _ _ k, rfl, fun g e => by cases e⟩
theorem SB.move {w W W' b v ls dl} {S : Nat → Prop} (h : SB w W b v ls dl) (k : Kept S W W') (k0 : Kept none' w W') (hS : ∀ y, v.ownBlock = some y → ¬ S y) : SB w W' b v ls dl := ⟨⟨own_kept h.gs.own k hS, h.gs.new, k0⟩, h.ln, h.nw⟩
theorem SB.keep {w W W' b v ls dl} (h : SB w W b v ls dl) (k : Kept none' W W') : SB w W' b v ls dl := ⟨h.gs.keep k, h.ln, h.nw⟩
/-- The pool is called: the book stays. -/
theorem SB.pool {w W W' lw x t fr ls1 b v ls dl} (h : SB w W b v ls dl) (p : PO w W lw x t fr ls1) (k : Kept (bown x) W W') (k0 : Kept none' w W') : SB w W' b v ls dl := h.move k k0 (fun y hy e => by
    obtain ⟨cs, hc⟩ := own_ty h.gs.own hy
    exact p.pl.sty hc (.inl e))
/-- One more span. -/
theorem SB.add {w W b v ls dl} (h : SB w W b v ls dl) (r : Nat × Nat) (d : Value) (hd : d.oneCell' = true) (hn : ls.length ≤ 2000) :
    ∃ g cap w', (∀ t, (Builtin.append_ #[32, 32] t #[v, .slice (some ⟨W.heap.size, 0, none⟩) 1 1]).run Tryz.prog (W.alloc (.cells (sp1 b r d).toArray 50)) = .ok (.slice (some ⟨g, 0, none⟩) (ls.length + 1) cap) w') ∧ SB w w' b (.slice (some ⟨g, 0, none⟩) (ls.length + 1) cap) (ls ++ [r]) (dl ++ [d]) ∧ Kept (fun b => v.ownBlock = some b) W w' ∧ (v.ownBlock = some g ∨ W.heap.size ≤ g) := by
  obtain ⟨g, cap, w', h1, h2, h3, h4, h5, h6⟩ := push_span h.gs b r d hd hn
  refine ⟨g, cap, w', h1, ⟨?_, by simp [h.ln], fun g' e => ?_⟩, h5, h6⟩
  · rw [spn_one b ls dl h.ln, List.length_append, List.length_singleton]
    exact h2
  · simp [Value.ownBlock] at e
    omega
/-- A span's data is written. -/
theorem SB.set {w W b a ls c dl} (h : SB w W b (.slice a ls.length c) ls dl) {g : Nat} (hg : a = some ⟨g, 0, none⟩) {i : Nat} (hi : i < ls.length) (d : Value) : SB w (W.setCell ⟨g, i * 4 + 3, none⟩ d) b (.slice a ls.length c) ls (dl.set i d) := by
  have hw := h.nw g (by rw [hg]; rfl)
  have := h.spr.set hg hi d
  exact ⟨⟨this.2, h.gs.new, h.gs.kp.setNew (p := ⟨g, i * 4 + 3, none⟩) (fun h => absurd h (Nat.not_lt.2 hw)) d⟩, this.1, h.nw⟩
end Go.Proofs.YthomkkboeldgnaaGreat
