/- LinksWithin: its variables; the list that is laid first. -/
import Derived.Test.YtnkoheanjaapjaaArgs
import Derived.Deep.RegionHeld3
namespace Go.Proofs.Ytnkoheanjaapjaa
open Go.RowKit Go.Shelf
set_option linter.unusedVariables false

theorem boxed_apart {W x t v c b ao base R lim n f hd} (h : Boxed W x t v) (hL : LS W c b ao base R lim n f hd) (h1 : t ≠ 76) (h2 : t ≠ 88) (h3 : t ≠ 5) : ¬ lown c b ao x := by
  obtain ⟨cap, hb, hrow⟩ := hL.s.ex
  have hx : W.heap[x]? = some (.cells #[v] t (0, 0)) := h
  rintro (e | e | e)
  · subst e
    rw [hL.l.hc] at hx
    simp at hx
  · subst e
    rw [hb] at hx
    simp at hx
  · subst e
    obtain ⟨_, rs, _, hg, _⟩ := hrow
    rw [hg] at hx
    simp only [Option.some.injEq, Obj.cells.injEq] at hx
    exact h3 hx.2.1.symm
theorem bkp {W W' x t v} {S : Nat → Prop} (h : Boxed W x t v) (k : Kept S W W') (hS : ¬ S x) : Boxed W' x t v := (k.block x h.lt hS).trans h
theorem bkp0 {W W' x t v} (h : Boxed W x t v) (k : Kept none' W W') : Boxed W' x t v := bkp h k (fun x => x)

/-- The first four variables: steps, the result, the space, the list. -/
structure Bx4 (W : World) (sb rb pb lb : Nat) (sv : Value) (b c : Nat) : Prop where
  s : Boxed W sb 37 sv
  r : Boxed W rb 4 (.bool false)
  p : Boxed W pb 22 (.pointer (some ⟨b, 0, none⟩))
  l : Boxed W lb 25 (.pointer (some ⟨c, 0, none⟩))
theorem Bx4.kept {W W' sb rb pb lb sv b c} {S : Nat → Prop} (h : Bx4 W sb rb pb lb sv b c) (k : Kept S W W') (h1 : ¬ S sb) (h2 : ¬ S rb) (h3 : ¬ S pb) (h4 : ¬ S lb) : Bx4 W' sb rb pb lb sv b c := ⟨bkp h.s k h1, bkp h.r k h2, bkp h.p k h3, bkp h.l k h4⟩
theorem Bx4.keep {W W' sb rb pb lb sv b c} (h : Bx4 W sb rb pb lb sv b c) (k : Kept none' W W') : Bx4 W' sb rb pb lb sv b c := h.kept k (fun x => x) (fun x => x) (fun x => x) (fun x => x)
theorem Bx4.lown {W W' sb rb pb lb sv b c ao base R lim n f hd} (h : Bx4 W sb rb pb lb sv b c) (hL : LS W c b ao base R lim n f hd) (k : Kept (lown c b ao) W W') : Bx4 W' sb rb pb lb sv b c :=
  h.kept k (boxed_apart h.s hL (by decide) (by decide) (by decide)) (boxed_apart h.r hL (by decide) (by decide) (by decide)) (boxed_apart h.p hL (by decide) (by decide) (by decide)) (boxed_apart h.l hL (by decide) (by decide) (by decide))

theorem push_ne4 (f hd p) (hp : In 4096 4096 p 16) : (pushR 4096 4096 f hd p).2.2 ≠ 4 := by
  unfold pushR
  rw [if_pos hp]
  split
  · exact (by decide : (0 : Nat) ≠ 4)
  · exact (by decide : (8 : Nat) ≠ 4)
theorem push_le (base n f hd p) : (pushR base n f hd p).2.2 ≤ 8 := by
  unfold pushR
  split
  · split
    · exact Nat.zero_le _
    · exact Nat.le_refl _
  · exact (by omega : 4 ≤ 8)

/-- While the list is laid. -/
structure Fil (w : World) (sb rb pb lb : Nat) (sv : Value) (c b g : Nat) (wr : World) : Prop where
  k : Kept (from' w.heap.size) w wr
  bx : Bx4 wr sb rb pb lb sv b c
  ex : ∃ f hd, LS wr c b (some g) 4096 4096 1 4096 f hd
end Go.Proofs.Ytnkoheanjaapjaa
