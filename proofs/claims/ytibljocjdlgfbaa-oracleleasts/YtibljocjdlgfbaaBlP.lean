/- The front of a list of blocks; what is asked, in its box. -/
import Derived.Test.YtibljocjdlgfbaaBlA
import Derived.Test.YtibljocjdlgfbaaOrC
namespace Go.Proofs.Ytibljocjdlgfbaa
open Go.RowKit
set_option linter.unusedVariables false

theorem BL.pre {w : World} {g n cap : Nat} {l k : Bls} (h : BL w (.slice (some ⟨g, 0, none⟩) n cap) (l ++ k)) : BL w (.slice (some ⟨g, 0, none⟩) l.length cap) l := by
  obtain ⟨h1, h2, oa, oc, h3, h4⟩ := h
  injection h3 with e1 e2 e3
  subst e1 e3
  refine ⟨by rw [List.length_append] at h1; omega, fun b hb => h2 b (List.mem_append_left _ hb), _, cap, rfl, ?_⟩
  rcases h4 with h4 | ⟨bl, o, e, hlt, hc⟩
  · exact .inl (by rw [List.length_append] at h4; omega)
  · refine .inr ⟨bl, o, e, hlt, fun i b hi => hc i b ?_⟩
    rw [List.getElem?_append_left (List.getElem?_eq_some_iff.1 hi).1]
    exact hi

/-- What is asked, in its box. -/
def AQ (W : World) (x base : Nat) (lim ord rg : Int) (v : Value) (r : Nat) (dn : Bool) : Prop := W.heap[x]? = some (.cells #[.int .u64 (base : Int), .int .i64 lim, .int .i64 ord, .int .i64 rg, v, .int .u64 (r : Int), .bool dn] 54)
theorem AQ.keep {W W' : World} {x base : Nat} {lim ord rg : Int} {v : Value} {r : Nat} {dn : Bool} (h : AQ W x base lim ord rg v r dn) (k : Kept none' W W') : AQ W' x base lim ord rg v r dn := (k.block _ (heap_lt h) (fun e => e)).trans h
theorem AQ.cells {W : World} {x base : Nat} {lim ord rg : Int} {v : Value} {r : Nat} {dn : Bool} (h : AQ W x base lim ord rg v r dn) : W.cell? ⟨x, 0, none⟩ = some (.int .u64 (base : Int)) ∧ W.cell? ⟨x, 1, none⟩ = some (.int .i64 lim) ∧ W.cell? ⟨x, 2, none⟩ = some (.int .i64 ord) ∧ W.cell? ⟨x, 3, none⟩ = some (.int .i64 rg) ∧ W.cell? ⟨x, 4, none⟩ = some v ∧ W.cell? ⟨x, 5, none⟩ = some (.int .u64 (r : Int)) ∧ W.cell? ⟨x, 6, none⟩ = some (.bool dn) := by
  unfold AQ at h
  refine ⟨?_, ?_, ?_, ?_, ?_, ?_, ?_⟩ <;> simp [World.cell?, h]
theorem AQ.all {W : World} {x base : Nat} {lim ord rg : Int} {v : Value} {r : Nat} {dn : Bool} (h : AQ W x base lim ord rg v r dn) : (∀ y : KW W, y.v.cell? ⟨x, 0, none⟩ = some (.int .u64 (base : Int))) ∧ (∀ y : KW W, y.v.cell? ⟨x, 1, none⟩ = some (.int .i64 lim)) ∧ (∀ y : KW W, y.v.cell? ⟨x, 2, none⟩ = some (.int .i64 ord)) ∧ (∀ y : KW W, y.v.cell? ⟨x, 3, none⟩ = some (.int .i64 rg)) ∧ (∀ y : KW W, y.v.cell? ⟨x, 4, none⟩ = some v) ∧ (∀ y : KW W, y.v.cell? ⟨x, 5, none⟩ = some (.int .u64 (r : Int))) ∧ (∀ y : KW W, y.v.cell? ⟨x, 6, none⟩ = some (.bool dn)) :=
  ⟨fun y => (h.keep y.k).cells.1, fun y => (h.keep y.k).cells.2.1, fun y => (h.keep y.k).cells.2.2.1, fun y => (h.keep y.k).cells.2.2.2.1, fun y => (h.keep y.k).cells.2.2.2.2.1, fun y => (h.keep y.k).cells.2.2.2.2.2.1, fun y => (h.keep y.k).cells.2.2.2.2.2.2⟩
end Go.Proofs.Ytibljocjdlgfbaa
