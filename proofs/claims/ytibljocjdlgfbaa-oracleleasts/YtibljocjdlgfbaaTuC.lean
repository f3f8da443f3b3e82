/- OracleTurns. -/
import Derived.Test.YtibljocjdlgfbaaTuA
import Derived.Test.YtibljocjdlgfbaaTuB
import Derived.Test.YtibljocjdlgfbaaOrR
import Derived.Test.YtibljocjdlgfbaaRfA
namespace Go.Proofs.Ytibljocjdlgfbaa
open Go.RowKit
set_option linter.unusedVariables false

theorem info_z64 : (Try.prog.info? 22).map (fun i => (i.zero, i.size, i.bytes)) = some (some (.int .u64 0), 1, 8) := by kernel_rfl
/-- The cells of sizes. -/
def scl (l : List Nat) : List Value := l.map fun (x : Nat) => Value.int .u64 (x : Int)
theorem push_u64 {w0 W : World} {v : Value} {n : Nat} {xs : List Value} (h : GS w0 W 22 1 v n xs) (x : Nat) (hn : n ≤ 17592186044410) :
    ∃ g cap w', (∀ ty, (Builtin.append_ #[41, 41] ty #[v, .slice (some ⟨W.heap.size, 0, none⟩) 1 1]).run Try.prog (W.alloc (.cells #[.int .u64 (x : Int)] 22)) = .ok (.slice (some ⟨g, 0, none⟩) (n + 1) cap) w') ∧ GS w0 w' 22 1 (.slice (some ⟨g, 0, none⟩) (n + 1) cap) (n + 1) (xs ++ [.int .u64 (x : Int)]) ∧ w0.heap.size ≤ g := by
  obtain ⟨i, hi, hzz⟩ := Option.map_eq_some_iff.1 info_z64
  simp only [Prod.mk.injEq] at hzz
  obtain ⟨g, cap, w', h1, h2, h3, _⟩ := (h.keep ((Kept.refl none' W).alloc (.cells #[.int .u64 (x : Int)] 22))).push 41 i _ 8 Try.underlying41 hi hzz.1 hzz.2.1 hzz.2.2 rfl (by decide) ⟨W.heap.size, 0, none⟩ 1 [.int .u64 (x : Int)] rfl (fun j u hj => cells_new (cs := #[.int .u64 (x : Int)]) j u hj) (by simp [Value.oneCell']) (by simp only [maxLen]; omega) (by omega)
  exact ⟨g, cap, w', h1, h2, h3⟩
theorem GS.sl {w0 W : World} {oa : Option Addr} {cap : Nat} {l : List Nat} {t : TypeId} (h : GS w0 W t 1 (.slice oa l.length cap) l.length (scl l)) (hl : l.length ≤ 281474976710656) (hb : ∀ b ∈ l, b < 2 ^ 64) : SL W (.slice oa l.length cap) l := by
  refine ⟨hl, hb, oa, cap, rfl, ?_⟩
  rcases h.own.2 with ⟨_, h0⟩ | ⟨g, cap', cur, e, _, hg, _⟩
  · exact .inl h0
  · injection e with e1 e2 e3
    subst e1
    refine .inr ⟨g, 0, rfl, heap_lt hg, fun k b hk => ?_⟩
    have c1 : (scl l)[k]? = some (.int .u64 (b : Int)) := by unfold scl; rw [List.getElem?_map, hk]; rfl
    have d1 := World.ownsRow.cells h.own rfl _ _ c1
    rw [Addr.add_lit] at d1
    exact d1

end Go.Proofs.Ytibljocjdlgfbaa
