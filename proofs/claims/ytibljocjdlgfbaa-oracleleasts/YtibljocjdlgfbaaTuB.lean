/- croftlaw11.turned. -/
import Derived.Test.YtibljocjdlgfbaaBlP
namespace Go.Proofs.Ytibljocjdlgfbaa
open Go.RowKit
set_option linter.unusedVariables false

theorem info_rbk : (Try.prog.info? 60).map (fun i => (i.zero, i.size, i.bytes)) = some (some (.agg #[.int .u64 0, .int .u64 0]), 2, 16) := by kernel_rfl
theorem push_rbk {w0 W : World} {v : Value} {n : Nat} {xs : List Value} (h : GS w0 W 60 2 v n xs) (p z : Nat) (hn : n ≤ 8796093022207) :
    ∃ g cap w', (∀ ty, (Builtin.append_ #[48, 48] ty #[v, .slice (some ⟨W.heap.size, 0, none⟩) 1 1]).run Try.prog (W.alloc (.cells #[.int .u64 (p : Int), .int .u64 (z : Int)] 60)) = .ok (.slice (some ⟨g, 0, none⟩) (n + 1) cap) w') ∧ GS w0 w' 60 2 (.slice (some ⟨g, 0, none⟩) (n + 1) cap) (n + 1) (xs ++ [.int .u64 (p : Int), .int .u64 (z : Int)]) ∧ w0.heap.size ≤ g := by
  obtain ⟨i, hi, hzz⟩ := Option.map_eq_some_iff.1 info_rbk
  simp only [Prod.mk.injEq] at hzz
  obtain ⟨g, cap, w', h1, h2, h3, _⟩ := (h.keep ((Kept.refl none' W).alloc (.cells #[.int .u64 (p : Int), .int .u64 (z : Int)] 60))).push 48 i _ 16 Try.underlying48 hi hzz.1 hzz.2.1 hzz.2.2 rfl (by decide) ⟨W.heap.size, 0, none⟩ 1 [.int .u64 (p : Int), .int .u64 (z : Int)] rfl (fun j u hj => cells_new (cs := #[.int .u64 (p : Int), .int .u64 (z : Int)]) j u hj) (by simp [Value.oneCell']) (by simp only [maxLen]; omega) (by omega)
  exact ⟨g, cap, w', h1, h2, h3⟩
theorem GS.bl' {w0 W : World} {oa : Option Addr} {cap : Nat} {l : Bls} {t : TypeId} (h : GS w0 W t 2 (.slice oa l.length cap) l.length (bcl l)) (hl : l.length ≤ 9223372036854775807) (hb : ∀ b ∈ l, b.1 < 2 ^ 64 ∧ b.2 < 2 ^ 64) : BL W (.slice oa l.length cap) l := by
  refine ⟨hl, hb, oa, cap, rfl, ?_⟩
  rcases h.own.2 with ⟨_, h0⟩ | ⟨g, cap', cur, e, _, hg, _⟩
  · exact .inl h0
  · injection e with e1 e2 e3
    subst e1
    refine .inr ⟨g, 0, rfl, heap_lt hg, fun k b hk => ?_⟩
    obtain ⟨c1, c2⟩ := bcl_at l k b hk
    have d1 := World.ownsRow.cells h.own rfl _ _ c1
    have d2 := World.ownsRow.cells h.own rfl _ _ c2
    rw [Addr.add_lit] at d1 d2
    exact ⟨d1, by rw [Nat.add_assoc]; exact d2⟩
/-- What turned leaves. -/
def TuP (w : World) (l : Bls) (e : Ending) (w' : World) : Prop := ∃ v, e = .returned v ∧ BL w' v l.reverse ∧ Kept none' w w'

/-- Likewise, and that it can grow. -/
def TuG (w : World) (l : Bls) (e : Ending) (w' : World) : Prop := ∃ va vc, e = .returned (.slice va l.length vc) ∧ BL w' (.slice va l.length vc) l.reverse ∧ GS w w' 60 2 (.slice va l.length vc) l.length (bcl l.reverse)

end Go.Proofs.Ytibljocjdlgfbaa
