/- croftref2.New. -/
import Derived.Test.YtnkoheanjaapjaaRefA
namespace Go.Proofs.Ytnkoheanjaapjaa
open Go.RowKit
set_option linter.unusedVariables false

theorem new_facts (w w2 : World) (base lim k : Nat) (hK : Kept none' ((w.alloc (.cells #[.int .u64 (base : Int), .int .i64 (lim : Int), .int .i64 (k : Int)] 39)).alloc (.cells #[.int .u64 0, .int .u64 0, .int .i64 0, .slice none 0 0] 44)).drew w2) :
    w2.cell? ⟨w.heap.size, 0, none⟩ = some (.int .u64 (base : Int)) ∧ w2.cell? ⟨w.heap.size, 1, none⟩ = some (.int .i64 (lim : Int)) ∧
    w2.cell? ⟨w.heap.size + 1, 0, none⟩ = some (.int .u64 0) ∧ w2.cell? ⟨w.heap.size + 1, 1, none⟩ = some (.int .u64 0) ∧ w2.cell? ⟨w.heap.size + 1, 2, none⟩ = some (.int .i64 0) ∧ w2.cell? ⟨w.heap.size + 1, 3, none⟩ = some (.slice none 0 0) ∧
    w2.frozen? ⟨w.heap.size + 1, 0, none⟩ = false ∧ w2.frozen? ⟨w.heap.size + 1, 1, none⟩ = false ∧ w2.frozen? ⟨w.heap.size + 1, 2, none⟩ = false ∧ w2.frozen? ⟨w.heap.size + 1, 3, none⟩ = false ∧ Kept none' w w2 := by
  have h1 := (hK.block (w.heap.size + 1) (by simp) (fun x => x)).trans (two_new w _ _)
  have h0 := (hK.block w.heap.size (by simp; omega) (fun x => x)).trans ((Below.heap_alloc (w.alloc _) _ w.heap.size (by simp)).trans (heap_new w _))
  refine ⟨?_, ?_, ?_, ?_, ?_, ?_, ?_, ?_, ?_, ?_, ?_⟩
  · simp [World.cell?, h0]
  · simp [World.cell?, h0]
  · simp [World.cell?, h1]
  · simp [World.cell?, h1]
  · simp [World.cell?, h1]
  · simp [World.cell?, h1]
  · simp [World.frozen?, h1]
  · simp [World.frozen?, h1]
  · simp [World.frozen?, h1]
  · simp [World.frozen?, h1]
  · exact ((((Kept.refl none' w).alloc _).alloc _).drew).trans hK (fun _ _ x => x) (fun _ _ x => x)

set_option maxHeartbeats 4000000 in
theorem RNew_any (base lim k : Nat) (hk : k ≤ 8) (w : World) :
    Calls Try.prog 19 #[.agg #[.int .u64 (base : Int), .int .i64 (lim : Int), .int .i64 (k : Int)]] w fun e w' => e = .returned (refV base (RS k) lim none 0 0) ∧ Kept none' w w' := by
  obtain ⟨R, hR⟩ : ∃ R, R = RS k := ⟨_, rfl⟩
  have HRS := hid (show ∀ w, Calls Try.prog 41 #[.agg #[.int .u64 (base : Int), .int .i64 (lim : Int), .int .i64 (k : Int)]] w fun e w' => e = .returned (.int .u64 (R : Int)) ∧ Kept none' w w' from fun w => by
    rw [hR]; exact R_any base lim k hk w)
  rw [← hR]
  clear hR
  go_enter Try.func19, Try.ntmps19
  go_wp2
  go_region_with ((go_at_call 41; refine (HRS.out _).mono ?_; rintro e w2 ⟨rfl, hK2⟩; obtain ⟨g0, g1, c0, c1, c2, c3, f0, f1, f2, f3, hKK⟩ := new_facts w w2 base lim k hK2; have HK2 := hid hKK; clear hK2 hKK))
  all_goals go_wp2
  all_goals exact ⟨rfl, refV base R lim none 0 0, by simp [results, Try.results19, go_sem, refV, adr, c0, c1, c2, c3], rfl, (((HK2.out.setCell (fun h => absurd h (by simp)) _).setCell (fun h => absurd h (by simp)) _).setCell (fun h => absurd h (by simp)) _).setCell (fun h => absurd h (by simp)) _⟩
end Go.Proofs.Ytnkoheanjaapjaa
