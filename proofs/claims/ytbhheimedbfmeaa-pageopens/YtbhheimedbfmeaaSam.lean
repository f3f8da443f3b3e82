/- croftref4.SamePages, where they are the same. -/
import Derived.Test.YtbhheimedbfmeaaPgU
namespace Go.Proofs.Ytbhheimedbfmeaa
open Go.RowKit
set_option linter.unusedVariables false

theorem drewN_add (w : World) (a b : Nat) : (w.drewN a).drewN b = w.drewN (a + b) := by
  simp [World.drewN, Nat.add_assoc]
set_option maxRecDepth 4000 in
set_option maxHeartbeats 2000000 in
theorem SamePages_true (g g' n c c' N N' : Nat) (pg pg' : Nat → Pg) (hn : n ≤ 1024) (hN : n ≤ N) (hN' : n ≤ N') (he : ∀ i, i < n → pg i = pg' i) (w : World) (h : Row w g N pg) (h' : Row w g' N' pg') :
    Calls Try.prog 29 #[.slice (some ⟨g, 0, none⟩) n c, .slice (some ⟨g', 0, none⟩) n c'] w fun e w' => e = .returned (.bool true) ∧ ∃ q, w' = w.drewN q := by
  have H1 := hid h
  have H2 := hid h'
  have HE := hid he
  have hae := arr_eq
  clear h h' he
  go_enter Try.func29, Try.ntmps29
  go_wp2_with fail
  go_loopw [5] (fun i W => ∃ k : Nat, k ≤ n ∧ i = .int .i64 k ∧ Hid (∃ q, W = w.drewN q)) (fun i _ => n - (intOf i).toNat)
  case atStart => exact ⟨0, by omega, rfl, ⟨0, rfl⟩⟩
  case round =>
    obtain ⟨k, hk, rfl, hK⟩ := hrel
    by_cases hlt : k < n
    · have hki : (k : Int) < (n : Int) := by omega
      have kk : Kept none' w wr := by obtain ⟨q, hq⟩ := hK.out; rw [hq]; exact (Kept.refl none' w).drewN q
      obtain ⟨d0, d1, d2, d3, d4, d5, d6, d7, d8, d9, d10⟩ := (Row.kept H1.out kk (fun x => x)).cell k (by omega)
      obtain ⟨e0, e1, e2, e3, e4, e5, e6, e7, e8, e9, e10⟩ := (Row.kept H2.out kk (fun x => x)).cell k (by omega)
      clear kk
      rw [HE.out k hlt] at d0 d1 d2 d3 d4 d5 d6 d7 d8 d9 d10
      go_wp2_with fail
      go_quiet (fail)
      go_wp2_with fail
      exact ⟨⟨k + 1, by omega, by simp, by obtain ⟨q, hq⟩ := hK.out; exact ⟨q + nq, by rw [hq]; exact drewN_add w q nq⟩⟩, by simp [intOf]; omega⟩
    · have hki : ¬ (k : Int) < (n : Int) := by omega
      go_wp2_with fail
      go_ret
      exact ⟨rfl, hK.out⟩
end Go.Proofs.Ytbhheimedbfmeaa
