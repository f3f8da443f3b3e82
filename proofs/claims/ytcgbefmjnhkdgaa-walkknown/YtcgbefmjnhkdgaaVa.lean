import Derived.Test.YtcgbefmjnhkdgaaWr
set_option maxRecDepth 1000000
set_option maxHeartbeats 80000000
/- croftref9.Same of rows that are the same. -/
namespace Go.Proofs.Ytcgbefmjnhkdgaa
open Go.RowKit
set_option linter.unusedVariables false
set_option maxHeartbeats 8000000
set_option maxRecDepth 6000
theorem drewN_kept (w : World) (q : Nat) : Kept none' w (w.drewN q) := (Kept.refl none' w).drewN q
theorem Same9_yes (v u : Value) (l : List (Nat × Nat)) (w : World) (hl : l.length ≤ 9223372036854775807) (hv : RBk w v l) (hu : RBk w u l) :
    Calls Try.prog 11 #[v, u] w fun e w' => e = .returned (.bool true) ∧ Kept none' w w' := by
  have HV := hid hv
  have HU := hid hu
  obtain ⟨va, vc, hv1, -⟩ := hv
  obtain ⟨ua, uc, hu1, -⟩ := hu
  obtain ⟨n, hn⟩ : ∃ n, n = l.length := ⟨_, rfl⟩
  rw [← hn] at hl hv1 hu1
  obtain ⟨P, hP⟩ : ∃ P : Nat → Nat, P = fun j => (l.getD j (0, 0)).1 := ⟨_, rfl⟩
  obtain ⟨S, hS⟩ : ∃ S : Nat → Nat, S = fun j => (l.getD j (0, 0)).2 := ⟨_, rfl⟩
  have RW := hid (show ∀ W, Kept none' w W → ∀ j, j < n → ∃ g k, va = some ⟨g, 0, none⟩ ∧ ua = some ⟨k, 0, none⟩ ∧ (W.cell? ⟨g, j * 2, none⟩ = some (.int .u64 (P j : Int)) ∧ W.cell? ⟨g, j * 2 + 1, none⟩ = some (.int .u64 (S j : Int))) ∧ (W.cell? ⟨k, j * 2, none⟩ = some (.int .u64 (P j : Int)) ∧ W.cell? ⟨k, j * 2 + 1, none⟩ = some (.int .u64 (S j : Int))) from fun W hW j hj => by
    obtain ⟨oa, oc, q1, q2⟩ := HV.out
    obtain ⟨ob, od, p1, p2⟩ := HU.out
    rw [hv1] at q1
    rw [hu1] at p1
    cases q1
    cases p1
    subst hP hS
    rcases q2 with q2 | ⟨g, rfl, hg, hc⟩
    · rw [hn, q2] at hj; simp at hj
    rcases p2 with p2 | ⟨k, rfl, hk, hd⟩
    · rw [hn, p2] at hj; simp at hj
    exact ⟨g, k, rfl, rfl, ⟨hW.cell (fun x => x) (hc j (by omega)).1, hW.cell (fun x => x) (hc j (by omega)).2⟩, ⟨hW.cell (fun x => x) (hd j (by omega)).1, hW.cell (fun x => x) (hd j (by omega)).2⟩⟩)
  clear hP hS HV HU hn
  subst hv1 hu1
  go_enter Try.func11, Try.ntmps11
  go_wp2_with fail
  go_loopw [5] (fun iv W => ∃ a : Nat, a ≤ n ∧ iv = .int .i64 a ∧ Hid (Kept none' w W)) (fun iv _ => n - (intOf iv).toNat)
  case atStart => exact ⟨0, Nat.zero_le _, rfl, hid (Kept.refl _ _)⟩
  case round =>
    obtain ⟨a, ha, rfl, hK⟩ := hrel
    by_cases hlt : a < n
    · have hai : (a : Int) < (n : Int) := by omega
      obtain ⟨g, k, rfl, rfl, ⟨r0, r1⟩, ⟨s0, s1⟩⟩ := RW.out wr hK.out a hlt
      go_wp2_with fail
      go_quiet (fail)
      go_wp2_with fail
      exact ⟨⟨a + 1, by omega, by simp, hid (none_trans hK.out (drewN_kept wr nq))⟩, by simp [intOf]; omega⟩
    · have hai : ¬ (a : Int) < (n : Int) := by omega
      go_wp2_with fail
      go_ret
      exact ⟨rfl, hK.out⟩
end Go.Proofs.Ytcgbefmjnhkdgaa
