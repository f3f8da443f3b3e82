import Derived.Test.YthjokkihlodapaaGreatXa
set_option maxRecDepth 1000000
set_option maxHeartbeats 80000000
/- croftref9: its small functions. -/
namespace Go.Proofs.YthjokkihlodapaaGreat
open Go.RowKit
set_option linter.unusedVariables false
set_option maxHeartbeats 8000000
set_option maxRecDepth 6000
/-- A rule's place, as croftref9 tells it. -/
def plI : Option Nat → Int
  | none => -1
  | some p => (p : Int)
theorem pow_9 (j : Nat) (h : j ≤ 9) : 2 ^ j ≤ 512 := Nat.pow_le_pow_right (by decide) h (n := 2)
theorem power9 (k : Nat) (hk : k ≤ 9) (w : World) : Calls Tryz.prog 20 #[.int .i64 (k : Int)] w fun e w' => e = .returned (.int .i64 ((2 ^ k : Nat) : Int)) ∧ w' = w := by
  go_enter Tryz.func20, Tryz.ntmps20
  go_wp2
  go_loop [3, 4] (fun r i => ∃ j : Nat, j ≤ k ∧ i = .int .i64 j ∧ r = .int .i64 ((2 ^ j : Nat) : Int)) (fun _ i => k - (intOf i).toNat)
  case atStart => exact ⟨0, by omega, rfl, by simp⟩
  case round =>
    obtain ⟨j, hj, rfl, rfl⟩ := hrel
    obtain ⟨P, hP⟩ : ∃ P, P = 2 ^ j := ⟨_, rfl⟩
    have hP9 := pow_9 j (by omega)
    rw [← hP] at hP9 ⊢
    by_cases hlt : j < k
    · have hN2 := hid (show 2 ^ (j + 1) = P * 2 from by rw [hP, Nat.pow_succ])
      have hji : (j : Int) < (k : Int) := by omega
      clear hP
      go_wp2
      refine ⟨⟨j + 1, by omega, by simp, ?_⟩, by simp [intOf]; omega⟩
      rw [hN2.out]; simp
    · obtain rfl : j = k := by omega
      have E := hid (show 2 ^ j = P from hP.symm)
      clear hP
      go_wp2
      go_ret
      exact ⟨ret_int (by rw [← E.out]; simp), rfl⟩
theorem in9 (x a b : Int) (w : World) : Calls Tryz.prog 52 #[.int .i64 x, .int .i64 a, .int .i64 b] w fun e w' => e = .returned (.bool (wiB x a b)) ∧ w' = w := by
  by_cases h : a ≤ x
  · go_enter Tryz.func52, Tryz.ntmps52
    go_wp2
    go_ret
    exact ⟨ret_bool (by simp [wiB, h]), rfl⟩
  · go_enter Tryz.func52, Tryz.ntmps52
    go_wp2
    go_ret
    exact ⟨ret_bool (decide_eq_false (by omega)).symm, rfl⟩
/-- croftref9.Cells of a page of class c. -/
theorem Cells9 (p : Pg) (c : Nat) (hc : p.cl = (c : Int)) (h7 : c ≤ 7) (w : World) : Calls Tryz.prog 21 #[pgV p] w fun e w' => e = .returned (.int .i64 ((celN9 c : Nat) : Int)) ∧ Kept none' w w' := by
  obtain ⟨kd, od, cl, lv, nx, pv, fs, b0, b1, b2, b3⟩ := p
  dsimp only at hc
  subst hc
  have PW := hid (fun W => power9 c (by omega) W)
  have hd : (256 : Int) / ((2 ^ c : Nat) : Int) = ((celN9 c : Nat) : Int) := by unfold celN9; rfl
  have hd2 : (256 : Int).tdiv ((2 ^ c : Nat) : Int) = ((celN9 c : Nat) : Int) := by rw [Int.tdiv_eq_ediv_of_nonneg (by decide)]; exact hd
  have hp : 0 < 2 ^ c := Nat.two_pow_pos c
  have hb := pow_9 c (by omega)
  have hcn : celN9 c ≤ 256 := by unfold celN9; exact Nat.div_le_self _ _
  generalize celN9 c = cn at *
  generalize 2 ^ c = P at *
  have h0 : ¬ (P : Int) = 0 := by omega
  have h1 : ¬ (P : Int) = -1 := by omega
  go_enter Tryz.func21, Tryz.ntmps21
  go_wp2_with fail
  refine (PW.out _).mono ?_
  rintro e w1 ⟨rfl, rfl⟩
  go_wp2_with fail
  go_ret
  exact ⟨rfl, (Kept.refl _ w).alloc _⟩
/-- Is a page plain? -/
def plB (p : Pg) : Bool := decide (p.cl = 0 ∧ p.lv = 0 ∧ p.nx = -1 ∧ p.pv = -1 ∧ p.fs = -1 ∧ p.b0 = 0 ∧ p.b1 = 0 ∧ p.b2 = 0 ∧ p.b3 = 0)
theorem Plain9 (p : Pg) (w : World) : Calls Tryz.prog 54 #[pgV p] w fun e w' => e = .returned (.bool (plB p)) ∧ Kept none' w w' := by
  obtain ⟨kd, od, cl, lv, nx, pv, fs, b0, b1, b2, b3⟩ := p
  obtain ⟨bb, hbb⟩ : ∃ bb, bb = plB ⟨kd, od, cl, lv, nx, pv, fs, b0, b1, b2, b3⟩ := ⟨_, rfl⟩
  rw [← hbb]
  have NO := hid (show ¬ (cl = 0 ∧ lv = 0 ∧ nx = -1 ∧ pv = -1 ∧ fs = -1 ∧ b0 = 0 ∧ b1 = 0 ∧ b2 = 0 ∧ b3 = 0) → bb = false from fun h => hbb.trans (decide_eq_false h))
  have YES := hid (show (cl = 0 ∧ lv = 0 ∧ nx = -1 ∧ pv = -1 ∧ fs = -1 ∧ b0 = 0 ∧ b1 = 0 ∧ b2 = 0 ∧ b3 = 0) → bb = true from fun h => hbb.trans (decide_eq_true h))
  clear hbb
  by_cases h1 : cl = 0
  case neg =>
    have q1 : (cl == 0) = false := by rw [beq_eq_false_iff_ne]; exact h1
    have := NO.out (fun h => h1 h.1)
    subst this
    clear h1
    go_enter Tryz.func54, Tryz.ntmps54
    go_wp2_with fail
    go_ret
    exact ⟨rfl, (Kept.refl _ w).alloc _⟩
  by_cases h2 : lv = 0
  case neg =>
    have q1 : (lv == 0) = false := by rw [beq_eq_false_iff_ne]; exact h2
    have := NO.out (fun h => h2 h.2.1)
    subst this h1
    clear h2
    go_enter Tryz.func54, Tryz.ntmps54
    go_wp2_with fail
    go_ret
    exact ⟨rfl, (Kept.refl _ w).alloc _⟩
  by_cases h3 : nx = -1
  case neg =>
    have q1 : (nx == -1) = false := by rw [beq_eq_false_iff_ne]; exact h3
    have := NO.out (fun h => h3 h.2.2.1)
    subst this h1 h2
    clear h3
    go_enter Tryz.func54, Tryz.ntmps54
    go_wp2_with fail
    go_ret
    exact ⟨rfl, (Kept.refl _ w).alloc _⟩
  by_cases h4 : pv = -1
  case neg =>
    have q1 : (pv == -1) = false := by rw [beq_eq_false_iff_ne]; exact h4
    have := NO.out (fun h => h4 h.2.2.2.1)
    subst this h1 h2 h3
    clear h4
    go_enter Tryz.func54, Tryz.ntmps54
    go_wp2_with fail
    go_ret
    exact ⟨rfl, (Kept.refl _ w).alloc _⟩
  by_cases h5 : fs = -1
  case neg =>
    have q1 : (fs == -1) = false := by rw [beq_eq_false_iff_ne]; exact h5
    have := NO.out (fun h => h5 h.2.2.2.2.1)
    subst this h1 h2 h3 h4
    clear h5
    go_enter Tryz.func54, Tryz.ntmps54
    go_wp2_with fail
    go_ret
    exact ⟨rfl, (Kept.refl _ w).alloc _⟩
  by_cases h6 : b0 = 0
  case neg =>
    have q1 : ((b0 : Int) == 0) = false := by rw [beq_eq_false_iff_ne]; omega
    have q2 : (b0 == 0) = false := by rw [beq_eq_false_iff_ne]; exact h6
    have := NO.out (fun h => h6 h.2.2.2.2.2.1)
    subst this h1 h2 h3 h4 h5
    clear h6
    go_enter Tryz.func54, Tryz.ntmps54
    go_wp2_with fail
    go_ret
    exact ⟨rfl, (Kept.refl _ w).alloc _⟩
  by_cases h7 : b1 = 0
  case neg =>
    have q1 : ((b1 : Int) == 0) = false := by rw [beq_eq_false_iff_ne]; omega
    have q2 : (b1 == 0) = false := by rw [beq_eq_false_iff_ne]; exact h7
    have := NO.out (fun h => h7 h.2.2.2.2.2.2.1)
    subst this h1 h2 h3 h4 h5 h6
    clear h7
    go_enter Tryz.func54, Tryz.ntmps54
    go_wp2_with fail
    go_ret
    exact ⟨rfl, (Kept.refl _ w).alloc _⟩
  by_cases h8 : b2 = 0
  case neg =>
    have q1 : ((b2 : Int) == 0) = false := by rw [beq_eq_false_iff_ne]; omega
    have q2 : (b2 == 0) = false := by rw [beq_eq_false_iff_ne]; exact h8
    have := NO.out (fun h => h8 h.2.2.2.2.2.2.2.1)
    subst this h1 h2 h3 h4 h5 h6 h7
    clear h8
    go_enter Tryz.func54, Tryz.ntmps54
    go_wp2_with fail
    go_ret
    exact ⟨rfl, (Kept.refl _ w).alloc _⟩
  by_cases h9 : b3 = 0
  case neg =>
    have q1 : ((b3 : Int) == 0) = false := by rw [beq_eq_false_iff_ne]; omega
    have q2 : (b3 == 0) = false := by rw [beq_eq_false_iff_ne]; exact h9
    have := NO.out (fun h => h9 h.2.2.2.2.2.2.2.2)
    subst this h1 h2 h3 h4 h5 h6 h7 h8
    clear h9
    go_enter Tryz.func54, Tryz.ntmps54
    go_wp2_with fail
    go_ret
    exact ⟨rfl, (Kept.refl _ w).alloc _⟩
  have := YES.out ⟨h1, h2, h3, h4, h5, h6, h7, h8, h9⟩
  subst this h1 h2 h3 h4 h5 h6 h7 h8 h9
  go_enter Tryz.func54, Tryz.ntmps54
  go_wp2_with fail
  go_ret
  exact ⟨rfl, (Kept.refl _ w).alloc _⟩
end Go.Proofs.YthjokkihlodapaaGreat
