/- PageBack: where a page names one that is gone, Open refuses. -/
import Derived.Test.YtbhheimedbfmeabPgW
import Derived.Test.YtbhheimedbfmeabBck
import Derived.Test.YtbhheimedbfmeabGon
namespace Go.Proofs.Ytbhheimedbfmeab
open Go.RowKit
set_option linter.unusedVariables false

/-- The least of those that there are. -/
theorem least_of {P : Nat → Prop} : ∀ n, (∃ i, i < n ∧ P i) → ∃ a, a < n ∧ P a ∧ ∀ i, i < a → ¬ P i
  | 0, ⟨i, h, _⟩ => absurd h (Nat.not_lt_zero i)
  | n + 1, ⟨i, h, hp⟩ => by
    by_cases e : ∃ i, i < n ∧ P i
    · obtain ⟨a, h1, h2, h3⟩ := least_of n e
      exact ⟨a, by omega, h2, h3⟩
    · have : i = n := by
        rcases Nat.lt_or_ge i n with q | q
        · exact absurd ⟨i, q, hp⟩ e
        · omega
      subst this
      exact ⟨i, h, hp, fun j hj hq => e ⟨j, hj, hq⟩⟩
theorem clamp_links {m : Mp} {p : Pg} (h : Rng m.o p) : clampP m p = { p with nx := clampI p.nx (-1) ((m.n : Int) - 1), pv := clampI p.pv (-1) ((m.n : Int) - 1) } := by
  have := cntP_le p 256
  have := h.lv
  unfold clampP clampI
  obtain ⟨a1, a2, a3, a4, a5, a6, a7, a8, a9, a10, a11⟩ := h
  obtain ⟨kd, od, cl, lv, nx, pv, fs, b0, b1, b2, b3⟩ := p
  simp only at *
  simp only [Pg.mk.injEq, and_true, true_and]
  refine ⟨?_, ?_, ?_, ?_, ?_⟩ <;> omega
theorem back_gone (b : Nat) (B : Bs) (m : Mp) (gp gq : Nat) (D : Nat → Nat) (W0 w0 w : World) (hM : MapAt w0 b B m) (hI : Inv m) (hg : ∃ i, i < m.n ∧ ((m.n : Int) ≤ (m.pg i).nx ∨ (m.n : Int) ≤ (m.pg i).pv)) (hT : Told W0 w gp gq m m.o D) :
    Calls Try.prog 9 #[.int .i64 (m.o : Int), .slice (some ⟨gp, 0, none⟩) m.n m.n, .slice (some ⟨gq, 0, none⟩) m.o m.o] w fun e w' => e = .returned (.tuple #[.pointer none, .int .i64 7]) ∧ Kept none' w w' := by
  obtain ⟨a, h1, h2, h3⟩ := least_of m.n hg
  refine open_gone gp gq m D hM.o8 hM.n1 hM.dv W0 w hT hM.ok a h1 (fun i hi => clamp_same (hI i (by omega)) ?_ ?_) ⟨_, _, clamp_links (hI a h1), ?_⟩
  · have := h3 i hi
    omega
  · have := h3 i hi
    omega
  · unfold clampI
    omega
theorem goneB_iff (n : Nat) (pg : Nat → Pg) : ∀ k, goneB n pg k = true ↔ ∃ i, i < k ∧ ((n : Int) ≤ (pg i).nx ∨ (n : Int) ≤ (pg i).pv)
  | 0 => ⟨fun h => (Bool.noConfusion h), fun ⟨i, h, _⟩ => absurd h (Nat.not_lt_zero i)⟩
  | k + 1 => by
    rw [goneB, Bool.or_eq_true, Bool.or_eq_true, decide_eq_true_eq, decide_eq_true_eq, goneB_iff n pg k]
    constructor
    · rintro (⟨i, h1, h2⟩ | h)
      · exact ⟨i, by omega, h2⟩
      · exact ⟨k, by omega, h⟩
    · rintro ⟨i, h1, h2⟩
      by_cases e : i = k
      · subst e; exact .inr h2
      · exact .inl ⟨i, by omega, h2⟩
end Go.Proofs.Ytbhheimedbfmeab
