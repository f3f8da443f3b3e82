import Derived.Test.YtgjapopddblpoaaGreatDoorRgC
/- Package region: Need case by case; a pool's words. -/
namespace Go.Proofs.YtgjapopddblpoaaGreatDoor
open Go.RowKit
set_option linter.unusedVariables false

theorem Need_bad {w W lw x t fr ls} (h : PO w W lw x t fr ls) (k : Int) (hk : inR (x.o + 1) k = false) (d : Bool) :
    Calls Tryz.prog 94 #[.pointer (some ⟨lw, 0, none⟩), .int .i64 k, .bool d] W fun e w' => e = .returned (.tuple #[.int .u64 0, .bool false, .int .i64 1]) ∧ Kept none' W w' := by
  have out : ∀ i : Nat, k = (i : Int) → i ≤ x.o → False := fun i h1 h2 => by
    subst h1
    unfold inR at hk
    have := of_decide_eq_false hk
    omega
  refine (Need_any h k d).mono fun e w' hn => ?_
  cases hn with
  | bad _ he kp => exact ⟨he, kp⟩
  | here i j p l h1 h2 => exact (out i h1 h2).elim
  | stuck i h1 h2 => exact (out i h1 h2).elim
  | grew i h1 h2 => exact (out i h1 h2).elim
theorem inR_in {o i : Nat} (h : i ≤ o) : inR (o + 1) (i : Int) = true := by
  unfold inR
  exact decide_eq_true (by omega)
theorem Need_here {w W lw x t fr ls} (h : PO w W lw x t fr ls) (i j p : Nat) (l : List Nat) (hi : i ≤ x.o) (hij : i ≤ j) (hj : j ≤ x.o) (hz : ∀ a, i ≤ a → a < j → fr a = []) (hp : fr j = p :: l) (d : Bool) :
    Calls Tryz.prog 94 #[.pointer (some ⟨lw, 0, none⟩), .int .i64 (i : Int), .bool d] W fun e w' => e = .returned (.tuple #[.int .u64 ((ad x p : Nat) : Int), .bool false, .int .i64 0]) ∧ (∃ t', PO w w' lw x t' (cutF (frU fr j (M.dropL (fr j) p)) p j i) (ls ++ [(p, i)]) ∧ t'.m.n = t.m.n) ∧ Kept (bown x) W w' := by
  refine (Need_any h (i : Int) d).mono fun e w' hn => ?_
  cases hn with
  | bad h1 => rw [inR_in hi] at h1; cases h1
  | here i' j' p' l' h1 h2 h3 h4 h5 h6 he hs kp =>
    obtain rfl : i' = i := by omega
    have ej : j' = j := by
      rcases Nat.lt_trichotomy j' j with e | e | e
      · rw [hz j' h3 e] at h6; cases h6
      · exact e
      · rw [h5 j hij e] at hp; cases hp
    subst ej
    rw [hp] at h6
    injection h6 with e1 e2
    subst e1
    exact ⟨he, hs, kp⟩
  | stuck i' h1 h2 h3 => rw [h3 j (by omega) hj] at hp; cases hp
  | grew i' h1 h2 h3 => rw [h3 j (by omega) hj] at hp; cases hp
theorem Need_stuck {w W lw x t fr ls} (h : PO w W lw x t fr ls) (i : Nat) (hi : i ≤ x.o) (hz : ∀ a, i ≤ a → a ≤ x.o → fr a = []) (d : Bool) (hd : d = true ∨ x.n = x.lim * x.R) :
    Calls Tryz.prog 94 #[.pointer (some ⟨lw, 0, none⟩), .int .i64 (i : Int), .bool d] W fun e w' => e = .returned (.tuple #[.int .u64 0, .bool false, .int .i64 2]) ∧ Kept none' W w' := by
  have hR1 := h.pl.bd.sp.cfg.r1
  refine (Need_any h (i : Int) d).mono fun e w' hn => ?_
  cases hn with
  | bad h1 => rw [inR_in hi] at h1; cases h1
  | here i' j' p' l' h1 h2 h3 h4 h5 h6 => rw [hz j' (by omega) h4] at h6; cases h6
  | stuck i' h1 h2 h3 h4 he kp => exact ⟨he, kp⟩
  | grew i' h1 h2 h3 h4 h5 =>
    rcases hd with e | e
    · rw [e] at h4; cases h4
    · omega
theorem Need_grew {w W lw x t fr ls} (h : PO w W lw x t fr ls) (i : Nat) (hi : i ≤ x.o) (hz : ∀ a, i ≤ a → a ≤ x.o → fr a = []) (hl : x.n + x.R ≤ x.lim * x.R) :
    Calls Tryz.prog 94 #[.pointer (some ⟨lw, 0, none⟩), .int .i64 (i : Int), .bool false] W fun e w' => e = .returned (.tuple #[.int .u64 ((ad x t.m.n : Nat) : Int), .bool true, .int .i64 0]) ∧ (∃ x' t', PO w w' lw x' t' (cutF fr t.m.n x.o i) (ls ++ [(t.m.n, i)]) ∧ Sm x x' ∧ x'.n = x.n + x.R ∧ t'.m.n = t.m.n + 2 ^ x.o ∧ Nb W x x') ∧ Kept (bown x) W w' := by
  have hR1 := h.pl.bd.sp.cfg.r1
  refine (Need_any h (i : Int) false).mono fun e w' hn => ?_
  cases hn with
  | bad h1 => rw [inR_in hi] at h1; cases h1
  | here i' j' p' l' h1 h2 h3 h4 h5 h6 => rw [hz j' (by omega) h4] at h6; cases h6
  | stuck i' h1 h2 h3 h4 he kp =>
    rcases h4 with e | e
    · cases e
    · omega
  | grew i' h1 h2 h3 h4 h5 he hs kp =>
    obtain rfl : i' = i := by omega
    exact ⟨he, hs, kp⟩
/-- What is asked of a pool's parts. -/
theorem regions6 {w W lw x t fr ls} (h : PO w W lw x t fr ls) (r : Nat) (hr : t.m.n = r * 2 ^ x.o) : Calls Tryz.prog 190 #[.pointer (some ⟨x.s, 0, none⟩)] W fun e w' => e = .returned (.int .i64 (r : Int)) ∧ Kept none' W w' := by
  have hR := h.pl.bd.hR
  have hR1 := h.pl.bd.sp.cfg.r1
  have hx : x.n / x.R = r := by
    have h1 := h.st
    have h2 : x.n = r * x.R := by rw [← h1, hr, hR, Nat.mul_comm 4096, Nat.mul_assoc]
    rw [h2]
    exact Nat.mul_div_cancel _ (by omega)
  refine (M.regions_any x.s x.a x.base x.R x.lim x.n t.f W h.pl.bd.sp).mono ?_
  rintro e w' ⟨rfl, m, rfl⟩
  exact ⟨by rw [hx], (Kept.refl none' W).drewN m⟩
theorem end6 {w W lw x t fr ls} (h : PO w W lw x t fr ls) : Calls Tryz.prog 76 #[.pointer (some ⟨x.s, 0, none⟩)] W fun e w' => e = .returned (.int .u64 ((x.base + x.n : Nat) : Int)) ∧ Kept none' W w' := by
  refine (M.end_any x.s x.a x.base x.R x.lim x.n t.f W h.pl.bd.sp).mono ?_
  rintro e w' ⟨rfl, hk⟩
  first
    | exact ⟨rfl, toK hk⟩
    | (obtain ⟨m, rfl⟩ := hk; exact ⟨rfl, (Kept.refl none' W).drewN m⟩)
    | (subst hk; exact ⟨rfl, Kept.refl none' _⟩)
theorem pages6 {w W lw x t fr ls} (h : PO w W lw x t fr ls) : Calls Tryz.prog 41 #[.pointer (some ⟨x.m, 0, none⟩)] W fun e w' => e = .returned (.int .i64 (t.m.n : Int)) ∧ w' = W := pages_any x.m x.B t.m W h.pl.bd.mp
end Go.Proofs.YtgjapopddblpoaaGreatDoor
