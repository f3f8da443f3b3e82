/- pagemap: pair bits. -/
import Derived.Test.YthglogiglimebaaPgB
namespace Go.Proofs.Ythglogiglimebaa
open Go.RowKit
set_option linter.unusedVariables false

theorem pairCount_any (k c : Nat) (hk : k < 8) (hc : c ≤ 1024) (w : World) :
    Calls Try.prog 82 #[.int .i64 (k : Int), .int .i64 (c : Int)] w fun e w' => e = .returned (.int .i64 ((c / 2 ^ (k + 1) : Nat) : Int)) ∧ w' = w := by
  go_enter Try.func82, Try.ntmps82
  go_wp2_with fail
  go_ret
  exact ⟨ret_int (by simp), rfl⟩
theorem hasPair_any (b : Nat) (B : Bs) (m : Mp) (k i : Int) (w : World) (h : MapAt w b B m) :
    Calls Try.prog 86 #[.pointer (some ⟨b, 0, none⟩), .int .i64 k, .int .i64 i] w fun e w' => e = .returned (.bool (inR m.o k && inR m.n i)) ∧ w' = w := by
  have HM := hid h
  have c0 := h.c0
  clear h
  cases hk : inR m.o k with
  | true =>
    obtain ⟨j, rfl, hj⟩ := inR_nat hk
    rw [Bool.true_and]
    have hji : (j : Int) < (m.o : Int) := by omega
    clear hk
    go_enter Try.func86, Try.ntmps86
    go_wp2_with fail
    refine (has_any b B m i _ HM.out).mono ?_
    rintro e w1 ⟨rfl, rfl⟩
    go_wp2_with fail
    go_ret
    exact ⟨rfl, rfl⟩
  | false =>
    rw [Bool.false_and]
    by_cases h0 : 0 ≤ k
    · have h1 : ¬ k < (m.o : Int) := by simp [inR, h0] at hk; omega
      clear hk
      go_enter Try.func86, Try.ntmps86
      go_wp2_with fail
      go_ret
      exact ⟨rfl, rfl⟩
    · clear hk
      go_enter Try.func86, Try.ntmps86
      go_wp2_with fail
      go_ret
      exact ⟨rfl, rfl⟩
theorem Pair_no (b : Nat) (B : Bs) (m : Mp) (k i : Int) (w : World) (h : MapAt w b B m) (hp : (inR m.o k && inR m.n i) = false) :
    Calls Try.prog 88 #[.pointer (some ⟨b, 0, none⟩), .int .i64 k, .int .i64 i] w fun e w' => e = .returned (.bool false) ∧ Kept none' w w' := by
  have HQ := hid (fun q => hasPair_any b B m k i (w.drewN q) (h.keep ((Kept.refl none' w).drewN q)))
  rw [hp] at HQ
  clear h hp
  go_enter Try.func88, Try.ntmps88
  go_wp2_with fail
  go_quiet ((go_at_call 86; exact Calls.quiet_of_same (HQ.out _)))
  go_wp2_with fail
  go_ret
  exact ⟨rfl, (Kept.refl none' w).drewN _⟩
theorem MapAt.c2 {w b B m} {q : Nat} (h : MapAt w b B m) (hq : B.P = some q) : ∃ cq, w.cell? ⟨b, 2, none⟩ = some (.slice (some ⟨q, 0, none⟩) m.o cq) := by
  obtain ⟨cq, hb, _⟩ := h.hb
  exact ⟨cq, by simp [World.cell?, hb, hq, adr]⟩
theorem pw_pos (k : Nat) : 0 < 2 ^ k := Nat.pow_pos (by decide)
theorem Pair_in (b : Nat) (B : Bs) (m : Mp) (k i : Nat) (w : World) (h : MapAt w b B m) (hk : k < m.o) (hi : i < m.n) :
    Calls Try.prog 88 #[.pointer (some ⟨b, 0, none⟩), .int .i64 (k : Int), .int .i64 (i : Int)] w fun e w' => e = .returned (.bool (inS (m.n / 2 ^ (k + 1)) (m.wd k) ((i / 2 ^ (k + 1) : Nat) : Int))) ∧ Kept none' w w' := by
  have HQ := hid (fun q => hasPair_any b B m k i (w.drewN q) (h.keep ((Kept.refl none' w).drewN q)))
  rw [show (inR m.o (k : Int) && inR m.n (i : Int)) = true by rw [inR_yes hk, inR_yes hi]; rfl] at HQ
  obtain ⟨q, hq, cp⟩ := h.cp k hk
  obtain ⟨cq, c2⟩ := h.c2 hq
  have HG := hid (fun z => get_any (B.S k) (B.C k) _ (m.wd k) ((i / 2 ^ (k + 1) : Nat) : Int) (w.drewN z) ((h.set k hk).kept ((Kept.refl none' w).drewN z) (fun x => x) (fun x => x)))
  have hk8 : k < 8 := by have := h.o8; omega
  have hi10 : i < 1024 := by have := h.n1; omega
  have hki : (k : Int) < (m.o : Int) := by omega
  clear h hq
  go_enter Try.func88, Try.ntmps88
  go_wp2_with fail
  go_quiet (first | (go_at_call 86; exact Calls.quiet_of_same (HQ.out _)) | (go_at_call 100; exact Calls.quiet_of_same (HG.out _)))
  go_wp2_with fail
  go_ret
  exact ⟨rfl, (Kept.refl none' w).drewN _⟩
end Go.Proofs.Ythglogiglimebaa
