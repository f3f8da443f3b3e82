/- pagemap: Shrink. -/
import Derived.Test.YthglogiglimebaaPgL
namespace Go.Proofs.Ythglogiglimebaa
open Go.RowKit
set_option linter.unusedVariables false

def canShrink (m : Mp) (n : Int) : Bool := decide (0 ≤ n ∧ n ≤ ((m.n / 2 ^ m.o : Nat) : Int))
def shrinkM (m : Mp) (n : Int) : Mp := if canShrink m n = true then resizeM m (m.n - n.toNat * 2 ^ m.o) else m
def shrinkE (m : Mp) (n : Int) : Int := if canShrink m n = true then 0 else 1
theorem Shrink_no (b : Nat) (B : Bs) (m : Mp) (n : Int) (w : World) (h : MapAt w b B m) (hn : n < 0 ∨ ((m.n / 2 ^ m.o : Nat) : Int) < n) :
    Calls Try.prog 78 #[.pointer (some ⟨b, 0, none⟩), .int .i64 n] w fun e w' => e = .returned (.int .i64 1) ∧ Kept none' w w' := by
  obtain ⟨cq, c0, c1, c2⟩ := h.cb
  have ho8 := h.o8
  have hn1 := h.n1
  clear h
  by_cases h0 : n < 0
  · clear hn
    go_enter Try.func78, Try.ntmps78
    go_wp2_with fail
    go_quiet (fail)
    go_wp2_with fail
    go_ret
    exact ⟨rfl, (Kept.refl none' w).drewN _⟩
  · have h1 : (m.n : Int) / 2 ^ m.o < n := by have := hn.resolve_left h0; simpa using this
    have hd : decide (n < 0) = false := decide_eq_false h0
    clear hn
    go_enter Try.func78, Try.ntmps78
    go_wp2_with fail
    go_quiet (fail)
    go_wp2_with fail
    go_ret
    exact ⟨rfl, (Kept.refl none' w).drewN _⟩
theorem dv_sub {n o k : Nat} (h : ∃ r, n = r * 2 ^ o) : ∃ r, n - k * 2 ^ o = r * 2 ^ o := by
  obtain ⟨r, hr⟩ := h
  exact ⟨r - k, by rw [hr, Nat.sub_mul]⟩
theorem shl_run (n o d : Nat) (ho : o ≤ 8) (hd : (n : Int) * 2 ^ o = d) (hd2 : d ≤ 1024) (W : World) : Sem.run Try.prog (Op.shift BinOp.shl IntKind.i64 (n : Int) IntKind.i64 (o : Int)) W = Result.ok (.int .i64 (d : Int)) W := by
  unfold Op.shift
  simp [go_sem]
  rw [if_neg (by omega), Nat.min_eq_left (by omega), hd, show IntKind.i64.wrap (d : Int) = d by rw [IntKind.wrap_i64]; omega]
set_option maxRecDepth 4000 in
set_option maxHeartbeats 2000000 in
theorem Shrink_ok (b : Nat) (B : Bs) (m : Mp) (n : Nat) (w : World) (h : MapAt w b B m) (hn : n ≤ m.n / 2 ^ m.o) :
    Calls Try.prog 78 #[.pointer (some ⟨b, 0, none⟩), .int .i64 (n : Int)] w fun e w' => e = .returned (.int .i64 0) ∧ ∃ B', MapAt w' b B' (resizeM m (m.n - n * 2 ^ m.o)) ∧ Kept (mown b B m.o) w w' ∧ From w b B B' m.o := by
  obtain ⟨cq, c0, c1, c2⟩ := h.cb
  have ho8 := h.o8
  have hn1 := h.n1
  have RZ := hid (fun w' (kk : Kept none' w w') => mresize_any b B m (m.n - n * 2 ^ m.o) (by omega) (dv_sub h.dv) w' (h.keep kk))
  have hle : n * 2 ^ m.o ≤ m.n := Nat.le_trans (Nat.mul_le_mul_right _ hn) (Nat.div_mul_le_self _ _)
  have hn0 : ¬ (n : Int) < 0 := by omega
  have hdi : ¬ (m.n : Int) / 2 ^ m.o < (n : Int) := by
    have : (m.n : Int) / 2 ^ m.o = ((m.n / 2 ^ m.o : Nat) : Int) := by simp
    rw [this]; omega
  have hmul : (n : Int) * 2 ^ m.o = ((n * 2 ^ m.o : Nat) : Int) := by simp
  obtain ⟨d, hd⟩ : ∃ d, d = n * 2 ^ m.o := ⟨_, rfl⟩
  rw [← hd] at hle hmul RZ ⊢
  have hcast : ((m.n - d : Nat) : Int) = (m.n : Int) - d := by omega
  rw [hcast] at RZ
  have hd10 : d ≤ 1024 := by omega
  have hdn : decide ((n : Int) < 0) = false := decide_eq_false hn0
  have hdd : decide ((m.n : Int) / 2 ^ m.o < (n : Int)) = false := decide_eq_false hdi
  have hsh := shl_run n m.o d ho8 hmul hd10
  have hws : IntKind.i64.wrap ((m.n : Int) - d) = (m.n : Int) - d := by rw [IntKind.wrap_i64]; omega
  clear h hd hcast hn
  go_enter Try.func78, Try.ntmps78
  go_wp2_with fail
  go_quiet (fail)
  go_wp2_with fail
  obtain ⟨W, hW⟩ : ∃ W, W = w.drewN nq := ⟨_, rfl⟩
  have KW := hid (show Kept none' w W by rw [hW]; exact (Kept.refl none' w).drewN nq)
  have c0 := KW.out.cell (fun x => x) c0
  have c1 := KW.out.cell (fun x => x) c1
  rw [← hW]
  have HAR := hid (show IntKind.i64.wrap ((m.n : Int) - IntKind.i64.wrap ((n : Int) * 2 ^ min m.o 64)) = (m.n : Int) - d by rw [Nat.min_eq_left (by omega), hmul, show IntKind.i64.wrap (d : Int) = d by rw [IntKind.wrap_i64]; omega]; exact hws)
  clear hW hmul hdi hdd hdn hn0 c2 hle ho8 hn1 hsh hws
  go_region_with ((go_at_call 58; rw [HAR.out]; refine (RZ.out _ (KW.out.drew)).mono ?_; rintro e w1 ⟨rfl, B1, hM1, hK1, hF1⟩))
  all_goals
    have F1 := hid (show ∃ B', MapAt w1 b B' (resizeM m (m.n - d)) ∧ Kept (mown b B m.o) w w1 ∧ From w b B B' m.o from ⟨B1, hM1, KW.out.drew.trans hK1 (fun _ _ x => x.elim) (fun _ _ x => x), fun x hx => (hF1 x hx).imp (fun h => h) (fun h => Nat.le_trans KW.out.size h)⟩)
    clear hM1 hK1 hF1
    go_wp2_with fail
    go_ret
    exact ⟨rfl, F1.out⟩
theorem Shrink_any (b : Nat) (B : Bs) (m : Mp) (n : Int) (w : World) (h : MapAt w b B m) :
    Calls Try.prog 78 #[.pointer (some ⟨b, 0, none⟩), .int .i64 n] w fun e w' => e = .returned (.int .i64 (shrinkE m n)) ∧ ∃ B', MapAt w' b B' (shrinkM m n) ∧ Kept (mown b B m.o) w w' ∧ From w b B B' m.o := by
  by_cases hn : 0 ≤ n ∧ n ≤ ((m.n / 2 ^ m.o : Nat) : Int)
  · obtain ⟨k, rfl⟩ := Int.eq_ofNat_of_zero_le hn.1
    have hc : canShrink m (k : Int) = true := decide_eq_true hn
    rw [show shrinkE m (k : Int) = 0 by simp only [shrinkE, hc, if_true], show shrinkM m (k : Int) = resizeM m (m.n - k * 2 ^ m.o) by simp only [shrinkM, hc, if_true, Int.toNat_natCast]]
    exact Shrink_ok b B m k w h (by omega)
  · have hc : canShrink m n = false := decide_eq_false hn
    rw [show shrinkE m n = 1 by simp [shrinkE, hc], show shrinkM m n = m by simp [shrinkM, hc]]
    refine (Shrink_no b B m n w h (by omega)).mono ?_
    rintro e w' ⟨rfl, hk⟩
    exact ⟨rfl, B, h.keep hk, hk.mono (fun _ _ x => x.elim), From.refl _ _ _ _⟩
end Go.Proofs.Ythglogiglimebaa
