/- croftref11.Size, Round, Product; OracleRounds. -/
import Derived.Test.YtibljocjdlgfbaaRfA
namespace Go.Proofs.Ytibljocjdlgfbaa
open Go.RowKit
set_option linter.unusedVariables false

/-- The size on the way. -/
def wayN (i : Nat) : Nat := if i = 60 then 0 else 2 ^ (4 + i)
theorem wayN_b (i : Nat) (hi : i ≤ 60) : wayN i < 2 ^ 64 ∧ (i < 60 → 16 ≤ wayN i) := by
  unfold wayN
  refine ⟨?_, fun h => ?_⟩
  · split
    · decide
    · exact Nat.pow_lt_pow_right (by decide) (by omega)
  · rw [if_neg (by omega)]
    exact Nat.pow_le_pow_right (n := 2) (by decide) (show 4 ≤ 4 + i by omega)
theorem wayN_dbl (i : Nat) (hi : i + 1 < 60) : wayN (i + 1) = 2 * wayN i := by
  unfold wayN
  rw [if_neg (by omega), if_neg (by omega), show 4 + (i + 1) = (4 + i) + 1 by omega, Nat.pow_succ, Nat.mul_comm]
theorem wayN_next (i : Nat) (hi : i < 60) : wayN i * 2 % 18446744073709551616 = wayN (i + 1) := by
  by_cases e : i + 1 = 60
  · have : i = 59 := by omega
    subst this
    rfl
  · have h1 := wayN_dbl i (by omega)
    have h2 := (wayN_b (i + 1) (by omega)).1
    omega
theorem wayN_end (i s a : Nat) (hi : i ≤ 60) (hs : s < 2 ^ 64) (ha : a < 2 ^ 64) (hb : ∀ j, j < i → wayN j < max s a) (he : i = 60 ∨ max s a ≤ wayN i) : wayN i = ceilV 64 (askN s a) := by
  obtain ⟨x, hx⟩ : ∃ x, x = askN s a := ⟨_, rfl⟩
  have hx2 : x = max (max s a) 16 := hx
  rw [← hx]
  have hlow : 3 + i < cl x := by
    refine Nat.not_le.1 fun h => ?_
    have h1 := (cl_spec x (3 + i)).2 h
    cases i with
    | zero =>
      have : (2 : Nat) ^ (3 + 0) = 8 := rfl
      omega
    | succ j =>
      have h2 := hb j (by omega)
      unfold wayN at h2
      rw [if_neg (by omega), show 4 + j = 3 + (j + 1) by omega] at h2
      omega
  unfold ceilV
  by_cases e : i = 60
  · rw [if_neg (by omega)]
    unfold wayN
    rw [if_pos e]
  · have h1 : max s a ≤ wayN i := by
      rcases he with h | h
      · exact absurd h e
      · exact h
    have h16 := (wayN_b i hi).2 (by omega)
    have h2 : cl x ≤ 4 + i := (cl_spec x (4 + i)).1 (by
      unfold wayN at h1 h16
      rw [if_neg e] at h1 h16
      omega)
    have h3 : cl x = 4 + i := by omega
    rw [h3, if_pos (by omega)]
    unfold wayN
    rw [if_neg e]

/-- What Size tells. -/
def sizV (k s a : Nat) : Nat := if RS k < ceilV 64 (askN s a) then 0 else ceilV 64 (askN s a)

set_option maxRecDepth 4000 in
theorem refSize (base : Nat) (lim : Int) (k : Nat) (hk : k ≤ 8) (s a : Nat) (hs : s < 2 ^ 64) (ha : a < 2 ^ 64) (w : World) :
    Calls Try.prog 45 #[cfgV base lim (k : Int), .int .u64 (s : Int), .int .u64 (a : Int)] w fun e w' => e = .returned (.int .u64 ((sizV k s a : Nat) : Int)) ∧ Kept none' w w' := by
  have C0 := hid (show CR (w.alloc (.cells #[.int .u64 (base : Int), .int .i64 lim, .int .i64 (k : Int)] 42)) w.heap.size base lim k from heap_new w _)
  have K0 := hid (show Kept none' w (w.alloc (.cells #[.int .u64 (base : Int), .int .i64 lim, .int .i64 (k : Int)] 42)) from (Kept.refl _ w).alloc _)
  obtain ⟨R, hR⟩ : ∃ R, R = RS k := ⟨_, rfl⟩
  have HR := hid (fun W => refR (base : Int) lim k hk W)
  have hRl := RS_le k hk
  rw [← hR] at HR hRl
  have HV := hid (show ∀ x, x = ceilV 64 (askN s a) → sizV k s a = if R < x then 0 else x from fun x hx => by rw [hx, hR]; rfl)
  clear hR
  go_enter Try.func45, Try.ntmps45
  go_wp2_with fail
  generalize w.alloc (.cells #[.int .u64 (base : Int), .int .i64 lim, .int .i64 (k : Int)] 42) = W1 at *
  generalize w.heap.size = bx at *
  go_loopw [7] (fun x W => ∃ i : Nat, i ≤ 60 ∧ x = .int .u64 ((wayN i : Nat) : Int) ∧ Hid (W = W1 ∧ ∀ j, j < i → wayN j < max s a)) (fun x W => if intOf x = 0 then 0 else (18446744073709551616 - intOf x).toNat)
  case atStart => exact ⟨0, by omega, rfl, hid ⟨rfl, fun j hj => by omega⟩⟩
  case round =>
    obtain ⟨i, hi, rfl, HI⟩ := hrel
    obtain ⟨x, hx⟩ : ∃ x, x = wayN i := ⟨_, rfl⟩
    have hxb := wayN_b i hi
    rw [← hx] at hxb ⊢
    obtain rfl := HI.out.1
    have hfin : (i = 60 ∨ max s a ≤ x) → Hid (x = ceilV 64 (askN s a)) := fun h => by
      show x = _
      rw [hx]; exact wayN_end i s a hi hs ha HI.out.2 (by rw [← hx]; exact h)
    by_cases h0 : x = 0
    · have HF := hfin (.inl (by
        refine Classical.byContradiction fun h => ?_
        have := hxb.2 (by omega)
        omega))
      subst h0
      clear hfin hx HI
      obtain ⟨c0, c1, c2⟩ := C0.out.cells
      go_wp2_with fail
      refine (HR.out _).mono ?_
      rintro e w2 ⟨rfl, hk⟩
      have K2 := hid (none_trans K0.out hk)
      clear hk
      have E := hid (show sizV k s a = 0 by rw [HV.out 0 HF.out, if_neg (by omega)])
      go_wp2_with fail
      go_ret
      exact ⟨ret_int (by rw [E.out]; rfl), K2.out⟩
    · have hn0 : ((x : Int) != 0) = true := by rw [bne_iff_ne]; omega
      have hn1 : ¬ (x : Int) = 0 := by omega
      have hi60 : i < 60 := by
        refine Nat.lt_of_le_of_ne hi fun e => h0 ?_
        rw [hx, e]; rfl
      obtain ⟨y, hy⟩ : ∃ y, y = wayN (i + 1) := ⟨_, rfl⟩
      have hyw : IntKind.u64.wrap ((x : Int) * 2) = (y : Int) := by
        rw [wrap_u64, hy, ← wayN_next i hi60, ← hx]
        simp
      have hyb : y = 0 ∨ (x < y ∧ y < 2 ^ 64) := by
        have := hxb.2 hi60
        have h2 := (wayN_b (i + 1) (by omega)).1
        rw [← hy] at h2
        by_cases e : i + 1 = 60
        · left; rw [hy, e]; rfl
        · right
          have h1 := wayN_dbl i (by omega)
          rw [← hx, ← hy] at h1
          omega
      have NX : x < max s a → Hid (∃ i', i' ≤ 60 ∧ Hid ((y : Nat) = wayN i') ∧ Hid (True ∧ ∀ j, j < i' → wayN j < max s a)) := fun h => hid ⟨i + 1, by omega, hid hy, hid ⟨trivial, fun j hj => by
        by_cases e : j = i
        · rw [e, ← hx]; exact h
        · exact HI.out.2 j (by omega)⟩⟩
      by_cases h1 : (x : Int) < (s : Int)
      · obtain ⟨i', q1, q2, q3⟩ := (NX (by omega)).out
        clear hfin hx HI hy NX
        go_wp2_with fail
        exact ⟨⟨i', q1, by rw [q2.out], q3⟩, by simp [intOf]; (repeat' split) <;> omega⟩
      · by_cases h2 : (x : Int) < (a : Int)
        · obtain ⟨i', q1, q2, q3⟩ := (NX (by omega)).out
          clear hfin hx HI hy NX
          go_wp2_with fail
          exact ⟨⟨i', q1, by rw [q2.out], q3⟩, by simp [intOf]; (repeat' split) <;> omega⟩
        · have HF := hfin (.inr (by omega))
          clear hfin hx HI hy NX
          obtain ⟨c0, c1, c2⟩ := C0.out.cells
          go_wp2_with fail
          refine (HR.out _).mono ?_
          rintro e w2 ⟨rfl, hk⟩
          have K2 := hid (none_trans K0.out hk)
          clear hk
          by_cases hle : (R : Int) < (x : Int)
          · have E := hid (show sizV k s a = 0 by rw [HV.out x HF.out, if_pos (by omega)])
            go_wp2_with fail
            go_ret
            exact ⟨ret_int (by rw [E.out]; rfl), K2.out⟩
          · have E := hid (show sizV k s a = x by rw [HV.out x HF.out, if_neg (by omega)])
            go_wp2_with fail
            go_ret
            exact ⟨ret_int (by rw [E.out]), K2.out⟩
end Go.Proofs.Ytibljocjdlgfbaa
