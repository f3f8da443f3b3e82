/- oracle.isSize, cellsOf, upward, isBlock. -/
import Derived.Test.YtibljocjdlgfbaaOrA
namespace Go.Proofs.Ytibljocjdlgfbaa
open Go.RowKit
set_option linter.unusedVariables false

/-- A Config as a value. -/
abbrev cfgV (base : Nat) (lim ord : Int) : Value := .agg #[.int .u64 (base : Int), .int .i64 lim, .int .i64 ord]
theorem RS_le (k : Nat) (hk : k ≤ 8) : 4096 ≤ RS k ∧ RS k ≤ 1048576 := by
  have := pow8 k hk
  unfold RS
  omega

/-- Can a block have so many bytes? -/
def szB (k x : Nat) : Bool := isP x && decide (16 ≤ x) && decide (x ≤ RS k)

theorem box3 (w w1 : World) (base lim ord : Int) (hK : Kept none' (w.alloc (.cells #[.int .u64 base, .int .i64 lim, .int .i64 ord] 24)) w1) :
    w1.cell? ⟨w.heap.size, 0, none⟩ = some (.int .u64 base) ∧ w1.cell? ⟨w.heap.size, 1, none⟩ = some (.int .i64 lim) ∧ w1.cell? ⟨w.heap.size, 2, none⟩ = some (.int .i64 ord) ∧ Kept none' w w1 := by
  have := (hK.block w.heap.size (by simp) (fun x => x)).trans (heap_new w _)
  exact ⟨by simp [World.cell?, this], by simp [World.cell?, this], by simp [World.cell?, this], ((Kept.refl none' w).alloc _).trans hK (fun _ _ x => x) (fun _ _ x => x)⟩

theorem isSize_any (base : Nat) (lim : Int) (k : Nat) (hk : k ≤ 8) (x : Nat) (hx : x < 2 ^ 64) (w : World) :
    Calls Try.prog 36 #[cfgV base lim (k : Int), .int .u64 (x : Int)] w fun e w' => e = .returned (.bool (szB k x)) ∧ Kept none' w w' := by
  obtain ⟨R, hR⟩ : ∃ R, R = RS k := ⟨_, rfl⟩
  have hRl := RS_le k hk
  rw [← hR] at hRl
  have HR := hid (fun W => regionSize_any (base : Int) lim k hk W)
  have HP := hid (fun W => isPower_64 x hx W)
  have E : Hid (szB k x = (isP x && decide (16 ≤ x) && decide (x ≤ R))) := by rw [hR]; rfl
  rw [← hR] at HR
  cases hp : isP x with
  | false =>
    rw [hp] at HP E
    clear hR hp
    go_enter Try.func36, Try.ntmps36
    go_wp2_with (first | (go_at_call 32; refine (HP.out _).mono ?_; rintro e w' ⟨rfl, rfl⟩))
    go_ret
    exact ⟨ret_bool (by rw [E.out]; rfl), (Kept.refl _ w).alloc _⟩
  | true =>
    rw [hp] at HP E
    clear hp
    by_cases h1 : 16 ≤ x
    · have E2 : Hid (szB k x = decide (x ≤ R)) := by
        show _ = _
        rw [E.out, decide_eq_true h1]; rfl
      clear hR E
      go_enter Try.func36, Try.ntmps36
      go_wp2_with (first | (go_at_call 32; refine (HP.out _).mono ?_; rintro e w' ⟨rfl, rfl⟩) | (go_at_call 34; refine (HR.out _).mono ?_; rintro e w1 ⟨rfl, hK⟩))
      obtain ⟨_, _, _, hKK⟩ := box3 w w1 base lim k hK
      have HK := hid hKK
      clear hK hKK
      go_wp2
      go_ret
      exact ⟨ret_bool (by rw [E2.out]), HK.out⟩
    · have E2 : Hid (szB k x = false) := by
        show _ = _
        rw [E.out, decide_eq_false h1]; rfl
      clear hR E
      go_enter Try.func36, Try.ntmps36
      go_wp2_with (first | (go_at_call 32; refine (HP.out _).mono ?_; rintro e w' ⟨rfl, rfl⟩))
      go_ret
      exact ⟨ret_bool E2.out.symm, (Kept.refl _ w).alloc _⟩

/-- How many cells a page has. -/
def celN (x : Nat) : Nat := if 4096 / x < 1 then 1 else 4096 / x
theorem cellsOf_any (x : Nat) (hx : x < 2 ^ 64) (h0 : 0 < x) (w : World) :
    Calls Try.prog 57 #[.int .u64 (x : Int)] w fun e w' => e = .returned (.int .u64 ((celN x : Nat) : Int)) ∧ w' = w := by
  obtain ⟨q, hq⟩ : ∃ q, q = 4096 / x := ⟨_, rfl⟩
  have hq1 : (4096 : Int) / (x : Int) = (q : Int) := by rw [hq]; simp
  have hq2 : q ≤ 4096 := by rw [hq]; exact Nat.div_le_self _ _
  have hx0 : ¬ (x : Int) = 0 := by omega
  have E : Hid (celN x = if q < 1 then 1 else q) := by rw [hq]; rfl
  clear hq
  go_enter Try.func57, Try.ntmps57
  go_wp2
  all_goals
    go_ret
    refine ⟨ret_int ?_, rfl⟩
    rw [E.out]
    split <;> omega
end Go.Proofs.Ytibljocjdlgfbaa
