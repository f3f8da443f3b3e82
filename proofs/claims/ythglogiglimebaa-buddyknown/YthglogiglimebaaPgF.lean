/- pagemap: First, Head. -/
import Derived.Test.YthglogiglimebaaPgE
namespace Go.Proofs.Ythglogiglimebaa
open Go.RowKit
set_option linter.unusedVariables false

theorem shl_back (k o : Nat) (ho : o ≤ 8) (hk : k < 1024) : wrap64 ((k : Int) / 2 ^ o * 2 ^ o) = ((k / 2 ^ o * 2 ^ o : Nat) : Int) := by
  have h1 : k / 2 ^ o * 2 ^ o ≤ k := Nat.div_mul_le_self _ _
  have h2 : ((k : Int) / 2 ^ o * 2 ^ o) = ((k / 2 ^ o * 2 ^ o : Nat) : Int) := by simp
  rw [h2]
  generalize k / 2 ^ o * 2 ^ o = z at *
  unfold wrap64
  omega
def headV (m : Mp) (i : Int) : Int := if inR m.n i = true then ((i.toNat / 2 ^ (m.pg i.toNat).od.toNat * 2 ^ (m.pg i.toNat).od.toNat : Nat) : Int) else -1
theorem Head_out (b : Nat) (B : Bs) (m : Mp) (i : Int) (w : World) (h : MapAt w b B m) (hi : inR m.n i = false) :
    Calls Try.prog 91 #[.pointer (some ⟨b, 0, none⟩), .int .i64 i] w fun e w' => e = .returned (.int .i64 (-1)) ∧ w' = w := by
  have HM := hid h
  have HI := hid hi
  clear h hi
  go_enter Try.func91, Try.ntmps91
  go_wp2_with fail
  refine (has_any b B m i _ HM.out).mono ?_
  rintro e w1 ⟨rfl, rfl⟩
  rw [HI.out]
  go_wp2_with fail
  go_ret
  exact ⟨rfl, rfl⟩
theorem Head_in (b : Nat) (B : Bs) (m : Mp) (k o : Nat) (w : World) (h : MapAt w b B m) (hk : k < m.n) (ho : (m.pg k).od = o) :
    Calls Try.prog 91 #[.pointer (some ⟨b, 0, none⟩), .int .i64 (k : Int)] w fun e w' => e = .returned (.int .i64 ((k / 2 ^ o * 2 ^ o : Nat) : Int)) ∧ w' = w := by
  have HM := hid h
  have HI := hid (inR_yes hk)
  have ho8 : o ≤ 8 := by have := (h.ok k hk).o8; omega
  have hkn : k < 1024 := by have := h.n1; omega
  obtain ⟨g, hg, hr⟩ := h.has_row (by omega)
  have d1 := (hr.cell k hk).2.1
  rw [ho] at d1
  have c1 := h.c1 hg
  have hki : (k : Int) < (m.n : Int) := by omega
  have HE := hid (shl_back k o ho8 hkn)
  clear h hr hg
  go_enter Try.func91, Try.ntmps91
  go_wp2_with fail
  refine (has_any b B m k _ HM.out).mono ?_
  rintro e w1 ⟨rfl, rfl⟩
  rw [HI.out]
  go_wp2_with fail
  go_ret
  exact ⟨ret_int HE.out, rfl⟩
theorem Row.f6 {w g n pg} (h : Row w g n pg) (i : Nat) (hi : i < n) (x : Int) : Row (w.setCell ⟨g, i * 11 + 6, none⟩ (.int .i64 x)) g n (upp pg i { pg i with fs := x }) := by
  have := RowC.set h i 6 hi (by decide) (.int .i64 x)
  refine RowC.congr this (fun a ha b hb => fld_up a b hb (fun j hj => ?_) (fun e => ?_))
  · revert j
    apply lt11 <;> simp [upc, Pg.fld]
  · simp [upc, e]
end Go.Proofs.Ythglogiglimebaa
