/- pagemap: Chain. -/
import Derived.Test.YtbhheimedbfmeaaPgE
namespace Go.Proofs.Ytbhheimedbfmeaa
open Go.RowKit
set_option linter.unusedVariables false

def lnk (n : Nat) (x : Int) : Bool := x == -1 || inR n x
theorem Row.f45 {w g n pg} (h : Row w g n pg) (i : Nat) (hi : i < n) (x y : Int) : Row ((w.setCell ⟨g, i * 11 + 4, none⟩ (.int .i64 x)).setCell ⟨g, i * 11 + 5, none⟩ (.int .i64 y)) g n (upp pg i { pg i with nx := x, pv := y }) := by
  have := (RowC.set h i 4 hi (by decide) (.int .i64 x)).set i 5 hi (by decide) (.int .i64 y)
  refine RowC.congr this (fun a ha b hb => fld_up a b hb (fun j hj => ?_) (fun e => ?_))
  · revert j
    apply lt11 <;> simp [upc, Pg.fld]
  · simp [upc, e]
theorem Chain_out (b : Nat) (B : Bs) (m : Mp) (i x y : Int) (w : World) (h : MapAt w b B m) (hi : inR m.n i = false) :
    Calls Try.prog 17 #[.pointer (some ⟨b, 0, none⟩), .int .i64 i, .int .i64 x, .int .i64 y] w fun e w' => e = .returned (.int .i64 1) ∧ w' = w := by
  have HM := hid h
  have HI := hid hi
  clear h hi
  go_enter Try.func17, Try.ntmps17
  go_wp2_with fail
  refine (slab_out b B m i _ HM.out HI.out).mono ?_
  rintro e w1 ⟨rfl, rfl⟩
  go_wp2_with fail
  go_ret
  exact ⟨rfl, rfl⟩
theorem Chain_kind (b : Nat) (B : Bs) (m : Mp) (k : Nat) (x y : Int) (w : World) (h : MapAt w b B m) (hk : k < m.n) (hkd : (m.pg k).kd ≠ 4) :
    Calls Try.prog 17 #[.pointer (some ⟨b, 0, none⟩), .int .i64 (k : Int), .int .i64 x, .int .i64 y] w fun e w' => e = .returned (.int .i64 1) ∧ w' = w := by
  have HM := hid h
  obtain ⟨g, hg, hr⟩ := h.has_row (by omega)
  have S := hid (slab_in b B m g k w h hg hk)
  rw [if_neg hkd] at S
  clear h hr hg
  go_enter Try.func17, Try.ntmps17
  go_wp2_with fail
  refine S.out.mono ?_
  rintro e w1 ⟨rfl, rfl⟩
  go_wp2_with fail
  go_ret
  exact ⟨rfl, rfl⟩
theorem Chain_next (b : Nat) (B : Bs) (m : Mp) (k : Nat) (x y : Int) (w : World) (h : MapAt w b B m) (hk : k < m.n) (hkd : (m.pg k).kd = 4) (hx : x ≠ -1) (hx2 : inR m.n x = false) :
    Calls Try.prog 17 #[.pointer (some ⟨b, 0, none⟩), .int .i64 (k : Int), .int .i64 x, .int .i64 y] w fun e w' => e = .returned (.int .i64 1) ∧ w' = w := by
  have HM := hid h
  obtain ⟨g, hg, hr⟩ := h.has_row (by omega)
  have S := hid (slab_in b B m g k w h hg hk)
  rw [if_pos hkd] at S
  have HX := hid hx2
  clear h hr hg hx2
  go_enter Try.func17, Try.ntmps17
  go_wp2_with fail
  refine S.out.mono ?_
  rintro e w1 ⟨rfl, rfl⟩
  go_wp2_with fail
  refine (has_any b B m x _ HM.out).mono ?_
  rintro e w1 ⟨rfl, rfl⟩
  rw [HX.out]
  go_wp2_with fail
  go_ret
  exact ⟨rfl, rfl⟩
theorem Chain_rest (b : Nat) (B : Bs) (m : Mp) (k : Nat) (x y : Int) (w : World) (h : MapAt w b B m) (hk : k < m.n) (hkd : (m.pg k).kd = 4) (hx : lnk m.n x = true) (R : Int) (W : World)
    (hR : (lnk m.n y = false ∧ R = 1 ∧ W = w) ∨ (lnk m.n y = true ∧ R = 0 ∧ ∃ g, B.g = some g ∧ W = (w.setCell ⟨g, k * 11 + 4, none⟩ (.int .i64 x)).setCell ⟨g, k * 11 + 5, none⟩ (.int .i64 y))) :
    Calls Try.prog 17 #[.pointer (some ⟨b, 0, none⟩), .int .i64 (k : Int), .int .i64 x, .int .i64 y] w fun e w' => e = .returned (.int .i64 R) ∧ w' = W := by
  have HM := hid h
  obtain ⟨g, hg, hr⟩ := h.has_row (by omega)
  have S := hid (slab_in b B m g k w h hg hk)
  rw [if_pos hkd] at S
  have HX := hid hx
  obtain ⟨d0, d1, d2, d3, d4, d5, d6, d7, d8, d9, d10⟩ := hr.cell k hk
  have z := RowC.froz hr
  have hR2 : (lnk m.n y = false ∧ R = 1 ∧ W = w) ∨ (lnk m.n y = true ∧ R = 0 ∧ W = (w.setCell ⟨g, k * 11 + 4, none⟩ (.int .i64 x)).setCell ⟨g, k * 11 + 5, none⟩ (.int .i64 y)) := by
    rcases hR with h | ⟨h1, h2, g', hg', h3⟩
    · exact .inl h
    · rw [hg] at hg'
      cases hg'
      exact .inr ⟨h1, h2, h3⟩
  have HR := hid hR2
  clear h hr hg hx hR hR2 d0 d1 d2 d3 d6 d7 d8 d9 d10
  by_cases hx1 : x = -1
  all_goals by_cases hy1 : y = -1
  · subst hx1 hy1
    have hR3 := (HR.out.resolve_left (fun h => by simp [lnk] at h)).2
    obtain ⟨rfl, rfl⟩ := hR3
    clear HR
    go_enter Try.func17, Try.ntmps17
    go_wp2_with fail
    refine S.out.mono ?_
    rintro e w1 ⟨rfl, rfl⟩
    go_wp2_with fail
    go_ret
    exact ⟨rfl, rfl⟩
  · subst hx1
    go_enter Try.func17, Try.ntmps17
    go_wp2_with fail
    refine S.out.mono ?_
    rintro e w1 ⟨rfl, rfl⟩
    go_wp2_with fail
    refine (has_any b B m y _ HM.out).mono ?_
    rintro e w2 ⟨rfl, rfl⟩
    rcases HR.out with ⟨h1, rfl, rfl⟩ | ⟨h1, rfl, rfl⟩
    · rw [show inR m.n y = false by simpa [lnk, hy1] using h1]
      clear h1 HR
      go_wp2_with fail
      go_ret
      exact ⟨rfl, rfl⟩
    · rw [show inR m.n y = true by simpa [lnk, hy1] using h1]
      clear h1 HR
      go_wp2_with fail
      go_ret
      exact ⟨rfl, rfl⟩
  · subst hy1
    have hR3 := (HR.out.resolve_left (fun h => by simp [lnk] at h)).2
    obtain ⟨rfl, rfl⟩ := hR3
    have HX2 := hid (show inR m.n x = true by simpa [lnk, hx1] using HX.out)
    clear HR
    go_enter Try.func17, Try.ntmps17
    go_wp2_with fail
    refine S.out.mono ?_
    rintro e w1 ⟨rfl, rfl⟩
    go_wp2_with fail
    refine (has_any b B m x _ HM.out).mono ?_
    rintro e w2 ⟨rfl, rfl⟩
    rw [HX2.out]
    go_wp2_with fail
    go_ret
    exact ⟨rfl, rfl⟩
  · have HX2 := hid (show inR m.n x = true by simpa [lnk, hx1] using HX.out)
    go_enter Try.func17, Try.ntmps17
    go_wp2_with fail
    refine S.out.mono ?_
    rintro e w1 ⟨rfl, rfl⟩
    go_wp2_with fail
    refine (has_any b B m x _ HM.out).mono ?_
    rintro e w2 ⟨rfl, rfl⟩
    rw [HX2.out]
    go_wp2_with fail
    refine (has_any b B m y _ HM.out).mono ?_
    rintro e w2 ⟨rfl, rfl⟩
    rcases HR.out with ⟨h1, rfl, rfl⟩ | ⟨h1, rfl, rfl⟩
    · rw [show inR m.n y = false by simpa [lnk, hy1] using h1]
      clear h1 HR
      go_wp2_with fail
      go_ret
      exact ⟨rfl, rfl⟩
    · rw [show inR m.n y = true by simpa [lnk, hy1] using h1]
      clear h1 HR
      go_wp2_with fail
      go_ret
      exact ⟨rfl, rfl⟩
end Go.Proofs.Ytbhheimedbfmeaa
