/- pagemap: First, Head. -/
import Derived.Test.YtbhheimedbfmeaaPgE
namespace Go.Proofs.Ytbhheimedbfmeaa
open Go.RowKit
set_option linter.unusedVariables false

theorem shl_back (k o : Nat) (ho : o ≤ 8) (hk : k < 1024) : wrap64 ((k : Int) / 2 ^ o * 2 ^ o) = ((k / 2 ^ o * 2 ^ o : Nat) : Int) := by
  have h1 : k / 2 ^ o * 2 ^ o ≤ k := Nat.div_mul_le_self _ _
  have h2 : ((k : Int) / 2 ^ o * 2 ^ o) = ((k / 2 ^ o * 2 ^ o : Nat) : Int) := by simp
  rw [h2]
  generalize k / 2 ^ o * 2 ^ o = z at *
  unfold wrap64
  omega
def headV (m : Mp) (i : Int) : Int := if inR m.n i = true then ((i.toNat / 2 ^ (m.pg i.toNat).od.toNat * 2 ^ (m.pg i.toNat).od.toNat : Nat) : Int) else -1
theorem Head_out (b : Nat) (B : Bs) (m : Mp) (i : Int) (w : World) (h : MapAt w b B m) (hi : inR m.n i = false) :
    Calls Try.prog 14 #[.pointer (some ⟨b, 0, none⟩), .int .i64 i] w fun e w' => e = .returned (.int .i64 (-1)) ∧ w' = w := by
  have HM := hid h
  have HI := hid hi
  clear h hi
  go_enter Try.func14, Try.ntmps14
  go_wp2_with fail
  refine (has_any b B m i _ HM.out).mono ?_
  rintro e w1 ⟨rfl, rfl⟩
  rw [HI.out]
  go_wp2_with fail
  go_ret
  exact ⟨rfl, rfl⟩
theorem Head_in (b : Nat) (B : Bs) (m : Mp) (k o : Nat) (w : World) (h : MapAt w b B m) (hk : k < m.n) (ho : (m.pg k).od = o) :
    Calls Try.prog 14 #[.pointer (some ⟨b, 0, none⟩), .int .i64 (k : Int)] w fun e w' => e = .returned (.int .i64 ((k / 2 ^ o * 2 ^ o : Nat) : Int)) ∧ w' = w := by
  have HM := hid h
  have HI := hid (inR_yes hk)
  have ho8 : o ≤ 8 := by have := (h.ok k hk).o8; omega
  have hkn : k < 1024 := by have := h.n1; omega
  obtain ⟨g, hg, hr⟩ := h.has_row (by omega)
  have d1 := (hr.cell k hk).2.1
  rw [ho] at d1
  have c1 := h.c1 hg
  have hki : (k : Int) < (m.n : Int) := by omega
  have HE := hid (shl_back k o ho8 hkn)
  clear h hr hg
  go_enter Try.func14, Try.ntmps14
  go_wp2_with fail
  refine (has_any b B m k _ HM.out).mono ?_
  rintro e w1 ⟨rfl, rfl⟩
  rw [HI.out]
  go_wp2_with fail
  go_ret
  exact ⟨ret_int HE.out, rfl⟩
theorem Row.f6 {w g n pg} (h : Row w g n pg) (i : Nat) (hi : i < n) (x : Int) : Row (w.setCell ⟨g, i * 11 + 6, none⟩ (.int .i64 x)) g n (upp pg i { pg i with fs := x }) := by
  have := RowC.set h i 6 hi (by decide) (.int .i64 x)
  refine RowC.congr this (fun a ha b hb => fld_up a b hb (fun j hj => ?_) (fun e => ?_))
  · revert j
    apply lt11 <;> simp [upc, Pg.fld]
  · simp [upc, e]
theorem First_out (b : Nat) (B : Bs) (m : Mp) (i c : Int) (w : World) (h : MapAt w b B m) (hi : inR m.n i = false) :
    Calls Try.prog 18 #[.pointer (some ⟨b, 0, none⟩), .int .i64 i, .int .i64 c] w fun e w' => e = .returned (.int .i64 1) ∧ w' = w := by
  have HM := hid h
  have HI := hid hi
  clear h hi
  go_enter Try.func18, Try.ntmps18
  go_wp2_with fail
  refine (slab_out b B m i _ HM.out HI.out).mono ?_
  rintro e w1 ⟨rfl, rfl⟩
  go_wp2_with fail
  go_ret
  exact ⟨rfl, rfl⟩
theorem First_kind (b : Nat) (B : Bs) (m : Mp) (k : Nat) (c : Int) (w : World) (h : MapAt w b B m) (hk : k < m.n) (hkd : (m.pg k).kd ≠ 4) :
    Calls Try.prog 18 #[.pointer (some ⟨b, 0, none⟩), .int .i64 (k : Int), .int .i64 c] w fun e w' => e = .returned (.int .i64 1) ∧ w' = w := by
  have HM := hid h
  obtain ⟨g, hg, hr⟩ := h.has_row (by omega)
  have S := hid (slab_in b B m g k w h hg hk)
  rw [if_neg hkd] at S
  clear h hr hg
  go_enter Try.func18, Try.ntmps18
  go_wp2_with fail
  refine S.out.mono ?_
  rintro e w1 ⟨rfl, rfl⟩
  go_wp2_with fail
  go_ret
  exact ⟨rfl, rfl⟩
theorem First_cell (b : Nat) (B : Bs) (m : Mp) (k : Nat) (c : Int) (w : World) (h : MapAt w b B m) (hk : k < m.n) (hkd : (m.pg k).kd = 4) (hm1 : c ≠ -1) (hc : inR (ncell (m.pg k).cl) c = false) :
    Calls Try.prog 18 #[.pointer (some ⟨b, 0, none⟩), .int .i64 (k : Int), .int .i64 c] w fun e w' => e = .returned (.int .i64 1) ∧ w' = w := by
  have HM := hid h
  obtain ⟨g, hg, hr⟩ := h.has_row (by omega)
  have S := hid (slab_in b B m g k w h hg hk)
  rw [if_pos hkd] at S
  obtain ⟨d0, d1, d2, d3, d4, d5, d6, d7, d8, d9, d10⟩ := hr.cell k hk
  have HC := hid (hasCell_any g (k * 11) (m.pg k).cl (h.ok k hk).c0 (h.ok k hk).c7 c w d2)
  rw [hc] at HC
  clear h hr hg
  go_enter Try.func18, Try.ntmps18
  go_wp2_with fail
  refine S.out.mono ?_
  rintro e w1 ⟨rfl, rfl⟩
  go_wp2_with fail
  refine HC.out.mono ?_
  rintro e w1 ⟨rfl, rfl⟩
  go_wp2_with fail
  go_ret
  exact ⟨rfl, rfl⟩
theorem First_ok (b : Nat) (B : Bs) (m : Mp) (k : Nat) (c : Int) (w : World) (h : MapAt w b B m) (hk : k < m.n) (hkd : (m.pg k).kd = 4) (hc : c = -1 ∨ inR (ncell (m.pg k).cl) c = true) :
    Calls Try.prog 18 #[.pointer (some ⟨b, 0, none⟩), .int .i64 (k : Int), .int .i64 c] w fun e w' => e = .returned (.int .i64 0) ∧ MapAt w' b B { m with pg := upp m.pg k { m.pg k with fs := c } } ∧ Kept (mown b B m.o) w w' := by
  have HM := hid h
  obtain ⟨g, hg, hr⟩ := h.has_row (by omega)
  have S := hid (slab_in b B m g k w h hg hk)
  rw [if_pos hkd] at S
  obtain ⟨d0, d1, d2, d3, d4, d5, d6, d7, d8, d9, d10⟩ := hr.cell k hk
  have HC := hid (hasCell_any g (k * 11) (m.pg k).cl (h.ok k hk).c0 (h.ok k hk).c7 c w d2)
  have z := RowC.froz hr
  have FIN := hid (show MapAt (w.setCell ⟨g, k * 11 + 6, none⟩ (.int .i64 c)) b B { m with pg := upp m.pg k { m.pg k with fs := c } } ∧ Kept (mown b B m.o) w (w.setCell ⟨g, k * 11 + 6, none⟩ (.int .i64 c)) from
    ⟨h.pages hg ((Kept.refl (fun x => x = g) w).setCell (p := ⟨g, _, none⟩) rfl _) (hr.f6 k hk c) (fun i hi => by
      unfold upp
      split
      · exact ⟨(h.ok k hk).o0, (h.ok k hk).o8, (h.ok k hk).c0, (h.ok k hk).c7, (h.ok k hk).b0, (h.ok k hk).b1, (h.ok k hk).b2, (h.ok k hk).b3⟩
      · exact h.ok i hi), (Kept.refl (mown b B m.o) w).setCell (p := ⟨g, _, none⟩) (.inr (.inl hg)) _⟩)
  clear h hr hg
  by_cases h1 : c = -1
  · subst h1
    clear hc
    go_enter Try.func18, Try.ntmps18
    go_wp2_with fail
    refine S.out.mono ?_
    rintro e w1 ⟨rfl, rfl⟩
    go_wp2_with fail
    go_ret
    exact ⟨rfl, FIN.out⟩
  · rw [hc.resolve_left h1] at HC
    clear hc
    go_enter Try.func18, Try.ntmps18
    go_wp2_with fail
    refine S.out.mono ?_
    rintro e w1 ⟨rfl, rfl⟩
    go_wp2_with fail
    refine HC.out.mono ?_
    rintro e w1 ⟨rfl, rfl⟩
    go_wp2_with fail
    go_ret
    exact ⟨rfl, FIN.out⟩
end Go.Proofs.Ytbhheimedbfmeaa
