/- pagemap: the cells of a slab page: slab, hasCell, isLive, turned. -/
import Derived.Test.YtbhheimedbfmeaaPgB
namespace Go.Proofs.Ytbhheimedbfmeaa
open Go.RowKit
set_option linter.unusedVariables false

theorem slab_out (b : Nat) (B : Bs) (m : Mp) (i : Int) (w : World) (h : MapAt w b B m) (hi : inR m.n i = false) :
    Calls Try.prog 35 #[.pointer (some ⟨b, 0, none⟩), .int .i64 i] w fun e w' => e = .returned (.pointer none) ∧ w' = w := by
  have HM := hid h
  have HI := hid hi
  clear h hi
  go_enter Try.func35, Try.ntmps35
  go_wp2_with fail
  refine (has_any b B m i _ HM.out).mono ?_
  rintro e w1 ⟨rfl, rfl⟩
  rw [HI.out]
  go_wp2_with fail
  go_ret
  exact ⟨rfl, rfl⟩
theorem slab_in (b : Nat) (B : Bs) (m : Mp) (g k : Nat) (w : World) (h : MapAt w b B m) (hg : B.g = some g) (hk : k < m.n) :
    Calls Try.prog 35 #[.pointer (some ⟨b, 0, none⟩), .int .i64 (k : Int)] w fun e w' => e = .returned (.pointer (if (m.pg k).kd = 4 then some ⟨g, k * 11, none⟩ else none)) ∧ w' = w := by
  have HM := hid h
  have HI := hid (inR_yes hk)
  have hr := h.row
  rw [hg] at hr
  have hr : Row w g m.n m.pg := hr
  have d0 := (hr.cell k hk).1
  have c1 := h.c1 hg
  have hki : (k : Int) < (m.n : Int) := by omega
  clear h hr hg
  by_cases h4 : (m.pg k).kd = 4
  · rw [if_pos h4]
    rw [h4] at d0
    go_enter Try.func35, Try.ntmps35
    go_wp2_with fail
    refine (has_any b B m k _ HM.out).mono ?_
    rintro e w1 ⟨rfl, rfl⟩
    rw [HI.out]
    go_wp2_with fail
    go_ret
    exact ⟨rfl, rfl⟩
  · rw [if_neg h4]
    go_enter Try.func35, Try.ntmps35
    go_wp2_with fail
    refine (has_any b B m k _ HM.out).mono ?_
    rintro e w1 ⟨rfl, rfl⟩
    rw [HI.out]
    go_wp2_with fail
    go_ret
    exact ⟨rfl, rfl⟩
def ncell (cl : Int) : Nat := 256 / 2 ^ cl.toNat
theorem hasCell_any (g o : Nat) (cl : Int) (h0 : 0 ≤ cl) (h7 : cl ≤ 7) (c : Int) (w : World) (h : w.cell? ⟨g, o + 2, none⟩ = some (.int .i64 cl)) :
    Calls Try.prog 36 #[.pointer (some ⟨g, o, none⟩), .int .i64 c] w fun e w' => e = .returned (.bool (inR (ncell cl) c)) ∧ w' = w := by
  obtain ⟨k, rfl⟩ := Int.eq_ofNat_of_zero_le h0
  have hk : k ≤ 7 := by omega
  have hn : ncell (k : Int) = 256 / 2 ^ k := rfl
  rw [hn]
  by_cases hc : 0 ≤ c
  · have hd : inR (256 / 2 ^ k) c = decide (c < ((256 / 2 ^ k : Nat) : Int)) := by simp [inR, hc]
    rw [hd]
    go_enter Try.func36, Try.ntmps36
    go_wp2_with fail
    go_ret
    exact ⟨by simp, rfl⟩
  · have hd : inR (256 / 2 ^ k) c = false := by simp [inR]; omega
    rw [hd]
    go_enter Try.func36, Try.ntmps36
    go_wp2_with fail
    go_ret
    exact ⟨rfl, rfl⟩
theorem live_eq (x r : Nat) (hx : x < 18446744073709551616) : ((bits BinOp.and IntKind.u64 ((x : Int) / 2 ^ r) 1) == 1) = (x / 2 ^ r % 2 == 1) := by
  have e : ((x : Int) / 2 ^ r) = ((x / 2 ^ r : Nat) : Int) := by simp
  rw [e]
  have hd2 : x / 2 ^ r < 2 ^ 64 := Nat.lt_of_le_of_lt (Nat.div_le_self _ _) hx
  have := u64_and_nat (x / 2 ^ r) 1 (by omega) (by decide)
  rw [nat_mask1] at this
  rw [show (1 : Int) = ((1 : Nat) : Int) from rfl, this, Bool.eq_iff_iff]
  simp only [beq_iff_eq]
  omega
theorem turn_eq (x r : Nat) (hx : x < 18446744073709551616) (hr : r < 64) : bits BinOp.xor IntKind.u64 (x : Int) (2 ^ r) = ((x ^^^ 2 ^ r : Nat) : Int) := by
  have hp : 2 ^ r < 2 ^ 64 := (pow_lt r 64).2 hr
  have := bits_xor_u64_nat x (2 ^ r) hx hp
  rw [← this]; simp
theorem wrap2_pow (r : Nat) (hr : r < 64) : IntKind.u64.wrap (2 ^ r) = 2 ^ r := by
  have hp : 2 ^ r < 2 ^ 64 := (pow_lt r 64).2 hr
  rw [wrap_u64]
  have : ((2 : Int) ^ r) = ((2 ^ r : Nat) : Int) := by simp
  rw [this]
  obtain ⟨p, hp2⟩ : ∃ p, p = 2 ^ r := ⟨_, rfl⟩
  rw [← hp2] at hp ⊢
  omega
theorem turn_lt (x r : Nat) (hx : x < 18446744073709551616) (hr : r < 64) : x ^^^ 2 ^ r < 18446744073709551616 := Nat.xor_lt_two_pow (n := 64) hx ((pow_lt r 64).2 hr)

theorem isLive_0 (b0 b1 b2 b3 : Nat) (hx : b0 < 18446744073709551616) (c : Nat) (hq : c / 64 = 0) (w : World) :
    Calls Try.prog 37 #[.agg #[.int .u64 (b0 : Int), .int .u64 (b1 : Int), .int .u64 (b2 : Int), .int .u64 (b3 : Int)], .int .i64 (c : Int)] w fun e w' => e = .returned (.bool (b0 / 2 ^ (c % 64) % 2 == 1)) ∧ Kept none' w w' := by
  have hqi : (c : Int) / 64 = 0 := by omega
  have E := hid (live_eq b0 (c % 64) hx)
  clear hx
  go_enter Try.func37, Try.ntmps37
  go_wp2_with fail
  go_ret
  exact ⟨ret_bool E.out, (Kept.refl none' w).alloc _⟩
theorem turned_0 (b0 b1 b2 b3 : Nat) (hx : b0 < 18446744073709551616) (c : Nat) (hq : c / 64 = 0) (w : World) :
    Calls Try.prog 38 #[.agg #[.int .u64 (b0 : Int), .int .u64 (b1 : Int), .int .u64 (b2 : Int), .int .u64 (b3 : Int)], .int .i64 (c : Int)] w fun e w' => e = .returned (.agg #[.int .u64 ((b0 ^^^ 2 ^ (c % 64) : Nat) : Int), .int .u64 (b1 : Int), .int .u64 (b2 : Int), .int .u64 (b3 : Int)]) ∧ Kept none' w w' := by
  have hqi : (c : Int) / 64 = 0 := by omega
  have E := turn_eq b0 (c % 64) hx (by omega)
  have hw2 := wrap2_pow (c % 64) (by omega)
  generalize b0 ^^^ 2 ^ (c % 64) = y at *
  clear hx
  go_enter Try.func38, Try.ntmps38
  go_wp2_with fail
  go_region
  all_goals
    go_wp2_with fail
    exact ⟨rfl, _, by simp [results, Try.results38, go_sem], rfl, (((Kept.refl none' w).alloc _).alloc _).drew⟩

theorem isLive_1 (b0 b1 b2 b3 : Nat) (hx : b1 < 18446744073709551616) (c : Nat) (hq : c / 64 = 1) (w : World) :
    Calls Try.prog 37 #[.agg #[.int .u64 (b0 : Int), .int .u64 (b1 : Int), .int .u64 (b2 : Int), .int .u64 (b3 : Int)], .int .i64 (c : Int)] w fun e w' => e = .returned (.bool (b1 / 2 ^ (c % 64) % 2 == 1)) ∧ Kept none' w w' := by
  have hqi : (c : Int) / 64 = 1 := by omega
  have E := hid (live_eq b1 (c % 64) hx)
  clear hx
  go_enter Try.func37, Try.ntmps37
  go_wp2_with fail
  go_ret
  exact ⟨ret_bool E.out, (Kept.refl none' w).alloc _⟩
theorem turned_1 (b0 b1 b2 b3 : Nat) (hx : b1 < 18446744073709551616) (c : Nat) (hq : c / 64 = 1) (w : World) :
    Calls Try.prog 38 #[.agg #[.int .u64 (b0 : Int), .int .u64 (b1 : Int), .int .u64 (b2 : Int), .int .u64 (b3 : Int)], .int .i64 (c : Int)] w fun e w' => e = .returned (.agg #[.int .u64 (b0 : Int), .int .u64 ((b1 ^^^ 2 ^ (c % 64) : Nat) : Int), .int .u64 (b2 : Int), .int .u64 (b3 : Int)]) ∧ Kept none' w w' := by
  have hqi : (c : Int) / 64 = 1 := by omega
  have E := turn_eq b1 (c % 64) hx (by omega)
  have hw2 := wrap2_pow (c % 64) (by omega)
  generalize b1 ^^^ 2 ^ (c % 64) = y at *
  clear hx
  go_enter Try.func38, Try.ntmps38
  go_wp2_with fail
  go_region
  all_goals
    go_wp2_with fail
    exact ⟨rfl, _, by simp [results, Try.results38, go_sem], rfl, (((Kept.refl none' w).alloc _).alloc _).drew⟩

theorem isLive_2 (b0 b1 b2 b3 : Nat) (hx : b2 < 18446744073709551616) (c : Nat) (hq : c / 64 = 2) (w : World) :
    Calls Try.prog 37 #[.agg #[.int .u64 (b0 : Int), .int .u64 (b1 : Int), .int .u64 (b2 : Int), .int .u64 (b3 : Int)], .int .i64 (c : Int)] w fun e w' => e = .returned (.bool (b2 / 2 ^ (c % 64) % 2 == 1)) ∧ Kept none' w w' := by
  have hqi : (c : Int) / 64 = 2 := by omega
  have E := hid (live_eq b2 (c % 64) hx)
  clear hx
  go_enter Try.func37, Try.ntmps37
  go_wp2_with fail
  go_ret
  exact ⟨ret_bool E.out, (Kept.refl none' w).alloc _⟩
theorem turned_2 (b0 b1 b2 b3 : Nat) (hx : b2 < 18446744073709551616) (c : Nat) (hq : c / 64 = 2) (w : World) :
    Calls Try.prog 38 #[.agg #[.int .u64 (b0 : Int), .int .u64 (b1 : Int), .int .u64 (b2 : Int), .int .u64 (b3 : Int)], .int .i64 (c : Int)] w fun e w' => e = .returned (.agg #[.int .u64 (b0 : Int), .int .u64 (b1 : Int), .int .u64 ((b2 ^^^ 2 ^ (c % 64) : Nat) : Int), .int .u64 (b3 : Int)]) ∧ Kept none' w w' := by
  have hqi : (c : Int) / 64 = 2 := by omega
  have E := turn_eq b2 (c % 64) hx (by omega)
  have hw2 := wrap2_pow (c % 64) (by omega)
  generalize b2 ^^^ 2 ^ (c % 64) = y at *
  clear hx
  go_enter Try.func38, Try.ntmps38
  go_wp2_with fail
  go_region
  all_goals
    go_wp2_with fail
    exact ⟨rfl, _, by simp [results, Try.results38, go_sem], rfl, (((Kept.refl none' w).alloc _).alloc _).drew⟩

theorem isLive_3 (b0 b1 b2 b3 : Nat) (hx : b3 < 18446744073709551616) (c : Nat) (hq : c / 64 = 3) (w : World) :
    Calls Try.prog 37 #[.agg #[.int .u64 (b0 : Int), .int .u64 (b1 : Int), .int .u64 (b2 : Int), .int .u64 (b3 : Int)], .int .i64 (c : Int)] w fun e w' => e = .returned (.bool (b3 / 2 ^ (c % 64) % 2 == 1)) ∧ Kept none' w w' := by
  have hqi : (c : Int) / 64 = 3 := by omega
  have E := hid (live_eq b3 (c % 64) hx)
  clear hx
  go_enter Try.func37, Try.ntmps37
  go_wp2_with fail
  go_ret
  exact ⟨ret_bool E.out, (Kept.refl none' w).alloc _⟩
theorem turned_3 (b0 b1 b2 b3 : Nat) (hx : b3 < 18446744073709551616) (c : Nat) (hq : c / 64 = 3) (w : World) :
    Calls Try.prog 38 #[.agg #[.int .u64 (b0 : Int), .int .u64 (b1 : Int), .int .u64 (b2 : Int), .int .u64 (b3 : Int)], .int .i64 (c : Int)] w fun e w' => e = .returned (.agg #[.int .u64 (b0 : Int), .int .u64 (b1 : Int), .int .u64 (b2 : Int), .int .u64 ((b3 ^^^ 2 ^ (c % 64) : Nat) : Int)]) ∧ Kept none' w w' := by
  have hqi : (c : Int) / 64 = 3 := by omega
  have E := turn_eq b3 (c % 64) hx (by omega)
  have hw2 := wrap2_pow (c % 64) (by omega)
  generalize b3 ^^^ 2 ^ (c % 64) = y at *
  clear hx
  go_enter Try.func38, Try.ntmps38
  go_wp2_with fail
  go_region
  all_goals
    go_wp2_with fail
    exact ⟨rfl, _, by simp [results, Try.results38, go_sem], rfl, (((Kept.refl none' w).alloc _).alloc _).drew⟩

/-- The word of a page's bits in which a cell's stands; the bit; the page with it turned. -/
def wP (p : Pg) : Nat → Nat
  | 0 => p.b0
  | 1 => p.b1
  | 2 => p.b2
  | _ => p.b3
def litP (p : Pg) (c : Nat) : Bool := wP p (c / 64) / 2 ^ (c % 64) % 2 == 1
def turnP (p : Pg) (c : Nat) : Pg :=
  match c / 64 with
  | 0 => { p with b0 := p.b0 ^^^ 2 ^ (c % 64) }
  | 1 => { p with b1 := p.b1 ^^^ 2 ^ (c % 64) }
  | 2 => { p with b2 := p.b2 ^^^ 2 ^ (c % 64) }
  | _ => { p with b3 := p.b3 ^^^ 2 ^ (c % 64) }
abbrev bval (p : Pg) : Value := .agg #[.int .u64 (p.b0 : Int), .int .u64 (p.b1 : Int), .int .u64 (p.b2 : Int), .int .u64 (p.b3 : Int)]
theorem lt4 {c : Nat} (hc : c < 256) : c / 64 = 0 ∨ c / 64 = 1 ∨ c / 64 = 2 ∨ c / 64 = 3 := by omega
theorem isLive_any (p : Pg) (ok : PgOk p) (c : Nat) (hc : c < 256) (w : World) :
    Calls Try.prog 37 #[bval p, .int .i64 (c : Int)] w fun e w' => e = .returned (.bool (litP p c)) ∧ Kept none' w w' := by
  rcases lt4 hc with h | h | h | h
  · rw [show litP p c = (p.b0 / 2 ^ (c % 64) % 2 == 1) by simp [litP, h, wP]]
    exact isLive_0 _ _ _ _ ok.b0 c h w
  · rw [show litP p c = (p.b1 / 2 ^ (c % 64) % 2 == 1) by simp [litP, h, wP]]
    exact isLive_1 _ _ _ _ ok.b1 c h w
  · rw [show litP p c = (p.b2 / 2 ^ (c % 64) % 2 == 1) by simp [litP, h, wP]]
    exact isLive_2 _ _ _ _ ok.b2 c h w
  · rw [show litP p c = (p.b3 / 2 ^ (c % 64) % 2 == 1) by simp [litP, h, wP]]
    exact isLive_3 _ _ _ _ ok.b3 c h w
theorem turned_any (p : Pg) (ok : PgOk p) (c : Nat) (hc : c < 256) (w : World) :
    Calls Try.prog 38 #[bval p, .int .i64 (c : Int)] w fun e w' => e = .returned (bval (turnP p c)) ∧ Kept none' w w' := by
  rcases lt4 hc with h | h | h | h
  · rw [show turnP p c = { p with b0 := p.b0 ^^^ 2 ^ (c % 64) } by simp [turnP, h]]
    exact turned_0 _ _ _ _ ok.b0 c h w
  · rw [show turnP p c = { p with b1 := p.b1 ^^^ 2 ^ (c % 64) } by simp [turnP, h]]
    exact turned_1 _ _ _ _ ok.b1 c h w
  · rw [show turnP p c = { p with b2 := p.b2 ^^^ 2 ^ (c % 64) } by simp [turnP, h]]
    exact turned_2 _ _ _ _ ok.b2 c h w
  · rw [show turnP p c = { p with b3 := p.b3 ^^^ 2 ^ (c % 64) } by simp [turnP, h]]
    exact turned_3 _ _ _ _ ok.b3 c h w
theorem PgOk.turn {p : Pg} (ok : PgOk p) (c : Nat) : PgOk (turnP p c) := by
  have hr : c % 64 < 64 := by omega
  unfold turnP
  split
  · exact ⟨ok.o0, ok.o8, ok.c0, ok.c7, turn_lt _ _ ok.b0 hr, ok.b1, ok.b2, ok.b3⟩
  · exact ⟨ok.o0, ok.o8, ok.c0, ok.c7, ok.b0, turn_lt _ _ ok.b1 hr, ok.b2, ok.b3⟩
  · exact ⟨ok.o0, ok.o8, ok.c0, ok.c7, ok.b0, ok.b1, turn_lt _ _ ok.b2 hr, ok.b3⟩
  · exact ⟨ok.o0, ok.o8, ok.c0, ok.c7, ok.b0, ok.b1, ok.b2, turn_lt _ _ ok.b3 hr⟩
/-- What is not its bits is as it was. -/
theorem turn_rest (p : Pg) (c : Nat) : (turnP p c).kd = p.kd ∧ (turnP p c).od = p.od ∧ (turnP p c).cl = p.cl ∧ (turnP p c).lv = p.lv ∧ (turnP p c).nx = p.nx ∧ (turnP p c).pv = p.pv ∧ (turnP p c).fs = p.fs := by
  unfold turnP
  split <;> exact ⟨rfl, rfl, rfl, rfl, rfl, rfl, rfl⟩
end Go.Proofs.Ytbhheimedbfmeaa
