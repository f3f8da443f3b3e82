/- RegionSame. -/
import Derived.Test.YtggieolknccababRgE
import Derived.Deep.RegionHeld3
import Derived.Deep.QuietTactic
import Derived.BigQuiet
import Derived.Lib.Builder
namespace Go.Proofs.Ytggieolknccabab
open Go.RowKit
set_option linter.unusedVariables false

theorem mayB_o {b0 : Nat} {l0 o0 : Int} (hm : M.mayB b0 l0 o0 = true) : b0 % 4096 = 0 ∧ ∃ l o : Nat, l0 = (l : Int) ∧ o0 = (o : Int) ∧ l ≤ 64 ∧ o ≤ 8 := by
  obtain ⟨hB, _⟩ := M.mayB_cfg hm
  unfold M.Bounds at hB
  refine ⟨?_, l0.toNat, o0.toNat, by omega, by omega, by omega, by omega⟩
  have h2 := hm
  simp only [M.mayB, Bool.and_eq_true, decide_eq_true_eq] at h2
  have h3 := h2.2.1.2
  unfold M.RS at h3
  exact Nat.mod_eq_zero_of_dvd (Nat.dvd_trans (Nat.dvd_mul_right _ _) (Nat.dvd_of_mod_eq_zero h3))
theorem ptr_same (tp te : TypeId) (a : Addr) (hp : Try.prog.underlying tp = some (.pointer te)) (hi : (Try.prog.info? te).isSome = true) (W : World) : (binOp .neq tp (.pointer (some a)) (.pointer (some a))).run Try.prog W = .ok (.bool false) W := by
  obtain ⟨j, hj⟩ := Option.isSome_iff_exists.1 hi
  exact Lib.run_neq_ptr_same W a hp hj
theorem space_same (b : Nat) (W : World) : (binOp .neq 37 (.pointer (some ⟨b, 0, none⟩)) (.pointer (some ⟨b, 0, none⟩))).run Try.prog W = .ok (.bool false) W := ptr_same _ 64 _ Try.underlying37 (by kernel_rfl) W
theorem map_same (b : Nat) (W : World) : (binOp .neq 39 (.pointer (some ⟨b, 0, none⟩)) (.pointer (some ⟨b, 0, none⟩))).run Try.prog W = .ok (.bool false) W := ptr_same _ 77 _ Try.underlying39 (by kernel_rfl) W
theorem buddy_same (b : Nat) (W : World) : (binOp .neq 40 (.pointer (some ⟨b, 0, none⟩)) (.pointer (some ⟨b, 0, none⟩))).run Try.prog W = .ok (.bool false) W := ptr_same _ 72 _ Try.underlying40 (by kernel_rfl) W
set_option maxRecDepth 4000 in
set_option maxHeartbeats 2000000 in
theorem same_any (b0 : Nat) (hb64 : b0 < 18446744073709551616) (l0 o0 : Int) (l1 : -9223372036854775808 ≤ l0) (l2 : l0 ≤ 9223372036854775807) (o1 : -9223372036854775808 ≤ o0) (o2 : o0 ≤ 9223372036854775807) (w : World) :
    Calls Try.prog 4 #[cfgV b0 l0 o0] w fun e w' => e = .returned (.bool true) ∧ Kept none' w w' := by
  have K0 := hid ((Kept.refl none' w).alloc (cfgO b0 l0 o0))
  have X0 := hid (heap_new w (cfgO b0 l0 o0))
  cases hm : M.mayB b0 l0 o0 with
  | false =>
    have NB := hid (fun W => New6_bad b0 hb64 l0 o0 l1 l2 o1 o2 hm W)
    clear hm
    go_enter Try.func4, Try.ntmps4
    go_wp2_with fail
    refine (awake6 _).mono ?_
    rintro e w1 ⟨rfl, hk1⟩
    have X1 := hid ((hk1.block _ (heap_lt X0.out) (fun e => e)).trans X0.out)
    have K1 := hid (none_trans K0.out hk1)
    clear hk1
    obtain ⟨x0, x1, x2⟩ := cfg3 X1.out
    go_wp2_with fail
    refine (NB.out _).mono ?_
    rintro e w2 ⟨rfl, hk2⟩
    have K2 := hid (none_trans K1.out hk2)
    clear hk2 x0 x1 x2
    go_wp2_with fail
    go_ret
    exact ⟨rfl, K2.out⟩
  | true =>
    obtain ⟨hb4, lim, o, rfl, rfl, hl, ho⟩ := mayB_o hm
    have hlim : 1 ≤ lim := by
      obtain ⟨hB, _⟩ := M.mayB_cfg hm
      unfold M.Bounds at hB
      omega
    have NW := hid (fun W => New6_ok b0 hb64 lim o hl ho hm W)
    clear hm
    go_enter Try.func4, Try.ntmps4
    go_wp2_with fail
    refine (awake6 _).mono ?_
    rintro e w1 ⟨rfl, hk1⟩
    have X1 := hid ((hk1.block _ (heap_lt X0.out) (fun e => e)).trans X0.out)
    have K1 := hid (none_trans K0.out hk1)
    clear hk1
    obtain ⟨x0, x1, x2⟩ := cfg3 X1.out
    go_wp2_with fail
    refine (NW.out _).mono ?_
    rintro e w2 ⟨lw, x, rfl, hL, e1, e2, e3, e4, e5⟩
    have P2 := hid (New6_po o hL e4 e5 (by rw [e1]; exact hb4))
    have EQ := hid (And.intro e1 (And.intro e3 (And.intro e4 e5)))
    clear hL e1 e2 e3 e4 e5 x0 x1 x2 NW
    go_wp2_with fail
    refine (Space6 P2.out.pl).mono ?_
    rintro e w3 ⟨rfl, h3⟩
    replace h3 := h3.symm
    subst h3
    go_wp2_with fail
    refine (Map6 P2.out.pl).mono ?_
    rintro e w3 ⟨rfl, h3⟩
    replace h3 := h3.symm
    subst h3
    go_wp2_with fail
    refine (Buddy6 P2.out.pl).mono ?_
    rintro e w3 ⟨rfl, h3⟩
    replace h3 := h3.symm
    subst h3
    have RG := hid (show Calls Try.prog 11 #[.pointer (some ⟨x.s, 0, none⟩)] w2 fun e w' => e = .returned (.int .i64 0) ∧ Kept none' w2 w' from regions6 P2.out 0 (by rw [Nat.zero_mul]; rfl))
    go_wp2_with fail
    refine RG.out.mono ?_
    rintro e w4 ⟨rfl, hk⟩
    have P4 := hid (P2.out.keep hk)
    clear hk RG P2
    have NG := hid (Need_grew P4.out 0 (Nat.zero_le _) (fun a _ _ => rfl) (by
      obtain ⟨_, e3, e4, _⟩ := EQ.out
      rw [e3, e4, Nat.zero_add]
      have h1 : 1 * x.R ≤ lim * x.R := Nat.mul_le_mul_right _ hlim
      omega))
    obtain ⟨q, hq⟩ : ∃ q, q = ad x ((⟨fun _ => 0, newM o, fun _ => 0⟩ : Bt).m.n) := ⟨_, rfl⟩
    rw [← hq] at NG
    go_wp2_with fail
    refine NG.out.mono ?_
    rintro e w5 ⟨rfl, ⟨x5, t5, hP5, hS5, hx5, hn5, _⟩, hk5⟩
    have P5 := hid hP5
    have S5 := hid hS5
    have N5 := hid (show t5.m.n = 2 ^ o from by rw [hn5, EQ.out.2.2.2]; exact Nat.zero_add _)
    have X5 := hid ((hP5.pl.kp.block _ (heap_lt X1.out) (fun e => e)).trans X1.out)
    clear hP5 hS5 hx5 hn5 hk5 NG hq P4
    obtain ⟨Z, hZ⟩ : ∃ Z, Z = 2 ^ o := ⟨_, rfl⟩
    have hz9 : 2 ^ o ≤ 2 ^ 8 := Nat.pow_le_pow_right (by decide) ho
    have hsh : IntKind.i64.wrap (1 * 2 ^ min ((o : Int)).toNat 64) = (Z : Int) := by
      rw [Int.toNat_natCast, Nat.min_eq_left (by omega), Int.one_mul, IntKind.wrap_i64]
      have h2 : (2 : Int) ^ o = (Z : Int) := by rw [hZ]; simp
      rw [h2]
      omega
    have hsh2 : IntKind.i64.wrap (2 ^ min ((o : Int)).toNat 64) = (Z : Int) := by
      rw [Int.one_mul] at hsh
      exact hsh
    have hsh3 : IntKind.i64.wrap (2 ^ min o 64) = (Z : Int) := by
      rw [Int.toNat_natCast] at hsh2
      exact hsh2
    have hsh4 : IntKind.i64.wrap (2 ^ o) = (Z : Int) := by
      rw [Nat.min_eq_left (by omega)] at hsh3
      exact hsh3
    have hoi : (0 : Int) ≤ (o : Int) := by omega
    have hon : ¬ (o : Int) < 0 := by omega
    have SP := hid (fun W' (k : Kept none' w5 W') => show Calls Try.prog 10 #[.pointer (some ⟨lw, 0, none⟩)] W' fun e w' => e = .returned (.pointer (some ⟨x.s, 0, none⟩)) ∧ w' = W' from by
      have := Space6 (P5.out.keep k).pl
      rw [S5.out.s] at this
      exact this)
    have MP := hid (fun W' (k : Kept none' w5 W') => show Calls Try.prog 15 #[.pointer (some ⟨lw, 0, none⟩)] W' fun e w' => e = .returned (.pointer (some ⟨x.m, 0, none⟩)) ∧ w' = W' from by
      have := Map6 (P5.out.keep k).pl
      rw [S5.out.m] at this
      exact this)
    have BD := hid (fun W' (k : Kept none' w5 W') => show Calls Try.prog 12 #[.pointer (some ⟨lw, 0, none⟩)] W' fun e w' => e = .returned (.pointer (some ⟨x.b, 0, none⟩)) ∧ w' = W' from by
      have := Buddy6 (P5.out.keep k).pl
      rw [S5.out.b] at this
      exact this)
    have RG := hid (fun W' (k : Kept none' w5 W') => show Calls Try.prog 11 #[.pointer (some ⟨x.s, 0, none⟩)] W' fun e w' => e = .returned (.int .i64 1) ∧ Kept none' W' w' from by
      have := regions6 (P5.out.keep k) 1 (by rw [N5.out, S5.out.o, EQ.out.2.2.2, Nat.one_mul])
      rw [S5.out.s] at this
      exact this)
    have PGS := hid (fun W' (k : Kept none' w5 W') => show Calls Try.prog 16 #[.pointer (some ⟨x.m, 0, none⟩)] W' fun e w' => e = .returned (.int .i64 (Z : Int)) ∧ w' = W' from by
      have := pages6 (P5.out.keep k)
      rw [S5.out.m, N5.out, ← hZ] at this
      exact this)
    have HC := hid (fun W' (k : Kept none' w5 W') => show W'.cell? ⟨w.heap.size, 2, none⟩ = some (.int .i64 (o : Int)) from by
      obtain ⟨_, _, c2⟩ := cfg3 ((k.block _ (heap_lt X5.out) (fun e => e)).trans X5.out)
      exact c2)
    have KD := hid ((Kept.refl none' w5).drew)
    have d2 := HC.out _ KD.out
    obtain ⟨N, hN⟩ : ∃ N, N = o + 1 := ⟨_, rfl⟩
    obtain ⟨h0, hh0⟩ : ∃ h0, h0 = t5.hd 0 := ⟨_, rfl⟩
    have HDS := hid (fun W' (k : Kept none' w5 W') => show Calls Try.prog 17 #[.pointer (some ⟨x.b, 0, none⟩)] W' fun e w' => ∃ g, e = .returned (.slice (some ⟨g, 0, none⟩) N N) ∧ w'.cell? ⟨g, 0, none⟩ = some (.int .u64 (h0 : Int)) ∧ Kept none' W' w' from by
      have := heads6 (P5.out.keep k)
      rw [S5.out.b, show x5.o + 1 = N by rw [S5.out.o, EQ.out.2.2.2, hN]] at this
      refine this.mono ?_
      rintro e w' ⟨g, rfl, hg, hk⟩
      refine ⟨g, rfl, ?_, hk⟩
      rw [hh0]
      simp [World.cell?, hg, wcells, headsL, List.range_succ_eq_map])
    have hh : (o = 0 → h0 = 0) ∧ (o ≠ 0 → h0 ≠ 0) := by
      have h1 := P5.out.sf.hd (k := 0) (Nat.zero_le _)
      rw [← hh0] at h1
      rw [h1, EQ.out.2.2.2]
      constructor
      · rintro rfl
        rfl
      · intro ho0
        have e : cutF (fun _ => []) ((⟨fun _ => 0, newM o, fun _ => 0⟩ : Bt).m.n) o 0 0 = [0 + 1] := by
          unfold cutF
          rw [if_pos ⟨Nat.le_refl _, by omega⟩]
          rfl
        rw [e]
        show ad x5 (0 + 1) ≠ 0
        unfold ad
        omega
    have hNi : (N : Int) = (o : Int) + 1 := by omega
    have hNb : ((N : Int) == (o : Int) + 1) = true := beq_iff_eq.2 hNi
    have hwo : IntKind.i64.wrap ((o : Int) + 1) = (o : Int) + 1 := by rw [IntKind.wrap_i64]; omega
    have HHH := hid hh
    have KF := hid (none_trans K1.out P5.out.pl.kp)
    have ps := space_same x.s
    have pm := map_same x.m
    have pb := buddy_same x.b
    clear hZ hN hh0 hh hz9 P5 S5 N5 X5
    go_wp2_with fail
    go_region_held3 (fun w' => w'.cell? ⟨w.heap.size, 2, none⟩ = some (.int .i64 (o : Int))) (with_reducible assumption) (first
      | (go_at_call 16; (with_reducible refine (PGS.out _ K6.out).mono ?_); rintro e w8 ⟨rfl, h8⟩; replace h8 := h8.symm; subst h8)
      | (go_at_call 11; (with_reducible refine (RG.out _ KD.out).mono ?_); rintro e w6 ⟨rfl, hk6⟩; have K6 := hid (none_trans KD.out hk6); have a6 := HC.out _ K6.out; clear hk6)
      | (go_at_call 12; (with_reducible refine (BD.out _ KD.out).mono ?_); rintro e w8 ⟨rfl, h8⟩; replace h8 := h8.symm; subst h8)
      | (go_at_call 15; (with_reducible refine (MP.out _ KD.out).mono ?_); rintro e w8 ⟨rfl, h8⟩; replace h8 := h8.symm; subst h8)
      | (go_at_call 10; (with_reducible refine (SP.out _ KD.out).mono ?_); rintro e w8 ⟨rfl, h8⟩; replace h8 := h8.symm; subst h8)
      | fail)
    all_goals
      clear d2 hsh hsh2 hsh3 hsh4 ps pm pb
      go_wp2_with fail
      refine (HDS.out _ K6.out).mono ?_
      rintro e w9 ⟨g, rfl, q0, hk9⟩
      have K9 := hid (none_trans K6.out hk9)
      have c9 := HC.out _ K9.out
      clear hk9 a6
      have D := hid (fun nq => none_trans KF.out (K9.out.drewN nq))
      have hl0 : (0 : Int) < (N : Int) := by omega
      by_cases ho0 : o = 0
      · have hz0 : h0 = 0 := HHH.out.1 ho0
        subst hz0 ho0
        go_wp2_with fail
        go_quiet (fail)
        go_wp2_with fail
        go_ret
        exact ⟨by first | rfl | simp, D.out nq⟩
      · have hb1 : ((o : Int) == 0) = false := beq_eq_false_iff_ne.2 (by omega)
        have hb2 : ((h0 : Int) == 0) = false := beq_eq_false_iff_ne.2 (by have := HHH.out.2 ho0; omega)
        go_wp2_with fail
        go_quiet (fail)
        go_wp2_with fail
        go_ret
        exact ⟨by first | rfl | simp, D.out nq⟩
end Go.Proofs.Ytggieolknccabab
