import Derived.Test.YtggieolknccabaaRgE
import Derived.Deep.RegionHeld3
/- RegionNews. -/
namespace Go.Proofs.Ytggieolknccabaa
open Go.RowKit
set_option linter.unusedVariables false

theorem mayB_o {b0 : Nat} {l0 o0 : Int} (hm : M.mayB b0 l0 o0 = true) : b0 % 4096 = 0 ∧ ∃ l o : Nat, l0 = (l : Int) ∧ o0 = (o : Int) ∧ l ≤ 64 ∧ o ≤ 8 := by
  obtain ⟨hB, _⟩ := M.mayB_cfg hm
  unfold M.Bounds at hB
  refine ⟨?_, l0.toNat, o0.toNat, by omega, by omega, by omega, by omega⟩
  have h2 := hm
  simp only [M.mayB, Bool.and_eq_true, decide_eq_true_eq] at h2
  have h3 := h2.2.1.2
  unfold M.RS at h3
  exact Nat.mod_eq_zero_of_dvd (Nat.dvd_trans (Nat.dvd_mul_right _ _) (Nat.dvd_of_mod_eq_zero h3))
set_option maxRecDepth 4000 in
set_option maxHeartbeats 2000000 in
theorem news_any (b0 : Nat) (hb64 : b0 < 18446744073709551616) (l0 o0 : Int) (l1 : -9223372036854775808 ≤ l0) (l2 : l0 ≤ 9223372036854775807) (o1 : -9223372036854775808 ≤ o0) (o2 : o0 ≤ 9223372036854775807) (w : World) :
    Calls Try.prog 4 #[cfgV b0 l0 o0] w fun e w' => e = .returned (.bool true) ∧ Kept none' w w' := by
  have K0 := hid ((Kept.refl none' w).alloc (cfgO b0 l0 o0))
  have X0 := hid (heap_new w (cfgO b0 l0 o0))
  have MY := hid (fun W => M.May_any b0 hb64 l0 o0 l1 l2 o1 o2 W)
  cases hm : M.mayB b0 l0 o0 with
  | false =>
    have NB := hid (fun W => New6_bad b0 hb64 l0 o0 l1 l2 o1 o2 hm W)
    rw [hm] at MY
    clear hm
    go_enter Try.func4, Try.ntmps4
    go_wp2_with fail
    refine (awake6 _).mono ?_
    rintro e w1 ⟨rfl, hk1⟩
    have X1 := hid ((hk1.block _ (heap_lt X0.out) (fun e => e)).trans X0.out)
    have K1 := hid (none_trans K0.out hk1)
    clear hk1
    obtain ⟨x0, x1, x2⟩ := cfg3 X1.out
    go_wp2_with fail
    refine (NB.out _).mono ?_
    rintro e w2 ⟨rfl, hk2⟩
    have X2 := hid ((hk2.block _ (heap_lt X1.out) (fun e => e)).trans X1.out)
    have K2 := hid (none_trans K1.out hk2)
    clear hk2 x0 x1 x2
    obtain ⟨x0, x1, x2⟩ := cfg3 X2.out
    go_wp2_with fail
    refine (MY.out _).mono ?_
    rintro e w3 ⟨rfl, hk3⟩
    have K3 := hid (none_trans K2.out (toK hk3))
    clear hk3 x0 x1 x2
    go_wp2_with fail
    go_ret
    exact ⟨rfl, K3.out⟩
  | true =>
    obtain ⟨hb4, lim, o, rfl, rfl, hl, ho⟩ := mayB_o hm
    have NW := hid (fun W => New6_ok b0 hb64 lim o hl ho hm W)
    rw [hm] at MY
    clear hm
    go_enter Try.func4, Try.ntmps4
    go_wp2_with fail
    refine (awake6 _).mono ?_
    rintro e w1 ⟨rfl, hk1⟩
    have X1 := hid ((hk1.block _ (heap_lt X0.out) (fun e => e)).trans X0.out)
    have K1 := hid (none_trans K0.out hk1)
    clear hk1
    obtain ⟨x0, x1, x2⟩ := cfg3 X1.out
    go_wp2_with fail
    refine (NW.out _).mono ?_
    rintro e w2 ⟨lw, x, rfl, hL, e1, e2, e3, e4, e5⟩
    have P2 := hid (New6_po o hL e4 e5 (by rw [e1]; exact hb4))
    have X2 := hid ((hL.kp.block _ (heap_lt X1.out) (fun e => e)).trans X1.out)
    have EQ := hid (And.intro e1 (And.intro e4 e5))
    clear hL e1 e2 e3 e4 e5 x0 x1 x2 NW
    obtain ⟨x0, x1, x2⟩ := cfg3 X2.out
    go_wp2_with fail
    refine (MY.out _).mono ?_
    rintro e w3 ⟨rfl, hk3⟩
    have P3 := hid (P2.out.keep (toK hk3))
    have X3 := hid (((toK hk3).block _ (heap_lt X2.out) (fun e => e)).trans X2.out)
    clear hk3 x0 x1 x2 P2 X2 MY
    have KD := hid ((Kept.refl none' w3).drew)
    have HC := hid (fun W' (k : Kept none' w3 W') => show W'.cell? ⟨w.heap.size, 0, none⟩ = some (.int .u64 (b0 : Int)) ∧ W'.cell? ⟨w.heap.size, 2, none⟩ = some (.int .i64 (o : Int)) from by
      obtain ⟨c0, _, c2⟩ := cfg3 ((k.block _ (heap_lt X3.out) (fun e => e)).trans X3.out)
      exact ⟨c0, c2⟩)
    have NX := hid (show ∀ y, bown x y → y ≠ w.heap.size from fun y hy e => by
      have h1 := P3.out.pl.nw y (.inl hy)
      have := heap_lt X1.out
      omega)
    have hend : x.base + x.n = b0 := by rw [EQ.out.1, EQ.out.2.1, Nat.add_zero]
    obtain ⟨N, hN⟩ : ∃ N, N = o + 1 := ⟨_, rfl⟩
    have hNi : (N : Int) = (o : Int) + 1 := by omega
    have hNb : ((N : Int) == (o : Int) + 1) = true := beq_iff_eq.2 hNi
    have hwo : IntKind.i64.wrap ((o : Int) + 1) = (o : Int) + 1 := by rw [IntKind.wrap_i64]; omega
    have hoo : x.o + 1 = N := by rw [EQ.out.2.2, hN]
    have hn0 : (newM o).n = 0 := rfl
    obtain ⟨d0, d2⟩ := HC.out _ KD.out
    have TR := hid (fun W' (k : Kept none' w3 W') => show Calls Try.prog 9 #[.pointer (some ⟨lw, 0, none⟩)] W' fun e w' => e = .returned (.int .i64 0) ∧ Kept (bown x) W' w' from (Trim_any (P3.out.keep k) 0 (by rw [Nat.zero_mul]; rfl)).mono (by
      rintro e w' ⟨rfl, x', t', _, _, _, hk, _⟩
      exact ⟨rfl, hk⟩))
    have HE := hid (fun W' (k : Kept none' w3 W') => show Calls Try.prog 17 #[.pointer (some ⟨x.s, 0, none⟩)] W' fun e w' => e = .returned (.int .u64 (b0 : Int)) ∧ Kept none' W' w' from (end6 (P3.out.keep k)).mono (by rw [hend]; exact fun e w' h => h))
    have HD := hid (fun W' (k : Kept none' w3 W') => show Calls Try.prog 16 #[.pointer (some ⟨x.b, 0, none⟩)] W' fun e w' => ∃ g, e = .returned (.slice (some ⟨g, 0, none⟩) N N) ∧ Kept none' W' w' from (heads6 (P3.out.keep k)).mono (by
      rw [hoo]
      rintro e w' ⟨g, rfl, _, hk⟩
      exact ⟨g, rfl, hk⟩))
    have HP := hid (fun W' (k : Kept none' w3 W') => show Calls Try.prog 14 #[.pointer (some ⟨x.m, 0, none⟩)] W' fun e w' => e = .returned (.int .i64 0) ∧ w' = W' from pages6 (P3.out.keep k))
    have HR := hid (fun W' (k : Kept none' w3 W') => show Calls Try.prog 12 #[.pointer (some ⟨x.s, 0, none⟩)] W' fun e w' => e = .returned (.int .i64 0) ∧ Kept none' W' w' from regions6 (P3.out.keep k) 0 (by rw [Nat.zero_mul]; rfl))
    clear hend hoo hn0 hN
    go_wp2_with fail
    go_region_held3 (fun w' => w'.cell? ⟨w.heap.size, 0, none⟩ = some (.int .u64 (b0 : Int)) ∧ w'.cell? ⟨w.heap.size, 2, none⟩ = some (.int .i64 (o : Int))) ((refine ⟨?_, ?_⟩ <;> with_reducible assumption)) (first
      | (go_at_call 9; (with_reducible refine (TR.out _ K9.out).mono ?_); rintro e w10 ⟨rfl, hk10⟩; have kk := (P3.out.keep K9.out).k0 hk10; have K10 := hid (none_trans K1.out kk); obtain ⟨a10, _, b10⟩ := cfg3 ((kk.block _ (heap_lt X1.out) (fun e => e)).trans X1.out); clear hk10 kk)
      | (go_at_call 16; (with_reducible refine (HD.out _ K7.out).mono ?_); rintro e w9 ⟨g9, rfl, hk9⟩; have K9 := hid (none_trans K7.out hk9); obtain ⟨a9, b9⟩ := HC.out _ K9.out; clear hk9)
      | (go_at_call 15; (with_reducible refine (Buddy6 (P3.out.keep K7.out).pl).mono ?_); rintro e w8 ⟨rfl, h8⟩; replace h8 := h8.symm; subst h8)
      | (go_at_call 14; (with_reducible refine (HP.out _ K7.out).mono ?_); rintro e w8 ⟨rfl, h8⟩; replace h8 := h8.symm; subst h8)
      | (go_at_call 13; (with_reducible refine (Map6 (P3.out.keep K7.out).pl).mono ?_); rintro e w8 ⟨rfl, h8⟩; replace h8 := h8.symm; subst h8)
      | (go_at_call 17; (with_reducible refine (HE.out _ K5.out).mono ?_); rintro e w7 ⟨rfl, hk7⟩; have K7 := hid (none_trans K5.out hk7); obtain ⟨a7, b7⟩ := HC.out _ K7.out; clear hk7)
      | (go_at_call 11; (with_reducible refine (Space6 (P3.out.keep K5.out).pl).mono ?_); rintro e w6 ⟨rfl, h6⟩; replace h6 := h6.symm; subst h6)
      | (go_at_call 12; (with_reducible refine (HR.out _ KD.out).mono ?_); rintro e w5 ⟨rfl, hk5⟩; have K5 := hid (none_trans KD.out hk5); obtain ⟨a5, b5⟩ := HC.out _ K5.out; clear hk5)
      | (go_at_call 11; (with_reducible refine (Space6 (P3.out.keep KD.out).pl).mono ?_); rintro e w4 ⟨rfl, h4⟩; replace h4 := h4.symm; subst h4)
      | fail)
    all_goals
      go_wp2_with fail
      go_ret
      exact ⟨rfl, K10.out⟩
end Go.Proofs.Ytggieolknccabaa
