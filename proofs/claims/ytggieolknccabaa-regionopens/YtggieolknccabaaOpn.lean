/- Package region: Open. -/
import Derived.Test.YtggieolknccabaaRgE
namespace Go.Proofs.Ytggieolknccabaa
open Go.RowKit
set_option linter.unusedVariables false

theorem OpenB_not (base s m o N : Nat) (lim : Int) (ho : o ≤ 8) (hN : N ≠ o + 1) (hN2 : N ≤ 9223372036854775807) (ga : Option Addr) (gc : Nat) (w : World) :
    Calls Try.prog 31 #[cfgV base lim (o : Int), .pointer (some ⟨s, 0, none⟩), .pointer (some ⟨m, 0, none⟩), .slice ga N gc] w fun e w' => e = .returned (.tuple #[.pointer none, .int .i64 7]) ∧ Kept none' w w' := by
  have K0 := hid ((Kept.refl none' w).alloc (cfgO base lim (o : Int)))
  have X0 := hid (heap_new w (cfgO base lim (o : Int)))
  obtain ⟨P, hP⟩ : ∃ P, P = o + 1 := ⟨_, rfl⟩
  have hPi : (o : Int) + 1 = (P : Int) := by omega
  have OR := hid (fun W => orders_any base lim o ho W)
  rw [hPi] at OR
  have hne : ¬ (N : Int) = (P : Int) := by omega
  have hnb : ((N : Int) == (P : Int)) = false := beq_eq_false_iff_ne.2 hne
  clear hPi hP hN
  go_enter Try.func31, Try.ntmps31
  go_wp2_with fail
  generalize w.alloc (cfgO base lim (o : Int)) = W1 at *
  refine (OR.out _).mono ?_
  rintro e w2 ⟨rfl, hk⟩
  have K2 := hid (none_trans K0.out hk)
  have X2 := hid ((hk.block _ (heap_lt X0.out) (fun x => x)).trans X0.out)
  clear hk X0 K0
  obtain ⟨x0, x1, x2⟩ := cfg3 X2.out
  go_wp2_with fail
  exact ⟨rfl, .tuple #[.pointer none, .int .i64 7], by simp [results, Try.results31, go_sem], rfl, K2.out⟩
set_option maxRecDepth 4000 in
theorem Open6_no (base : Nat) (hb64 : base < 18446744073709551616) (lim ord : Int) (hl1 : -9223372036854775808 ≤ lim) (hl2 : lim ≤ 9223372036854775807) (ho1 : -9223372036854775808 ≤ ord) (ho2 : ord ≤ 9223372036854775807) (h : M.mayB base lim ord = false) (rg : Int) (bv pv qv hv : Value) (w : World) :
    Calls Try.prog 18 #[cfgV base lim ord, .int .i64 rg, bv, pv, qv, hv] w fun e w' => e = .returned (.tuple #[.pointer none, .int .i64 1]) ∧ Kept none' w w' := by
  have K0 := hid ((Kept.refl none' w).alloc (cfgO base lim ord))
  have X0 := hid (heap_new w (cfgO base lim ord))
  have NB := hid (fun W => M.New_bad base hb64 lim ord hl1 hl2 ho1 ho2 h W)
  obtain ⟨x0, x1, x2⟩ := cfg3 X0.out
  clear h
  go_enter Try.func18, Try.ntmps18
  go_wp2_with fail
  refine (NB.out _).mono ?_
  rintro e w1 ⟨rfl, hk⟩
  have K1 := hid (none_trans K0.out (toK hk))
  clear hk x0 x1 x2
  go_wp2_with fail
  exact ⟨rfl, .tuple #[.pointer none, .int .i64 1], by simp [results, Try.results18, go_sem], rfl, K1.out⟩
/-- The sizes that may be. -/
def sizesOk (lim o : Nat) (rg : Int) (nb np : Nat) : Prop := 0 ≤ rg ∧ rg ≤ (lim : Int) ∧ (np : Int) = rg * 2 ^ o ∧ nb = np * 4096
set_option maxRecDepth 4000 in
set_option maxHeartbeats 2000000 in
theorem Open6_size (base : Nat) (hb64 : base < 18446744073709551616) (lim o : Nat) (hl : lim ≤ 64) (ho : o ≤ 8) (hm : M.mayB base (lim : Int) (o : Int) = true) (rg : Int) (nb np : Nat) (hnb : nb ≤ 9223372036854775807) (hnp : np ≤ 4096) (hs : ¬ sizesOk lim o rg nb np) (ba pa : Option Addr) (bc pc : Nat) (qv hv : Value) (w : World) :
    Calls Try.prog 18 #[cfgV base (lim : Int) (o : Int), .int .i64 rg, .slice ba nb bc, .slice pa np pc, qv, hv] w fun e w' => e = .returned (.tuple #[.pointer none, .int .i64 7]) ∧ Kept none' w w' := by
  have K3 := hid ((Kept.refl none' w).alloc (cfgO base (lim : Int) (o : Int)))
  have X3 := hid (heap_new w (cfgO base (lim : Int) (o : Int)))
  have NW := hid (fun W => M.New_ok base hb64 (lim : Int) (o : Int) (by omega) (by omega) (by omega) (by omega) hm (fun _ => 0) W)
  have HS := hid hs
  clear hm hs
  go_enter Try.func18, Try.ntmps18
  obtain ⟨x0, x1, x2⟩ := cfg3 X3.out
  go_wp2_with fail
  generalize w.alloc (cfgO base (lim : Int) (o : Int)) = W3 at *
  refine (NW.out _).mono ?_
  rintro e w4 ⟨s, rfl, hS, hk', hs⟩
  have hk : Kept none' W3 w4 := toK hk'
  have X4 := hid ((hk.block _ (heap_lt X3.out) (fun x => x)).trans X3.out)
  have K4 := hid (none_trans K3.out hk)
  clear x0 x1 x2 hk hk' hS hs X3 K3 NW
  obtain ⟨x0, x1, x2⟩ := cfg3 X4.out
  by_cases h1 : rg < 0
  · have d1 : decide (rg < 0) = true := decide_eq_true h1
    go_wp2_with fail
    exact ⟨rfl, .tuple #[.pointer none, .int .i64 7], by simp [results, Try.results18, go_sem], rfl, K4.out⟩
  · have d1 : decide (rg < 0) = false := decide_eq_false h1
    by_cases h2 : (lim : Int) < rg
    · have d2 : decide ((lim : Int) < rg) = true := decide_eq_true h2
      go_wp2_with fail
      exact ⟨rfl, .tuple #[.pointer none, .int .i64 7], by simp [results, Try.results18, go_sem], rfl, K4.out⟩
    · have d2 : decide ((lim : Int) < rg) = false := decide_eq_false h2
      obtain ⟨r, rfl⟩ : ∃ r : Nat, rg = (r : Int) := ⟨rg.toNat, by omega⟩
      obtain ⟨q, hq⟩ : ∃ q : Nat, q = r * 2 ^ o := ⟨_, rfl⟩
      have hz9 : 2 ^ o ≤ 2 ^ 8 := Nat.pow_le_pow_right (by decide) ho
      have hqb : q ≤ 16384 := by
        rw [hq]
        exact Nat.le_trans (Nat.mul_le_mul (show r ≤ 64 by omega) hz9) (by decide)
      have hqe : (r : Int) * 2 ^ o = (q : Int) := by rw [hq]; simp
      have hsh : IntKind.i64.wrap ((r : Int) * 2 ^ o) = (q : Int) := by rw [hqe, IntKind.wrap_i64]; omega
      have hoi : (0 : Int) ≤ (o : Int) := by omega
      have hon : ¬ (o : Int) < 0 := by omega
      have HQ := hid hq
      clear hq hqe hz9
      have d2n : decide (lim < r) = false := decide_eq_false (by omega)
      by_cases h3 : np = q
      · subst h3
        have h4 : ¬ (nb : Int) = (np : Int) * 4096 := fun e => HS.out ⟨by omega, by omega, by rw [HQ.out]; simp, by omega⟩
        have d4 : ((nb : Int) == (np : Int) * 4096) = false := beq_eq_false_iff_ne.2 h4
        have d4n : ((nb : Int) != (np : Int) * 4096) = true := by rw [bne, d4]; rfl
        have hw : IntKind.i64.wrap ((np : Int) * 4096) = (np : Int) * 4096 := by rw [IntKind.wrap_i64]; omega
        have hnpi : (np : Int) ≤ 4096 := by omega
        clear HS
        go_wp2_with fail
        exact ⟨rfl, .tuple #[.pointer none, .int .i64 7], by simp [results, Try.results18, go_sem], rfl, K4.out⟩
      · have d3 : ((np : Int) == (q : Int)) = false := beq_eq_false_iff_ne.2 (by omega)
        clear HS
        go_wp2_with fail
        exact ⟨rfl, .tuple #[.pointer none, .int .i64 7], by simp [results, Try.results18, go_sem], rfl, K4.out⟩
end Go.Proofs.Ytggieolknccabaa
