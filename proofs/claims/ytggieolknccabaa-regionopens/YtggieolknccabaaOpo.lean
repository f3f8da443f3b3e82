/- Package region: Open of data whose sizes may be. -/
import Derived.Test.YtggieolknccabaaOpn
namespace Go.Proofs.Ytggieolknccabaa
open Go.RowKit
set_option linter.unusedVariables false

theorem space_some6 {w s a base R lim n f} (h : M.SpaceAt w s a base R lim n f) (hn : 0 < n) : ∃ g, a = some g := by
  obtain ⟨cap, hb, hr⟩ := h.ex
  cases a with
  | none => exact absurd hr.1 (by omega)
  | some g => exact ⟨g, rfl⟩
/-- While regions are committed: a new space. -/
def CI (w : World) (s base R lim j : Nat) (W : World) : Prop := ∃ a f, M.SpaceAt W s a base R lim (j * R) f ∧ Kept none' w W ∧ w.heap.size ≤ s ∧ ∀ g, a = some g → w.heap.size ≤ g
theorem CI.own {w W W' : World} {s : Nat} {a : Option Nat} (hk : Kept none' w W) (hs : w.heap.size ≤ s) (ha : ∀ g, a = some g → w.heap.size ≤ g) (k : Kept (M.own s a) W W') : Kept none' w W' :=
  hk.trans k (fun _ _ e => e) (fun y hy e => by
    rcases e with rfl | e
    · omega
    · have := ha y e
      omega)
/-- What Open answers, whatever its pool. -/
def OpP6 (w : World) (er : Int) (e : Ending) (w' : World) : Prop := ∃ v, e = .returned (.tuple #[v, .int .i64 er]) ∧ Kept none' w w'
set_option maxRecDepth 4000 in
set_option maxHeartbeats 4000000 in
theorem Open6_go (base : Nat) (hb64 : base < 18446744073709551616) (lim o : Nat) (hl : lim ≤ 64) (ho : o ≤ 8) (hm : M.mayB base (lim : Int) (o : Int) = true) (r nb np : Nat) (hr : r ≤ lim) (hnp : np = r * 2 ^ o) (hnb : nb = np * 4096) (ba pa qa : Option Addr) (bc pc qc nq : Nat) (gg : Nat → Nat) (g0 cp0 : Nat) (hd : List Nat) (hd64 : ∀ i, hd.getD i 0 < 18446744073709551616) (N : Nat) (hN : N = hd.length) (hN2 : N ≤ 1000) (ok : Bool) (er : Int) (her0 : ok = true → N = o + 1 → er = 0) (her7 : ¬ (ok = true ∧ N = o + 1) → er = 7) (w : World) (hbv : M.Bytes w (.slice ba nb bc) nb gg) (hh : w.heap[g0]? = some (.cells (wcells hd) 23 (0, 0)))
    (hpm : ∀ W, Kept none' w W → Calls Try.prog 30 #[.int .i64 (o : Int), .slice pa np pc, .slice qa nq qc] W fun e w' => ((ok = false ∧ e = .returned (.tuple #[.pointer none, .int .i64 7])) ∨ ∃ b, ok = true ∧ e = .returned (.tuple #[.pointer (some ⟨b, 0, none⟩), .int .i64 0])) ∧ Kept none' W w') :
    Calls Try.prog 18 #[cfgV base (lim : Int) (o : Int), .int .i64 (r : Int), .slice ba nb bc, .slice pa np pc, .slice qa nq qc, .slice (some ⟨g0, 0, none⟩) N cp0] w fun e w' => OpP6 w er e w' := by
  have K3 := hid ((Kept.refl none' w).alloc (cfgO base (lim : Int) (o : Int)))
  have X3 := hid (heap_new w (cfgO base (lim : Int) (o : Int)))
  have NW := hid (fun W => M.New_ok base hb64 (lim : Int) (o : Int) (by omega) (by omega) (by omega) (by omega) hm (fun _ => 0) W)
  have HPM := hid hpm
  have HE0 := hid her0
  have HE7 := hid her7
  clear her0 her7
  have HBV := hid hbv
  have HH := hid hh
  have HN := hid hN
  have H64 := hid hd64
  have hz9 : 2 ^ o ≤ 2 ^ 8 := Nat.pow_le_pow_right (by decide) ho
  have hqb : np ≤ 16384 := by
    rw [hnp]
    exact Nat.le_trans (Nat.mul_le_mul (show r ≤ 64 by omega) hz9) (by decide)
  have hqe : (r : Int) * 2 ^ o = (np : Int) := by rw [hnp]; simp
  have hsh : IntKind.i64.wrap ((r : Int) * 2 ^ o) = (np : Int) := by rw [hqe, IntKind.wrap_i64]; omega
  have hoi : (0 : Int) ≤ (o : Int) := by omega
  have hon : ¬ (o : Int) < 0 := by omega
  have hri : ¬ (lim : Int) < (r : Int) := by omega
  have hnbi : (np : Int) * 4096 = (nb : Int) := by omega
  have hnpi : (np : Int) ≤ 16384 := by omega
  have HNB := hid (And.intro hnp hnb)
  clear hm hpm hbv hh hN hd64 hqe hz9 hqb hnp hnb
  go_enter Try.func18, Try.ntmps18
  obtain ⟨x0, x1, x2⟩ := cfg3 X3.out
  go_wp2_with fail
  generalize w.alloc (cfgO base (lim : Int) (o : Int)) = W3 at *
  refine (NW.out _).mono ?_
  rintro e w4 ⟨s, rfl, hS, hk', hs⟩
  have hk : Kept none' W3 w4 := toK hk'
  have S4 := hid (show CI w s base (M.RS o) lim 0 w4 from ⟨none, fun _ => 0, by simpa using hS, none_trans K3.out hk, Nat.le_trans K3.out.size hs, fun g e => by cases e⟩)
  have X4 := hid ((hk.block _ (heap_lt X3.out) (fun x => x)).trans X3.out)
  have K4 := hid (none_trans K3.out hk)
  clear x0 x1 x2 hk hk' hS hs X3 K3 NW
  obtain ⟨x0, x1, x2⟩ := cfg3 X4.out
  go_wp2_with fail
  clear hsh hri hnbi
  refine (HPM.out _ K4.out).mono ?_
  rintro e w5 ⟨he, hk⟩
  have K5 := hid (none_trans K4.out hk)
  have X5 := hid ((hk.block _ (heap_lt X4.out) (fun x => x)).trans X4.out)
  have S5 := hid (show CI w s base (M.RS o) lim 0 w5 from by
    obtain ⟨a, f, h1, h2, h3, h4⟩ := S4.out
    exact ⟨a, f, h1.keep (ofK hk), none_trans h2 hk, h3, h4⟩)
  clear hk x0 x1 x2 HPM S4 X4
  rcases he with ⟨rfl, rfl⟩ | ⟨m, rfl, rfl⟩
  · as_aux_lemma =>
    go_wp2_with fail
    exact ⟨rfl, .tuple #[.pointer none, .int .i64 7], by simp [results, Try.results18, go_sem], _, by rw [HE7.out (fun e => by cases e.1)], K5.out⟩
  · obtain ⟨x0, x1, x2⟩ := cfg3 X5.out
    by_cases hNo : N = o + 1
    · have OB := hid (show Calls Try.prog 31 #[cfgV base (lim : Int) (o : Int), .pointer (some ⟨s, 0, none⟩), .pointer (some ⟨m, 0, none⟩), .slice (some ⟨g0, 0, none⟩) N cp0] w5 fun e w' => ∃ b, e = .returned (.tuple #[.pointer (some ⟨b, 0, none⟩), .int .i64 0]) ∧ Kept none' w5 w' from by
        have := OpenB_yes base s m o (lim : Int) ho hd (by rw [← HN.out, hNo]) H64.out g0 cp0 w5 ((K5.out.block _ (heap_lt HH.out) (fun e => e)).trans HH.out)
        rw [← hNo] at this
        refine this.mono ?_
        rintro e w' ⟨b, rfl, hO⟩
        obtain ⟨_, _, _, h, _⟩ := hO
        exact ⟨b, rfl, h.kp⟩)
      have HNO := hid hNo
      clear hNo
      go_wp2_with fail
      refine OB.out.mono ?_
      rintro e w6 ⟨b, rfl, hk⟩
      have X6 := hid ((hk.block _ (heap_lt X5.out) (fun x => x)).trans X5.out)
      have S6 := hid (show CI w s base (M.RS o) lim 0 w6 from by
        obtain ⟨a, f, h1, h2, h3, h4⟩ := S5.out
        exact ⟨a, f, h1.keep (ofK hk), none_trans h2 hk, h3, h4⟩)
      clear hk x0 x1 x2 OB S5
      go_wp2_with fail
      go_loopw [74] (fun i W' => ∃ j : Nat, j ≤ r ∧ i = .int .i64 j ∧ Hid (CI w s base (M.RS o) lim j W' ∧ W'.heap[w.heap.size]? = some (cfgO base (lim : Int) (o : Int)))) (fun i _ => r - (intOf i).toNat)
      case atStart => exact ⟨0, Nat.zero_le _, rfl, hid ⟨S6.out, X6.out⟩⟩
      case round =>
        clear S6 X6
        obtain ⟨j, hj, rfl, hI⟩ := hrel
        obtain ⟨⟨a, f, h1, h2, h3, h4⟩, h5⟩ := hI.out
        have A1 := hid h1
        have A2 := hid h2
        have A3 := hid h3
        have A4 := hid h4
        have A5 := hid h5
        clear hI h1 h2 h3 h4 h5
        by_cases hlt : j < r
        · have hji : (j : Int) < (r : Int) := by omega
          have CM := hid (M.Commit_ok s a base (M.RS o) lim (j * M.RS o) f wr A1.out ⟨j, rfl, by omega⟩)
          go_wp2_with fail
          refine CM.out.mono ?_
          rintro e w7 ⟨rfl, g', hS, hk, hg⟩
          have D := hid (show CI w s base (M.RS o) lim (j + 1) w7 ∧ w7.heap[w.heap.size]? = some (cfgO base (lim : Int) (o : Int)) from by
            have hz := A2.out.size
            refine ⟨⟨some g', _, by rw [Nat.add_mul, Nat.one_mul]; exact hS, CI.own A2.out A3.out A4.out (toK hk), A3.out, fun g e => ?_⟩, ?_⟩
            · cases e
              rcases hg with e | e
              · exact A4.out g' e
              · omega
            · refine ((toK hk).block _ (heap_lt A5.out) (fun e => ?_)).trans A5.out
              have hx := heap_lt X5.out
              rcases e with e | e
              · have := A3.out
                obtain ⟨cs, t', z, h1, h2⟩ := space_ty A1.out (x := s) (.inl rfl)
                rw [← e, A5.out] at h1
                cases h1
                rcases h2 with e2 | e2 <;> exact absurd e2 (by decide)
              · obtain ⟨cs, t', z, h1, h2⟩ := space_ty A1.out (.inr e)
                rw [A5.out] at h1
                cases h1
                rcases h2 with e2 | e2 <;> exact absurd e2 (by decide))
          clear hS hk hg CM
          go_wp2_with fail
          exact ⟨⟨j + 1, by omega, by simp, D⟩, by simp [intOf]; omega⟩
        · obtain rfl : j = r := by omega
          have hji : ¬ (j : Int) < (j : Int) := by omega
          obtain ⟨x0, x1, x2⟩ := cfg3 A5.out
          have WR := hid (show Calls Try.prog 33 #[.pointer (some ⟨s, 0, none⟩), .int .u64 (base : Int), .slice ba nb bc] wr fun e w' => e = .returned (.int .i64 0) ∧ Kept none' w w' from by
            have hRS : M.RS o = 4096 * 2 ^ o := rfl
            have hn : nb = j * M.RS o := by
              obtain ⟨e1, e2⟩ := HNB.out
              rw [e2, e1, hRS, Nat.mul_comm 4096, Nat.mul_assoc]
            rcases Nat.eq_zero_or_pos nb with h0 | h0
            · rw [h0]
              refine (M.Write_zero s (base : Int) ba bc wr).mono ?_
              rintro e w' ⟨rfl, hk⟩
              exact ⟨rfl, none_trans A2.out (toK hk)⟩
            · obtain ⟨g, hg⟩ := space_some6 A1.out (by omega)
              have h1 := A1.out
              rw [hg] at h1
              refine (M.Write_in s g base (M.RS o) lim (j * M.RS o) f base nb _ gg wr h1 h0 ⟨Nat.le_refl _, by omega⟩ (HBV.out.kept (ofK A2.out) (fun _ _ e => e))).mono ?_
              rintro e w' ⟨rfl, _, hk⟩
              exact ⟨rfl, CI.own A2.out A3.out (fun g' e => A4.out g' (by rw [hg]; exact e)) (toK hk)⟩)
          go_wp2_with fail
          refine WR.out.mono ?_
          rintro e w8 ⟨rfl, hk⟩
          have K8 := hid (fun o => hk.alloc o)
          clear hk WR x0 x1 x2
          go_wp2_with fail
          exact ⟨rfl, .tuple #[.pointer (some ⟨w8.heap.size, 0, none⟩), .int .i64 0], by simp [results, Try.results18, go_sem], _, by rw [HE0.out (by trivial) HNO.out], K8.out _⟩
    · as_aux_lemma =>
      have OB := hid (OpenB_not base s m o N (lim : Int) ho hNo (by omega) (some ⟨g0, 0, none⟩) cp0 w5)
      have HNO := hid hNo
      clear hNo
      go_wp2_with fail
      refine OB.out.mono ?_
      rintro e w6 ⟨rfl, hk⟩
      have K6 := hid (none_trans K5.out hk)
      clear hk x0 x1 x2
      go_wp2_with fail
      exact ⟨rfl, .tuple #[.pointer none, .int .i64 7], by simp [results, Try.results18, go_sem], _, by rw [HE7.out (fun e => HNO.out e.2)], K6.out⟩
end Go.Proofs.Ytggieolknccabaa
