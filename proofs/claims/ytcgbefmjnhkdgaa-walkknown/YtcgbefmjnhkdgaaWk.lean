import Derived.Test.YtcgbefmjnhkdgaaWj
set_option maxRecDepth 1000000
set_option maxHeartbeats 80000000
/- region.Open, slab.Open, malloc.New, malloc.Open: that they answer. -/
namespace Go.Proofs.Ytcgbefmjnhkdgaa.H
open Go.RowKit
set_option linter.unusedVariables false
set_option maxHeartbeats 4000000
set_option maxRecDepth 4000

/-- While regions are committed. -/
def OC9 (w : World) (s m cb : Nat) (B : Bs) (base lim o : Nat) (mp : Mp) (j : Nat) (W : World) : Prop := ∃ a f, M.SpaceAt W s a base (M.RS o) lim (j * M.RS o) f ∧ MapAt W m B mp ∧ Kept none' w W ∧ w.heap.size ≤ s ∧ (∀ g, a = some g → w.heap.size ≤ g) ∧ W.heap[cb]? = some (cfgO base (lim : Int) (o : Int))
theorem cfg_space {w : World} {s cb : Nat} {a : Option Nat} {base R lim n : Nat} {f : Nat → Nat} {b2 : Nat} {l2 o2 : Int} (k : M.SpaceAt w s a base R lim n f) (h : w.heap[cb]? = some (cfgO b2 l2 o2)) (hy : M.own s a cb) : False := by
  obtain ⟨cs, t', z, h1, h2⟩ := space_ty k hy
  rw [h] at h1
  cases h1
  rcases h2 with e2 | e2 <;> exact absurd e2 (by decide)
theorem regionOpen9 (base lim o : Nat) (hb64 : base < 18446744073709551616) (hl : lim ≤ 64) (ho : o ≤ 8) (hm : M.mayB base (lim : Int) (o : Int) = true) (r nb np : Nat) (hr : r ≤ lim) (hnp : np = r * 2 ^ o) (hnb : nb = np * 4096) (hb0 : 0 < nb) (ba pa qa : Option Addr) (bc pc qc nq : Nat) (gg : Nat → Nat) (g0 cp0 : Nat) (hd : List Nat) (hd64 : ∀ i, hd.getD i 0 < 18446744073709551616) (hN : hd.length = o + 1) (mp : Mp) (hmo : mp.o = o) (w : World) (hbv : M.Bytes w (.slice ba nb bc) nb gg) (hh : w.heap[g0]? = some (.cells (wcells hd) 22 (0, 0)))
    (hpm : ∀ W, Kept none' w W → Calls Try.prog 48 #[.int .i64 (o : Int), .slice pa np pc, .slice qa nq qc] W fun e w' => ∃ b, e = .returned (.tuple #[.pointer (some ⟨b, 0, none⟩), .int .i64 0]) ∧ Hid (∃ B', MapAt w' b B' mp ∧ (∀ x, mown b B' o x → W.heap.size ≤ x) ∧ Kept none' W w')) :
    Calls Try.prog 28 #[cfgV base (lim : Int) (o : Int), .int .i64 (r : Int), .slice ba nb bc, .slice pa np pc, .slice qa nq qc, .slice (some ⟨g0, 0, none⟩) (o + 1) cp0] w fun e w' => ∃ lw s m b a B f, e = .returned (.tuple #[.pointer (some ⟨lw, 0, none⟩), .int .i64 0]) ∧ PoW w' lw s m b a base (M.RS o) lim nb f B mp ∧ Kept none' w w' := by
  have K3 := hid ((Kept.refl none' w).alloc (cfgO base (lim : Int) (o : Int)))
  have X3 := hid (heap_new w (cfgO base (lim : Int) (o : Int)))
  have NW := hid (fun W => M.New_ok base hb64 (lim : Int) (o : Int) (by omega) (by omega) (by omega) (by omega) hm (fun _ => 0) W)
  have HPM := hid hpm
  have HBV := hid hbv
  have HH := hid hh
  have HN := hid hN
  have H64 := hid hd64
  have hz9 : 2 ^ o ≤ 2 ^ 8 := Nat.pow_le_pow_right (by decide) ho
  have hqb : np ≤ 16384 := by
    rw [hnp]
    exact Nat.le_trans (Nat.mul_le_mul (show r ≤ 64 by omega) hz9) (by decide)
  have hqe : (r : Int) * 2 ^ o = (np : Int) := by rw [hnp]; simp
  have hsh : IntKind.i64.wrap ((r : Int) * 2 ^ o) = (np : Int) := by rw [hqe, IntKind.wrap_i64]; omega
  have hoi : (0 : Int) ≤ (o : Int) := by omega
  have hon : ¬ (o : Int) < 0 := by omega
  have hri : ¬ (lim : Int) < (r : Int) := by omega
  have hnbi : (np : Int) * 4096 = (nb : Int) := by omega
  have hnpi : (np : Int) ≤ 16384 := by omega
  have HNB := hid (show nb = r * M.RS o by rw [hnb, hnp, M.RS, Nat.mul_assoc, Nat.mul_comm (2 ^ o) 4096])
  have HB0 := hid hb0
  clear hm hpm hbv hh hN hd64 hqe hz9 hqb hnp hnb hmo hb0
  go_enter Try.func28, Try.ntmps28
  obtain ⟨x0, x1, x2⟩ := cfg3 X3.out
  go_wp2_with fail
  generalize w.alloc (cfgO base (lim : Int) (o : Int)) = W3 at *
  refine (NW.out _).mono ?_
  rintro e w4 ⟨s, rfl, hS, hk', hs⟩
  have hk : Kept none' W3 w4 := toK hk'
  have S4 := hid (show M.SpaceAt w4 s none base (M.RS o) lim 0 (fun _ => 0) from by simpa using hS)
  have HS4 := hid (show w.heap.size ≤ s from Nat.le_trans K3.out.size hs)
  have X4 := hid ((hk.block _ (heap_lt X3.out) (fun x => x)).trans X3.out)
  have K4 := hid (none_trans K3.out hk)
  clear x0 x1 x2 hk hk' hS hs X3 K3 NW
  obtain ⟨x0, x1, x2⟩ := cfg3 X4.out
  go_wp2_with fail
  clear hsh hri hnbi
  refine (HPM.out _ K4.out).mono ?_
  rintro e w5 ⟨m, rfl, hM⟩
  obtain ⟨B, hM1, hM2, hk⟩ := hM.out
  have M5 := hid hM1
  have K5 := hid (none_trans K4.out hk)
  have X5 := hid ((hk.block _ (heap_lt X4.out) (fun x => x)).trans X4.out)
  have S5 := hid (S4.out.keep (ofK hk))
  clear hk x0 x1 x2 HPM S4 X4 hM hM1 hM2
  obtain ⟨x0, x1, x2⟩ := cfg3 X5.out
  have OB := hid (OpenB_yes base s m o (lim : Int) ho hd HN.out H64.out g0 cp0 w5 ((K5.out.block _ (heap_lt HH.out) (fun e => e)).trans HH.out))
  go_wp2_with fail
  refine OB.out.mono ?_
  rintro e w6 ⟨b, rfl, hO⟩
  have k6 : Kept none' w5 w6 := by obtain ⟨_, _, _, h, _⟩ := hO; exact h.kp
  have S6 := hid (show OC9 w s m w.heap.size B base lim o mp 0 w6 from ⟨none, _, by rw [Nat.zero_mul]; exact S5.out.keep (ofK k6), M5.out.kept k6 (fun _ _ x => x), none_trans K5.out k6, HS4.out, (fun g e => by cases e), (k6.block _ (heap_lt X5.out) (fun x => x)).trans X5.out⟩)
  clear x0 x1 x2 OB S5 hO k6 X5 M5 K5
  generalize hcb : w.heap.size = cb at *
  have HCB := hid hcb
  clear hcb
  go_wp2_with fail
  go_loopw [74] (fun i W' => ∃ j : Nat, j ≤ r ∧ i = .int .i64 j ∧ Hid (OC9 w s m cb B base lim o mp j W')) (fun i _ => r - (intOf i).toNat)
  case atStart => exact ⟨0, Nat.zero_le _, rfl, S6⟩
  case round =>
    clear S6
    obtain ⟨j, hj, rfl, hI⟩ := hrel
    obtain ⟨a, f, h1, hmm, h2, h3, h4, h5⟩ := hI.out
    have A1 := hid h1
    have AM := hid hmm
    have A2 := hid h2
    have A3 := hid h3
    have A4 := hid h4
    have A5 := hid h5
    clear hI h1 h2 h3 h4 h5 hmm
    by_cases hlt : j < r
    · have hji : (j : Int) < (r : Int) := by omega
      have CM := hid (M.Commit_ok s a base (M.RS o) lim (j * M.RS o) f wr A1.out ⟨j, rfl, by omega⟩)
      go_wp2_with fail
      refine CM.out.mono ?_
      rintro e w7 ⟨rfl, g', hS, hk, hg⟩
      have D := hid (show OC9 w s m cb B base lim o mp (j + 1) w7 from by
        have hz := A2.out.size
        refine ⟨some g', _, by rw [Nat.add_mul, Nat.one_mul]; exact hS, AM.out.kept (toK hk) (fun x hx hy => map_space AM.out A1.out hx hy), ownY A2.out A3.out A4.out (toK hk), A3.out, fun g e => ?_, ?_⟩
        · cases e
          rcases hg with e | e
          · exact A4.out g' e
          · omega
        · exact ((toK hk).block _ (heap_lt A5.out) (fun e => cfg_space A1.out A5.out e)).trans A5.out)
      clear hS hk hg CM
      go_wp2_with fail
      exact ⟨⟨j + 1, by omega, by simp, D⟩, by simp [intOf]; omega⟩
    · obtain rfl : j = r := by omega
      have hji : ¬ (j : Int) < (j : Int) := by omega
      obtain ⟨x0, x1, x2⟩ := cfg3 A5.out
      have WR := hid (show Calls Try.prog 51 #[.pointer (some ⟨s, 0, none⟩), .int .u64 (base : Int), .slice ba nb bc] wr fun e w' => e = .returned (.int .i64 0) ∧ Kept none' w w' ∧ (∃ f', M.SpaceAt w' s a base (M.RS o) lim nb f') ∧ MapAt w' m B mp from by
        have hnn := HNB.out
        have h0 := HB0.out
        obtain ⟨g, hg⟩ := space_someY A1.out (show 0 < j * M.RS o by omega)
        have h1 : M.SpaceAt wr s a base (M.RS o) lim (j * M.RS o) f := A1.out
        rw [hg] at h1
        refine (M.Write_in s g base (M.RS o) lim (j * M.RS o) f base nb _ gg wr h1 h0 ⟨Nat.le_refl _, by omega⟩ (HBV.out.kept (ofK A2.out) (fun _ _ e => e))).mono ?_
        rintro e w' ⟨rfl, hs', hk⟩
        rw [← hg] at hs' hk
        rw [← hnn] at hs'
        exact ⟨rfl, ownY A2.out A3.out A4.out (toK hk), ⟨_, hs'⟩, AM.out.kept (toK hk) (fun x hx hy => map_space AM.out A1.out hx hy)⟩)
      go_wp2_with fail
      refine WR.out.mono ?_
      rintro e w8 ⟨rfl, hk8, ⟨f', hs8⟩, hm8⟩
      have GOAL := hid (show ∀ W', Kept none' w8 W' → W'.heap[w8.heap.size]? = some (.cells #[.pointer (some ⟨s, 0, none⟩), .pointer (some ⟨m, 0, none⟩), .pointer (some ⟨b, 0, none⟩)] 99 (0, 0)) → ∃ lw s m b a B f, Ending.returned (.tuple #[.pointer (some ⟨w8.heap.size, 0, none⟩), .int .i64 0]) = .returned (.tuple #[.pointer (some ⟨lw, 0, none⟩), .int .i64 0]) ∧ PoW W' lw s m b a base (M.RS o) lim nb f B mp ∧ Kept none' w W' from fun W' hk hx => ⟨_, s, m, b, a, B, f', rfl, ⟨hx, hs8.keep (ofK hk), hm8.kept hk (fun _ _ x => x)⟩, none_trans hk8 hk⟩)
      clear hk8 hs8 hm8 x0 x1 x2 WR
      go_wp2_with fail
      exact ⟨rfl, .tuple #[.pointer (some ⟨w8.heap.size, 0, none⟩), .int .i64 0], by simp [results, Try.results28, go_sem], GOAL.out _ ((Kept.refl none' w8).alloc _) (heap_new _ _)⟩
end Go.Proofs.Ytcgbefmjnhkdgaa.H
