/- RegionBack: region.Open of what a pool tells. -/
import Derived.Test.YtggieolknccabaaGreatRyA
namespace Go.Proofs.YtggieolknccabaaGreat
open Go.RowKit
set_option linter.unusedVariables false

theorem space_someY {w s a base R lim n f} (h : M.SpaceAt w s a base R lim n f) (hn : 0 < n) : ∃ g, a = some g := by
  obtain ⟨cap, hb, hr⟩ := h.ex
  cases a with
  | none => exact absurd hr.1 (by omega)
  | some g => exact ⟨g, rfl⟩
/-- While regions are committed: a buddy over a new space. -/
def OC (w : World) (b s m : Nat) (B : Bs) (l c : Nat) (L : Nat → Nat) (base R lim o : Nat) (mp : Mp) (hd : Nat → Nat) (j : Nat) (W : World) : Prop := ∃ a f, BdAt W ⟨b, s, a, m, B, l, c, L, base, R, lim, j * R, o⟩ ⟨f, mp, hd⟩ ∧ Kept none' w W ∧ w.heap.size ≤ s ∧ (∀ g, a = some g → w.heap.size ≤ g) ∧ W.heap[w.heap.size]? = some (cfgO base (lim : Int) (o : Int))
theorem ownY {w W W' : World} {s : Nat} {a : Option Nat} (hk : Kept none' w W) (hs : w.heap.size ≤ s) (ha : ∀ g, a = some g → w.heap.size ≤ g) (k : Kept (M.own s a) W W') : Kept none' w W' :=
  hk.trans k (fun _ _ e => e) (fun y hy e => by
    rcases e with rfl | e
    · omega
    · have := ha y e
      omega)
/-- What Open answers of sound data. -/
def OpY (w : World) (base lim o r : Nat) (mp : Mp) (gg hd : Nat → Nat) (e : Ending) (w' : World) : Prop := ∃ lw x f, e = .returned (.tuple #[.pointer (some ⟨lw, 0, none⟩), .int .i64 0]) ∧ Pol w w' lw x ⟨f, mp, hd⟩ ∧ x.base = base ∧ x.R = 4096 * 2 ^ o ∧ x.lim = lim ∧ x.n = r * (4096 * 2 ^ o) ∧ x.o = o ∧ ∀ i, i < x.n → f i = gg i
set_option maxRecDepth 4000 in
set_option maxHeartbeats 4000000 in
theorem Open6_yes (base : Nat) (hb64 : base < 18446744073709551616) (lim o : Nat) (hl : lim ≤ 64) (ho : o ≤ 8) (hm : M.mayB base (lim : Int) (o : Int) = true) (r nb np : Nat) (hr : r ≤ lim) (hnp : np = r * 2 ^ o) (hnb : nb = np * 4096) (ba pa qa : Option Addr) (bc pc qc nq : Nat) (gg : Nat → Nat) (g0 cp0 : Nat) (hd : List Nat) (hd64 : ∀ i, hd.getD i 0 < 18446744073709551616) (hN : hd.length = o + 1) (mp : Mp) (hmo : mp.o = o) (w : World) (hbv : M.Bytes w (.slice ba nb bc) nb gg) (hh : w.heap[g0]? = some (.cells (wcells hd) 22 (0, 0)))
    (hpm : ∀ W, Kept none' w W → Calls Tryz.prog 49 #[.int .i64 (o : Int), .slice pa np pc, .slice qa nq qc] W fun e w' => ∃ b, e = .returned (.tuple #[.pointer (some ⟨b, 0, none⟩), .int .i64 0]) ∧ Hid (∃ B', MapAt w' b B' mp ∧ (∀ x, mown b B' o x → W.heap.size ≤ x) ∧ Kept none' W w')) :
    Calls Tryz.prog 26 #[cfgV base (lim : Int) (o : Int), .int .i64 (r : Int), .slice ba nb bc, .slice pa np pc, .slice qa nq qc, .slice (some ⟨g0, 0, none⟩) (o + 1) cp0] w fun e w' => OpY w base lim o r mp gg (fun i => hd.getD i 0) e w' := by
  have K3 := hid ((Kept.refl none' w).alloc (cfgO base (lim : Int) (o : Int)))
  have X3 := hid (heap_new w (cfgO base (lim : Int) (o : Int)))
  have NW := hid (fun W => M.New_ok base hb64 (lim : Int) (o : Int) (by omega) (by omega) (by omega) (by omega) hm (fun _ => 0) W)
  have HPM := hid hpm
  have HBV := hid hbv
  have HH := hid hh
  have HN := hid hN
  have H64 := hid hd64
  have HMO := hid hmo
  have hz9 : 2 ^ o ≤ 2 ^ 8 := Nat.pow_le_pow_right (by decide) ho
  have hqb : np ≤ 16384 := by
    rw [hnp]
    exact Nat.le_trans (Nat.mul_le_mul (show r ≤ 64 by omega) hz9) (by decide)
  have hqe : (r : Int) * 2 ^ o = (np : Int) := by rw [hnp]; simp
  have hsh : IntKind.i64.wrap ((r : Int) * 2 ^ o) = (np : Int) := by rw [hqe, IntKind.wrap_i64]; omega
  have hoi : (0 : Int) ≤ (o : Int) := by omega
  have hon : ¬ (o : Int) < 0 := by omega
  have hri : ¬ (lim : Int) < (r : Int) := by omega
  have hnbi : (np : Int) * 4096 = (nb : Int) := by omega
  have hnpi : (np : Int) ≤ 16384 := by omega
  have HNB := hid (show nb = r * (4096 * 2 ^ o) by rw [hnb, hnp, Nat.mul_assoc, Nat.mul_comm (2 ^ o) 4096])
  clear hm hpm hbv hh hN hd64 hqe hz9 hqb hnp hnb hmo
  go_enter Tryz.func26, Tryz.ntmps26
  obtain ⟨x0, x1, x2⟩ := cfg3 X3.out
  go_wp2_with fail
  generalize w.alloc (cfgO base (lim : Int) (o : Int)) = W3 at *
  refine (NW.out _).mono ?_
  rintro e w4 ⟨s, rfl, hS, hk', hs⟩
  have hk : Kept none' W3 w4 := toK hk'
  have S4 := hid (show M.SpaceAt w4 s none base (M.RS o) lim 0 (fun _ => 0) from by simpa using hS)
  have HS4 := hid (show w.heap.size ≤ s from Nat.le_trans K3.out.size hs)
  have X4 := hid ((hk.block _ (heap_lt X3.out) (fun x => x)).trans X3.out)
  have K4 := hid (none_trans K3.out hk)
  clear x0 x1 x2 hk hk' hS hs X3 K3 NW
  obtain ⟨x0, x1, x2⟩ := cfg3 X4.out
  go_wp2_with fail
  clear hsh hri hnbi
  refine (HPM.out _ K4.out).mono ?_
  rintro e w5 ⟨m, rfl, hM⟩
  obtain ⟨B, hM1, hM2, hk⟩ := hM.out
  have M5 := hid hM1
  have N5' := hid (show ∀ y, mown m B o y → w.heap.size ≤ y from fun y hy => Nat.le_trans K4.out.size (hM2 y hy))
  have K5 := hid (none_trans K4.out hk)
  have X5 := hid ((hk.block _ (heap_lt X4.out) (fun x => x)).trans X4.out)
  have S5 := hid (S4.out.keep (ofK hk))
  clear hk x0 x1 x2 HPM S4 X4 hM hM1 hM2
  obtain ⟨x0, x1, x2⟩ := cfg3 X5.out
  have OB := hid (OpenB_yes base s m o (lim : Int) ho hd HN.out H64.out g0 cp0 w5 ((K5.out.block _ (heap_lt HH.out) (fun e => e)).trans HH.out))
  go_wp2_with fail
  refine OB.out.mono ?_
  rintro e w6 ⟨b, rfl, hO⟩
  have k6 : Kept none' w5 w6 := by obtain ⟨_, _, _, h, _⟩ := hO; exact h.kp
  obtain ⟨l, c, L, hB, h1, h2, h3, h4⟩ := hO.bd rfl (S5.out.keep (ofK k6)) (M5.out.keep k6) HMO.out rfl
  have hz := K5.out.size
  have S6 := hid (show OC w b s m B l c L base (4096 * 2 ^ o) lim o mp (fun i => hd.getD i 0) 0 w6 from ⟨none, _, by rw [Nat.zero_mul]; exact hB, none_trans K5.out k6, HS4.out, (fun g e => by cases e), (k6.block _ (heap_lt X5.out) (fun x => x)).trans X5.out⟩)
  have NEW := hid (show w.heap.size ≤ b ∧ w.heap.size ≤ l ∧ ∀ k, k ≤ o → w.heap.size ≤ L k from ⟨Nat.le_trans hz h1, Nat.le_trans hz h2, fun k hk => Nat.le_trans hz (h3 k hk)⟩)
  clear x0 x1 x2 OB S5 hO k6 hB h1 h2 h3 h4 hz X5 M5 K5
  go_wp2_with fail
  go_loopw [74] (fun i W' => ∃ j : Nat, j ≤ r ∧ i = .int .i64 j ∧ Hid (OC w b s m B l c L base (4096 * 2 ^ o) lim o mp (fun i => hd.getD i 0) j W')) (fun i _ => r - (intOf i).toNat)
  case atStart => exact ⟨0, Nat.zero_le _, rfl, S6⟩
  case round =>
    clear S6
    obtain ⟨j, hj, rfl, hI⟩ := hrel
    obtain ⟨a, f, h1, h2, h3, h4, h5⟩ := hI.out
    have A1 := hid h1
    have A2 := hid h2
    have A3 := hid h3
    have A4 := hid h4
    have A5 := hid h5
    clear hI h1 h2 h3 h4 h5
    by_cases hlt : j < r
    · have hji : (j : Int) < (r : Int) := by omega
      have CM := hid (M.Commit_ok s a base (4096 * 2 ^ o) lim (j * (4096 * 2 ^ o)) f wr A1.out.sp ⟨j, rfl, by omega⟩)
      go_wp2_with fail
      refine CM.out.mono ?_
      rintro e w7 ⟨rfl, g', hS, hk, hg⟩
      have D := hid (show OC w b s m B l c L base (4096 * 2 ^ o) lim o mp (fun i => hd.getD i 0) (j + 1) w7 from by
        have hz := A2.out.size
        have hB := A1.out.space (toK hk) (a' := some g') (n' := j * (4096 * 2 ^ o) + 4096 * 2 ^ o) hS
        refine ⟨some g', _, by rw [Nat.add_mul, Nat.one_mul]; exact hB, ownY A2.out A3.out A4.out (toK hk), A3.out, fun g e => ?_, ?_⟩
        · cases e
          rcases hg with e | e
          · exact A4.out g' e
          · omega
        · refine ((toK hk).block _ (heap_lt A5.out) (fun e => ?_)).trans A5.out
          obtain ⟨cs, t', z, h1, h2⟩ := space_ty A1.out.sp e
          rw [A5.out] at h1
          cases h1
          rcases h2 with e2 | e2 <;> exact absurd e2 (by decide))
      clear hS hk hg CM
      go_wp2_with fail
      exact ⟨⟨j + 1, by omega, by simp, D⟩, by simp [intOf]; omega⟩
    · obtain rfl : j = r := by omega
      have hji : ¬ (j : Int) < (j : Int) := by omega
      obtain ⟨x0, x1, x2⟩ := cfg3 A5.out
      have WR := hid (show Calls Tryz.prog 20 #[.pointer (some ⟨s, 0, none⟩), .int .u64 (base : Int), .slice ba nb bc] wr fun e w' => e = .returned (.int .i64 0) ∧ Kept none' w w' ∧ ∃ f', BdAt w' ⟨b, s, a, m, B, l, c, L, base, 4096 * 2 ^ o, lim, j * (4096 * 2 ^ o), o⟩ ⟨f', mp, fun i => hd.getD i 0⟩ ∧ ∀ i, i < nb → f' i = gg i from by
        rcases Nat.eq_zero_or_pos nb with h0 | h0
        · rw [h0]
          refine (M.Write_zero s (base : Int) ba bc wr).mono ?_
          rintro e w' ⟨rfl, hk⟩
          exact ⟨rfl, none_trans A2.out (toK hk), f, A1.out.keep (toK hk), fun i hi => by omega⟩
        · have hnn := HNB.out
          obtain ⟨g, hg⟩ := space_someY A1.out.sp (show 0 < j * (4096 * 2 ^ o) by omega)
          have h1 : M.SpaceAt wr s a base (4096 * 2 ^ o) lim (j * (4096 * 2 ^ o)) f := A1.out.sp
          have hg : a = some g := hg
          rw [hg] at h1
          refine (M.Write_in s g base (4096 * 2 ^ o) lim (j * (4096 * 2 ^ o)) f base nb _ gg wr h1 h0 ⟨Nat.le_refl _, by omega⟩ (HBV.out.kept (ofK A2.out) (fun _ _ e => e))).mono ?_
          rintro e w' ⟨rfl, hs', hk⟩
          rw [← hg] at hs' hk
          refine ⟨rfl, ownY A2.out A3.out A4.out (toK hk), _, A1.out.space (toK hk) hs', fun i hi => ?_⟩
          unfold M.upd
          rw [if_pos (by omega)]
          congr 1
          omega)
      go_wp2_with fail
      refine WR.out.mono ?_
      rintro e w8 ⟨rfl, hk, f', hB, hff⟩
      have D := hid (show ∃ x : Bx, Pol w (w8.alloc (plO x)) w8.heap.size x ⟨f', mp, fun i => hd.getD i 0⟩ ∧ x.base = base ∧ x.R = 4096 * 2 ^ o ∧ x.lim = lim ∧ x.n = j * (4096 * 2 ^ o) ∧ x.o = o ∧ x.s = s ∧ x.m = m ∧ x.b = b from by
        refine ⟨_, ⟨heap_new _ _, hB.keep ((Kept.refl none' w8).alloc _), ?_, hk.alloc _⟩, rfl, rfl, rfl, rfl, rfl, rfl, rfl, rfl⟩
        rintro y (hy | rfl | rfl | rfl)
        · rcases hy with hy | hy | ⟨k, hk, rfl⟩
          · rcases hy with rfl | hy
            · exact A3.out
            · exact A4.out y hy
          · exact N5'.out y hy
          · exact NEW.out.2.2 k hk
        · exact NEW.out.1
        · exact NEW.out.2.1
        · exact hk.size)
      have HFF := hid hff
      clear hk WR x0 x1 x2 hB hff
      go_wp2_with fail
      obtain ⟨x, hL, e1, e2, e3, e4, e5, e6, e7, e8⟩ := D.out
      refine ⟨rfl, .tuple #[.pointer (some ⟨w8.heap.size, 0, none⟩), .int .i64 0], by simp [results, Tryz.results26, go_sem], _, x, f', rfl, ?_, e1, e2, e3, e4, e5, fun i hi => HFF.out i (by rw [HNB.out, ← e4]; exact hi)⟩
      rw [plO, e6, e7, e8] at hL
      exact hL
end Go.Proofs.YtggieolknccabaaGreat
