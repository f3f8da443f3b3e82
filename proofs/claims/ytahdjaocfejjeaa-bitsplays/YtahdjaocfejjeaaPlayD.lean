/- BitsPlays: the law. -/
import Derived.Test.YtahdjaocfejjeaaPlayB
import Derived.Test.YtahdjaocfejjeaaPlayC
import Derived.Test.YtahdjaocfejjeaaSrc
namespace Go.Proofs.Ytahdjaocfejjeaa
open Go.RowKit
set_option linter.unusedVariables false

theorem played_any (B b c g n cap : Nat) (ws : List Nat) (kd i : Int) (hlo : -9223372036854775808 ≤ i) (hhi : i ≤ 9223372036854775807) (v : Bool) (w : World) (hB : B ≤ w.heap.size) (h : Pair B w b c g n ws) :
    Calls Try.prog 42 #[.pointer (some ⟨b, 0, none⟩), .slice (some ⟨g, 0, none⟩) n cap, .agg #[.int .i64 kd, .int .i64 i, .bool v]] w (Played B b w) := by
  by_cases h1 : kd = 1
  · subst h1; exact played_1 B b c g n cap ws i v w hB h
  by_cases h2 : kd = 2
  · subst h2; exact played_2 B b c g n cap ws i v w hB h
  by_cases h3 : kd = 3
  · subst h3; exact played_3 B b c g n cap ws i hhi v w hB h
  by_cases h4 : kd = 4
  · subst h4; exact played_4 B b c g n cap ws i v w hB h
  by_cases h5 : kd = 5
  · subst h5; exact played_5 B b c g n cap ws i v w hB h
  by_cases h6 : kd = 6
  · subst h6; exact played_6 B b c g n cap ws i v w hB h
  by_cases h7 : kd = 7
  · subst h7; exact played_7 B b c g n cap ws i hlo hhi v w hB h
  exact played_0 B b c g n cap ws kd i (beq_eq_false_iff_ne.2 h1) (beq_eq_false_iff_ne.2 h2) (beq_eq_false_iff_ne.2 h3) (beq_eq_false_iff_ne.2 h4) (beq_eq_false_iff_ne.2 h5) (beq_eq_false_iff_ne.2 h6) (beq_eq_false_iff_ne.2 h7) v w hB h

/-- The calls that came in: a slice of structs of three cells. -/
def Ops (w : World) (u : Value) (L : Nat) : Prop :=
  L ≤ maxLen ∧ ∃ ao cap, u = .slice ao L cap ∧ (L = 0 ∨ ∃ b o, ao = some ⟨b, o, none⟩ ∧ b < w.heap.size ∧ ∀ k, k < L → ∃ kd i v, -9223372036854775808 ≤ i ∧ i ≤ 9223372036854775807 ∧ w.cell? ⟨b, o + k * 3, none⟩ = some (.int .i64 kd) ∧ w.cell? ⟨b, o + k * 3 + 1, none⟩ = some (.int .i64 i) ∧ w.cell? ⟨b, o + k * 3 + 2, none⟩ = some (.bool v))

set_option maxHeartbeats 2000000 in
theorem plays_any (v : Value) (zs : List Nat) (hzl : zs.length ≤ 9223372036854775807) (n : Int) (hlo : -9223372036854775808 ≤ n) (hhi : n ≤ 9223372036854775807) (u : Value) (L : Nat) (w : World) (hs : Src w v zs) (hu : Ops w u L) :
    Calls Try.prog 6 #[v, .int .i64 n, u] w fun e w' => e = .returned (.bool true) ∧ Below w.heap.size w w' := by
  have HS := hid hs
  have hN := fit_le n
  obtain ⟨hL, ao, ucap, rfl, hcells⟩ := hu
  unfold maxLen at hL
  have HU := hid hcells
  clear hs hcells
  go_enter Try.func6, Try.ntmps6
  go_wp2_with fail
  refine (awake_any _).mono ?_
  rintro e w1 ⟨rfl, hk1⟩
  have HK1 := hid hk1
  have HS1 := hid (HS.out.kept hk1 (fun _ _ x => x))
  clear hk1
  go_wp2_with fail
  refine (of_any v zs n hlo hhi _ HS1.out).mono ?_
  rintro e w2 ⟨rfl, hA, hk, hsz⟩
  have HA2 := hid hA
  have HS2 := hid (HS1.out.kept hk (fun _ _ x => x))
  have HK2 := hid (HK1.out.trans (U := fun _ => False) hk (fun _ _ x => x) (fun _ _ x => x))
  have HZ2 := hid hsz
  clear hA hk hsz
  go_wp2_with fail
  refine (refOf v zs hzl n _ HS2.out).mono ?_
  rintro e w3 ⟨rfl, hT, hk, hsz⟩
  have fin : Pair w.heap.size w3 (w1.heap.size + 1) w1.heap.size w2.heap.size (fit n) (ofW zs (fit n)) ∧ Below w.heap.size w w3 := by
    have h1 := HK1.out.size
    have h2 := HZ2.out
    rw [tOf_ofW zs (fit n) HS.out.1] at hT
    exact ⟨⟨HA2.out.kept hk (fun x => x) (fun x => x), hT, by omega, by omega, by omega, by omega, by omega⟩, (HK2.out.trans (U := fun _ => False) hk (fun _ _ x => x) (fun _ _ x => x)).below (Nat.le_refl _) (fun x h => h.elim)⟩
  have HP := hid fin.1
  have HB := hid fin.2
  clear fin hT hk hsz HS1 HS2 HK2 HA2 HZ2 HK1 HS
  go_wp2_with fail
  go_loopw [8, 9] (fun t i wr => ∃ k c g N cap : Nat, ∃ ws : List Nat, k ≤ L ∧ N ≤ 1048576 ∧ i = .int .i64 k ∧ t = .slice (some ⟨g, 0, none⟩) N cap ∧ Hid (Pair w.heap.size wr (w1.heap.size + 1) c g N ws) ∧ Hid (Below w.heap.size w wr)) (fun _ i _ => L - (intOf i).toNat)
  case atStart => exact ⟨0, _, _, _, _, _, by omega, hN, rfl, rfl, HP, HB⟩
  case round =>
    obtain ⟨k, c, g, N, cap, ws, hk, hNb, rfl, rfl, hP, hBl⟩ := hrel
    clear HP HB
    by_cases hlt : k < L
    · have hop : ∃ b o kd i v, ao = some ⟨b, o, none⟩ ∧ -9223372036854775808 ≤ i ∧ i ≤ 9223372036854775807 ∧ wr.cell? ⟨b, o + k * 3, none⟩ = some (.int .i64 kd) ∧ wr.cell? ⟨b, o + k * 3 + 1, none⟩ = some (.int .i64 i) ∧ wr.cell? ⟨b, o + k * 3 + 2, none⟩ = some (.bool v) := by
        rcases HU.out with e | ⟨b, o, e, hb, hc⟩
        · omega
        · obtain ⟨kd, i, v, h1, h2, h3, h4, h5⟩ := hc k hlt
          refine ⟨b, o, kd, i, v, e, h1, h2, ?_, ?_, ?_⟩
          · rw [hBl.out.cell (p := ⟨b, o + k * 3, none⟩) hb]; exact h3
          · rw [hBl.out.cell (p := ⟨b, o + k * 3 + 1, none⟩) hb]; exact h4
          · rw [hBl.out.cell (p := ⟨b, o + k * 3 + 2, none⟩) hb]; exact h5
      obtain ⟨ob, oo, kd, oi, ov, rfl, hi1, hi2, x0, x1, x2⟩ := hop
      have hik : (k : Int) < (L : Int) := by omega
      have hcs : Try.prog.cellsOf 59 = 3 := by kernel_rfl
      have hBw := hid (show w.heap.size ≤ wr.heap.size from hBl.out.size)
      go_wp2_with fail
      refine (played_any w.heap.size _ c g N cap ws kd oi hi1 hi2 ov _ hBw.out hP.out).mono ?_
      rintro e w4 ⟨c', g', n', cap', ws', rfl, hP4, hB4⟩
      have hnb : n' ≤ 1048576 := hP4.set.nle
      have HP4 := hid hP4
      have HB4 := hid (hBl.out.trans hB4)
      clear x0 x1 x2 hP4 hB4 hP hBl hBw
      go_wp2
      go_roundw
      case rel => exact ⟨k + 1, c', g', n', cap', ws', by omega, hnb, by go_num, rfl, HP4, HB4⟩
      case measure => simp [intOf]; omega
    · have hsz := size_of ws N hP.out.set.len hP.out.set.lt64 hP.out.set.bit_past
      have hlb : ws.length ≤ 1048576 := by have h1 := hP.out.set.len; have h2 := hP.out.set.nle; omega
      have hdec : decide (ws = ws) = true := decide_eq_true rfl
      have hnl : decide ((k : Int) < (L : Int)) = false := decide_eq_false (by omega)
      go_wp2_with (first | (go_at_call 19; refine (len_any _ _ _ _ _ hP.out.set).mono ?_; rintro e w' ⟨rfl, hw⟩; subst hw) | (go_at_call 23; refine (countS_any _ _ _ _ _ hP.out.set).mono ?_; rintro e w' ⟨rfl, hw⟩; subst hw) | (go_at_call 43; refine (refSizeN g (tOf ws N) N cap (tOf_len _ _) _ hP.out.tru).mono ?_; rintro e w' ⟨rfl, hw⟩; subst hw))
      refine (words_any _ _ _ _ _ hP.out.set).mono ?_
      rintro e w5 ⟨rfl, hg, hk5, hsz5⟩
      have HG1 := hid hg
      have P1 := hid (hP.out.kept hk5)
      have K1 := hid hk5
      clear hg hk5 hsz5
      go_wp2_with fail
      refine (refWords g cap N ws _ P1.out.tru P1.out.set.len P1.out.set.ok P1.out.set.lt64).mono ?_
      rintro e w6 ⟨rfl, hg, hk6, hsz6⟩
      have HG2 := hid hg
      have HH2 := hid (block_kept HG1.out hk6 (fun x => x))
      have K2 := hid (K1.out.trans (U := fun _ => False) hk6 (fun _ _ x => x) (fun _ _ x => x))
      have LT := hid P1.out.set.lt64
      clear hg hk6 hsz6 HG1 P1 K1
      go_wp2_with fail
      refine (same_any _ _ _ _ _ ws ws HH2.out HG2.out hlb hlb LT.out LT.out).mono ?_
      rintro e w7 ⟨rfl, m, rfl⟩
      go_wp2
      go_ret
      exact ⟨rfl, below_drewN (hBl.out.trans (K2.out.below hBl.out.size (fun x h => h.elim))) m⟩
end Go.Proofs.Ytahdjaocfejjeaa
