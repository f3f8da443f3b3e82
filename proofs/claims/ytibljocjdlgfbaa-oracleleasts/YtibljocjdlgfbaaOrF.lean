/- (pages).lay: a block is laid onto its pages. -/
import Derived.Test.YtibljocjdlgfbaaOrE
namespace Go.Proofs.Ytibljocjdlgfbaa
open Go.RowKit
set_option linter.unusedVariables false

/-- How many pages a block meets. -/
def npg (s : Nat) : Nat := (s + 4095) / 4096
/-- The cells that a block takes. -/
def uno (o s i : Nat) : Un := (o / 4096 + i, o % 4096 / s, s)
def uns (o s k : Nat) : List Un := (List.range k).map (uno o s)
def units (o s : Nat) : List Un := uns o s (npg s)
theorem uns_succ (o s k : Nat) : uns o s (k + 1) = uns o s k ++ [uno o s k] := by simp [uns, List.range_succ]
/-- Can it be laid beside those that are there? -/
def layOk (U : List Un) (o s : Nat) : Bool := (units o s).all (fun u => okU U u.1 u.2.1 u.2.2)

theorem okU_uns (U : List Un) (o s k : Nat) : okU (U ++ uns o s k) (uno o s k).1 (uno o s k).2.1 (uno o s k).2.2 = okU U (uno o s k).1 (uno o s k).2.1 (uno o s k).2.2 := by
  rw [Bool.eq_iff_iff, okU_iff, okU_iff]
  constructor
  · exact fun h u hu => h u (List.mem_append_left _ hu)
  · intro h u hu e
    rcases List.mem_append.1 hu with hu | hu
    · exact h u hu e
    · obtain ⟨i, hi, rfl⟩ := List.mem_map.1 hu
      rw [List.mem_range] at hi
      simp only [uno] at e
      omega

theorem lay_any {N w m U} (h : PG N w m U) (hN : N ≤ w.heap.size) (o s : Nat) (hs : 16 ≤ s ∧ s ≤ 1048576) (ho : o + s ≤ 4194304) (hjc : o % 4096 / s < celN s) :
    Calls Try.prog 53 #[.map (some m), .int .u64 (o : Int), .int .u64 (s : Int)] w fun e w' =>
      e = .returned (.bool (layOk U o s)) ∧ (layOk U o s = true → PG N w' m (U ++ units o s)) ∧ Kept (fun x => N ≤ x) w w' := by
  obtain ⟨T, hT⟩ : ∃ T, T = npg s := ⟨_, rfl⟩
  have hT1 : s ≤ 4096 * T ∧ 4096 * T < s + 4096 := by rw [hT]; unfold npg; omega
  have I0 := hid (show PG N w m (U ++ uns o s 0) ∧ (∀ i, i < 0 → okU U (uno o s i).1 (uno o s i).2.1 (uno o s i).2.2 = true) ∧ Kept (fun x => N ≤ x) w w from ⟨by simpa [uns] using h, fun i hi => by omega, Kept.refl _ _⟩)
  have HT := hid hT
  clear h hT
  go_enter Try.func53, Try.ntmps53
  go_wp2_with fail
  go_loopw [1] (fun x W => ∃ i : Nat, i ≤ T ∧ x = .int .u64 ((o + 4096 * i : Nat) : Int) ∧ Hid (PG N W m (U ++ uns o s i) ∧ (∀ a, a < i → okU U (uno o s a).1 (uno o s a).2.1 (uno o s a).2.2 = true) ∧ Kept (fun x => N ≤ x) w W)) (fun x _ => 4194304 + 4096 - (intOf x).toNat)
  case atStart => exact ⟨0, Nat.zero_le _, rfl, I0⟩
  case round =>
    clear I0
    obtain ⟨i, hi, rfl, hI⟩ := hrel
    by_cases hlt : i < T
    · obtain ⟨x, hx⟩ : ∃ x, x = o + 4096 * i := ⟨_, rfl⟩
      rw [← hx]
      have hx1 : (x : Int) < (o : Int) + (s : Int) := by omega
      have hx2 : x ≤ 4194304 := by omega
      obtain ⟨n, hn⟩ : ∃ n, n = x / 4096 := ⟨_, rfl⟩
      obtain ⟨f, hf⟩ : ∃ f, f = x % 4096 := ⟨_, rfl⟩
      have hn1 : (x : Int) / 4096 = (n : Int) := by omega
      have hf1 : (x : Int) % 4096 = (f : Int) := by omega
      have hno : n = o / 4096 + i := by omega
      have hfo : f = o % 4096 := by omega
      have TK := hid (take_any hI.out.1 (Nat.le_trans hN hI.out.2.2.size) n f s (f / s) (by omega) hs (by omega) rfl (by rw [hfo]; exact hjc))
      have OKE := hid (show okU (U ++ uns o s i) n (f / s) s = okU U (uno o s i).1 (uno o s i).2.1 (uno o s i).2.2 from by
        rw [hno, hfo]; exact okU_uns U o s i)
      have UE := hid (show (n, f / s, s) = uno o s i by rw [hno, hfo]; rfl)
      have HX := hid hx
      clear hn hf hno hfo hx
      go_wp2_with fail
      refine TK.out.mono ?_
      rintro e w2 ⟨rfl, h1, h2⟩
      rw [OKE.out] at h1 ⊢
      have K2 := hid (hI.out.2.2.trans (U := fun x => N ≤ x) h2 (fun _ _ e => e) (fun _ _ e => e))
      cases hb : okU U (uno o s i).1 (uno o s i).2.1 (uno o s i).2.2 with
      | true =>
        have P2 := hid (show PG N w2 m (U ++ uns o s (i + 1)) ∧ (∀ a, a < i + 1 → okU U (uno o s a).1 (uno o s a).2.1 (uno o s a).2.2 = true) ∧ Kept (fun x => N ≤ x) w w2 from by
          refine ⟨?_, fun a ha => ?_, K2.out⟩
          · have := h1 hb
            rw [UE.out, List.append_assoc, ← uns_succ] at this
            exact this
          · by_cases e : a = i
            · rw [e]; exact hb
            · exact hI.out.2.1 a (by omega))
        clear h1 h2 hb TK OKE
        go_wp2_with fail
        exact ⟨⟨i + 1, by omega, by have := HX.out; simp; omega, P2⟩, by simp [intOf]; omega⟩
      | false =>
        have FIN := hid (show layOk U o s = false from by
          rw [Bool.eq_false_iff]
          intro hk
          have := List.all_eq_true.1 hk (uno o s i) (List.mem_map.2 ⟨i, by rw [List.mem_range, ← HT.out]; exact hlt, rfl⟩)
          rw [hb] at this
          cases this)
        clear h1 h2 hb TK OKE
        go_wp2_with fail
        go_ret
        exact ⟨ret_bool FIN.out.symm, (fun e => by rw [FIN.out] at e; cases e), K2.out⟩
    · obtain ⟨x, hx⟩ : ∃ x, x = o + 4096 * i := ⟨_, rfl⟩
      rw [← hx]
      have hx1 : ¬ (x : Int) < (o : Int) + (s : Int) := by omega
      have hx2 : x ≤ 4194304 + 4096 := by omega
      have hiT : i = npg s := by have := HT.out; omega
      have FIN := hid (show layOk U o s = true ∧ PG N wr m (U ++ units o s) ∧ Kept (fun x => N ≤ x) w wr from by
        refine ⟨List.all_eq_true.2 fun u hu => ?_, by rw [units, ← hiT]; exact hI.out.1, hI.out.2.2⟩
        obtain ⟨a, ha, rfl⟩ := List.mem_map.1 hu
        exact hI.out.2.1 a (by rw [hiT]; exact List.mem_range.1 ha))
      clear hx hI hiT
      go_wp2_with fail
      go_ret
      exact ⟨ret_bool FIN.out.1.symm, fun _ => FIN.out.2.1, FIN.out.2.2⟩
end Go.Proofs.Ytibljocjdlgfbaa
