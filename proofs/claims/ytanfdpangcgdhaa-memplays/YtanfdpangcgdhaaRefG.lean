/- croftref2.Decommit. -/
import Derived.Test.YtanfdpangcgdhaaRefE
namespace Go.Proofs.Ytanfdpangcgdhaa
open Go.RowKit
set_option linter.unusedVariables false

theorem RDecommit_bad (base R lim n cap : Nat) (ao : Option Addr) (hR : 4096 ≤ R) (hR2 : R ≤ 1048576) (hn : n ≤ 4194304) (c : Int) (hlo : -9223372036854775808 ≤ c) (hhi : c ≤ 9223372036854775807) (hc : c < 0 ∨ ((n / R : Nat) : Int) < c) (w : World) :
    Calls Try.prog 43 #[.agg #[.int .u64 (base : Int), .int .u64 (R : Int), .int .i64 (lim : Int), .slice ao n cap], .int .i64 c] w fun e w' => e = .returned (.tuple #[.agg #[.int .u64 (base : Int), .int .u64 (R : Int), .int .i64 (lim : Int), .slice ao n cap], .int .i64 1]) ∧ Kept none' w w' := by
  have HT := hid (Two.new w (.int .u64 (base : Int)) (.int .u64 (R : Int)) (.int .i64 (lim : Int)) (.slice ao n cap))
  by_cases h0 : c < 0
  · clear hc
    go_enter Try.func43, Try.ntmps43
    go_wp2_with fail
    exact ⟨rfl, _, by simp [results, Try.results43, go_sem], rfl, ((Kept.refl _ w).alloc _).alloc _⟩
  · have HRG := hid (RRegions_any base R lim n cap ao hR hR2 hn)
    have h1 := hc.resolve_left h0
    obtain ⟨q, hq⟩ : ∃ q, q = n / R := ⟨_, rfl⟩
    rw [← hq] at HRG h1
    clear hq hc
    go_enter Try.func43, Try.ntmps43
    go_wp2_with fail
    refine (HRG.out _).mono ?_
    rintro e w2 ⟨rfl, hK2⟩
    have hT2 := HT.out.keep hK2
    obtain ⟨d0, d1, d2, d3, d4⟩ := hT2.cells
    obtain ⟨e0, e1, e2, e3, f0, f1, f2, f3⟩ := hT2.cellsB
    have HT2 := hid hT2
    clear hT2 hK2
    go_wp2
    exact ⟨rfl, _, by simp [results, Try.results43, go_sem, e0, e1, e2, e3], rfl, HT2.out.k.set4 (w.heap.size + 1) (by omega) _ _ _ _⟩

set_option maxHeartbeats 1000000 in
theorem RDecommit_ok (base R lim n cap : Nat) (mo : Option Nat) (f : Nat → Nat) (hR : 4096 ≤ R) (hR2 : R ≤ 1048576) (hn : n ≤ 4194304) (c : Nat) (hc : c ≤ n / R) (w : World) (H : RefAt w mo n cap f) :
    Calls Try.prog 43 #[.agg #[.int .u64 (base : Int), .int .u64 (R : Int), .int .i64 (lim : Int), .slice (adr mo) n cap], .int .i64 (c : Int)] w fun e w' => ∃ h', e = .returned (.tuple #[.agg #[.int .u64 (base : Int), .int .u64 (R : Int), .int .i64 (lim : Int), .slice (some ⟨h', 0, none⟩) (n - c * R) (n - c * R)], .int .i64 0]) ∧ MemAt w' h' (n - c * R) (n - c * R) f ∧ Kept none' w w' ∧ w.heap.size ≤ h' := by
  obtain ⟨d, hd⟩ : ∃ d, d = c * R := ⟨_, rfl⟩
  have hdn : d ≤ n := by rw [hd]; exact Nat.le_trans (Nat.mul_le_mul_right _ hc) (Nat.div_mul_le_self n R)
  have hmul : (c : Int) * (R : Int) = (d : Int) := by rw [hd]; simp
  obtain ⟨s, hs⟩ : ∃ s, s = n - d := ⟨_, rfl⟩
  have hsub : (n : Int) - (d : Int) = (s : Int) := by omega
  have hsn : s ≤ n := by omega
  rw [← hd, ← hs]
  have HRG := hid (RRegions_any base R lim n cap (adr mo) hR hR2 hn)
  obtain ⟨q, hq⟩ : ∃ q, q = n / R := ⟨_, rfl⟩
  have hql : q ≤ 4194304 := by rw [hq]; exact Nat.le_trans (Nat.div_le_self _ _) hn
  rw [← hq] at HRG hc
  have hci : (c : Int) ≤ (q : Int) := by omega
  have hsc : s ≤ cap := by
    cases mo with
    | none => obtain ⟨rfl, rfl⟩ := H; omega
    | some h => have := MemAt.le H; omega
  have HB := hid (show Bytes w (.slice (adr mo) s cap) s f from by
    cases mo with
    | none =>
      obtain ⟨rfl, rfl⟩ := H
      obtain rfl : s = 0 := by omega
      exact ⟨fun i hi => by omega, none, 0, rfl, Or.inl rfl⟩
    | some h => exact (MemAt.less H s hsn).bytes)
  have hc0 : n = 0 → c = 0 := by
    intro e
    have : n / R = 0 := by rw [e, Nat.zero_div]
    omega
  have hcases : (mo = none ∧ n = 0 ∧ cap = 0) ∨ ∃ h, mo = some h := by
    cases mo with
    | none => exact Or.inl ⟨rfl, H.1, H.2⟩
    | some h => exact Or.inr ⟨h, rfl⟩
  clear hd hs hq H hdn
  rcases hcases with ⟨rfl, rfl, rfl⟩ | ⟨h, rfl⟩
  · have e1 : adr none = none := rfl
    rw [e1] at HB HRG ⊢
    have ec := hc0 rfl
    subst ec
    obtain rfl : s = 0 := by omega
    obtain rfl : d = 0 := by omega
    clear hc0 hmul hsub
    have HT := hid (Two.new w (.int .u64 (base : Int)) (.int .u64 (R : Int)) (.int .i64 (lim : Int)) (.slice none 0 0))
    clear e1
    go_enter Try.func43, Try.ntmps43
    go_wp2_with fail
    refine (HRG.out _).mono ?_
    rintro e w2 ⟨rfl, hK2⟩
    have hT2 := HT.out.keep hK2
    obtain ⟨w5, hmk5, -, hM5, hK5, hs5⟩ := make_room 0 (by omega) w2
    obtain ⟨h4, hh4⟩ : ∃ h4, h4 = w2.heap.size := ⟨_, rfl⟩
    rw [← hh4] at hmk5 hM5 hs5
    have hl2 := (Array.getElem?_eq_some_iff.1 hT2.b).1
    have hT5 := hT2.keep hK5
    obtain ⟨w6, hap6, hM6, hK6, hs6⟩ := append_fits w5 h4 0 0 0 _ f _ hM5 (HB.out.keep hT5.k) (by omega)
    rw [Nat.zero_add] at hap6 hM6
    have hmk5' : (Instr.makeSlice 33 (.int .i64 0) (.int .i64 0)).run Try.prog w2 = .ok (.slice (some ⟨h4, 0, none⟩) 0 0) w5 := hmk5
    have hT6 := hT5.kept' hK6 (by omega) (by omega) (fun x e => by omega)
    obtain ⟨d0, d1, d2, d3, d4⟩ := hT2.cells
    obtain ⟨j0, j1, j2, j3, j4⟩ := hT5.cells
    obtain ⟨l0, l1, l2, l3, l4⟩ := hT6.cells
    obtain ⟨e0, e1, e2, e3, f0, f1, f2, f3⟩ := hT6.cellsB
    have FIN := hid (show ∀ u v0 v1 v2 v3, MemAt (((((w6.setCell ⟨w.heap.size, 3, none⟩ u).setCell ⟨w.heap.size + 1, 0, none⟩ v0).setCell ⟨w.heap.size + 1, 1, none⟩ v1).setCell ⟨w.heap.size + 1, 2, none⟩ v2).setCell ⟨w.heap.size + 1, 3, none⟩ v3) h4 0 0 f ∧ Kept none' w (((((w6.setCell ⟨w.heap.size, 3, none⟩ u).setCell ⟨w.heap.size + 1, 0, none⟩ v0).setCell ⟨w.heap.size + 1, 1, none⟩ v1).setCell ⟨w.heap.size + 1, 2, none⟩ v2).setCell ⟨w.heap.size + 1, 3, none⟩ v3) ∧ w.heap.size ≤ h4 from fun u v0 v1 v2 v3 => by
      refine ⟨?_, (hT6.k.setCell (fun e => absurd e (by simp)) u).set4 (w.heap.size + 1) (by omega) _ _ _ _, by omega⟩
      refine (hM6.congr (f' := f) (fun i hi => ?_)).kept (S := fun x => x = w.heap.size ∨ x = w.heap.size + 1) (((((((Kept.refl _ w6).setCell (fun _ => Or.inl rfl) u).setCell (fun _ => Or.inr rfl) _).setCell (fun _ => Or.inr rfl) _).setCell (fun _ => Or.inr rfl) _).setCell (fun _ => Or.inr rfl) _)) (by omega)
      unfold glue
      omega)
    clear hT2 hT5 hT6 hM5 hM6 hK2 hK5 hK6 hs5 hs6 hl2 hh4
    go_wp2_with (at_builtin; refine Lib.wpList_append_run _ rfl _ _ _ _ rfl (.slice (some ⟨h4, 0, none⟩) 0 0) _ rfl rfl _ _ (hap6 _) ?_; clear hap6)
    exact ⟨rfl, .tuple #[.agg #[.int .u64 (base : Int), .int .u64 (R : Int), .int .i64 (lim : Int), .slice (some ⟨h4, 0, none⟩) 0 0], .int .i64 0], by simp [results, Try.results43, go_sem, e0, e1, e2, e3], h4, rfl, FIN.out _ _ _ _ _⟩
  · have e1 : adr (some h) = some ⟨h, 0, none⟩ := rfl
    rw [e1] at HB HRG ⊢
    clear hc0
    have HT := hid (Two.new w (.int .u64 (base : Int)) (.int .u64 (R : Int)) (.int .i64 (lim : Int)) (.slice (some ⟨h, 0, none⟩) n cap))
    clear e1
    go_enter Try.func43, Try.ntmps43
    go_wp2_with fail
    refine (HRG.out _).mono ?_
    rintro e w2 ⟨rfl, hK2⟩
    have hT2 := HT.out.keep hK2
    obtain ⟨w5, hmk5, -, hM5, hK5, hs5⟩ := make_room s (by omega) w2
    obtain ⟨h4, hh4⟩ : ∃ h4, h4 = w2.heap.size := ⟨_, rfl⟩
    rw [← hh4] at hmk5 hM5 hs5
    have hl2 := (Array.getElem?_eq_some_iff.1 hT2.b).1
    have hT5 := hT2.keep hK5
    obtain ⟨w6, hap6, hM6, hK6, hs6⟩ := append_fits w5 h4 0 s s _ f _ hM5 (HB.out.keep hT5.k) (by omega)
    rw [Nat.zero_add] at hap6 hM6
    have hT6 := hT5.kept' hK6 (by omega) (by omega) (fun x e => by omega)
    obtain ⟨d0, d1, d2, d3, d4⟩ := hT2.cells
    obtain ⟨j0, j1, j2, j3, j4⟩ := hT5.cells
    obtain ⟨l0, l1, l2, l3, l4⟩ := hT6.cells
    obtain ⟨e0, e1, e2, e3, f0, f1, f2, f3⟩ := hT6.cellsB
    have FIN := hid (show ∀ u v0 v1 v2 v3, MemAt (((((w6.setCell ⟨w.heap.size, 3, none⟩ u).setCell ⟨w.heap.size + 1, 0, none⟩ v0).setCell ⟨w.heap.size + 1, 1, none⟩ v1).setCell ⟨w.heap.size + 1, 2, none⟩ v2).setCell ⟨w.heap.size + 1, 3, none⟩ v3) h4 s s f ∧ Kept none' w (((((w6.setCell ⟨w.heap.size, 3, none⟩ u).setCell ⟨w.heap.size + 1, 0, none⟩ v0).setCell ⟨w.heap.size + 1, 1, none⟩ v1).setCell ⟨w.heap.size + 1, 2, none⟩ v2).setCell ⟨w.heap.size + 1, 3, none⟩ v3) ∧ w.heap.size ≤ h4 from fun u v0 v1 v2 v3 => by
      refine ⟨?_, (hT6.k.setCell (fun e => absurd e (by simp)) u).set4 (w.heap.size + 1) (by omega) _ _ _ _, by omega⟩
      refine (hM6.congr (f' := f) (fun i hi => ?_)).kept (S := fun x => x = w.heap.size ∨ x = w.heap.size + 1) (((((((Kept.refl _ w6).setCell (fun _ => Or.inl rfl) u).setCell (fun _ => Or.inr rfl) _).setCell (fun _ => Or.inr rfl) _).setCell (fun _ => Or.inr rfl) _).setCell (fun _ => Or.inr rfl) _)) (by omega)
      unfold glue
      rw [if_neg (by omega), Nat.sub_zero])
    clear hT2 hT5 hT6 hM5 hM6 hK2 hK5 hK6 hs5 hs6 hl2 hh4
    go_wp2_with (at_builtin; refine Lib.wpList_append_run _ rfl _ _ _ _ rfl (.slice (some ⟨h4, 0, none⟩) 0 s) _ rfl rfl _ _ (hap6 _) ?_; clear hap6)
    exact ⟨rfl, .tuple #[.agg #[.int .u64 (base : Int), .int .u64 (R : Int), .int .i64 (lim : Int), .slice (some ⟨h4, 0, none⟩) s s], .int .i64 0], by simp [results, Try.results43, go_sem, e0, e1, e2, e3], h4, rfl, FIN.out _ _ _ _ _⟩
end Go.Proofs.Ytanfdpangcgdhaa
