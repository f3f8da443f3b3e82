/- croftref2.Commit where a region comes. -/
import Derived.Test.YtnkoheanjaapjaaRefE
namespace Go.Proofs.Ytnkoheanjaapjaa
open Go.RowKit
set_option linter.unusedVariables false

set_option maxHeartbeats 2000000 in
theorem RCommit_ok (base R lim n cap : Nat) (mo : Option Nat) (f : Nat → Nat) (hR : 4096 ≤ R) (hR2 : R ≤ 1048576) (hnR : n + R ≤ 4194304) (hbn : base + n ≤ 9223372036854775808) (hl : n / R < lim) (w : World) (H : RefAt w mo n cap f) :
    Calls Try.prog 21 #[.agg #[.int .u64 (base : Int), .int .u64 (R : Int), .int .i64 (lim : Int), .slice (adr mo) n cap], .bool false] w fun e w' => ∃ h', e = .returned (.tuple #[.agg #[.int .u64 (base : Int), .int .u64 (R : Int), .int .i64 (lim : Int), .slice (some ⟨h', 0, none⟩) (n + R) (n + R)], .int .u64 ((base + n : Nat) : Int), .int .i64 0]) ∧ MemAt w' h' (n + R) (n + R) (more f n) ∧ Kept none' w w' ∧ w.heap.size ≤ h' := by
  obtain ⟨ao, hao⟩ : ∃ ao, ao = adr mo := ⟨_, rfl⟩
  have HB := hid H.bytes
  rw [← hao] at HB ⊢
  clear H hao
  have HT := hid (Two.new w (.int .u64 (base : Int)) (.int .u64 (R : Int)) (.int .i64 (lim : Int)) (.slice ao n cap))
  have HRG := hid (RRegions_any base R lim n cap ao hR hR2 (by omega))
  obtain ⟨q, hq⟩ : ∃ q, q = n / R := ⟨_, rfl⟩
  rw [← hq] at HRG hl
  have hli : (q : Int) < (lim : Int) := by omega
  have hsum : (n : Int) + (R : Int) = ((n + R : Nat) : Int) := by simp
  obtain ⟨s, hs⟩ : ∃ s, s = n + R := ⟨_, rfl⟩
  rw [← hs] at hsum
  have HSUM := hid hs
  clear hq hl hs
  go_enter Try.func21, Try.ntmps21
  go_wp2
  go_region_with ((go_at_call 44; refine (HRG.out _).mono ?_; rintro e w2 ⟨rfl, hK2⟩; have hT2 := (HT.out.keep (Kept.refl none' _).drew).keep hK2; obtain ⟨d0, d1, d2, d3, d4⟩ := hT2.cells; have HT2 := hid hT2; clear hT2 hK2))
  all_goals (
    go_wp2_with fail
    refine (REnd_any base R lim n cap ao (by omega) hbn _).mono ?_
    rintro e w3 ⟨rfl, hK3⟩
    have hT3 := HT2.out.keep hK3
    obtain ⟨w4, hmk, hM4, hK4, hs4⟩ := make_u64 R (by omega) w3
    have hT4 := hT3.keep hK4
    obtain ⟨w5, hmk5, -, hM5, hK5, hs5⟩ := make_room s (by have := HSUM.out; omega) w4
    have hT5 := hT4.keep hK5
    have hl3 := (Array.getElem?_eq_some_iff.1 hT3.b).1
    obtain ⟨h4, hh4⟩ : ∃ h4, h4 = w4.heap.size := ⟨_, rfl⟩
    rw [← hh4] at hmk5 hM5 hs5
    have hl4 := (Array.getElem?_eq_some_iff.1 hT4.b).1
    obtain ⟨w6, hap6, hM6, hK6, hs6⟩ := append_fits w5 h4 0 s n _ f _ hM5 (HB.out.keep hT5.k) (by have := HSUM.out; omega)
    rw [Nat.zero_add] at hap6 hM6
    have hT6 := hT5.kept' hK6 (by omega) (by omega) (fun x e => by omega)
    obtain ⟨w7, hap7, hM7, hK7, hs7⟩ := append_fits w6 h4 n s R _ (fun _ => 0) _ hM6 ((hM4.keep hK5).kept hK6 (by omega)).bytes (by have := HSUM.out; omega)
    have hT7 := hT6.kept' hK7 (by omega) (by omega) (fun x e => by omega)
    rw [← HSUM.out] at hap7 hM7
    obtain ⟨g0, g1, g2, g3, g4⟩ := hT3.cells
    obtain ⟨i0, i1, i2, i3, i4⟩ := hT4.cells
    obtain ⟨j0, j1, j2, j3, j4⟩ := hT5.cells
    obtain ⟨k0, k1, k2, k3, k4⟩ := hT6.cells
    obtain ⟨l0, l1, l2, l3, l4⟩ := hT7.cells
    obtain ⟨e0, e1, e2, e3, f0, f1, f2, f3⟩ := hT7.cellsB
    have FIN := hid (show ∀ u v0 v1 v2 v3, MemAt (((((w7.setCell ⟨w.heap.size, 3, none⟩ u).setCell ⟨w.heap.size + 1, 0, none⟩ v0).setCell ⟨w.heap.size + 1, 1, none⟩ v1).setCell ⟨w.heap.size + 1, 2, none⟩ v2).setCell ⟨w.heap.size + 1, 3, none⟩ v3) h4 s s (more f n) ∧ Kept none' w (((((w7.setCell ⟨w.heap.size, 3, none⟩ u).setCell ⟨w.heap.size + 1, 0, none⟩ v0).setCell ⟨w.heap.size + 1, 1, none⟩ v1).setCell ⟨w.heap.size + 1, 2, none⟩ v2).setCell ⟨w.heap.size + 1, 3, none⟩ v3) ∧ w.heap.size ≤ h4 from fun u v0 v1 v2 v3 => by
      refine ⟨?_, (hT7.k.setCell (fun e => absurd e (by simp)) u).set4 (w.heap.size + 1) (by omega) _ _ _ _, by omega⟩
      refine (hM7.congr (f' := more f n) (fun i hi => ?_)).kept (S := fun x => x = w.heap.size ∨ x = w.heap.size + 1) (((((((Kept.refl _ w7).setCell (fun _ => Or.inl rfl) u).setCell (fun _ => Or.inr rfl) _).setCell (fun _ => Or.inr rfl) _).setCell (fun _ => Or.inr rfl) _).setCell (fun _ => Or.inr rfl) _)) (by omega)
      unfold glue more
      split
      · rw [if_neg (by omega), Nat.sub_zero]
      · rfl)
    clear hT3 hT4 hT5 hT6 hT7 hM4 hM5 hM6 hM7 hK3 hK4 hK5 hK6 hK7 hs4 hs5 hs6 hs7 hl3 hl4 hh4
    go_wp2_with (at_builtin; first | (refine Lib.wpList_append_run _ rfl _ _ _ _ rfl (.slice (some ⟨h4, 0, none⟩) 0 s) _ rfl rfl _ _ (hap6 _) ?_; clear hap6) | (refine Lib.wpList_append_run _ rfl _ _ _ _ rfl (.slice (some ⟨h4, 0, none⟩) n s) _ rfl rfl _ _ (hap7 _) ?_; clear hap7))
    have hs := HSUM.out
    clear HSUM
    subst hs
    exact ⟨rfl, .tuple #[.agg #[.int .u64 (base : Int), .int .u64 (R : Int), .int .i64 (lim : Int), .slice (some ⟨h4, 0, none⟩) (n + R) (n + R)], .int .u64 ((base : Int) + (n : Int)), .int .i64 0], by simp [results, Try.results21, go_sem, e0, e1, e2, e3], h4, by simp, FIN.out _ _ _ _ _⟩)
end Go.Proofs.Ytnkoheanjaapjaa
