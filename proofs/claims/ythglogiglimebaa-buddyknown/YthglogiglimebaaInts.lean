/- croftlaw5.ints (off src3's LawB). -/
import Derived.Test.YthglogiglimebaaWdsB
namespace Go.Proofs.Ythglogiglimebaa.M
open Go.RowKit Go.Shelf
set_option linter.unusedVariables false

theorem getD_ext {xs ys : List Nat} (hl : xs.length = ys.length) (h : ∀ i, i < xs.length → xs.getD i 0 = ys.getD i 0) : xs = ys := by
  apply List.ext_getElem hl
  intro i h1 h2
  have := h i h1
  simpa [List.getD, h1, h2] using this

theorem ints_any (va vb : Value) (xs ys : List Nat) (hl : xs.length ≤ 4194305) (w : World) (ha : Wds w va xs) (hb : Wds w vb ys) :
    Calls Try.prog 11 #[va, vb] w fun e w' => e = .returned (.bool (decide (xs = ys))) ∧ Kept none' w w' := by
  obtain ⟨hxl, ao, ac, rfl, hA, hac⟩ := ha
  obtain ⟨hyl, bo, bc, rfl, hB, hbc⟩ := hb
  by_cases hlen : xs.length = ys.length
  · have HA := hid hA
    have HB := hid hB
    have HAC := hid hac
    have HBC := hid hbc
    have HXL := hid hxl
    have HYL := hid hyl
    have HLEN := hid hlen
    rw [← hlen]
    clear hA hB hac hbc hxl hyl hlen
    obtain ⟨m, hm⟩ : ∃ m, m = xs.length := ⟨_, rfl⟩
    rw [← hm] at hl ⊢
    have HM := hid hm
    clear hm
    go_enter Try.func11, Try.ntmps11
    go_wp2
    go_loopw [5] (fun i wr => ∃ k : Nat, k ≤ m ∧ i = .int .i64 k ∧ (∀ j, j < k → xs.getD j 0 = ys.getD j 0) ∧ ∃ d, wr = w.drewN d) (fun i _ => m - (intOf i).toNat)
    case atStart => exact ⟨0, by omega, rfl, fun j hj => by omega, 0, rfl⟩
    case round =>
      obtain ⟨k, hk, rfl, hpre, d, rfl⟩ := hrel
      have HPRE := hid hpre
      clear hpre
      by_cases hlt : k < m
      · have hne : xs ≠ [] := fun e => by have := HM.out; rw [e] at this; simp at this; omega
        have hne2 : ys ≠ [] := fun e => by have := HM.out; have h2 := HLEN.out; rw [e] at h2; simp at h2; rw [h2] at this; simp at this; omega
        obtain ⟨ga, rfl⟩ := HA.out hne
        obtain ⟨gb, rfl⟩ := HB.out hne2
        rw [show adr (some ga) = some ⟨ga, 0, none⟩ from rfl, show adr (some gb) = some ⟨gb, 0, none⟩ from rfl]
        have hca := (HAC.out ga rfl).2.2 k (by have := HM.out; omega)
        have hcb := (HBC.out gb rfl).2.2 k (by have := HM.out; have := HLEN.out; omega)
        have hxk : xs.getD k 0 < 18446744073709551616 := HXL.out _ (by have := HM.out; rw [List.getD_eq_getElem?_getD, List.getElem?_eq_getElem (by omega)]; simp)
        have hyk : ys.getD k 0 < 18446744073709551616 := HYL.out _ (by have := HM.out; have := HLEN.out; rw [List.getD_eq_getElem?_getD, List.getElem?_eq_getElem (by omega)]; simp)
        have HE := hid (fun (h : xs.getD k 0 = ys.getD k 0) j (hj : j < k + 1) => show xs.getD j 0 = ys.getD j 0 from by
          rcases Nat.lt_or_ge j k with h1 | h1
          · exact HPRE.out j h1
          · obtain rfl : j = k := by omega
            exact h)
        have HF := hid (fun (h : xs.getD k 0 ≠ ys.getD k 0) (e : xs = ys) => h (by rw [e]))
        unfold e64 at hca hcb
        generalize xs.getD k 0 = x at *
        generalize ys.getD k 0 = y at *
        have hik : (k : Int) < (m : Int) := by omega
        clear HA HB HAC HBC HPRE HM hne hne2
        by_cases hxy : x = y
        · subst hxy
          have HE2 := hid (HE.out rfl)
          clear HE HF
          go_wp2
          go_quiet (fail)
          go_wp2
          exact ⟨⟨k + 1, by omega, by simp, HE2.out, _, rfl⟩, by simp [intOf]; omega⟩
        · have hxyi : ((x : Int) == (y : Int)) = false := beq_eq_false_iff_ne.2 (by omega)
          have HF2 := hid (HF.out hxy)
          clear HE HF
          go_wp2
          go_quiet (fail)
          go_wp2
          go_ret
          exact ⟨ret_bool (decide_eq_false HF2.out).symm, ((Kept.refl _ w).drewN _).drewN _⟩
      · obtain rfl : k = m := by omega
        have HE := hid (getD_ext HLEN.out (fun i hi => HPRE.out i (by have := HM.out; omega)))
        clear HPRE HA HB HAC HBC
        go_wp2
        go_ret
        exact ⟨ret_bool (decide_eq_true HE.out).symm, (Kept.refl _ w).drewN _⟩
  · have HE := hid (show ¬ xs = ys from fun e => hlen (by rw [e]))
    have hli : ((xs.length : Int) == (ys.length : Int)) = false := beq_eq_false_iff_ne.2 (by omega)
    generalize xs.length = a at *
    generalize ys.length = b at *
    clear hA hB hac hbc hxl hyl
    go_enter Try.func11, Try.ntmps11
    go_wp2
    go_ret
    exact ⟨ret_bool (decide_eq_false HE.out).symm, Kept.refl _ w⟩
end Go.Proofs.Ythglogiglimebaa.M
