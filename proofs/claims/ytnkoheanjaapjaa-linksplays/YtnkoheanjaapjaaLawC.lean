/- The laws' small functions: cell, drop, has. -/
import Derived.Test.YtnkoheanjaapjaaLawB
namespace Go.Proofs.Ytnkoheanjaapjaa
open Go.RowKit Go.Shelf
set_option linter.unusedVariables false

theorem and_mask (i : Int) (k : Nat) (hk : k < 63) : bits BinOp.and IntKind.i64 i ((2 ^ k - 1 : Nat) : Int) = i % ((2 ^ k : Nat) : Int) := by
  have hp : 2 ^ k ≤ 2 ^ 62 := Nat.pow_le_pow_right (by decide) (by omega)
  have hp1 : 1 ≤ 2 ^ k := Nat.pow_pos (by decide)
  have ha : (BitVec.ofInt 64 i).toNat = (i % 18446744073709551616).toNat := by simp
  have hb : (BitVec.ofInt 64 ((2 ^ k - 1 : Nat) : Int)).toNat = 2 ^ k - 1 := by
    rw [BitVec.toNat_ofInt]
    omega
  have hand : (BitVec.ofInt 64 i &&& BitVec.ofInt 64 ((2 ^ k - 1 : Nat) : Int)).toNat = (i % 18446744073709551616).toNat % 2 ^ k := by
    rw [BitVec.toNat_and, ha, hb, Nat.and_two_pow_sub_one_eq_mod]
  have hdvd : ((2 ^ k : Nat) : Int) ∣ 18446744073709551616 := by
    refine ⟨((2 ^ (64 - k) : Nat) : Int), ?_⟩
    rw [← Int.natCast_mul, ← Nat.pow_add, show k + (64 - k) = 64 by omega]
    rfl
  have hval : (((i % 18446744073709551616).toNat % 2 ^ k : Nat) : Int) = i % ((2 ^ k : Nat) : Int) := by
    rw [Int.natCast_emod, Int.toNat_of_nonneg (by omega)]
    exact Int.emod_emod_of_dvd i hdvd
  unfold bits
  show IntKind.i64.wrap ((BitVec.ofInt 64 i &&& BitVec.ofInt 64 ((2 ^ k - 1 : Nat) : Int)).toNat : Int) = _
  rw [hand, hval]
  have h1 := Int.emod_nonneg i (show ((2 ^ k : Nat) : Int) ≠ 0 by omega)
  have h2 := Int.emod_lt_of_pos i (show 0 < ((2 ^ k : Nat) : Int) by omega)
  generalize i % ((2 ^ k : Nat) : Int) = x at *
  rw [IntKind.wrap_i64]
  omega
theorem and_255 (i : Int) : bits BinOp.and IntKind.i64 i 255 = i % 256 := and_mask i 8 (by decide)
theorem and_3 (i : Int) : bits BinOp.and IntKind.i64 i 3 = i % 4 := and_mask i 2 (by decide)

/-- The address of a cell. -/
def cellA (i : Int) : Nat := 4096 + 16 * (i % 256).toNat
theorem cellA_bounds (i : Int) : 4096 ≤ cellA i ∧ cellA i + 16 ≤ 8192 ∧ cellA i % 16 = 0 := by unfold cellA; omega
theorem cell_any (i : Int) (hlo : -9223372036854775808 ≤ i) (hhi : i ≤ 9223372036854775807) (w : World) :
    Calls Try.prog 25 #[.int .i64 i] w fun e w' => e = .returned (.int .u64 (cellA i : Int)) ∧ w' = w := by
  have hb := and_255 i
  obtain ⟨x, hx⟩ : ∃ x : Nat, i % 256 = (x : Int) := ⟨(i % 256).toNat, by omega⟩
  have hx2 : x < 256 := by omega
  have E := hid (show 4096 + 16 * (x : Int) = (cellA i : Int) by unfold cellA; omega)
  rw [hx] at hb
  clear hx
  go_enter Try.func25, Try.ntmps25
  go_wp2
  go_ret
  exact ⟨ret_int E.out, rfl⟩

/-- A list without an address. -/
def dropL (xs : List Nat) (p : Nat) : List Nat := xs.filter fun x => decide (x ≠ p)

theorem drop_any (va : Value) (xs : List Nat) (p : Nat) (hp : p < 18446744073709551616) (hl : xs.length ≤ 4194303) (w : World) (ha : Wds w va xs) :
    Calls Try.prog 26 #[va, .int .u64 (p : Int)] w fun e w' => ∃ v, e = .returned v ∧ Lst w' v (dropL xs p) ∧ Kept none' w w' ∧ ∀ r, v.ownBlock = some r → w.heap.size ≤ r := by
  obtain ⟨hxl, ao, ac, rfl, hA, hac⟩ := ha
  have HA := hid hA
  have HAC := hid hac
  have HXL := hid hxl
  clear hA hac hxl
  obtain ⟨m, hm⟩ : ∃ m, m = xs.length := ⟨_, rfl⟩
  rw [← hm] at hl ⊢
  have HM := hid hm
  clear hm
  go_enter Try.func26, Try.ntmps26
  go_wp2
  go_loopw [5, 6] (fun v i wr => ∃ k : Nat, k ≤ m ∧ i = .int .i64 k ∧ Lst wr v (dropL (xs.take k) p) ∧ Kept none' w wr ∧ ∀ r, v.ownBlock = some r → w.heap.size ≤ r) (fun _ i _ => m - (intOf i).toNat)
  case atStart => exact ⟨0, by omega, rfl, Lst.nil _, Kept.refl _ _, fun r hr => by cases hr⟩
  case round =>
    obtain ⟨k, hk, rfl, hlst, hkk, hrow⟩ := hrel
    have HL := hid hlst
    have HK := hid hkk
    have HR := hid hrow
    clear hlst hkk hrow
    by_cases hlt : k < m
    · have hkx : k < xs.length := by have := HM.out; omega
      have hne : xs ≠ [] := fun e => by rw [e] at hkx; simp at hkx
      obtain ⟨ga, rfl⟩ := HA.out hne
      rw [show adr (some ga) = some ⟨ga, 0, none⟩ from rfl]
      have hca0 := (HAC.out ga rfl).2.2 k hkx
      have hca := HK.out.cell (fun x => x) hca0
      have hxk : xs.getD k 0 < 18446744073709551616 := HXL.out _ (by rw [List.getD_eq_getElem?_getD, List.getElem?_eq_getElem hkx]; simp)
      have HT := hid (show xs.take (k + 1) = xs.take k ++ [xs.getD k 0] by
        rw [List.take_add_one, List.getElem?_eq_getElem hkx, List.getD_eq_getElem?_getD, List.getElem?_eq_getElem hkx]
        rfl)
      have HLen := hid (show (dropL (xs.take k) p).length ≤ k by
        refine Nat.le_trans (List.length_filter_le _ _) ?_
        rw [List.length_take]
        omega)
      unfold e64 at hca
      generalize xs.getD k 0 = x at *
      have hik : (k : Int) < (m : Int) := by omega
      clear hca0 hne
      by_cases hxp : x = p
      · subst hxp
        have HD := hid (show dropL (xs.take (k + 1)) x = dropL (xs.take k) x by rw [HT.out]; simp [dropL])
        go_wp2
        exact ⟨⟨k + 1, by omega, by simp, by rw [HD.out]; exact HL.out, HK.out, HR.out⟩, by simp [intOf]; omega⟩
      · have hxpi : ((x : Int) == (p : Int)) = false := beq_eq_false_iff_ne.2 (by omega)
        have HD := hid (show dropL (xs.take (k + 1)) p = dropL (xs.take k) p ++ [x] by rw [HT.out]; simp [dropL, hxp])
        obtain ⟨v', w4, hap, hL4, hK4, hown4, g, cap, hv'⟩ := push_run (wr.alloc (.cells #[.int .u64 (x : Int)] 27)) u5 (dropL (xs.take k) p) x (HL.out.keep ((Kept.refl none' wr).alloc _)) hxk (by have := HLen.out; omega) ⟨wr.heap.size, 0, none⟩ 1 (by rw [Addr.add_lit]; exact cell_of (heap_new _ _))
        have HAP := hid hap
        have HL4 := hid hL4
        have HK4 := hid hK4
        have HO4 := hid hown4
        subst hv'
        clear hap hL4 hK4 hown4
        go_wp2_with (at_builtin; refine Lib.wpList_append_run _ rfl _ _ _ _ rfl u5 (.slice (some ⟨wr.heap.size, 0, none⟩) 1 1) rfl rfl _ _ (HAP.out _) ?_)
        refine ⟨⟨k + 1, by omega, by simp, by rw [HD.out]; exact HL4.out, (HK.out.alloc _).trans HK4.out (fun _ _ h => h) (fun x hx h => absurd (HR.out x h) (by omega)), fun r hr => ?_⟩, by simp [intOf]; omega⟩
        rcases HO4.out with e | ⟨r', e, hle⟩
        · rw [e] at hr
          exact HR.out r hr
        · rw [e] at hr
          cases hr
          have := HK.out.size
          simp at hle
          omega
    · obtain rfl : k = m := by omega
      have HE := hid (show xs.take k = xs by rw [HM.out]; exact List.take_length)
      go_wp2
      go_ret
      exact ⟨_, rfl, by have := HL.out; rw [HE.out] at this; exact this, HK.out, HR.out⟩

theorem dropL_len (xs : List Nat) (p : Nat) : decide ((dropL xs p).length = xs.length) = !decide (p ∈ xs) := by
  by_cases h : p ∈ xs
  · have : (dropL xs p).length < xs.length := List.length_filter_lt_length_iff_exists.2 ⟨p, h, by simp⟩
    rw [decide_eq_true h, decide_eq_false (by omega)]
    rfl
  · have : dropL xs p = xs := List.filter_eq_self.2 (fun x hx => by simp; intro e; exact h (e ▸ hx))
    rw [this, decide_eq_false h, decide_eq_true rfl]
    rfl
theorem dropL_le (xs : List Nat) (p : Nat) : (dropL xs p).length ≤ xs.length := List.length_filter_le _ _

theorem has_any (va : Value) (xs : List Nat) (p : Nat) (hp : p < 18446744073709551616) (hl : xs.length ≤ 4194303) (w : World) (ha : Wds w va xs) :
    Calls Try.prog 27 #[va, .int .u64 (p : Int)] w fun e w' => e = .returned (.bool (decide (p ∈ xs))) ∧ Kept none' w w' := by
  have A := hid (drop_any va xs p hp hl w ha)
  have HE := hid (dropL_len xs p)
  have hle := dropL_le xs p
  obtain ⟨hxl, ao, ac, rfl, hA, hac⟩ := ha
  clear hxl hA hac
  go_enter Try.func27, Try.ntmps27
  go_wp2_with fail
  refine A.out.mono ?_
  rintro e w1 ⟨v, rfl, hL, hK, -⟩
  obtain ⟨-, bo, bc, rfl, -⟩ := hL.wds
  have HK := hid hK
  clear hL hK A
  generalize (dropL xs p).length = a at *
  generalize xs.length = b at *
  have hab : (((a : Int) == (b : Int))) = decide (a = b) := by
    by_cases h : a = b
    · subst h; simp
    · rw [decide_eq_false h]; exact beq_eq_false_iff_ne.2 (by omega)
  have HAB := hid hab
  clear hab
  go_wp2_with fail
  go_ret
  refine ⟨ret_bool ?_, HK.out⟩
  show (!((a : Int) == (b : Int))) = _
  rw [HAB.out, HE.out, Bool.not_not]
end Go.Proofs.Ytnkoheanjaapjaa
