/- MemHolds. -/
import Derived.Test.YtanfdpangcgdhaaLawA
namespace Go.Proofs.Ytanfdpangcgdhaa
open Go.RowKit
set_option linter.unusedVariables false

theorem upd_in (f : Nat → Nat) (o k : Nat) (g : Nat → Nat) (i : Nat) (h : o ≤ i ∧ i < o + k) : upd f o k g i = g (i - o) := by simp only [upd]; rw [if_pos h]
theorem upd_out (f : Nat → Nat) (o k : Nat) (g : Nat → Nat) (i : Nat) (h : ¬ (o ≤ i ∧ i < o + k)) : upd f o k g i = f i := by simp only [upd]; rw [if_neg h]

theorem wordTo_congr (f g : Nat → Nat) (k : Nat) (h : ∀ i, i < k → f i = g i) : wordTo f k = wordTo g k := by
  induction k with
  | zero => rfl
  | succ k ih => rw [wordTo, wordTo, ih (fun i hi => h i (by omega)), h k (by omega)]
theorem wordTo_byteOf (v k : Nat) : wordTo (byteOf v) k = v % 256 ^ k := by
  induction k with
  | zero => simp [wordTo, Nat.mod_one]
  | succ k ih => rw [wordTo, ih, byteOf, Nat.pow_succ, Nat.mod_mul, Nat.mul_comm (v / 256 ^ k % 256)]
theorem word_upd (f : Nat → Nat) (o v : Nat) (hv : v < 18446744073709551616) : word (upd f o 8 (byteOf v)) o = v := by
  unfold word
  rw [wordTo_congr _ (byteOf v) 8 (fun i hi => by rw [upd_in _ _ _ _ _ (by omega), Nat.add_sub_cancel_left]), wordTo_byteOf]
  exact Nat.mod_eq_of_lt hv

theorem holds_any (off v fill : Nat) (ho : off < 18446744073709551616) (hv : v < 18446744073709551616) (hf : fill < 256) (w : World) :
    Calls Try.prog 6 #[.int .u64 (off : Int), .int .u64 (v : Int), .int .u8 (fill : Int)] w fun e w' => e = .returned (.bool true) ∧ Below w.heap.size w w' := by
  obtain ⟨q, hq⟩ : ∃ q, q = off % 12278 := ⟨_, rfl⟩
  have hql : q < 12278 := by omega
  have hqi : (off : Int) % 12278 = (q : Int) := by omega
  obtain ⟨p, hp⟩ : ∃ p, p = 1048577 + q := ⟨_, rfl⟩
  have hpi : (1048577 : Int) + (q : Int) = (p : Int) := by omega
  obtain ⟨p1, hp1⟩ : ∃ p1, p1 = 1048576 + q := ⟨_, rfl⟩
  have hpi1 : (p : Int) - 1 = (p1 : Int) := by omega
  obtain ⟨p8, hp8⟩ : ∃ p8, p8 = 1048585 + q := ⟨_, rfl⟩
  have hpi8 : (p : Int) + 8 = (p8 : Int) := by omega
  have hpl : p < 1060855 := by omega
  have HP := hid hp
  have HP1 := hid hp1
  have HP8 := hid hp8
  clear hq hp hp1 hp8
  go_enter Try.func6, Try.ntmps6
  go_wp2_with fail
  refine (grown_any 3 (by decide) (by decide) _).mono ?_
  rintro e w1 ⟨b, g, rfl, hS, hK, hb, hg⟩
  have HS := hid (show SpaceAt w1 b (some g) 1048576 4096 3 12288 (fun _ => 0) from hS)
  have HO := hid (show ∀ x, own b (some g) x → w.heap.size ≤ x from fun x hx => by rcases hx with rfl | e; exact hb; injection e with e; subst e; exact hg)
  have HK := hid (hK.fresh (B := w.heap.size) (fun x h => h.elim))
  clear hS hK hb hg
  go_wp2_with fail
  refine (Fill_in b g _ _ _ _ _ 1048576 12288 fill hf _ HS.out (by decide) ⟨by decide, by decide⟩).mono ?_
  rintro e w2 ⟨rfl, hS, hK⟩
  have HS2 := hid hS
  have HK2 := hid (HK.out.then' (hK.fresh HO.out))
  clear hS hK HS HK
  go_wp2_with fail
  refine (SetWord_in b g _ _ _ _ _ p v hv _ HS2.out ⟨by have := HP.out; omega, by have := HP.out; omega⟩).mono ?_
  rintro e w3 ⟨rfl, hS, hK⟩
  obtain ⟨f3, hf3⟩ : ∃ f3, f3 = upd (upd (fun _ => 0) (1048576 - 1048576) 12288 fun _ => fill) (p - 1048576) 8 (byteOf v) := ⟨_, rfl⟩
  rw [← hf3] at hS
  have HF := hid hf3
  have HS3 := hid hS
  have HK3 := hid (HK2.out.then' (hK.fresh HO.out))
  clear hS hK HS2 HK2 hf3
  go_wp2_with fail
  refine (Word_in b g _ _ _ _ _ p _ HS3.out ⟨by have := HP.out; omega, by have := HP.out; omega⟩).mono ?_
  rintro e w4 ⟨rfl, hK⟩
  have hwd : word f3 (p - 1048576) = v := by rw [HF.out]; exact word_upd _ _ _ hv
  rw [hwd]
  have HS4 := hid (HS3.out.keep hK)
  have HK4 := hid (HK3.out.then' (hK.fresh (fun x h => h.elim)))
  clear hK HS3 HK3 hwd
  go_wp2
  go_loopw [11] (fun i wr => ∃ k : Nat, k ≤ 8 ∧ i = .int .u64 k ∧ Hid (SpaceAt wr b (some g) 1048576 4096 3 12288 f3) ∧ Hid (Kept (from' w.heap.size) w wr)) (fun i _ => 8 - (intOf i).toNat)
  case atStart => exact ⟨0, by omega, rfl, HS4, HK4⟩
  case round =>
    obtain ⟨k, hk, rfl, hS, hK⟩ := hrel
    clear HS4 HK4
    by_cases hlt : k < 8
    · have E : (v : Int) / 2 ^ (8 * k) % 256 = ((byteOf v k : Nat) : Int) := byteOf_int v k
      obtain ⟨y, hy⟩ : ∃ y, y = byteOf v k := ⟨_, rfl⟩
      rw [← hy] at E
      have HY := hid hy
      clear hy
      have hki : (k : Int) < 8 := by omega
      go_wp2_with fail
      refine (Byte_in b g _ _ _ _ _ (p + k) _ hS.out ⟨by have := HP.out; omega, by have := HP.out; omega⟩).mono ?_
      rintro e w5 ⟨rfl, hK5⟩
      have hby : f3 (p + k - 1048576) = y := by
        have h1 := HP.out
        have e : p + k - 1048576 - (p - 1048576) = k := by omega
        rw [HF.out, HY.out, upd_in _ _ _ _ _ (by omega), e]
      rw [hby]
      have HS5 := hid (hS.out.keep hK5)
      have HK5 := hid (hK.out.then' (hK5.fresh (fun x h => h.elim)))
      clear hK5 hS hK hby
      go_wp2
      refine ⟨⟨k + 1, by omega, by simp, HS5, HK5⟩, by simp [intOf]; omega⟩
    · obtain rfl : k = 8 := by omega
      go_wp2_with fail
      refine (Byte_in b g _ _ _ _ _ p1 _ hS.out ⟨by have := HP1.out; omega, by have := HP1.out; omega⟩).mono ?_
      rintro e w5 ⟨rfl, hK5⟩
      have hby : f3 (p1 - 1048576) = fill := by
        have h1 := HP.out
        have h2 := HP1.out
        rw [HF.out, upd_out _ _ _ _ _ (by omega), upd_in _ _ _ _ _ (by omega)]
      rw [hby]
      have HS5 := hid (hS.out.keep hK5)
      have HK5 := hid (hK.out.then' (hK5.fresh (fun x h => h.elim)))
      clear hK5 hS hK hby
      go_wp2_with fail
      refine (Byte_in b g _ _ _ _ _ p8 _ HS5.out ⟨by have := HP8.out; omega, by have := HP8.out; omega⟩).mono ?_
      rintro e w6 ⟨rfl, hK6⟩
      have hby : f3 (p8 - 1048576) = fill := by
        have h1 := HP.out
        have h2 := HP8.out
        rw [HF.out, upd_out _ _ _ _ _ (by omega), upd_in _ _ _ _ _ (by omega)]
      rw [hby]
      have HK6 := hid (HK5.out.then' (hK6.fresh (fun x h => h.elim)))
      clear hK6 HS5 HK5 hby
      go_wp2
      go_ret
      exact ⟨rfl, HK6.out.below (Nat.le_refl _) (fun x h => h)⟩
end Go.Proofs.Ytanfdpangcgdhaa
