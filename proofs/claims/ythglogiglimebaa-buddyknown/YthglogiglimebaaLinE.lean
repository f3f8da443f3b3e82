/- How many bytes are committed; what ranges over. -/
import Derived.Test.YthglogiglimebaaLinD
namespace Go.Proofs.Ythglogiglimebaa.M
open Go.RowKit
set_option linter.unusedVariables false

theorem Byte_any (b ao base R lim n f) (p : Nat) (hp : p < 18446744073709551616) (w : World) (h : SpaceAt w b ao base R lim n f) :
    Calls Try.prog 60 #[.pointer (some ⟨b, 0, none⟩), .int .u64 (p : Int)] w fun e w' => e = .returned (.tuple #[.int .u8 ((if In base n p 1 then f (p - base) else 0 : Nat) : Int), .int .i64 (if In base n p 1 then 0 else 4)]) ∧ Kept none' w w' := by
  by_cases hin : In base n p 1
  · obtain ⟨g, rfl⟩ := h.has (by decide) hin
    refine (Byte_in b g base R lim n f p w h hin).mono ?_
    rintro e w' ⟨rfl, k⟩
    rw [if_pos hin, if_pos hin]
    exact ⟨rfl, k⟩
  · refine (Byte_out b ao base R lim n f p 1 0 none 0 w h hp (by decide) (by decide) hin).mono ?_
    rintro e w' ⟨rfl, k⟩
    rw [if_neg hin, if_neg hin]
    exact ⟨rfl, k⟩

theorem committed_any (b ao base R lim n f) (o : Nat) (ho : o ≤ 8) (hR : R = 4096 * 2 ^ o) (w : World) (h : SpaceAt w b ao base R lim n f) :
    Calls Try.prog 67 #[.pointer (some ⟨b, 0, none⟩)] w fun e w' => e = .returned (.int .u64 (n : Int)) ∧ Kept none' w w' := by
  have HH := hid h
  obtain ⟨k, hn, hk⟩ := h.kn
  have hk64 : k ≤ 64 := Nat.le_trans hk h.cfg.l2
  have hend := h.end_le
  have r1 := h.cfg.r1
  have hb1 := h.cfg.b1
  have hq : n / R = k := by rw [hn]; exact Nat.mul_div_cancel _ (by omega)
  have HRG := hid (fun w' (kk : Kept none' w w') => regions_any b ao base R lim n f w' (h.keep kk))
  rw [hq] at HRG
  have HEN := hid (fun w' (kk : Kept none' w w') => end_any b ao base R lim n f w' (h.keep kk))
  obtain ⟨E, hE⟩ : ∃ E, E = base + n := ⟨_, rfl⟩
  rw [← hE] at HEN hend
  have HBY := hid (fun p (hp : p < 18446744073709551616) w' (kk : Kept none' w w') => Byte_any b ao base R lim n f p hp w' (h.keep kk))
  have HN := hid (show n = k * (4096 * 2 ^ o) by rw [hn, hR])
  have HE := hid (show E = base + n from hE)
  clear h hn hk hq hE hR
  go_enter Try.func67, Try.ntmps67
  go_wp2_with fail
  refine (HRG.out _ (Kept.refl _ w)).mono ?_
  rintro e w1 ⟨rfl, m1, rfl⟩
  go_wp2_with fail
  refine (HEN.out _ ((Kept.refl _ w).drewN m1)).mono ?_
  rintro e w2 ⟨rfl, m2, rfl⟩
  have K2 := hid (((Kept.refl none' w).drewN m1).drewN m2)
  generalize (w.drewN m1).drewN m2 = w2 at *
  go_wp2_with fail
  go_loopw [5] (fun i wr => ∃ j : Int, -1 ≤ j ∧ j ≤ 8 ∧ i = .int .i64 j ∧ (k ≠ 0 → (o : Int) ≤ j) ∧ Kept none' w wr) (fun i _ => (intOf i + 1).toNat)
  case atStart => exact ⟨8, by omega, by omega, rfl, fun _ => by omega, K2.out⟩
  case round =>
    obtain ⟨j, hj1, hj2, rfl, hjo, kr⟩ := hrel
    have KR := hid kr
    clear kr K2
    by_cases hneg : j < 0
    · have hk0 : k = 0 := by
        rcases Nat.eq_zero_or_pos k with e | e
        · exact e
        · have := hjo (by omega); omega
      have hn0 := HN.out
      rw [hk0, Nat.zero_mul] at hn0
      have HN0 := hid hn0
      clear hn0
      have hji : ¬ 0 ≤ j := by omega
      go_wp2_with fail
      go_ret
      exact ⟨ret_int (by rw [HN0.out]; rfl), KR.out⟩
    · obtain ⟨t, rfl⟩ : ∃ t : Nat, j = (t : Int) := ⟨j.toNat, by omega⟩
      have ht : t ≤ 8 := by omega
      obtain ⟨P, hP⟩ : ∃ P, P = 2 ^ t := ⟨_, rfl⟩
      have hP8 := pow8 t (by omega)
      rw [← hP] at hP8
      obtain ⟨S, hS⟩ : ∃ S, S = k * 4096 * P := ⟨_, rfl⟩
      have hS2 : S ≤ 67108864 := by
        rw [hS]
        exact Nat.le_trans (Nat.mul_le_mul (Nat.mul_le_mul_right 4096 hk64) hP8.2) (by decide)
      have hK4 : k * 4096 ≤ 262144 := by omega
      have HW := hid (show IntKind.u64.wrap ((k : Int) * 4096 * 2 ^ t) = (S : Int) by
        have e : ((2 : Int) ^ t) = ((2 ^ t : Nat) : Int) := by simp
        have e2 : (k : Int) * 4096 * ((P : Nat) : Int) = (S : Int) := by rw [hS]; simp
        rw [e, ← hP, e2, wrap_u64]
        omega)
      have hx : ∃ q : Nat, q < 18446744073709551616 ∧ IntKind.u64.wrap ((E : Int) - (S : Int)) = (q : Int) ∧ (In base n q 1 ↔ (k ≠ 0 ∧ t = o)) ∧ (k ≠ 0 → t = o → S = n) := by
        have hn := HN.out
        have hE := HE.out
        have hSn : k ≠ 0 → t = o → S = n := by
          rintro _ rfl
          rw [hS, hn, hP, Nat.mul_assoc]
        by_cases hc : S ≤ E
        · refine ⟨E - S, by omega, by rw [wrap_u64]; omega, ?_, hSn⟩
          constructor
          · intro hi
            unfold In at hi
            rcases Nat.eq_zero_or_pos k with e | e
            · rw [e, Nat.zero_mul] at hn
              omega
            · refine ⟨by omega, ?_⟩
              rcases Nat.lt_or_ge o t with hlt | hge
              · exfalso
                have h2 : 2 ^ o * 2 ≤ P := by rw [hP, ← Nat.pow_succ]; exact Nat.pow_le_pow_right (by decide) hlt
                have h3 : k * (4096 * 2 ^ o) * 2 ≤ S := by
                  rw [hS, Nat.mul_assoc k 4096 P, Nat.mul_assoc k]
                  exact Nat.mul_le_mul_left k (by rw [Nat.mul_assoc]; exact Nat.mul_le_mul_left _ h2)
                have h4 : 1 ≤ k * (4096 * 2 ^ o) := Nat.mul_pos e (Nat.mul_pos (by decide) (Nat.pow_pos (by decide)))
                omega
              · have := hjo (by omega)
                omega
          · rintro ⟨h1, rfl⟩
            have := hSn h1 rfl
            have h4 : 1 ≤ k * (4096 * 2 ^ t) := Nat.mul_pos (by omega) (Nat.mul_pos (by decide) (Nat.pow_pos (by decide)))
            unfold In
            omega
        · refine ⟨18446744073709551616 + E - S, by omega, by rw [wrap_u64]; omega, ?_, hSn⟩
          constructor
          · intro hi
            unfold In at hi
            omega
          · rintro ⟨h1, h2⟩
            have := hSn h1 h2
            omega
      obtain ⟨q, hq64, hqe, hqi, hqS⟩ := hx
      have HQ := hid hqe
      have HI := hid hqi
      have HSN := hid hqS
      clear hqe hqi hqS hS hP hP8
      go_wp2_with fail
      rw [HW.out, HQ.out]
      refine (HBY.out q hq64 _ KR.out).mono ?_
      rintro e w3 ⟨rfl, k3⟩
      have K3 := hid (none_trans KR.out k3)
      clear k3
      by_cases hin : In base n q 1
      · have hh := HI.out.1 hin
        have hSn := hid (HSN.out hh.1 hh.2)
        rw [if_pos hin, if_pos hin]
        clear hh hin
        go_wp2_with fail
        go_ret
        exact ⟨ret_int (by rw [hSn.out]), K3.out⟩
      · rw [if_neg hin, if_neg hin]
        have hno := hid (fun hk : k ≠ 0 => show ¬ t = o from fun e => hin (HI.out.2 ⟨hk, e⟩))
        clear hin
        go_wp2_with fail
        refine ⟨⟨(t : Int) - 1, by omega, by omega, rfl, fun hk => ?_, K3.out⟩, by simp [intOf]⟩
        have h1 := hjo hk
        have h2 := hno.out hk
        omega

theorem All_any (c : Nat) (w : World) :
    Calls Try.prog 40 #[.pointer (some ⟨c, 0, none⟩)] w fun e w' => e = .returned (.func (.func 66) #[] #[.pointer (some ⟨w.heap.size, 0, none⟩)]) ∧ w' = w.alloc (.cells #[.pointer (some ⟨c, 0, none⟩)] 72) := by
  have hmf := mkf
  go_enter Try.func40, Try.ntmps40
  go_wp2
  go_ret
  exact ⟨rfl, rfl⟩
theorem chain_any (c : Nat) (w : World) :
    Calls Try.prog 68 #[.pointer (some ⟨c, 0, none⟩)] w fun e w' => e = .returned (.func (.func 92) #[] #[.pointer (some ⟨w.heap.size, 0, none⟩)]) ∧ w' = w.alloc (.cells #[.pointer (some ⟨c, 0, none⟩)] 72) := by
  have hmf := mkf
  go_enter Try.func68, Try.ntmps68
  go_wp2
  go_ret
  exact ⟨rfl, rfl⟩
end Go.Proofs.Ythglogiglimebaa.M
