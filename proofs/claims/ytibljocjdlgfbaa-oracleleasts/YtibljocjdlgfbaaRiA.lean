/- Where a size does not fit, no greater one of a page and more does; nor with one more block. -/
import Derived.Test.YtibljocjdlgfbaaTuA
import Derived.Test.YtibljocjdlgfbaaRfO
namespace Go.Proofs.Ytibljocjdlgfbaa
set_option linter.unusedVariables false

theorem Snl.of' {base k n : Nat} {l : Bls} (hb : base % RS k = 0) (hn : n * RS k ≤ 4194304) (h : sndI base k n l = -1) : Snl base k n l := ⟨hb, hn, sndI_iff.1 h⟩
theorem nofV_facts {base : Nat} {lim ord n : Int} {l : Bls} {r : Nat} (h : nofV base lim ord n l r = true) : mayR base lim ord n = true ∧ sndI base ord.toNat n.toNat l = -1 ∧ szB ord.toNat r = true ∧ fitU (allU base l) ord.toNat n.toNat r = true := by
  simp only [nofV, Bool.and_eq_true, beq_iff_eq] at h
  exact ⟨h.1.1.1, h.1.1.2, h.1.2, h.2⟩
theorem nofV_mk {base : Nat} {lim ord n : Int} {l : Bls} {r : Nat} (h1 : mayR base lim ord n = true) (h2 : sndI base ord.toNat n.toNat l = -1) (h3 : szB ord.toNat r = true) (h4 : fitU (allU base l) ord.toNat n.toNat r = true) : nofV base lim ord n l r = true := by
  simp [nofV, h1, h2, h3, h4]
theorem szB_iff {k r : Nat} : szB k r = true ↔ isP r = true ∧ 16 ≤ r ∧ r ≤ RS k := by
  simp only [szB, Bool.and_eq_true, decide_eq_true_eq]
  exact ⟨fun h => ⟨h.1.1, h.1.2, h.2⟩, fun h => ⟨⟨h.1, h.2.1⟩, h.2.2⟩⟩
/-- What is met by a list is met by a longer one, in greater stretches. -/
theorem fitU_up {U U' : List Un} {k n r r' : Nat} (hk : k ≤ 8) (hs : SU U (n * 2 ^ k)) (hs' : SU U' (n * 2 ^ k)) (hsub : ∀ u ∈ U, u ∈ U') (hr : szB k r = true) (hr' : szB k r' = true) (h4 : 4096 ≤ r') (hle : r ≤ r') (h : fitU U k n r = true) : fitU U' k n r' = true := by
  obtain ⟨a1, a2, a3⟩ := szB_iff.1 hr
  obtain ⟨b1, b2, b3⟩ := szB_iff.1 hr'
  obtain ⟨f1, f2, M, f3, f4⟩ := lon_facts (n := n) hk a1 a2 a3
  obtain ⟨g1, g2, N, g3, g4⟩ := lon_facts (n := n) hk b1 b2 b3
  simp only [fitU, Bool.and_eq_true, beq_iff_eq] at h ⊢
  rw [f4] at h
  rw [g4]
  refine ⟨?_, rm_big h4⟩
  have hd : lonN r ∣ lonN r' := by
    rw [if_neg (by omega)] at g2
    by_cases c : r < 4096
    · rw [if_pos c] at f2
      rw [show lonN r = 1 by omega]
      exact Nat.one_dvd _
    · rw [if_neg c] at f2
      have := pow_dvd a1 b1 hle
      rw [f2, g2] at this
      exact Nat.dvd_of_mul_dvd_mul_left (by decide) this
  obtain ⟨d, hd⟩ := hd
  have hd0 : 0 < d := by
    refine Nat.pos_of_ne_zero fun e => ?_
    rw [e, Nat.mul_zero] at hd
    omega
  have hM : M = d * N := by
    have : lonN r * M = lonN r * (d * N) := by rw [← f3, g3, hd, Nat.mul_assoc]
    exact Nat.eq_of_mul_eq_mul_left (by omega) this
  have A := (stN_iff hs (by omega) f3).1 h.1
  refine (stN_iff hs' (by omega) g3).2 fun t ht => ?_
  obtain ⟨u, hu, e⟩ := A (d * t) (by rw [hM]; exact Nat.mul_lt_mul_of_pos_left ht hd0)
  refine ⟨u, hsub u hu, ?_⟩
  rw [hd, ← Nat.div_div_eq_div_mul, e, Nat.mul_div_cancel_left _ hd0]
theorem nofV_rise {base : Nat} {lim ord n : Int} {l : Bls} {r r' : Nat} (h : nofV base lim ord n l r = true) (hr' : szB ord.toNat r' = true) (h4 : 4096 ≤ r') (hle : r ≤ r') : nofV base lim ord n l r' = true := by
  obtain ⟨h1, h2, h3, h5⟩ := nofV_facts h
  obtain ⟨k, rr, L, rfl, rfl, rfl, hk8, hL1, hL64, hrL, hLR, hb0, hbm, hbe⟩ := mayR_facts h1
  have hrR : rr * RS k ≤ 4194304 := Nat.le_trans (Nat.mul_le_mul_right _ hrL) hLR
  rw [Int.toNat_natCast, Int.toNat_natCast] at h2 h5
  rw [Int.toNat_natCast] at h3 hr'
  have S := (Snl.of' hbm hrR h2).su hk8
  refine nofV_mk h1 (by rw [Int.toNat_natCast, Int.toNat_natCast]; exact h2) (by rw [Int.toNat_natCast]; exact hr') ?_
  rw [Int.toNat_natCast, Int.toNat_natCast]
  exact fitU_up hk8 S S (fun u hu => hu) h3 hr' h4 hle h5
theorem nofV_more {base : Nat} {lim ord n : Int} {l l' : Bls} {r : Nat} (h : nofV base lim ord n l r = true) (h4 : 4096 ≤ r) (hsub : ∀ b ∈ l, b ∈ l') (hs : sndV base lim ord n l' = -1) : nofV base lim ord n l' r = true := by
  obtain ⟨h1, h2, h3, h5⟩ := nofV_facts h
  have h6 : sndI base ord.toNat n.toNat l' = -1 := by
    unfold sndV at hs
    rw [if_pos h1] at hs
    exact hs
  obtain ⟨k, rr, L, rfl, rfl, rfl, hk8, hL1, hL64, hrL, hLR, hb0, hbm, hbe⟩ := mayR_facts h1
  have hrR : rr * RS k ≤ 4194304 := Nat.le_trans (Nat.mul_le_mul_right _ hrL) hLR
  refine nofV_mk h1 h6 h3 ?_
  rw [Int.toNat_natCast, Int.toNat_natCast] at h2 h5 h6 ⊢
  rw [Int.toNat_natCast] at h3
  refine fitU_up hk8 ((Snl.of' hbm hrR h2).su hk8) ((Snl.of' hbm hrR h6).su hk8) (fun u hu => ?_) h3 h3 h4 (Nat.le_refl _) h5
  obtain ⟨b, hb, hub⟩ := List.mem_flatMap.1 hu
  exact List.mem_flatMap.2 ⟨b, hsub b hb, hub⟩
/-- Doubled sizes are sizes, as long as they are no greater than a region. -/
theorem szB_dbl {k r : Nat} (h : szB k r = true) (h2 : r * 2 ≤ RS k) : szB k (r * 2) = true := by
  obtain ⟨a1, a2, a3⟩ := szB_iff.1 h
  obtain ⟨i, rfl⟩ := (isP_iff _).1 a1
  exact szB_iff.2 ⟨(isP_iff _).2 ⟨i + 1, by rw [Nat.pow_succ]⟩, by omega, h2⟩
end Go.Proofs.Ytibljocjdlgfbaa
