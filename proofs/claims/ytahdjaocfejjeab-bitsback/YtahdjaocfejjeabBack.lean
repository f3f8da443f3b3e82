/- BitsBack. -/
import Derived.Test.YtahdjaocfejjeabWalksL
namespace Go.Proofs.Ytahdjaocfejjeab
open Go.RowKit
set_option linter.unusedVariables false

theorem bit_ofW_all (zs : List Nat) (N j : Nat) (hz : ∀ i, zs.getD i 0 < 2 ^ 64) : bit (ofW zs N) j = (decide (j < N) && bit zs j) := by
  by_cases h : j < N
  · rw [bit_ofW zs N j hz h, decide_eq_true h, Bool.true_and]
  · rw [decide_eq_false h, Bool.false_and]
    by_cases h2 : j / 64 < (N + 63) / 64
    · rw [bit_tb, ofW_get zs N (j / 64) hz h2, Nat.testBit_mod_two_pow]
      have : ¬ j % 64 < min 64 (N - 64 * (j / 64)) := by omega
      simp [this]
    · unfold bit
      have : (ofW zs N).getD (j / 64) 0 = 0 := by simp only [List.getD]; rw [List.getElem?_eq_none (by rw [ofW_len]; omega)]; rfl
      rw [this]; simp
theorem ofW_lt (zs : List Nat) (N : Nat) (hz : ∀ i, zs.getD i 0 < 2 ^ 64) (i : Nat) : (ofW zs N).getD i 0 < 2 ^ 64 := by
  by_cases h : i < (N + 63) / 64
  · rw [ofW_get zs N i hz h]; exact Nat.lt_of_le_of_lt (Nat.mod_le _ _) (hz i)
  · have : (ofW zs N).getD i 0 = 0 := by simp only [List.getD]; rw [List.getElem?_eq_none (by rw [ofW_len]; omega)]; rfl
    rw [this]; decide
theorem fit_cast (N : Nat) (h : N ≤ 1048576) : fit (N : Int) = N := by unfold fit; split <;> (try split) <;> omega
theorem fit_lt (cut : Int) (k : Nat) (hk : k < 1048576) : (k < fit cut) ↔ (k : Int) < cut := by unfold fit; split <;> (try split) <;> omega

set_option maxHeartbeats 1000000 in
theorem back_any (v : Value) (zs : List Nat) (n cut : Int) (hlo : -9223372036854775808 ≤ n) (hhi : n ≤ 9223372036854775807) (clo : -9223372036854775808 ≤ cut) (chi : cut ≤ 9223372036854775807) (w : World) (hs : Src w v zs) :
    Calls Try.prog 6 #[v, .int .i64 n, .int .i64 cut] w fun e w' => e = .returned (.bool true) ∧ Below w.heap.size w w' := by
  have HS := hid hs
  have hN := fit_le n
  clear hs
  go_enter Try.func6, Try.ntmps6
  go_wp2_with fail
  refine (awake_any _).mono ?_
  rintro e w1 ⟨rfl, hk1⟩
  have HK1 := hid hk1
  clear hk1
  go_wp2_with fail
  refine (of_any v zs n hlo hhi _ (HS.out.kept HK1.out (fun _ _ x => x))).mono ?_
  rintro e w2 ⟨rfl, hA, hk, hsz⟩
  obtain ⟨N, hNd⟩ : ∃ N, N = fit n := ⟨_, rfl⟩
  rw [← hNd] at hA hN
  have hbit : ∀ j, j < N → bit (ofW zs N) j = bit zs j := fun j hj => bit_ofW zs N j HS.out.1 hj
  obtain ⟨ws, hws⟩ : ∃ ws, ws = ofW zs N := ⟨_, rfl⟩
  rw [← hws] at hA
  have HA := hid hA
  have HK2 := hid (HK1.out.trans (U := fun _ => False) hk (fun _ _ x => x) (fun _ _ x => x))
  have HSZ2 := hid hsz
  clear hA hk hsz hbit hws hNd
  go_wp2_with fail
  refine (len_any _ _ _ _ _ HA.out).mono ?_
  rintro e w' ⟨rfl, hw⟩
  subst hw
  go_wp2_with fail
  refine (words_any _ _ _ _ _ HA.out).mono ?_
  rintro e w3 ⟨rfl, hg, hk, hsz⟩
  have HSW := hid (src_block hg HA.out.lt64 ws.length)
  have HA3 := hid (HA.out.kept hk (fun x => x) (fun x => x))
  have HK3 := hid (HK2.out.trans (U := fun _ => False) hk (fun _ _ x => x) (fun _ _ x => x))
  have HSZ3 := hid hsz
  clear hg hk hsz
  go_wp2_with fail
  refine (of_any _ ws (N : Int) (by omega) (by omega) _ HSW.out).mono ?_
  rintro e w4 ⟨rfl, hT, hk, hsz⟩
  rw [fit_cast N hN] at hT
  have HT4 := hid hT
  have HA4 := hid (HA3.out.kept hk (fun x => x) (fun x => x))
  have HK4 := hid (HK3.out.trans (U := fun _ => False) hk (fun _ _ x => x) (fun _ _ x => x))
  have HSZ4 := hid hsz
  clear hT hk hsz
  go_wp2_with fail
  refine (len_any _ _ _ _ _ HT4.out).mono ?_
  rintro e w' ⟨rfl, hw⟩
  subst hw
  go_wp2_with fail
  refine (resize_any _ _ _ _ cut clo chi _ HT4.out).mono ?_
  rintro e w5 ⟨rfl, hT, hk, hsz⟩
  have HW := hid (show w1.heap.size + 1 < w3.heap.size ∧ w.heap.size ≤ w1.heap.size by
    have h1 := HSZ2.out
    have h2 := HSZ3.out
    have h3 := HK1.out.size
    omega)
  have HT5 := hid hT
  have HA5 := hid (HA4.out.kept hk (fun e => by have := HW.out; omega) (fun e => by have := HW.out; omega))
  have HK5 := hid (HK4.out.trans (U := fun _ => False) hk (fun _ _ x => x) (fun x hx e => by have := HW.out; omega))
  clear hT hk hsz
  go_wp2_with fail
  refine (resize_any _ _ _ _ (N : Int) (by omega) (by omega) _ HT5.out).mono ?_
  rintro e w6 ⟨rfl, hT, hk, hsz⟩
  rw [fit_cast N hN] at hT
  have HT6 := hid hT
  have HA6 := hid (HA5.out.kept hk (fun e => by have := HW.out; omega) (fun e => by have := HW.out; omega))
  have HK6 := hid (HK5.out.trans (U := fun _ => False) hk (fun _ _ x => x) (fun x hx e => by have := HW.out; omega))
  clear hT hk hsz
  have hin : ∀ k, k < N → inS N (ofW (ofW (ofW ws N) (fit cut)) N) (k : Int) = (inS N ws (k : Int) && decide ((k : Int) < cut)) := by
    intro k hk
    have hz := HA.out.lt64
    have hz1 := ofW_lt ws N hz
    have hz2 := ofW_lt _ (fit cut) hz1
    rw [getInS _ _ _ hk, getInS _ _ _ hk, bit_ofW_all _ _ _ hz2, bit_ofW_all _ _ _ hz1, bit_ofW_all _ _ _ hz, decide_eq_true hk]
    have := fit_lt cut k (by omega)
    simp [this, Bool.and_comm]
  have HIN := hid hin
  obtain ⟨wt, hwt⟩ : ∃ wt, wt = ofW (ofW (ofW ws N) (fit cut)) N := ⟨_, rfl⟩
  rw [← hwt] at HT6 HIN
  clear hin hwt HT5 HT4 HA HA3 HA4 HA5 HSW HS HK1 HK2 HK3 HK4 HK5 HSZ2 HSZ3 HSZ4 HW
  go_wp2_with fail
  go_loop [10] (fun i => ∃ k : Nat, k ≤ N ∧ i = .int .i64 k) (fun i => N - (intOf i).toNat)
  case atStart => exact ⟨0, by omega, rfl⟩
  case round =>
    obtain ⟨k, hk, rfl⟩ := hrel
    by_cases hlt : k < N
    · have hr := HIN.out k hlt
      cases hx : inS N ws (k : Int) with
      | false =>
        rw [hx, Bool.false_and] at hr
        go_wp2_with (go_at_call 18; refine (get_any _ _ _ _ _ _ (Hid.out (by assumption))).mono ?_; rintro e w' ⟨rfl, hw⟩; subst hw)
        go_round
        case rel => exact ⟨k + 1, by omega, by go_num⟩
        case measure => simp [intOf]; omega
      | true =>
        rw [hx, Bool.true_and] at hr
        go_wp2_with (go_at_call 18; refine (get_any _ _ _ _ _ _ (Hid.out (by assumption))).mono ?_; rintro e w' ⟨rfl, hw⟩; subst hw)
        go_round
        case rel => exact ⟨k + 1, by omega, by go_num⟩
        case measure => simp [intOf]; omega
    · go_wp2_with (go_at_call 17; refine (len_any _ _ _ _ _ (Hid.out (by assumption))).mono ?_; rintro e w' ⟨rfl, hw⟩; subst hw)
      go_ret
      exact ⟨rfl, HK6.out.below (Nat.le_refl _) (fun _ h => h.elim)⟩
end Go.Proofs.Ytahdjaocfejjeab
