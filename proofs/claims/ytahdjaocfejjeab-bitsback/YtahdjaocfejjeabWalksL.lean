/- BitsWalks. -/
import Derived.Test.YtahdjaocfejjeabSrc
namespace Go.Proofs.Ytahdjaocfejjeab
open Go.RowKit
set_option linter.unusedVariables false

theorem getInS (n : Nat) (ws : List Nat) (j : Nat) (hj : j < n) : inS n ws (j : Int) = bit ws j := by
  unfold inS inR
  rw [decide_eq_true (by omega), Bool.true_and, Int.toNat_natCast]
theorem flipI_in (n : Nat) (ws : List Nat) (j : Nat) (hj : j < n) : flipI n ws (j : Int) = flipW ws j := by
  unfold flipI inR
  rw [decide_eq_true (by omega), if_pos rfl, Int.toNat_natCast]

set_option maxHeartbeats 1000000 in
theorem walks_any (v : Value) (zs : List Nat) (n : Int) (hlo : -9223372036854775808 ≤ n) (hhi : n ≤ 9223372036854775807) (w : World) (hs : Src w v zs) :
    Calls Try.prog 5 #[v, .int .i64 n] w fun e w' => e = .returned (.bool true) ∧ Below w.heap.size w w' := by
  have HS := hid hs
  have hN := fit_le n
  clear hs
  go_enter Try.func5, Try.ntmps5
  go_wp2_with (first | (go_at_call 7; refine (awake_any _).mono ?_; rintro e w1 ⟨rfl, hk⟩; have HK1 := hid hk; clear hk) | (go_at_call 14; refine (of_any v zs n hlo hhi _ (HS.out.kept HK1.out (fun _ _ x => x))).mono ?_; rintro e w2 ⟨rfl, hA, hk, hsz⟩; have HA := hid hA; have HK2 := hid (HK1.out.trans (U := fun _ => False) hk (fun _ _ x => x) (fun _ _ x => x)); have HSZ := hid hsz; clear hA hk hsz) | (go_at_call 15; refine (countS_any _ _ _ _ _ HA.out).mono ?_; rintro e w' ⟨rfl, rfl⟩) | (go_at_call 16; refine (next_any _ _ _ _ 0 (by decide) _ HA.out).mono ?_; rintro e w' ⟨rfl, rfl⟩))
  go_loopw [6, 7, 8] (fun l i la wr => ∃ (ws : List Nat) (L : Int), -1 ≤ L ∧ L < 1048576 ∧ cntS ws ≤ 67108864 ∧ l = .int .i64 (cntS ws) ∧ i = .int .i64 (nxtN (fit n) ws 0) ∧ la = .int .i64 L ∧ Hid (SetAt wr (w1.heap.size + 1) w1.heap.size (fit n) ws) ∧ Hid (∀ j : Nat, (j : Int) ≤ L → bit ws j = false) ∧ Hid (Kept (fun _ => False) w wr)) (fun l _ _ _ => (intOf l).toNat)
  case atStart => exact ⟨_, -1, by omega, by omega, by have := cntTo_le _ HA.out.lt64 (ofW zs (fit n)).length; have h2 := HA.out.len; unfold cntS; omega, rfl, rfl, rfl, HA, fun j hj => by omega, HK2⟩
  case round =>
    obtain ⟨ws, L, hL, hL2, hcl, rfl, rfl, rfl, hA, hbits, hK⟩ := hrel
    have HW := hid (show w.heap.size ≤ w1.heap.size from HK1.out.size)
    clear HA HK2 HSZ HS
    rcases nxtN_cases (fit n) ws 0 with ⟨e, h1⟩ | ⟨j, e, hj, _, hb, hlow⟩
    · rw [e]
      have hc0 : ((cntS ws : Nat) : Int) = 0 := by
        rw [cntS_none ws hA.out.lt64 (fun j => by
          by_cases g : j < fit n
          · exact h1 j (Nat.zero_le _) g
          · exact hA.out.bit_past j (by omega))]; rfl
      clear e h1
      go_wp2_with (first | (go_at_call 17; refine (len_any _ _ _ _ _ (Hid.out (by assumption))).mono ?_; rintro e w' ⟨rfl, rfl⟩) | (go_at_call 18; refine (get_any _ _ _ _ _ _ (Hid.out (by assumption))).mono ?_; rintro e w' ⟨rfl, rfl⟩) | (go_at_call 16; refine (next_any _ _ _ _ _ (by omega) _ (Hid.out (by assumption))).mono ?_; rintro e w' ⟨rfl, rfl⟩) | (go_at_call 15; refine (countS_any _ _ _ _ _ (Hid.out (by assumption))).mono ?_; rintro e w' ⟨rfl, rfl⟩))
      go_ret
      exact ⟨rfl, hK.out.below (Nat.le_refl _) (fun _ h => h.elim)⟩
    · rw [e]
      have hlj : L < (j : Int) := by
        rcases Int.lt_or_le L (j : Int) with g | g
        · exact g
        · rw [hbits.out j g] at hb; cases hb
      have hl64 : j / 64 < ws.length := by have := hA.out.len; omega
      have hfl := hid (flipI_in (fit n) ws j hj)
      have hg1 : inS (fit n) ws (j : Int) = true := by rw [getInS _ _ _ hj]; exact hb
      have hn1 : nxt (fit n) ws (j : Int) = (j : Int) := by
        unfold nxt; rw [Int.toNat_natCast]; exact nxtN_some _ _ _ _ hj (Nat.le_refl _) hb (fun i h1 h2 => by omega)
      have hR : inR (fit n) (j : Int) = true := by unfold inR; exact decide_eq_true (by omega)
      have hbf : ∀ i : Nat, (i : Int) ≤ (j : Int) → bit (flipW ws j) i = false := by
        intro i hi
        rw [bit_flip ws j i hl64]
        by_cases g : i = j
        · rw [if_pos g, hb]; rfl
        · rw [if_neg g]; exact hlow i (Nat.zero_le _) (by omega)
      have hg2 : inS (fit n) (flipW ws j) (j : Int) = false := by rw [getInS _ _ _ hj]; exact hbf j (Int.le_refl _)
      have hz2 : ∀ i, (flipW ws j).getD i 0 < 2 ^ 64 := by
        intro i
        unfold flipW
        by_cases g : i = j / 64
        · subst g; rw [getD_set_same _ _ _ hl64]; exact Nat.xor_lt_two_pow (hA.out.lt64 _) ((pow_lt _ _).2 (by omega))
        · rw [getD_set_ne _ _ _ _ g]; exact hA.out.lt64 i
      have hcs := cntS_flip ws j hA.out.lt64 hz2 hl64 hb
      have hn2 : nxt (fit n) (flipW ws j) (j : Int) = nxtN (fit n) (flipW ws j) 0 := by
        unfold nxt; rw [Int.toNat_natCast]; exact nxtN_low _ _ _ (fun i hi => hbf i (by omega))
      obtain ⟨ws2, hws2⟩ : ∃ ws2, ws2 = flipW ws j := ⟨_, rfl⟩
      rw [← hws2] at hg2 hcs hbf hn2 hfl
      have hcI : ((cntS ws : Nat) : Int) - 1 = ((cntS ws2 : Nat) : Int) := by omega
      have HBF := hid hbf
      have hjN : (j : Int) < ((fit n : Nat) : Int) := by omega
      have hjb : j ≤ 1048576 := by omega
      have HCS := hid hcs
      clear e hb hlow hbf hz2 hcs hws2 hbits hl64 HK1
      by_cases h4 : (j : Int) % 4099 = 0
      all_goals
        go_wp2_with (first | (go_at_call 17; refine (len_any _ _ _ _ _ (Hid.out (by assumption))).mono ?_; rintro e w' ⟨rfl, rfl⟩) | (go_at_call 18; refine (get_any _ _ _ _ _ _ (Hid.out (by assumption))).mono ?_; rintro e w' ⟨rfl, rfl⟩) | (go_at_call 16; refine (next_any _ _ _ _ _ (by omega) _ (Hid.out (by assumption))).mono ?_; rintro e w' ⟨rfl, rfl⟩) | (go_at_call 15; refine (countS_any _ _ _ _ _ (Hid.out (by assumption))).mono ?_; rintro e w' ⟨rfl, rfl⟩) | (go_at_call 19; refine (flip_any _ _ _ _ _ _ (Hid.out (by assumption))).mono ?_; rintro e w3 ⟨rfl, hB, hkB, hszB⟩; rw [hfl.out] at hB; have HB := hid hB; have HK3 := hid (hK.out.trans (U := fun _ => False) hkB (fun _ _ x => x) (fun x hx e => by have := HW.out; omega)); clear hA hB hkB hszB))
        go_roundw
        case rel => exact ⟨ws2, j, by omega, by omega, by have := HCS.out; omega, rfl, rfl, rfl, HB, HBF, HK3⟩
        case measure => (have := HCS.out); (simp [intOf]); omega
end Go.Proofs.Ytahdjaocfejjeab
