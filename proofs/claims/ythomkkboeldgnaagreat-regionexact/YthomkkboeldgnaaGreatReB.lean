import Derived.Test.YthomkkboeldgnaaGreatReA
/- RegionExact: full; equal. -/
namespace Go.Proofs.YthomkkboeldgnaaGreat
open Go.RowKit
set_option linter.unusedVariables false

/-- Does each stretch of an order meet a live block? -/
def fullT (ls : List (Nat × Nat)) (j : Nat) : Nat → Bool
  | 0 => true
  | i + 1 => fullT ls j i && mtL ls (i * 2 ^ j) j
theorem fullT_iff (ls : List (Nat × Nat)) (j : Nat) : ∀ m, fullT ls j m = true ↔ ∀ i, i < m → mtL ls (i * 2 ^ j) j = true
  | 0 => ⟨fun _ i hi => by omega, fun _ => rfl⟩
  | m + 1 => by
    rw [fullT, Bool.and_eq_true, fullT_iff ls j m]
    constructor
    · rintro ⟨h1, h2⟩ i hi
      by_cases e : i = m
      · rw [e]; exact h2
      · exact h1 i (by omega)
    · intro h
      exact ⟨fun i hi => h i (by omega), h m (by omega)⟩
set_option maxRecDepth 4000 in
set_option maxHeartbeats 1000000 in
theorem full6 (b : Nat) (hb : b ≤ 9223372036854775808) (l o : Int) (va : Option Addr) (n vc : Nat) (ls : List (Nat × Nat)) (dl : List Value) (hn : n = ls.length) (hn2 : n ≤ 1024) (hL : ∀ p k, (p, k) ∈ ls → p ≤ 1024 ∧ k ≤ 8) (j m a z : Nat) (hj : j ≤ 8) (hm : m * 2 ^ j ≤ 1024) (ha : a = b + 4096 * (m * 2 ^ j)) (hz : z = 4096 * 2 ^ j) (w : World) (h : SPR w b (.slice va n vc) ls dl) :
    Calls Tryz.prog 8 #[.slice va n vc, cfgV b l o, .int .u64 (a : Int), .int .u64 (z : Int)] w fun e w' => e = .returned (.bool (fullT ls j m)) ∧ Kept none' w w' := by
  have K0 := hid ((Kept.refl none' w).alloc (cfgO b l o))
  have X0 := hid (heap_new w (cfgO b l o))
  have H0 := hid (h.keep K0.out)
  have hz1 : 0 < 2 ^ j := Nat.pow_pos (by decide)
  have hz9 : 2 ^ j ≤ 2 ^ 8 := Nat.pow_le_pow_right (by decide) hj
  obtain ⟨v, hv⟩ : ∃ v, v = 2 ^ j := ⟨_, rfl⟩
  rw [← hv] at hz1 hz9 hm ha hz
  have hmb : m ≤ 1024 := by
    have : m * 1 ≤ m * v := Nat.mul_le_mul_left _ hz1
    omega
  have MT := hid (fun (i q c : Nat) (hi : i < m) (hq : q = i * v) (hc : c = b + 4096 * q) (W : World) (S : SPR W b (.slice va n vc) ls dl) => meets6 b hb va n vc ls dl hn hn2 hL q j c z (by
    have h2 : (i + 1) * v ≤ m * v := Nat.mul_le_mul_right _ hi
    rw [Nat.add_mul] at h2
    omega) hj hc (by rw [hz, hv]) W S)
  have HV := hid hv
  have hz2 : z ≤ 1048576 := by omega
  have hz0 : 0 < z := by omega
  have hab : a ≤ 9223372036859049984 := by omega
  have HA := hid ha
  have HZ := hid hz
  have HM := hid hm
  obtain ⟨FF, hFF⟩ : ∃ FF, FF = fullT ls j m := ⟨_, rfl⟩
  rw [← hFF]
  have HF := hid hFF
  clear h hn hL hFF ha hz hz9 hv hm hn2 hz1
  go_enter Tryz.func8, Tryz.ntmps8
  obtain ⟨x0, x1, x2⟩ := cfg3 X0.out
  go_wp2_with fail
  generalize w.alloc (cfgO b l o) = W0 at *
  clear x0 x1 x2
  go_loopw [8, 9] (fun s8 s9 W => ∃ i c : Nat, i ≤ m ∧ s9 = .int .u64 c ∧ c ≤ a ∧ Hid (c = b + i * z ∧ fullT ls j i = true ∧ Kept none' W0 W)) (fun _ i _ => (a - (intOf i).toNat))
  case atStart => exact ⟨0, b, by omega, rfl, by have := HA.out; omega, hid ⟨by omega, rfl, Kept.refl none' _⟩⟩
  case round =>
    obtain ⟨i, c, hi, rfl, hca, hR⟩ := hrel
    have R1 := hid hR.out.1
    have R2 := hid hR.out.2.1
    have R3 := hid hR.out.2.2
    clear hR
    have hzv : ∀ i : Nat, i * z = 4096 * (i * v) := fun i => by rw [HZ.out, Nat.mul_left_comm]
    have ea : a = b + m * z := by rw [hzv, HA.out]
    by_cases hlt : i < m
    · have hlt2 : c < a := by
        have h2 : (i + 1) * z ≤ m * z := Nat.mul_le_mul_right _ hlt
        rw [Nat.add_mul] at h2
        have := R1.out
        omega
      have hlti : (c : Int) < (a : Int) := by omega
      have hnext : c + z ≤ a := by
        have h2 : (i + 1) * z ≤ m * z := Nat.mul_le_mul_right _ hlt
        rw [Nat.add_mul] at h2
        have := R1.out
        omega
      have MC := hid (MT.out i (i * v) c hlt rfl (by rw [R1.out, hzv]) wr (H0.out.keep R3.out))
      cases hmt : mtL ls (i * v) j with
      | true =>
        rw [hmt] at MC
        have D1 := hid (show c + z = b + (i + 1) * z ∧ fullT ls j (i + 1) = true from ⟨by rw [R1.out, Nat.add_mul, Nat.one_mul, Nat.add_assoc], by rw [fullT, R2.out, ← HV.out, hmt]; rfl⟩)
        clear hzv ea hmt MT
        go_wp2_with fail
        refine MC.out.mono ?_
        rintro e w2 ⟨rfl, hk2⟩
        have K2 := hid (none_trans R3.out hk2)
        clear hk2 MC
        go_wp2_with fail
        exact ⟨⟨i + 1, c + z, by omega, by simp, hnext, hid ⟨D1.out.1, D1.out.2, K2.out⟩⟩, by simp [intOf]; omega⟩
      | false =>
        rw [hmt] at MC
        have D1 := hid (show FF = false by
          rw [HF.out]
          cases hf : fullT ls j m with
          | false => rfl
          | true =>
            have := (fullT_iff ls j m).1 hf i hlt
            rw [← HV.out, hmt] at this
            cases this)
        clear hzv ea hmt MT
        go_wp2_with fail
        refine MC.out.mono ?_
        rintro e w2 ⟨rfl, hk2⟩
        have K2 := hid (none_trans K0.out (none_trans R3.out hk2))
        clear hk2 MC
        go_wp2_with fail
        go_ret
        exact ⟨by rw [D1.out]; rfl, K2.out⟩
    · obtain rfl : i = m := by omega
      have hcea : c = a := by rw [R1.out, ea]
      subst hcea
      have hlti : ¬ (c : Int) < (c : Int) := by omega
      have D1 := hid (show FF = true by rw [HF.out]; exact R2.out)
      have K2 := hid (none_trans K0.out R3.out)
      clear hzv ea MT
      go_wp2_with fail
      go_ret
      exact ⟨by rw [D1.out]; rfl, K2.out⟩
set_option maxRecDepth 4000 in
theorem equal6 (aa ab : Option Addr) (m ca cb : Nat) (g : Nat → Nat) (hm : m ≤ 9223372036854775807) (w : World) (ha : M.Bytes w (.slice aa m ca) m g) (hb : M.Bytes w (.slice ab m cb) m g) :
    Calls Tryz.prog 15 #[.slice aa m ca, .slice ab m cb] w fun e w' => e = .returned (.bool true) ∧ Kept none' w w' := by
  have HA := hid ha
  have HB := hid hb
  clear ha hb
  go_enter Tryz.func15, Tryz.ntmps15
  go_wp2_with fail
  go_loopw [4, 5] (fun s4 s5 W => ∃ i : Nat, i ≤ m ∧ s5 = .int .i64 i ∧ Hid (Kept none' w W)) (fun _ i _ => m - (intOf i).toNat)
  case atStart => exact ⟨0, by omega, rfl, hid (Kept.refl none' w)⟩
  case round =>
    obtain ⟨i, hi, rfl, hR⟩ := hrel
    have KD := hid (fun m => (Kept.refl none' wr).drewN m)
    by_cases hlt : i < m
    · have hii : (i : Int) < (m : Int) := by omega
      obtain ⟨_, ao, co, e, hc⟩ := HA.out.keep (ofK hR.out)
      injection e with e1 _ e3
      subst e1 e3
      obtain ⟨_, ao2, co2, e, hc2⟩ := HB.out.keep (ofK hR.out)
      injection e with e1 _ e3
      subst e1 e3
      obtain ⟨x, rfl, _, c1⟩ := hc.resolve_left (by omega)
      obtain ⟨y, rfl, _, c2⟩ := hc2.resolve_left (by omega)
      have d1 := c1 i hlt
      have d2 := c2 i hlt
      obtain ⟨xb, xo, rfl, _⟩ : ∃ b o, x = ⟨b, o, none⟩ ∧ True := by
        obtain ⟨b, o, e, _⟩ := cell_spot (c1 0 (by omega))
        rw [show x.add 0 = x by cases x with | mk a b c => cases c <;> simp [Addr.add]] at e
        exact ⟨b, o, e, trivial⟩
      obtain ⟨yb, yo, rfl, _⟩ : ∃ b o, y = ⟨b, o, none⟩ ∧ True := by
        obtain ⟨b, o, e, _⟩ := cell_spot (c2 0 (by omega))
        rw [show y.add 0 = y by cases y with | mk a b c => cases c <;> simp [Addr.add]] at e
        exact ⟨b, o, e, trivial⟩
      rw [Addr.add_lit] at d1 d2
      clear c1 c2 hc hc2
      go_wp2_with fail
      go_quiet (fail)
      go_wp2_with fail
      exact ⟨⟨i + 1, by omega, by simp, hid (none_trans hR.out (KD.out _))⟩, by simp [intOf]; omega⟩
    · obtain rfl : i = m := by omega
      have hii : ¬ (i : Int) < (i : Int) := by omega
      go_wp2_with fail
      go_ret
      exact ⟨rfl, hR.out⟩
end Go.Proofs.YthomkkboeldgnaaGreat
