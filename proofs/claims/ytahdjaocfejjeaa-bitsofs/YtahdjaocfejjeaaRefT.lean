/- The document's own sets (croftref1), further: Next, Size, Of, Resize, Words. -/
import Derived.Test.YtahdjaocfejjeaaRefS
import Derived.Deep.RegionWith
namespace Go.Proofs.Ytahdjaocfejjeaa
open Go.RowKit
set_option linter.unusedVariables false

def nxtF (n : Nat) (f : Nat → Bool) (k : Nat) : Int := match (List.range n).find? (fun j => decide (k ≤ j) && f j) with | some j => (j : Int) | none => -1
theorem nxtN_eq (n : Nat) (ws : List Nat) (k : Nat) : nxtN n ws k = nxtF n (bit ws) k := rfl
theorem find_congr {l : List Nat} {p q : Nat → Bool} (h : ∀ x ∈ l, p x = q x) : l.find? p = l.find? q := by
  induction l with
  | nil => rfl
  | cons a l ih => simp only [List.find?_cons]; rw [h a (by simp), ih (fun x hx => h x (by simp [hx]))]
theorem nxtF_congr (n : Nat) (f g : Nat → Bool) (k : Nat) (h : ∀ j, j < n → f j = g j) : nxtF n f k = nxtF n g k := by
  unfold nxtF
  rw [find_congr (q := fun j => decide (k ≤ j) && g j) (fun x hx => by rw [h x (List.mem_range.1 hx)])]
theorem nxtF_none (n : Nat) (f : Nat → Bool) (k : Nat) (h : ∀ j, k ≤ j → j < n → f j = false) : nxtF n f k = -1 := by
  unfold nxtF
  have : (List.range n).find? (fun j => decide (k ≤ j) && f j) = none := by
    rw [List.find?_eq_none]
    intro j hj
    rw [List.mem_range] at hj
    by_cases hk : k ≤ j
    · simp [h j hk hj]
    · simp [hk]
  rw [this]
theorem nxtF_some (n : Nat) (f : Nat → Bool) (k j : Nat) (hj : j < n) (hk : k ≤ j) (hb : f j = true) (h : ∀ i, k ≤ i → i < j → f i = false) : nxtF n f k = (j : Int) := by
  unfold nxtF
  have : (List.range n).find? (fun j => decide (k ≤ j) && f j) = some j := by
    rw [List.find?_range_eq_some]
    refine ⟨by simp [hk, hb], by simpa using hj, ?_⟩
    intro i hi
    by_cases hki : k ≤ i
    · simp [h i hki hi]
    · simp [hki]
  rw [this]
def tAt (ts : List Bool) (j : Nat) : Bool := ts.getD j false
def tNext (ts : List Bool) (i : Int) : Int := nxtF ts.length (tAt ts) i.toNat

theorem refNext_nat (g : Nat) (ts : List Bool) (c : Nat) (k0 : Nat) (hk0 : k0 ≤ 9223372036854775807) (w : World) (h : TrueAt w g ts) :
    Calls Try.prog 86 #[.slice (some ⟨g, 0, none⟩) ts.length c, .int .i64 k0] w fun e w' => e = .returned (.int .i64 (nxtF ts.length (tAt ts) k0)) ∧ w' = w := by
  have hle := h.le
  have HA := hid h
  clear h
  go_enter Try.func86, Try.ntmps86
  go_wp2
  go_loop [1] (fun i => ∃ k : Nat, k0 ≤ k ∧ k ≤ 9223372036854775807 ∧ i = .int .i64 k ∧ Hid (∀ j, k0 ≤ j → j < k → tAt ts j = false)) (fun i => ts.length - (intOf i).toNat)
  case atStart => exact ⟨k0, by omega, hk0, rfl, fun j h1 h2 => by omega⟩
  case round =>
    obtain ⟨k, hk, hkb, rfl, hinv⟩ := hrel
    by_cases hlt : k < ts.length
    · have hc := HA.out.cell k hlt
      have hi1 : (k : Int) < (ts.length : Int) := by omega
      cases hx : ts.getD k false with
      | true =>
        rw [hx] at hc
        have E := hid (nxtF_some ts.length (tAt ts) k0 k hlt hk hx hinv.out)
        clear hx
        go_wp2
        go_ret
        exact ⟨ret_int E.out.symm, rfl⟩
      | false =>
        rw [hx] at hc
        have HX := hid hx
        clear hx
        go_wp2
        go_round
        case rel =>
          refine ⟨k + 1, by omega, by omega, by go_num, ?_⟩
          intro j h1 h2
          by_cases e : j < k
          · exact hinv.out j h1 e
          · have : j = k := by omega
            subst this
            exact HX.out
        case measure => simp [intOf]; omega
    · have E := hid (nxtF_none ts.length (tAt ts) k0 (fun j h1 h2 => hinv.out j h1 (by omega)))
      go_wp2
      go_ret
      exact ⟨ret_int E.out.symm, rfl⟩

theorem refNext_neg (g : Nat) (ts : List Bool) (c : Nat) (i0 : Int) (hi0 : i0 < 0) (w : World) (h : TrueAt w g ts) :
    Calls Try.prog 86 #[.slice (some ⟨g, 0, none⟩) ts.length c, .int .i64 i0] w fun e w' => e = .returned (.int .i64 (nxtF ts.length (tAt ts) 0)) ∧ w' = w := by
  have hle := h.le
  have HA := hid h
  clear h
  go_enter Try.func86, Try.ntmps86
  go_wp2
  go_loop [1] (fun i => ∃ k : Nat, k ≤ 9223372036854775807 ∧ i = .int .i64 k ∧ Hid (∀ j, j < k → tAt ts j = false)) (fun i => ts.length - (intOf i).toNat)
  case atStart => exact ⟨0, by omega, rfl, fun j h1 => by omega⟩
  case round =>
    obtain ⟨k, hkb, rfl, hinv⟩ := hrel
    by_cases hlt : k < ts.length
    · have hc := HA.out.cell k hlt
      have hi1 : (k : Int) < (ts.length : Int) := by omega
      cases hx : ts.getD k false with
      | true =>
        rw [hx] at hc
        have E := hid (nxtF_some ts.length (tAt ts) 0 k hlt (Nat.zero_le _) hx (fun j _ h2 => hinv.out j h2))
        clear hx
        go_wp2
        go_ret
        exact ⟨ret_int E.out.symm, rfl⟩
      | false =>
        rw [hx] at hc
        have HX := hid hx
        clear hx
        go_wp2
        go_round
        case rel =>
          refine ⟨k + 1, by omega, by go_num, ?_⟩
          intro j h2
          by_cases e : j < k
          · exact hinv.out j e
          · have : j = k := by omega
            subst this
            exact HX.out
        case measure => simp [intOf]; omega
    · have E := hid (nxtF_none ts.length (tAt ts) 0 (fun j _ h2 => hinv.out j (by omega)))
      go_wp2
      go_ret
      exact ⟨ret_int E.out.symm, rfl⟩

theorem refNext (g : Nat) (ts : List Bool) (c : Nat) (i : Int) (hhi : i ≤ 9223372036854775807) (w : World) (h : TrueAt w g ts) :
    Calls Try.prog 86 #[.slice (some ⟨g, 0, none⟩) ts.length c, .int .i64 i] w fun e w' => e = .returned (.int .i64 (tNext ts i)) ∧ w' = w := by
  by_cases hi : i < 0
  · have e : tNext ts i = nxtF ts.length (tAt ts) 0 := by unfold tNext; rw [show i.toNat = 0 by omega]
    rw [e]
    exact refNext_neg g ts c i hi w h
  · obtain ⟨k, rfl⟩ := Int.eq_ofNat_of_zero_le (by omega : 0 ≤ i)
    have e : tNext ts (k : Int) = nxtF ts.length (tAt ts) k := by unfold tNext; rw [Int.toNat_natCast]
    rw [e]
    exact refNext_nat g ts c k (by omega) w h

theorem refSize (g : Nat) (ts : List Bool) (c : Nat) (w : World) (h : TrueAt w g ts) :
    Calls Try.prog 43 #[.slice (some ⟨g, 0, none⟩) ts.length c] w fun e w' => e = .returned (.int .i64 (cntB (tAt ts) ts.length)) ∧ w' = w := by
  have hle := h.le
  have HA := hid h
  clear h
  go_enter Try.func43, Try.ntmps43
  go_wp2
  go_loop [3, 4] (fun t i => ∃ k n : Nat, k ≤ ts.length ∧ n ≤ k ∧ i = .int .i64 k ∧ t = .int .i64 n ∧ Hid (n = cntB (tAt ts) k)) (fun _ i => ts.length - (intOf i).toNat)
  case atStart => exact ⟨0, 0, by omega, by omega, rfl, rfl, rfl⟩
  case round =>
    obtain ⟨k, n, hk, hn, rfl, rfl, hinv⟩ := hrel
    by_cases hlt : k < ts.length
    · have hc := HA.out.cell k hlt
      have hi1 : (k : Int) < (ts.length : Int) := by omega
      cases hx : ts.getD k false with
      | true =>
        rw [hx] at hc
        have HX := hid (show n + 1 = cntB (tAt ts) (k + 1) by rw [cntB_true (tAt ts) k hx, ← hinv.out])
        clear hx
        go_wp2
        go_round
        case rel => exact ⟨k + 1, n + 1, by omega, by omega, by go_num, by go_num, HX⟩
        case measure => simp [intOf]; omega
      | false =>
        rw [hx] at hc
        have HX := hid (show n = cntB (tAt ts) (k + 1) by rw [cntB_false (tAt ts) k hx]; exact hinv.out)
        clear hx
        go_wp2
        go_round
        case rel => exact ⟨k + 1, n, by omega, by omega, by go_num, rfl, HX⟩
        case measure => simp [intOf]; omega
    · go_wp2
      go_ret
      have : k = ts.length := by omega
      subst this
      exact ⟨ret_int (by rw [hinv.out]), rfl⟩
end Go.Proofs.Ytahdjaocfejjeaa
