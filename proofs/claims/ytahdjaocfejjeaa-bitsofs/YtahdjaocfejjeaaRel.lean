/- How the program's sets and the document's own stand to each other. -/
import Derived.Test.YtahdjaocfejjeaaRefV
namespace Go.Proofs.Ytahdjaocfejjeaa
open Go.RowKit
set_option linter.unusedVariables false

theorem tOf_ext (ws zs : List Nat) (n : Nat) (h : ∀ j, j < n → bit ws j = bit zs j) : tOf ws n = tOf zs n := by
  simp only [tOf]
  apply List.map_congr_left
  intro j hj
  exact h j (List.mem_range.1 hj)
theorem tOf_ofW (zs : List Nat) (N : Nat) (hz : ∀ i, zs.getD i 0 < 2 ^ 64) : tOf zs N = tOf (ofW zs N) N :=
  tOf_ext _ _ _ (fun j hj => (bit_ofW zs N j hz hj).symm)

theorem tGet_of (ws : List Nat) (n : Nat) (i : Int) : tGet (tOf ws n) i = inS n ws i := by
  unfold tGet inS
  rw [tOf_len]
  cases h : inR n i with
  | false => simp
  | true =>
    obtain ⟨k, rfl, hk⟩ := inR_true h
    rw [Int.toNat_natCast, tOf_get _ _ _ hk]
theorem tOf_flip (ws : List Nat) (n k : Nat) (hl : ws.length = (n + 63) / 64) (hk : k < n) : (tOf ws n).set k (!bit ws k) = tOf (flipW ws k) n := by
  simp only [tOf]
  apply List.ext_getElem
  · simp
  · intro i h1 h2
    simp only [List.getElem_set, List.getElem_map, List.getElem_range]
    rw [bit_flip ws k i (by omega)]
    by_cases e : k = i
    · subst e; simp
    · have : ¬ i = k := fun h => e h.symm
      simp [e, this]
theorem tFlip_of (ws : List Nat) (n : Nat) (i : Int) (hl : ws.length = (n + 63) / 64) : tPut (tOf ws n) i (!tGet (tOf ws n) i) = tOf (flipI n ws i) n := by
  rw [tGet_of]
  unfold tPut flipI
  rw [tOf_len]
  cases h : inR n i with
  | false => simp
  | true =>
    obtain ⟨k, rfl, hk⟩ := inR_true h
    simp only [if_true, Int.toNat_natCast, inS, h, Bool.true_and]
    exact tOf_flip ws n k hl hk
theorem tOf_same (ws : List Nat) (n k : Nat) (hk : k < n) : (tOf ws n).set k (bit ws k) = tOf ws n := by
  simp only [tOf]
  apply List.ext_getElem
  · simp
  · intro i h1 h2
    simp only [List.getElem_set, List.getElem_map, List.getElem_range]
    by_cases e : k = i
    · subst e; simp
    · simp [e]
theorem tPut_of (ws : List Nat) (n : Nat) (i : Int) (v : Bool) (hl : ws.length = (n + 63) / 64) : tPut (tOf ws n) i v = tOf (putI n ws i v) n := by
  unfold putI
  by_cases hv : inS n ws i = v
  · rw [if_pos hv]
    unfold tPut
    rw [tOf_len]
    cases h : inR n i with
    | false => simp
    | true =>
      obtain ⟨k, rfl, hk⟩ := inR_true h
      simp only [if_true, Int.toNat_natCast]
      unfold inS at hv
      rw [h, Bool.true_and, Int.toNat_natCast] at hv
      rw [← hv]
      exact tOf_same ws n k hk
  · rw [if_neg hv, ← tFlip_of ws n i hl, tGet_of]
    have : v = !inS n ws i := by cases v <;> cases h : inS n ws i <;> simp_all
    rw [this]
theorem tNext_of (ws : List Nat) (n : Nat) (i : Int) : tNext (tOf ws n) i = nxt n ws i := by
  unfold tNext nxt
  rw [tOf_len, nxtN_eq]
  exact nxtF_congr n _ _ _ (fun j hj => tOf_get ws n j hj)
theorem tResize_of (ws : List Nat) (n N : Nat) (hz : ∀ i, ws.getD i 0 < 2 ^ 64) (hp : ∀ j, n ≤ j → bit ws j = false) : (List.range N).map (tAt (tOf ws n)) = tOf (ofW ws N) N := by
  rw [← tOf_ofW ws N hz]
  simp only [tOf]
  apply List.map_congr_left
  intro j hj
  unfold tAt
  by_cases h : j < n
  · exact tOf_get ws n j h
  · rw [hp j (by omega)]
    simp only [List.getD]
    rw [List.getElem?_eq_none (by simp; omega)]
    rfl

theorem size_of (ws : List Nat) (n : Nat) (hl : ws.length = (n + 63) / 64) (hz : ∀ i, ws.getD i 0 < 2 ^ 64) (hp : ∀ j, n ≤ j → bit ws j = false) : cntB (tAt (tOf ws n)) n = cntS ws := by
  unfold cntS
  rw [cntTo_cntB ws hz]
  obtain ⟨k, hk⟩ : ∃ k, 64 * ws.length = n + k := ⟨64 * ws.length - n, by omega⟩
  rw [hk, cntB_past _ _ _ hp]
  exact cntB_congr _ _ _ (fun j hj => tOf_get ws n j hj)
end Go.Proofs.Ytahdjaocfejjeaa
