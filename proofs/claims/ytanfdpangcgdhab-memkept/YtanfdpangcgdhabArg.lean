/- A slice of bytes that came in. -/
import Derived.Test.YtanfdpangcgdhabLawA
import Derived.OpenShut
namespace Go.Proofs.Ytanfdpangcgdhab
open Go.RowKit
set_option linter.unusedVariables false

/-- What came in as a slice of bytes, as numbers. -/
theorem bytes_row {w : World} {a : Option Addr} {len cap : Nat} {z : List Int} (h : (a = none ∧ len = 0 ∧ cap = 0 ∧ z = []) ∨
    ∃ x, a = some x ∧ len ≤ cap ∧ cap ≤ maxLen ∧ z.length = cap ∧ (∀ i, i < z.length → w.cell? (x.add i) = some (.int .u8 (z.getD i 0))) ∧ ∀ n ∈ z, (Lit.int .u8 n).wf = true) :
    ∃ g : Nat → Nat, len ≤ cap ∧ len ≤ maxLen ∧ Bytes w (.slice a len cap) len g := by
  rcases h with ⟨rfl, rfl, rfl, rfl⟩ | ⟨x, rfl, h1, h2, h3, h4, h5⟩
  · exact ⟨fun _ => 0, Nat.le_refl _, Nat.zero_le _, fun i hi => by omega, none, 0, rfl, Or.inl rfl⟩
  · have hg : ∀ i, i < len → z.getD i 0 = (((z.getD i 0).toNat : Nat) : Int) ∧ 0 ≤ z.getD i 0 ∧ z.getD i 0 < 256 := by
      intro i hi
      have hiz : i < z.length := by omega
      have hb := bounds_u8 (h5 z[i] (List.getElem_mem hiz))
      have e : z.getD i 0 = z[i] := by simp [List.getD, hiz]
      rw [e]
      omega
    refine ⟨fun i => (z.getD i 0).toNat, h1, Nat.le_trans h1 h2, fun i hi => by have := hg i hi; show (z.getD i 0).toNat < 256; omega, some x, cap, rfl, ?_⟩
    by_cases h0 : len = 0
    · exact Or.inl h0
    · right
      refine ⟨x, rfl, ?_, ?_⟩
      · have := lt_of_cell (h4 0 (by omega))
        rwa [addr_add_block] at this
      · intro j hj
        rw [h4 j (by omega), ← (hg j hj).1]
end Go.Proofs.Ytanfdpangcgdhab
