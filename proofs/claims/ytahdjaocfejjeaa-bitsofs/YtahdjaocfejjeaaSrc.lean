/- A slice of words that came in. -/
import Derived.Test.YtahdjaocfejjeaaAwake
import Derived.OpenShut
namespace Go.Proofs.Ytahdjaocfejjeaa
open Go.RowKit
set_option linter.unusedVariables false

/-- What came in as a slice of words, as numbers. -/
theorem src_row {w : World} {a : Option Addr} {len cap : Nat} {z : List Int} (h : (a = none ∧ len = 0 ∧ cap = 0 ∧ z = []) ∨
    ∃ x, a = some x ∧ len ≤ cap ∧ cap ≤ maxLen ∧ z.length = cap ∧ (∀ i, i < z.length → w.cell? (x.add i) = some (.int .u64 (z.getD i 0))) ∧ ∀ n ∈ z, (Lit.int .u64 n).wf = true) :
    ∃ zs : List Nat, zs.length = len ∧ len ≤ maxLen ∧ Src w (.slice a len cap) zs := by
  rcases h with ⟨rfl, rfl, rfl, rfl⟩ | ⟨x, rfl, h1, h2, h3, h4, h5⟩
  · exact ⟨[], rfl, Nat.zero_le _, fun i => by simp, none, 0, rfl, Or.inl rfl⟩
  · have hl : ((z.take len).map Int.toNat).length = len := by simp; omega
    have hg : ∀ i, i < len → z.getD i 0 = ((((z.take len).map Int.toNat).getD i 0 : Nat) : Int) ∧ 0 ≤ z.getD i 0 ∧ z.getD i 0 < 2 ^ 64 := by
      intro i hi
      have hiz : i < z.length := by omega
      have hb := bounds_u64 (h5 z[i] (List.getElem_mem hiz))
      have e : z.getD i 0 = z[i] := by simp [List.getD, hiz]
      have e2 : ((z.take len).map Int.toNat).getD i 0 = z[i].toNat := by
        simp [List.getD, hi, hiz]
      rw [e, e2]
      omega
    refine ⟨(z.take len).map Int.toNat, hl, Nat.le_trans h1 h2, ?_, some x, cap, (by rw [hl]), ?_⟩
    · intro i
      by_cases hi : i < len
      · have := hg i hi; omega
      · have : ((z.take len).map Int.toNat).getD i 0 = 0 := by simp only [List.getD]; rw [List.getElem?_eq_none (by omega)]; rfl
        rw [this]; decide
    · by_cases h0 : len = 0
      · left
        exact List.eq_nil_of_length_eq_zero (by rw [hl]; exact h0)
      · right
        refine ⟨x, rfl, ?_, ?_⟩
        · have := h4 0 (by omega)
          have hb : (x.add 0).block < w.heap.size := by
            unfold World.cell? at this
            split at this
            · rename_i hh; exact (Array.getElem?_eq_some_iff.1 hh).1
            · cases this
          rwa [addr_add_block] at hb
        · intro j hj
          rw [hl] at hj
          rw [h4 j (by omega), (hg j hj).1]
end Go.Proofs.Ytahdjaocfejjeaa
