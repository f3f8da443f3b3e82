/- pagemap: Slab, Head. -/
import Derived.Test.YthglogiglimebaaPgB
namespace Go.Proofs.Ythglogiglimebaa
open Go.RowKit
set_option linter.unusedVariables false

def slabP (c : Int) : Pg := { blankP 4 0 with cl := c }
theorem PgOk.slab (c : Nat) (h : c < 8) : PgOk (slabP c) := ⟨by show (0 : Int) ≤ 0; decide, by show (0 : Int) ≤ 8; decide, by show (0 : Int) ≤ c; omega, by show (c : Int) ≤ 7; omega, by show 0 < _; decide, by show 0 < _; decide, by show 0 < _; decide, by show 0 < _; decide⟩
def slabM (m : Mp) (i c : Int) : Mp := if inR m.n i = true ∧ 0 ≤ c ∧ c ≤ 7 then { m with pg := upp m.pg i.toNat (slabP c) } else m
def slabE (m : Mp) (i c : Int) : Int := if inR m.n i = true ∧ 0 ≤ c ∧ c ≤ 7 then 0 else 1
theorem slabM_n (m : Mp) (i c : Int) : (slabM m i c).n = m.n := by unfold slabM; split <;> rfl
end Go.Proofs.Ythglogiglimebaa
