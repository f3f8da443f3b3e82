import Derived.Test.YthglogiglimebaaGreatPwM
import Derived.Test.YthglogiglimebaaGreatPwN
import Derived.Test.YthglogiglimebaaGreatPwO
import Derived.Test.YthglogiglimebaaGreatPwR
import Derived.Test.YthglogiglimebaaGreatPwS
import Derived.Test.YthglogiglimebaaGreatPwT
import Derived.Test.YthglogiglimebaaGreatPwV
/- BuddyPlays: a step of any kind but Take. -/
namespace Go.Proofs.YthglogiglimebaaGreat
open Go.RowKit
set_option linter.unusedVariables false

theorem step_any {E w W lw c x t fr ls fa fc va n vc} (h : PW E w W lw c x t fr ls fa fc va n vc) (hc : n ≤ 1000) (op od tt rf : Int) (hop : op ≠ 4) (sp a : Nat) (ha : a < 18446744073709551616) :
    Calls Tryz.prog 12 #[.pointer (some ⟨lw, 0, none⟩), stV op od tt rf sp, .int .u64 (a : Int)] W fun e w' => StP E w W lw (c + 1) e w' := by
  by_cases h0 : op = 0
  · subst h0; exact step_come h hc od tt rf sp a
  by_cases h1 : op = 1
  · subst h1; exact step_feed h hc od tt rf sp a ha
  by_cases h2 : op = 2
  · subst h2; exact step_pull h hc od tt rf sp a ha
  by_cases h3 : op = 3
  · subst h3; exact step_go h hc od tt rf sp a
  by_cases h5 : op = 5
  · subst h5; exact step_give h hc od tt rf sp a ha
  by_cases h6 : op = 6
  · subst h6; exact step_shrink h hc od tt rf sp a ha
  by_cases h7 : op = 7
  · subst h7; exact step_heads h hc od tt rf sp a
  by_cases h8 : op = 8
  · subst h8
    cases hr : inR (x.o + 1) od with
    | false => exact step_free_no h hc od hr tt rf sp a
    | true =>
      obtain ⟨k, rfl, hk⟩ := inR_nat hr
      exact step_free h hc k (by omega) tt rf sp a
  by_cases h9 : op = 9
  · subst h9; exact step_open h hc od tt rf sp a
  by_cases h10 : op = 10
  · subst h10; exact step_fill h hc od tt rf sp a
  by_cases h11 : op = 11
  · subst h11; exact step_look h hc od tt rf sp a
  exact step_none h op od tt rf ⟨h0, h1, h2, h3, h5, h6, h7, h8, h9, h10, h11⟩ sp a
end Go.Proofs.YthglogiglimebaaGreat
