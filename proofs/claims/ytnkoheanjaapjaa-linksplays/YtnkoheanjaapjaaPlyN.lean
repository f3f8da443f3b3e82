/- LinksPlays: any step. -/
import Derived.Test.YtnkoheanjaapjaaPlyC
import Derived.Test.YtnkoheanjaapjaaPlyD
import Derived.Test.YtnkoheanjaapjaaPlyE
import Derived.Test.YtnkoheanjaapjaaPlyF
import Derived.Test.YtnkoheanjaapjaaPlyG
import Derived.Test.YtnkoheanjaapjaaPlyH
import Derived.Test.YtnkoheanjaapjaaPlyI
import Derived.Test.YtnkoheanjaapjaaPlyJ
import Derived.Test.YtnkoheanjaapjaaPlyK
import Derived.Test.YtnkoheanjaapjaaPlyL
import Derived.Test.YtnkoheanjaapjaaPlyM2
import Derived.Test.YtnkoheanjaapjaaPlyM3
namespace Go.Proofs.Ytnkoheanjaapjaa
open Go.RowKit
set_option linter.unusedVariables false

theorem step_any (A B b : Nat) (ao mo : Option Nat) (n cap : Nat) (f cs hs : Nat → Nat) (hn : n ≤ 4194304) (op li : Int) (p v : Nat) (hp : p < 18446744073709551616) (hv' : v < 18446744073709551616) (w : World) (t : Trio w A B b ao mo n cap f cs hs f hs) :
    Calls Try.prog 22 #[.pointer (some ⟨b, 0, none⟩), .agg #[.int .u64 4096, .int .u64 4096, .int .i64 3, .slice (adr mo) n cap], .pointer (some ⟨A, 0, none⟩), .pointer (some ⟨B, 0, none⟩), .agg #[.int .i64 op, .int .i64 li, .int .u64 (p : Int), .int .u64 (v : Int)]] w (Post A B b ao mo n cap cs w) := by
  have hli : li < 0 ∨ 2 < li ∨ ∃ k : Nat, k < 3 ∧ li = k := by
    by_cases h1 : li < 0
    · exact .inl h1
    · by_cases h2 : 2 < li
      · exact .inr (.inl h2)
      · exact .inr (.inr ⟨li.toNat, by omega, by omega⟩)
  rcases hli with hk1 | hk2 | ⟨k, hk, rfl⟩
  · by_cases g0 : op = 0
    · subst g0
      exact step_push_b A B b ao mo n cap f cs hs hn li hk1 p v hp hv' w t
    by_cases g1 : op = 1
    · subst g1
      exact step_pop_b A B b ao mo n cap f cs hs hn li hk1 p v hp hv' w t
    by_cases g2 : op = 2
    · subst g2
      exact step_remove_b A B b ao mo n cap f cs hs hn li hk1 p v hp hv' w t
    by_cases g3 : op = 3
    · subst g3
      exact step_head_b A B b ao mo n cap f cs hs hn li hk1 p v hp hv' w t
    by_cases g6 : op = 6
    · subst g6
      exact step_new_b A B b ao mo n cap f cs hs hn li hk1 p v hp hv' w t
    by_cases g4 : op = 4
    · subst g4
      by_cases hv1 : v < 1048576
      · exact step_all_b A B b ao mo n cap f cs hs hn li hk1 p v hp hv' hv1 w t
      · exact step_all_b2 A B b ao mo n cap f cs hs hn li hk1 p v hp hv' (by omega) w t
    by_cases g5 : op = 5
    · subst g5
      by_cases hin : In 4096 n p 8
      · exact step_word_b A B b ao mo n cap f cs hs hn li hk1 p v hp hv' hin w t
      · exact step_wordo_b A B b ao mo n cap f cs hs hn li hk1 p v hp hv' hin w t
    by_cases g7 : op = 7
    · subst g7
      by_cases hin : In 4096 n p 8
      · exact step_look_b A B b ao mo n cap f cs hs hn li hk1 p v hp hv' hin w t
      · exact step_looko_b A B b ao mo n cap f cs hs hn li hk1 p v hp hv' hin w t
    exact step_other_b A B b ao mo n cap f cs hs hn li hk1 p v hp hv' op g0 g1 g2 g3 g4 g5 g6 g7 w t
  · by_cases g0 : op = 0
    · subst g0
      exact step_push_c A B b ao mo n cap f cs hs hn li hk2 p v hp hv' w t
    by_cases g1 : op = 1
    · subst g1
      exact step_pop_c A B b ao mo n cap f cs hs hn li hk2 p v hp hv' w t
    by_cases g2 : op = 2
    · subst g2
      exact step_remove_c A B b ao mo n cap f cs hs hn li hk2 p v hp hv' w t
    by_cases g3 : op = 3
    · subst g3
      exact step_head_c A B b ao mo n cap f cs hs hn li hk2 p v hp hv' w t
    by_cases g6 : op = 6
    · subst g6
      exact step_new_c A B b ao mo n cap f cs hs hn li hk2 p v hp hv' w t
    by_cases g4 : op = 4
    · subst g4
      by_cases hv1 : v < 1048576
      · exact step_all_c A B b ao mo n cap f cs hs hn li hk2 p v hp hv' hv1 w t
      · exact step_all_c2 A B b ao mo n cap f cs hs hn li hk2 p v hp hv' (by omega) w t
    by_cases g5 : op = 5
    · subst g5
      by_cases hin : In 4096 n p 8
      · exact step_word_c A B b ao mo n cap f cs hs hn li hk2 p v hp hv' hin w t
      · exact step_wordo_c A B b ao mo n cap f cs hs hn li hk2 p v hp hv' hin w t
    by_cases g7 : op = 7
    · subst g7
      by_cases hin : In 4096 n p 8
      · exact step_look_c A B b ao mo n cap f cs hs hn li hk2 p v hp hv' hin w t
      · exact step_looko_c A B b ao mo n cap f cs hs hn li hk2 p v hp hv' hin w t
    exact step_other_c A B b ao mo n cap f cs hs hn li hk2 p v hp hv' op g0 g1 g2 g3 g4 g5 g6 g7 w t
  · by_cases g0 : op = 0
    · subst g0
      exact step_push_a A B b ao mo n cap f cs hs hn k hk p v hp hv' w t
    by_cases g1 : op = 1
    · subst g1
      exact step_pop_a A B b ao mo n cap f cs hs hn k hk p v hp hv' w t
    by_cases g2 : op = 2
    · subst g2
      exact step_remove_a A B b ao mo n cap f cs hs hn k hk p v hp hv' w t
    by_cases g3 : op = 3
    · subst g3
      exact step_head_a A B b ao mo n cap f cs hs hn k hk p v hp hv' w t
    by_cases g6 : op = 6
    · subst g6
      exact step_new_a A B b ao mo n cap f cs hs hn k hk p v hp hv' w t
    by_cases g4 : op = 4
    · subst g4
      by_cases hv1 : v < 1048576
      · exact step_all_a A B b ao mo n cap f cs hs hn k hk p v hp hv' hv1 w t
      · exact step_all_a2 A B b ao mo n cap f cs hs hn k hk p v hp hv' (by omega) w t
    by_cases g5 : op = 5
    · subst g5
      by_cases hin : In 4096 n p 8
      · exact step_word_a A B b ao mo n cap f cs hs hn k hk p v hp hv' hin w t
      · exact step_wordo_a A B b ao mo n cap f cs hs hn k hk p v hp hv' hin w t
    by_cases g7 : op = 7
    · subst g7
      by_cases hin : In 4096 n p 8
      · exact step_look_a A B b ao mo n cap f cs hs hn k hk p v hp hv' hin w t
      · exact step_looko_a A B b ao mo n cap f cs hs hn k hk p v hp hv' hin w t
    exact step_other_a A B b ao mo n cap f cs hs hn k hk p v hp hv' op g0 g1 g2 g3 g4 g5 g6 g7 w t
end Go.Proofs.Ytnkoheanjaapjaa
