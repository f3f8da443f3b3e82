/- croftref11.Bound, Total. -/
import Derived.Test.YtibljocjdlgfbaaBoA
import Derived.Test.YtibljocjdlgfbaaBlP
namespace Go.Proofs.Ytibljocjdlgfbaa
open Go.RowKit
set_option linter.unusedVariables false

theorem refBound (r : Nat) (hr : r < 2 ^ 64) (w : World) :
    Calls Try.prog 26 #[.int .u64 (r : Int)] w fun e w' => e = .returned (.tuple #[.int .u64 ((bdC r : Nat) : Int), .int .u64 ((bdM r : Nat) : Int)]) ∧ w' = w := by
  by_cases h16 : r = 16
  · subst h16
    go_enter Try.func26, Try.ntmps26
    go_wp2_with fail
    exact ⟨rfl, .tuple #[.int .u64 4096, .int .u64 32], by simp [results, Try.results26, go_sem], rfl, rfl⟩
  · have h16' : ((r : Int) == 16) = false := by rw [beq_eq_false_iff_ne]; omega
    have E2 := hid (show bdM r = 16 by unfold bdM; rw [if_neg h16])
    clear h16
    by_cases h1 : (r : Int) < 4096
    · have E1 := hid (show bdC r = 4096 by unfold bdC; rw [if_pos (by omega)])
      go_enter Try.func26, Try.ntmps26
      go_wp2_with fail
      exact ⟨rfl, .tuple #[.int .u64 4096, .int .u64 16], by simp [results, Try.results26, go_sem], by rw [E1.out, E2.out]; rfl, rfl⟩
    · have E1 := hid (show bdC r = r by unfold bdC; rw [if_neg (by omega)])
      go_enter Try.func26, Try.ntmps26
      go_wp2_with fail
      exact ⟨rfl, .tuple #[.int .u64 (r : Int), .int .u64 16], by simp [results, Try.results26, go_sem], by rw [E1.out, E2.out]; rfl, rfl⟩

theorem totN_take (l : Bls) (a : Nat) {p s : Nat} (h : l[a]? = some (p, s)) : totN (l.take (a + 1)) = totN (l.take a) + s := by
  rw [List.take_add_one, h]
  simp [totN]
theorem totN_take_le (l : Bls) (a : Nat) : totN (l.take a) ≤ totN l := by
  have : totN l = totN (l.take a) + totN (l.drop a) := by
    have h := congrArg totN (List.take_append_drop a l)
    rw [← h]
    simp only [totN, List.map_append, List.sum_append]
  omega
theorem refTotal (v : Value) (l : Bls) (w : World) (hbl : BL w v l) (ht : totN l ≤ 1073741824) :
    Calls Try.prog 28 #[v] w fun e w' => e = .returned (.int .u64 ((totN l : Nat) : Int)) ∧ Kept none' w w' := by
  obtain ⟨oa, oc, rfl⟩ : ∃ oa oc, v = .slice oa l.length oc := by
    obtain ⟨_, _, oa, oc, hv, _⟩ := hbl
    exact ⟨oa, oc, hv⟩
  have BL0 := hid hbl
  have hlen := hbl.len.2
  have HT := hid ht
  clear hbl ht
  go_enter Try.func28, Try.ntmps28
  go_wp2_with fail
  go_loop [3, 4] (fun t i => ∃ a : Nat, a ≤ l.length ∧ i = .int .i64 a ∧ ∃ z : Nat, t = .int .u64 (z : Int) ∧ Hid (z = totN (l.take a))) (fun _ i => l.length - (intOf i).toNat)
  case atStart => exact ⟨0, Nat.zero_le _, rfl, 0, rfl, hid (by simp [totN])⟩
  case round =>
    obtain ⟨a, ha, rfl, z, rfl, HI⟩ := hrel
    by_cases hlt : a < l.length
    · have hai : (a : Int) < (l.length : Int) := by omega
      obtain ⟨bl, o, p, s, rfl, hla, hp, hs, q0, q1⟩ := BL0.out.at a hlt
      have HN := hid (show z + s = totN (l.take (a + 1)) by rw [totN_take l a hla, HI.out])
      have hb : z + s ≤ 1073741824 := by
        rw [HN.out]
        exact Nat.le_trans (totN_take_le l _) HT.out
      clear hla
      go_wp2_with fail
      go_round
      case rel => exact ⟨a + 1, by omega, by go_num, z + s, by go_num, HN⟩
      case measure => simp [intOf]; omega
    · have hge : ¬ (a : Int) < (l.length : Int) := by omega
      have : a = l.length := by omega
      have E := hid (show z = totN l by rw [HI.out, this, List.take_length])
      clear this
      go_wp2_with fail
      go_ret
      rw [← E.out]
      exact ⟨rfl, Kept.refl _ _⟩
end Go.Proofs.Ytibljocjdlgfbaa
