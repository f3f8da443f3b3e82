/- croftref11.taken; what a stretch meets, by cells and by bytes. -/
import Derived.Test.YtibljocjdlgfbaaRfE
import Derived.Test.YtibljocjdlgfbaaOrI
namespace Go.Proofs.Ytibljocjdlgfbaa
open Go.RowKit
set_option linter.unusedVariables false

/-- Does a stretch of bytes meet a block? -/
def takB (q n : Nat) (l : Bls) : Bool := l.any fun b => meetB q n b.1 b.2

set_option maxRecDepth 4000 in
theorem refTaken (q n : Nat) (v : Value) (l : Bls) (w : World) (hbl : BL w v l) (hq : q + n < 2 ^ 64) (hb : ∀ b ∈ l, b.1 + b.2 < 2 ^ 64) :
    Calls Try.prog 49 #[.int .u64 (q : Int), .int .u64 (n : Int), v] w fun e w' => e = .returned (.bool (takB q n l)) ∧ Kept none' w w' := by
  obtain ⟨oa, oc, rfl⟩ : ∃ oa oc, v = .slice oa l.length oc := by
    obtain ⟨_, _, oa, oc, hv, _⟩ := hbl
    exact ⟨oa, oc, hv⟩
  have BL0 := hid hbl
  have hlen := hbl.len.2
  have HB := hid hb
  clear hbl hb
  go_enter Try.func49, Try.ntmps49
  go_wp2_with fail
  go_loopw [7] (fun i W => ∃ a : Nat, a ≤ l.length ∧ i = .int .i64 a ∧ Hid (Kept none' w W ∧ ∀ j b, j < a → l[j]? = some b → meetB q n b.1 b.2 = false)) (fun i _ => l.length - (intOf i).toNat)
  case atStart => exact ⟨0, Nat.zero_le _, rfl, hid ⟨Kept.refl _ _, fun j b hj => by omega⟩⟩
  case round =>
    obtain ⟨a, ha, rfl, HI⟩ := hrel
    by_cases hlt : a < l.length
    · have hai : (a : Int) < (l.length : Int) := by omega
      obtain ⟨bl, o, p, s, rfl, hla, hp, hs, q0, q1⟩ := (BL0.out.keep HI.out.1).at a hlt
      have HM := hid (fun W => refMeet q n p s hq (HB.out (p, s) (List.mem_of_getElem? hla)) W)
      have HLA := hid hla
      clear hla
      go_wp2_with fail
      refine (HM.out _).mono ?_
      rintro e w2 ⟨rfl, hk⟩
      have K2 := hid (none_trans HI.out.1 hk)
      clear hk q0 q1
      cases hm : meetB q n p s with
      | true =>
        have E := hid (show takB q n l = true from List.any_eq_true.2 ⟨(p, s), List.mem_of_getElem? HLA.out, hm⟩)
        clear hm
        go_wp2_with fail
        go_ret
        exact ⟨ret_bool E.out.symm, K2.out⟩
      | false =>
        have NX := hid (show Kept none' w w2 ∧ ∀ j b, j < a + 1 → l[j]? = some b → meetB q n b.1 b.2 = false from ⟨K2.out, fun j b hj hb => by
          by_cases e : j = a
          · rw [e, HLA.out] at hb
            injection hb with hb
            rw [← hb]; exact hm
          · exact HI.out.2 j b (by omega) hb⟩)
        clear hm
        go_wp2_with fail
        go_round
        case rel => exact ⟨a + 1, by omega, by go_num, NX⟩
        case measure => simp [intOf]; omega
    · have hai : ¬ (a : Int) < (l.length : Int) := by omega
      have E := hid (show takB q n l = false from by
        rw [Bool.eq_false_iff]
        intro h
        obtain ⟨b, hb, hm⟩ := List.any_eq_true.1 h
        obtain ⟨j, hj⟩ := List.mem_iff_getElem?.1 hb
        have := HI.out.2 j b (by have := (List.getElem?_eq_some_iff.1 hj).1; omega) hj
        rw [hm] at this
        cases this)
      go_wp2_with fail
      go_ret
      exact ⟨ret_bool E.out.symm, HI.out.1⟩
end Go.Proofs.Ytibljocjdlgfbaa
