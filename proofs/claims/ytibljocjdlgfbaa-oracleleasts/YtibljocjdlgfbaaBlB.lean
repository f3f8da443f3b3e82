/- croftlaw11.left; OracleSounds. -/
import Derived.Test.YtibljocjdlgfbaaBlA
import Derived.Test.YtibljocjdlgfbaaRfE
import Derived.Test.YtibljocjdlgfbaaOrR
namespace Go.Proofs.Ytibljocjdlgfbaa
open Go.RowKit
set_option linter.unusedVariables false

theorem marks_at {l : Bls} {k : Nat} {b : Nat × Nat} (hk : l.length ≤ k) (h : (l ++ marks 8)[k]? = some b) : b = (77, 78) := by
  rw [List.getElem?_append_right hk] at h
  exact List.eq_of_mem_replicate (List.mem_of_getElem? h)

set_option maxRecDepth 4000 in
set_option maxHeartbeats 2000000 in
theorem left_any (g cap : Nat) (v : Value) (l : Bls) (w : World) (hlen : l.length ≤ 8796093022000) (ha : BL w (.slice (some ⟨g, 0, none⟩) (l.length + 8) cap) (l ++ marks 8)) (hbl : BL w v l) :
    Calls Try.prog 23 #[.slice (some ⟨g, 0, none⟩) (l.length + 8) cap, v] w fun e w' => e = .returned (.bool true) ∧ Kept none' w w' := by
  obtain ⟨oa, oc, rfl⟩ : ∃ oa oc, v = .slice oa l.length oc := by
    obtain ⟨_, _, oa, oc, hv, _⟩ := hbl
    exact ⟨oa, oc, hv⟩
  have BL0 := hid hbl
  have BA0 := hid ha
  have hl8 : (l ++ marks 8).length = l.length + 8 := by simp [marks]
  have HL8 := hid hl8
  clear hbl ha hl8
  go_enter Try.func23, Try.ntmps23
  go_wp2_with fail
  go_loopw [5] (fun i W => ∃ a : Nat, a ≤ l.length ∧ i = .int .i64 a ∧ Hid (Kept none' w W)) (fun i _ => l.length - (intOf i).toNat)
  case atStart => exact ⟨0, Nat.zero_le _, rfl, hid (Kept.refl _ _)⟩
  case round =>
    obtain ⟨a, ha, rfl, HK⟩ := hrel
    by_cases hlt : a < l.length
    · have hai : (a : Int) < (l.length : Int) := by omega
      have hai8 : (a : Int) < (l.length : Int) + 8 := by omega
      obtain ⟨bl, o, p, s, rfl, hla, hp, hs, q0, q1⟩ := BL0.out.all HK.out a hlt
      obtain ⟨p2, s2, hl2, _, _, r0, r1⟩ := BA0.out.all' HK.out a (by have := HL8.out; omega)
      rw [List.getElem?_append_left hlt, hla] at hl2
      injection hl2 with hl2
      injection hl2 with e1 e2
      subst e1 e2
      rw [Nat.zero_add] at r0 r1
      clear hla
      go_wp2_with fail
      refine wp_region_kept (by kernel_rfl) (by kernel_rfl) ?_
      repeat (go_big_quiet_step (fail))
      refine wpQuiet_nil ?_
      intro x
      have K2 := hid (none_trans HK.out x.k)
      go_wp2_with fail
      go_round
      case rel => exact ⟨a + 1, by omega, by go_num, K2⟩
      case measure => simp [intOf]; omega
    · obtain rfl : a = l.length := by omega
      have hai : ¬ (l.length : Int) < (l.length : Int) := by omega
      go_wp2_with fail
      go_loopw [6] (fun i W => ∃ a : Nat, a ≤ 8 ∧ i = .int .i64 ((l.length + a : Nat) : Int) ∧ Hid (Kept none' w W)) (fun i _ => l.length + 8 - (intOf i).toNat)
      case atStart => exact ⟨0, by omega, by simp, HK⟩
      case round =>
        clear HK
        obtain ⟨a, ha, rfl, HK⟩ := hrel
        obtain ⟨b, hb⟩ : ∃ b, b = l.length + a := ⟨_, rfl⟩
        rw [← hb]
        by_cases hlt : a < 8
        · have hbi : (b : Int) < (l.length : Int) + 8 := by omega
          obtain ⟨p2, s2, hl2, _, _, r0, r1⟩ := BA0.out.all' HK.out b (by have := HL8.out; omega)
          have e := marks_at (by omega) hl2
          injection e with e1 e2
          subst e1 e2
          rw [Nat.zero_add] at r0 r1
          have c0 := r0 ⟨wr, Kept.refl _ _⟩
          have c1 := r1 ⟨wr, Kept.refl _ _⟩
          have c0' : wr.cell? ⟨g, b * 2, none⟩ = some (.int .u64 77) := c0
          have c1' : wr.cell? ⟨g, b * 2 + 1, none⟩ = some (.int .u64 78) := c1
          have hbn := hid hb
          clear c0 c1 r0 r1 hl2 hb
          go_wp2_with fail
          go_round
          case rel => exact ⟨a + 1, by omega, by have := hbn.out; simp; omega, HK⟩
          case measure => simp [intOf]; omega
        · obtain rfl : a = 8 := by omega
          have hbi : ¬ (b : Int) < (l.length : Int) + 8 := by omega
          clear hb
          go_wp2_with fail
          go_ret
          exact ⟨rfl, HK.out⟩
end Go.Proofs.Ytibljocjdlgfbaa
