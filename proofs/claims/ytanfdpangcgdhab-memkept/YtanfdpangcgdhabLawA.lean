/- croftref2.Same; awake; grown. -/
import Derived.Test.YtanfdpangcgdhabMemI
namespace Go.Proofs.Ytanfdpangcgdhab
open Go.RowKit
set_option linter.unusedVariables false

theorem SpaceAt.some {w b ao base R lim n f} (h : SpaceAt w b ao base R lim n f) (hn : 0 < n) : ∃ g, ao = some g := by
  cases ao with
  | none =>
    obtain ⟨cap, _, h1, _⟩ := h.ex
    omega
  | some g => exact ⟨g, rfl⟩

theorem addr_plain {w : World} {a : Addr} {v : Value} (h : w.cell? (a.add 0) = some v) : ∃ b o, a = ⟨b, o, none⟩ := by
  obtain ⟨b, o, s⟩ := a
  cases s with
  | none => exact ⟨b, o, rfl⟩
  | some s =>
    exfalso
    unfold World.cell? Addr.add at h
    split at h
    · simp at h
    · cases h

theorem Same_true (va vb : Value) (m : Nat) (hm : m ≤ 9223372036854775807) (g : Nat → Nat) (w : World) (ha : Bytes w va m g) (hb : Bytes w vb m g) :
    Calls Try.prog 6 #[va, vb] w fun e w' => e = .returned (.bool true) ∧ Kept none' w w' := by
  obtain ⟨-, ao, ac, rfl, ha⟩ := ha
  obtain ⟨-, bo, bc, rfl, hb⟩ := hb
  have HA := hid ha
  have HB := hid hb
  clear ha hb
  go_enter Try.func6, Try.ntmps6
  go_wp2
  go_loopw [5] (fun i wr => ∃ k : Nat, k ≤ m ∧ i = .int .i64 k ∧ ∃ d, wr = w.drewN d) (fun i _ => m - (intOf i).toNat)
  case atStart => exact ⟨0, by omega, rfl, 0, rfl⟩
  case round =>
    obtain ⟨k, hk, rfl, d, rfl⟩ := hrel
    by_cases hlt : k < m
    · obtain ⟨a, rfl, -, hac⟩ := HA.out.resolve_left (by omega)
      obtain ⟨b, rfl, -, hbc⟩ := HB.out.resolve_left (by omega)
      have h1 := hac k hlt
      have h2 := hbc k hlt
      obtain ⟨ab, ad, rfl⟩ := addr_plain (hac 0 (by omega))
      obtain ⟨bb, bd, rfl⟩ := addr_plain (hbc 0 (by omega))
      rw [Addr.add_lit] at h1 h2
      have hik : (k : Int) < (m : Int) := by omega
      clear hac hbc HA HB
      go_wp2
      go_quiet (fail)
      go_wp2
      refine ⟨⟨k + 1, by omega, by simp, _, rfl⟩, by simp [intOf]; omega⟩
    · obtain rfl : k = m := by omega
      go_wp2
      go_ret
      exact ⟨rfl, (Kept.refl _ w).drewN _⟩


/-- What lies at B or behind it. -/
def from' (B : Nat) : Nat → Prop := fun x => B ≤ x

theorem Kept.fresh {B : Nat} {S : Nat → Prop} {a b : World} (h : Kept S a b) (hS : ∀ x, S x → B ≤ x) : Kept (from' B) a b := h.mono (fun x _ => hS x)
theorem Kept.then' {B : Nat} {a b c : World} (h : Kept (from' B) a b) (k : Kept (from' B) b c) : Kept (from' B) a c := h.trans k (fun _ _ x => x) (fun _ _ x => x)

theorem grown_any (k : Nat) (hk1 : 1 ≤ k) (hk : k ≤ 3) (w : World) :
    Calls Try.prog 4 #[.int .i64 (k : Int)] w fun e w' => ∃ b g, e = .returned (.pointer (some ⟨b, 0, none⟩)) ∧ SpaceAt w' b (some g) 1048576 4096 3 (k * 4096) (fun _ => 0) ∧ Kept none' w w' ∧ w.heap.size ≤ b ∧ w.heap.size ≤ g := by
  have hmay : mayB 1048576 3 0 = true := by decide
  have HM := hid hmay
  clear hmay
  go_enter Try.func4, Try.ntmps4
  go_wp2_with fail
  refine (New_ok 1048576 (by decide) 3 0 (by decide) (by decide) (by decide) (by decide) HM.out (fun _ => 0) _).mono ?_
  rintro e w1 ⟨b, rfl, hS, hK, hb⟩
  have HS := hid (show SpaceAt w1 b none 1048576 4096 3 0 (fun _ => 0) from hS)
  have HK := hid hK
  have HB := hid hb
  clear hS hK hb
  go_wp2
  go_loopw [5] (fun i wr => ∃ j : Nat, j ≤ k ∧ i = .int .i64 j ∧ Hid (∃ ao, SpaceAt wr b ao 1048576 4096 3 (j * 4096) (fun _ => 0) ∧ ∀ g, ao = some g → w.heap.size ≤ g) ∧ Hid (Kept none' w wr)) (fun i _ => k - (intOf i).toNat)
  case atStart => exact ⟨0, by omega, rfl, ⟨none, HS.out, fun g e => by cases e⟩, HK⟩
  case round =>
    obtain ⟨j, hj, rfl, hS, hK⟩ := hrel
    clear HS HK
    by_cases hlt : j < k
    · obtain ⟨ao, hS1, hao⟩ := hS.out
      have HA := hid hao
      have HS := hid hS1
      clear hS1 hao hS
      go_wp2_with fail
      refine (Commit_ok b ao 1048576 4096 3 (j * 4096) (fun _ => 0) wr HS.out ⟨j, rfl, by omega⟩).mono ?_
      rintro e w2 ⟨rfl, g, hS2, hK2, hg⟩
      have HS2 := hid (show SpaceAt w2 b (some g) 1048576 4096 3 ((j + 1) * 4096) (fun _ => 0) from by
        have := hS2.congr (f' := fun _ => 0) (fun i _ => by simp [more])
        rwa [Nat.add_mul, Nat.one_mul])
      have HK2 := hid (hK.out.trans (U := none') hK2 (fun _ _ x => x) (fun x hx e => by rcases e with rfl | e; exact absurd HB.out (by omega); exact absurd (HA.out x e) (by omega)))
      have HG := hid (show w.heap.size ≤ g from by rcases hg with e | e; exact HA.out g e; exact Nat.le_trans hK.out.size e)
      clear hS2 hK2 hg
      go_wp2
      refine ⟨⟨j + 1, by omega, by simp, ⟨some g, HS2.out, fun g' e => by injection e with e; subst e; exact HG.out⟩, HK2⟩, by simp [intOf]; omega⟩
    · obtain rfl : j = k := by omega
      go_wp2
      go_ret
      obtain ⟨ao, hS1, hao⟩ := hS.out
      obtain ⟨g, rfl⟩ := hS1.some (by omega)
      exact ⟨b, g, rfl, hS1, hK.out, HB.out, hao g rfl⟩
end Go.Proofs.Ytanfdpangcgdhab
