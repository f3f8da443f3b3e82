/- croftref2.Same; awake; grown. -/
import Derived.Test.YtnkoheanjaapjaaMemI
namespace Go.Proofs.Ytnkoheanjaapjaa
open Go.RowKit
set_option linter.unusedVariables false

theorem SpaceAt.some {w b ao base R lim n f} (h : SpaceAt w b ao base R lim n f) (hn : 0 < n) : ∃ g, ao = some g := by
  cases ao with
  | none =>
    obtain ⟨cap, _, h1, _⟩ := h.ex
    omega
  | some g => exact ⟨g, rfl⟩

theorem addr_plain {w : World} {a : Addr} {v : Value} (h : w.cell? (a.add 0) = some v) : ∃ b o, a = ⟨b, o, none⟩ := by
  obtain ⟨b, o, s⟩ := a
  cases s with
  | none => exact ⟨b, o, rfl⟩
  | some s =>
    exfalso
    unfold World.cell? Addr.add at h
    split at h
    · simp at h
    · cases h

theorem Same_true (va vb : Value) (m : Nat) (hm : m ≤ 9223372036854775807) (g : Nat → Nat) (w : World) (ha : Bytes w va m g) (hb : Bytes w vb m g) :
    Calls Try.prog 24 #[va, vb] w fun e w' => e = .returned (.bool true) ∧ Kept none' w w' := by
  obtain ⟨-, ao, ac, rfl, ha⟩ := ha
  obtain ⟨-, bo, bc, rfl, hb⟩ := hb
  have HA := hid ha
  have HB := hid hb
  clear ha hb
  go_enter Try.func24, Try.ntmps24
  go_wp2
  go_loopw [5] (fun i wr => ∃ k : Nat, k ≤ m ∧ i = .int .i64 k ∧ ∃ d, wr = w.drewN d) (fun i _ => m - (intOf i).toNat)
  case atStart => exact ⟨0, by omega, rfl, 0, rfl⟩
  case round =>
    obtain ⟨k, hk, rfl, d, rfl⟩ := hrel
    by_cases hlt : k < m
    · obtain ⟨a, rfl, -, hac⟩ := HA.out.resolve_left (by omega)
      obtain ⟨b, rfl, -, hbc⟩ := HB.out.resolve_left (by omega)
      have h1 := hac k hlt
      have h2 := hbc k hlt
      obtain ⟨ab, ad, rfl⟩ := addr_plain (hac 0 (by omega))
      obtain ⟨bb, bd, rfl⟩ := addr_plain (hbc 0 (by omega))
      rw [Addr.add_lit] at h1 h2
      have hik : (k : Int) < (m : Int) := by omega
      clear hac hbc HA HB
      go_wp2
      go_quiet (fail)
      go_wp2
      refine ⟨⟨k + 1, by omega, by simp, _, rfl⟩, by simp [intOf]; omega⟩
    · obtain rfl : k = m := by omega
      go_wp2
      go_ret
      exact ⟨rfl, (Kept.refl _ w).drewN _⟩


/-- What lies at B or behind it. -/
def from' (B : Nat) : Nat → Prop := fun x => B ≤ x

theorem Kept.fresh {B : Nat} {S : Nat → Prop} {a b : World} (h : Kept S a b) (hS : ∀ x, S x → B ≤ x) : Kept (from' B) a b := h.mono (fun x _ => hS x)
theorem Kept.then' {B : Nat} {a b c : World} (h : Kept (from' B) a b) (k : Kept (from' B) b c) : Kept (from' B) a c := h.trans k (fun _ _ x => x) (fun _ _ x => x)

end Go.Proofs.Ytnkoheanjaapjaa
