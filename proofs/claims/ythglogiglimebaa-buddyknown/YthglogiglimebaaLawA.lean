/- croftref2.Same; awake; grown. -/
import Derived.Test.YthglogiglimebaaMemI
namespace Go.Proofs.Ythglogiglimebaa.M
open Go.RowKit
set_option linter.unusedVariables false

theorem SpaceAt.some {w b ao base R lim n f} (h : SpaceAt w b ao base R lim n f) (hn : 0 < n) : ∃ g, ao = some g := by
  cases ao with
  | none =>
    obtain ⟨cap, _, h1, _⟩ := h.ex
    omega
  | some g => exact ⟨g, rfl⟩

theorem addr_plain {w : World} {a : Addr} {v : Value} (h : w.cell? (a.add 0) = some v) : ∃ b o, a = ⟨b, o, none⟩ := by
  obtain ⟨b, o, s⟩ := a
  cases s with
  | none => exact ⟨b, o, rfl⟩
  | some s =>
    exfalso
    unfold World.cell? Addr.add at h
    split at h
    · simp at h
    · cases h

/-- What lies at B or behind it. -/
def from' (B : Nat) : Nat → Prop := fun x => B ≤ x

theorem Kept.fresh {B : Nat} {S : Nat → Prop} {a b : World} (h : Kept S a b) (hS : ∀ x, S x → B ≤ x) : Kept (from' B) a b := h.mono (fun x _ => hS x)
theorem Kept.then' {B : Nat} {a b c : World} (h : Kept (from' B) a b) (k : Kept (from' B) b c) : Kept (from' B) a c := h.trans k (fun _ _ x => x) (fun _ _ x => x)

end Go.Proofs.Ythglogiglimebaa.M
