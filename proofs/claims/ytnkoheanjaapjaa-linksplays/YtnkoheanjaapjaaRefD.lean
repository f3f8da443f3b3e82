/- croftref2.Write, Read. -/
import Derived.Test.YtnkoheanjaapjaaRefC
namespace Go.Proofs.Ytnkoheanjaapjaa
open Go.RowKit
set_option linter.unusedVariables false

theorem Kept.nothing {S : Nat → Prop} {a b : World} (h : Kept S a b) (hS : ∀ x, S x → a.heap.size ≤ x) : Kept none' a b := h.mono (fun x hx hs => absurd (hS x hs) (by omega))

theorem bytes_one (w : World) (x : Nat) (hx : x < 256) : Bytes (w.alloc (.cells #[.int .u8 (x : Int)] 5)) (.slice (some ⟨w.heap.size, 0, none⟩) 1 1) 1 (fun _ => x) :=
  ⟨fun _ _ => hx, _, _, rfl, Or.inr ⟨⟨w.heap.size, 0, none⟩, rfl, by simp, fun j hj => by
    obtain rfl : j = 0 := by omega
    rw [Addr.add_lit]
    simp only [World.cell?, heap_new]
    rfl⟩⟩

end Go.Proofs.Ytnkoheanjaapjaa
