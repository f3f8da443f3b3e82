/- MemCopies. -/
import Derived.Test.YtanfdpangcgdhabHolds
namespace Go.Proofs.Ytanfdpangcgdhab
open Go.RowKit
set_option linter.unusedVariables false

theorem Blk.slice {w h m g} (H : Blk w h m g) : Bytes w (.slice (some ⟨h, 0, none⟩) m m) m g := H.bytes m
theorem Bytes.congr {w v m g g'} (h : Bytes w v m g) (hg : ∀ i, i < m → g i = g' i) : Bytes w v m g' := by
  obtain ⟨h1, ao, cap, rfl, h2⟩ := h
  refine ⟨fun i hi => by rw [← hg i hi]; exact h1 i hi, ao, cap, rfl, ?_⟩
  rcases h2 with h2 | ⟨a, e, hb, hc⟩
  · exact Or.inl h2
  · exact Or.inr ⟨a, e, hb, fun j hj => by rw [← hg j hj]; exact hc j hj⟩
theorem Bytes.take {w ao m cap g} (h : Bytes w (.slice ao m cap) m g) (k cap' : Nat) (hk : k ≤ m) : Bytes w (.slice ao k cap') k g := by
  obtain ⟨h1, ao', cap2, e, h2⟩ := h
  injection e with e1 e2 e3
  subst e1
  refine ⟨fun i hi => h1 i (by omega), ao, cap', rfl, ?_⟩
  rcases h2 with h2 | ⟨a, e, hb, hc⟩
  · exact Or.inl (by omega)
  · exact Or.inr ⟨a, e, hb, fun j hj => hc j (by omega)⟩
theorem Bytes.lt {w v m g} (h : Bytes w v m g) (hm : 0 < m) (b : Nat) (hb : v.ownBlock = some b) : b < w.heap.size := by
  obtain ⟨h1, ao, cap, rfl, h2⟩ := h
  obtain ⟨a, rfl, h3, _⟩ := h2.resolve_left (by omega)
  injection hb with hb
  subst hb
  exact h3
theorem copied_get (f gg : Nat → Nat) (o s k i : Nat) (hi : i < k) : upd (upd f s k gg) o k (fun j => upd f s k gg (s + j)) (o + i) = gg i := by
  rw [upd_in _ _ _ _ _ (by omega), Nat.add_sub_cancel_left, upd_in _ _ _ _ _ (by omega), Nat.add_sub_cancel_left]
theorem notfrom {w : World} {ab ad m cap : Nat} (h : ab < w.heap.size) : ∀ b, (Value.slice (some ⟨ab, ad, none⟩) m cap).ownBlock = some b → ¬ from' w.heap.size b := by
  intro b e hb
  injection e with e
  subst e
  exact Nat.lt_irrefl _ (Nat.lt_of_lt_of_le h hb)
theorem Bytes.empty (w : World) (ao : Option Addr) (cap : Nat) (g : Nat → Nat) : Bytes w (.slice ao 0 cap) 0 g := ⟨fun i hi => by omega, ao, cap, rfl, Or.inl rfl⟩

end Go.Proofs.Ytanfdpangcgdhab
