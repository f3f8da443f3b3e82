/- PageBack: two maps side by side. -/
import Derived.Test.YtbhheimedbfmeaaBckG
namespace Go.Proofs.Ytbhheimedbfmeaa
open Go.RowKit
set_option linter.unusedVariables false

/-- Two maps, both newer than w, apart. -/
def KD (w W : World) (b : Nat) (m : Mp) (b' : Nat) (m' : Mp) : Prop := ∃ B B', MapAt W b B m ∧ MapAt W b' B' m' ∧ (∀ x, mown b B m.o x → w.heap.size ≤ x) ∧ (∀ x, mown b' B' m'.o x → w.heap.size ≤ x) ∧ (∀ x, mown b B m.o x → ¬ mown b' B' m'.o x) ∧ Kept none' w W
theorem KD.swap {w W b m b' m'} (h : KD w W b m b' m') : KD w W b' m' b m := by
  obtain ⟨B, B', h1, h2, h3, h4, h5, h6⟩ := h
  exact ⟨B', B, h2, h1, h4, h3, fun x hx hy => h5 x hy hx, h6⟩
theorem KD.keep {w W W' b m b' m'} (h : KD w W b m b' m') (k : Kept none' W W') : KD w W' b m b' m' := by
  obtain ⟨B, B', h1, h2, h3, h4, h5, h6⟩ := h
  exact ⟨B, B', h1.keep k, h2.keep k, h3, h4, h5, none_trans h6 k⟩
theorem KD.kp {w W b m b' m'} (h : KD w W b m b' m') : Kept none' w W := by
  obtain ⟨B, B', h1, h2, h3, h4, h5, h6⟩ := h
  exact h6
theorem call_kd (b : Nat) (m : Mp) (b' : Nat) (m' : Mp) (k p x y : Int) (l : Bool) (w W : World) (h : KD w W b m b' m') :
    Calls Try.prog 27 #[.pointer (some ⟨b, 0, none⟩), opV k p x y l] W fun e w' => e = .returned (.bool (callE m k p x y l)) ∧ KD w w' b (callM m k p x y l) b' m' := by
  obtain ⟨B, B', h1, h2, h3, h4, h5, h6⟩ := h
  refine (call_any b B m k p x y l W h1).mono ?_
  rintro e w' ⟨rfl, B2, a1, a2, a3⟩
  have hd : ∀ x, mown b' B' m'.o x → ¬ mown b B m.o x := fun x hx hy => h5 x hy hx
  have ho := call_o m k p x y l
  refine ⟨rfl, B2, B', a1, h2.kept a2 hd, fun x hx => ?_, h4, fun x hx hy => ?_, h6.trans a2 (fun _ _ x => x) (fun x hx e => absurd (h3 x e) (by omega))⟩
  · rw [ho] at hx
    exact (a3 x hx).elim (fun q => h3 x q) (fun q => Nat.le_trans h6.size q)
  · rw [ho] at hx
    exact (a3 x hx).elim (fun q => h5 x q hy) (fun q => absurd (h2.own_lt x hy) (by omega))
theorem call_kd2 (b : Nat) (m : Mp) (b' : Nat) (m' : Mp) (k p x y : Int) (l : Bool) (w W : World) (h : KD w W b m b' m') :
    Calls Try.prog 27 #[.pointer (some ⟨b', 0, none⟩), opV k p x y l] W fun e w' => e = .returned (.bool (callE m' k p x y l)) ∧ KD w w' b m b' (callM m' k p x y l) :=
  (call_kd b' m' b m k p x y l w W h.swap).mono (fun e w' h => ⟨h.1, h.2.swap⟩)
end Go.Proofs.Ytbhheimedbfmeaa
