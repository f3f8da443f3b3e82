/- pagemap: Plain. -/
import Derived.Test.YthglogiglimebaaPgJ
import Derived.Deep.OwnRows
namespace Go.Proofs.Ythglogiglimebaa
open Go.RowKit
set_option linter.unusedVariables false

theorem info_wsl : (Try.prog.info? 43).map (fun i => (i.zero, i.size, i.bytes)) = some (some (.slice none 0 0), 1, 24) := by kernel_rfl
abbrev wsl (D : Nat → Nat) (wd : Nat → List Nat) (j : Nat) : Value := .slice (some ⟨D j, 0, none⟩) (wd j).length (wd j).length
/-- What Plain tells, while it is made. -/
structure Told (w W : World) (gp gq : Nat) (m : Mp) (k : Nat) (D : Nat → Nat) : Prop where
  row : Row W gp m.n m.pg
  q : ∃ cs : Array Value, W.heap[gq]? = some (.cells cs 43 (0, 0)) ∧ cs.size = m.o ∧ ∀ j, j < k → cs[j]? = some (wsl D m.wd j)
  d : ∀ j, j < k → W.heap[D j]? = some (.cells (wcells (m.wd j)) 24 (0, 0))
  iD : ∀ i j, i < k → j < k → D i = D j → i = j
  fp : w.heap.size ≤ gp
  fq : w.heap.size ≤ gq
  fd : ∀ j, j < k → w.heap.size ≤ D j
  kp : Kept none' w W
theorem Told.cell {w W gp gq m k D} (h : Told w W gp gq m k D) (j : Nat) (hj : j < m.o) : ∃ v, W.cell? ⟨gq, j, none⟩ = some v := by
  obtain ⟨cs, hg, hs, _⟩ := h.q
  exact ⟨cs[j]'(by omega), by simp [World.cell?, hg, hs, hj]⟩
theorem Told.froz {w W gp gq m k D} (h : Told w W gp gq m k D) (j : Nat) : W.frozen? ⟨gq, j, none⟩ = false := by
  obtain ⟨cs, hg, hs, _⟩ := h.q
  simp [World.frozen?, hg]
theorem Told.keep {w W W' gp gq m k D} (h : Told w W gp gq m k D) (kp : Kept none' W W') : Told w W' gp gq m k D := by
  obtain ⟨cs, hg, hs⟩ := h.q
  exact ⟨Row.kept h.row kp (fun x => x), ⟨cs, (kp.block _ (heap_lt hg) (fun x => x)).trans hg, hs⟩, fun j hj => (kp.block _ (heap_lt (h.d j hj)) (fun x => x)).trans (h.d j hj), h.iD, h.fp, h.fq, h.fd, none_trans h.kp kp⟩
theorem Told.next {w W W2 gp gq m k D} (h : Told w W gp gq m k D) (hk : k < m.o) (kp : Kept none' W W2) (hx : W2.heap[W.heap.size]? = some (.cells (wcells (m.wd k)) 24 (0, 0))) :
    Told w (W2.setCell ⟨gq, k, none⟩ (.slice (some ⟨W.heap.size, 0, none⟩) (m.wd k).length (m.wd k).length)) gp gq m (k + 1) (fun j => if j = k then W.heap.size else D j) := by
  have h2 := h.keep kp
  obtain ⟨cs, hg, hs, hc⟩ := h2.q
  obtain ⟨rs, hrb, _⟩ := h2.row
  have ks : Kept (fun x => x = gq) W2 (W2.setCell ⟨gq, k, none⟩ (.slice (some ⟨W.heap.size, 0, none⟩) (m.wd k).length (m.wd k).length)) := (Kept.refl (fun x => x = gq) W2).setCell (p := ⟨gq, k, none⟩) rfl _
  have lt : ∀ j, j < k → D j < W.heap.size := fun j hj => heap_lt (h.d j hj)
  refine ⟨Row.kept h2.row ks (ty_ne hrb hg (by decide)), ⟨_, heap_set hg k _, by simpa using hs, fun j hj => ?_⟩, fun j hj => ?_, fun i j hi hj e => ?_, h.fp, h.fq, fun j hj => ?_, h2.kp.setNew (p := ⟨gq, k, none⟩) (fun e => absurd e (Nat.not_lt.2 h.fq)) _⟩
  · rw [Array.getElem?_setIfInBounds]
    by_cases e : j = k
    · subst e
      rw [if_pos rfl, if_pos (by omega)]
      simp [wsl]
    · rw [if_neg (by omega), hc j (by omega)]
      simp [wsl, e]
  · by_cases e : j = k
    · simp only [e, if_true]
      exact (ks.block _ (heap_lt hx) (ty_ne hx hg (by decide))).trans hx
    · simp only [e, if_false]
      exact (ks.block _ (heap_lt (h2.d j (by omega))) (ty_ne (h2.d j (by omega)) hg (by decide))).trans (h2.d j (by omega))
  · by_cases e1 : i = k <;> by_cases e2 : j = k <;> simp only [e1, e2, if_true, if_false] at e
    · omega
    · have := lt j (by omega); omega
    · have := lt i (by omega); omega
    · exact h.iD i j (by omega) (by omega) e
  · by_cases e : j = k
    · simp only [e, if_true]
      exact h.kp.size
    · simp only [e, if_false]
      exact h.fd j (by omega)
end Go.Proofs.Ythglogiglimebaa
