/- A set of a map is put anew. -/
import Derived.Test.YtbhheimedbfmeaaPgM
namespace Go.Proofs.Ytbhheimedbfmeaa
open Go.RowKit
set_option linter.unusedVariables false

def upn (f : Nat → Nat) (k x : Nat) : Nat → Nat := fun j => if j = k then x else f j
theorem MapAt.newset {w w' b B m q k} {ws : List Nat} (h : MapAt w b B m) (hk : k < m.o) (hq : B.P = some q) (kp : Kept none' w w') (hS : SetAt w' (w.heap.size + 1) w.heap.size (m.n / 2 ^ (k + 1)) ws) :
    MapAt (w'.setCell ⟨q, k, none⟩ (.pointer (some ⟨w.heap.size + 1, 0, none⟩))) b ⟨B.g, B.P, upn B.S k (w.heap.size + 1), upn B.C k w.heap.size⟩ { m with wd := upw m.wd k ws } := by
  have h2 := h.keep kp
  obtain ⟨cq, hb, hp⟩ := h2.hb
  rw [hq] at hp
  obtain ⟨cs, hqb, hs, ho, hc⟩ := hp
  have ks : Kept (fun x => x = q) w' (w'.setCell ⟨q, k, none⟩ (.pointer (some ⟨w.heap.size + 1, 0, none⟩))) := (Kept.refl (fun x => x = q) w').setCell (p := ⟨q, k, none⟩) rfl _
  have ltS : ∀ j, j < m.o → B.S j < w.heap.size := fun j hj => heap_lt (h.set j hj).hb
  have ltC : ∀ j, j < m.o → B.C j < w.heap.size := fun j hj => heap_lt (h.set j hj).hc
  have hP : Prs (w'.setCell ⟨q, k, none⟩ (.pointer (some ⟨w.heap.size + 1, 0, none⟩))) B.P m.o cq (upn B.S k (w.heap.size + 1)) := by
    rw [hq]
    refine ⟨_, heap_set hqb k _, by simpa using hs, ho, fun j hj => ?_⟩
    rw [Array.getElem?_setIfInBounds]
    unfold upn
    by_cases e : j = k
    · subst e
      rw [if_pos rfl, if_pos (by omega), if_pos rfl]
    · rw [if_neg (by omega), if_neg e]
      exact hc j hj
  refine ⟨h.o8, h.n1, h.dv, ⟨cq, (ks.block b (heap_lt hb) (ty_ne hb hqb (by decide))).trans hb, hP⟩, Rows.kept h2.row ks (fun x e => ?_), fun j hj => ?_, fun i j hi hj e => ?_, fun i j hi hj e => ?_, h.ok⟩
  · have hr := h2.row
    rw [e] at hr
    obtain ⟨rs, hrb, _⟩ := hr
    exact ty_ne hrb hqb (by decide)
  · show SetAt _ (upn B.S k (w.heap.size + 1) j) (upn B.C k w.heap.size j) (m.n / 2 ^ (j + 1)) (upw m.wd k ws j)
    unfold upn upw
    by_cases e : j = k
    · subst e
      rw [if_pos rfl, if_pos rfl, if_pos rfl]
      exact hS.kept ks (ty_ne hS.hb hqb (by decide)) (ty_ne hS.hc hqb (by decide))
    · rw [if_neg e, if_neg e, if_neg e]
      have s := h2.set j hj
      exact s.kept ks (ty_ne s.hb hqb (by decide)) (ty_ne s.hc hqb (by decide))
  · have hi' : i < m.o := hi
    have hj' : j < m.o := hj
    have e : upn B.S k (w.heap.size + 1) i = upn B.S k (w.heap.size + 1) j := e
    unfold upn at e
    by_cases e1 : i = k <;> by_cases e2 : j = k <;> simp only [e1, e2, if_true, if_false] at e
    · omega
    · have := ltS j hj'; omega
    · have := ltS i hi'; omega
    · exact h.injS i j hi' hj' e
  · have hi' : i < m.o := hi
    have hj' : j < m.o := hj
    have e : upn B.C k w.heap.size i = upn B.C k w.heap.size j := e
    unfold upn at e
    by_cases e1 : i = k <;> by_cases e2 : j = k <;> simp only [e1, e2, if_true, if_false] at e
    · omega
    · have := ltC j hj'; omega
    · have := ltC i hi'; omega
    · exact h.injC i j hi' hj' e
end Go.Proofs.Ytbhheimedbfmeaa
