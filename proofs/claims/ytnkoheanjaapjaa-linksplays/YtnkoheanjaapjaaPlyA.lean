/- LinksPlays: what holds between the steps. -/
import Derived.Test.YtnkoheanjaapjaaRef3E
namespace Go.Proofs.Ytnkoheanjaapjaa
open Go.RowKit
set_option linter.unusedVariables false

def lp (c : Nat) : Value := .pointer (some ⟨c, 0, none⟩)
def hv (x : Nat) : Value := .int .u64 (x : Int)
def put3 (f : Nat → Nat) (k x : Nat) : Nat → Nat := fun j => if j = k then x else f j
/-- Three lists over one space, the lists' row and the heads' row, the document's own bytes. -/
structure Trio (w : World) (A B b : Nat) (ao mo : Option Nat) (n cap : Nat) (f cs hs f' hs' : Nat → Nat) : Prop where
  s : SpaceAt w b ao 4096 4096 3 n f
  l : ∀ k, k < 3 → ListAt w (cs k) b (hs k)
  inj : ∀ j k, j < 3 → k < 3 → cs j = cs k → j = k
  a : w.heap[A]? = some (.cells #[lp (cs 0), lp (cs 1), lp (cs 2)] 49 (0, 0))
  h : w.heap[B]? = some (.cells #[hv (hs' 0), hv (hs' 1), hv (hs' 2)] 50 (0, 0))
  h64 : ∀ k, k < 3 → hs' k < 18446744073709551616
  r : RefAt w mo n cap f'
  gm : ∀ g, ao = some g → mo ≠ some g
/-- The blocks that a step may write. -/
def tri (A B b : Nat) (ao mo : Option Nat) (cs : Nat → Nat) : Nat → Prop := fun x => x = A ∨ x = B ∨ own b ao x ∨ mo = some x ∨ ∃ k, k < 3 ∧ x = cs k
theorem Trio.ca {w A B b ao mo n cap f cs hs f' hs'} (t : Trio w A B b ao mo n cap f cs hs f' hs') (k : Nat) (hk : k < 3) : w.cell? ⟨A, k, none⟩ = some (.pointer (some ⟨cs k, 0, none⟩)) := by
  have := t.a
  match k, hk with
  | 0, _ => simp [World.cell?, this, lp]
  | 1, _ => simp [World.cell?, this, lp]
  | 2, _ => simp [World.cell?, this, lp]
theorem Trio.ch {w A B b ao mo n cap f cs hs f' hs'} (t : Trio w A B b ao mo n cap f cs hs f' hs') (k : Nat) (hk : k < 3) : w.cell? ⟨B, k, none⟩ = some (.int .u64 (hs' k : Int)) := by
  have := t.h
  match k, hk with
  | 0, _ => simp [World.cell?, this, hv]
  | 1, _ => simp [World.cell?, this, hv]
  | 2, _ => simp [World.cell?, this, hv]
theorem Trio.za {w A B b ao mo n cap f cs hs f' hs'} (t : Trio w A B b ao mo n cap f cs hs f' hs') (k : Nat) : w.frozen? ⟨A, k, none⟩ = false := by simp [World.frozen?, t.a]
theorem Trio.zh {w A B b ao mo n cap f cs hs f' hs'} (t : Trio w A B b ao mo n cap f cs hs f' hs') (k : Nat) : w.frozen? ⟨B, k, none⟩ = false := by simp [World.frozen?, t.h]
theorem Trio.keep {w w' A B b ao mo n cap f cs hs f' hs'} (t : Trio w A B b ao mo n cap f cs hs f' hs') (k : Kept none' w w') : Trio w' A B b ao mo n cap f cs hs f' hs' :=
  ⟨t.s.keep k, fun i hi => (t.l i hi).keep k, t.inj, (k.block A (Array.getElem?_eq_some_iff.1 t.a).1 (fun x => x)).trans t.a, (k.block B (Array.getElem?_eq_some_iff.1 t.h).1 (fun x => x)).trans t.h, t.h64, t.r.keep k, t.gm⟩

/-- Blocks of different types are different blocks. -/
theorem ty_ne {w : World} {x y : Nat} {c d : Array Value} {s t : TypeId} {z u : Nat × Nat} (h : w.heap[x]? = some (.cells c s z)) (k : w.heap[y]? = some (.cells d t u)) (hst : s ≠ t) : x ≠ y := by
  rintro rfl
  rw [h] at k
  cases k
  exact hst rfl
theorem own_ty {w b ao base R lim n f x} (h : SpaceAt w b ao base R lim n f) (hx : own b ao x) : ∃ c, w.heap[x]? = some (.cells c 88 (0, 0)) ∨ w.heap[x]? = some (.cells c 5 (0, 0)) := by
  obtain ⟨cap, hb, hr⟩ := h.ex
  rcases hx with rfl | rfl
  · exact ⟨_, Or.inl hb⟩
  · obtain ⟨_, rs, _, hg, _⟩ := hr
    exact ⟨_, Or.inr hg⟩
theorem own_ne {w b ao base R lim n f x y} {d : Array Value} {t : TypeId} {u : Nat × Nat} (h : SpaceAt w b ao base R lim n f) (k : w.heap[y]? = some (.cells d t u)) (h1 : 88 ≠ t) (h2 : 5 ≠ t) (hx : own b ao x) : x ≠ y := by
  obtain ⟨c, e | e⟩ := own_ty h hx
  · exact ty_ne e k h1
  · exact ty_ne e k h2
theorem ref_ty {w mo n cap f x} (h : RefAt w mo n cap f) (hx : mo = some x) : ∃ c, w.heap[x]? = some (.cells c 5 (0, 0)) := by
  subst hx
  obtain ⟨rs, _, hg, _⟩ := h
  exact ⟨_, hg⟩

/-- The document's bytes were written. -/
theorem Trio.doc {w w' A B b ao mo n cap f cs hs f' hs' f2} (t : Trio w A B b ao mo n cap f cs hs f' hs') (k : Kept (fun x => mo = some x) w w') (r : RefAt w' mo n cap f2) : Trio w' A B b ao mo n cap f cs hs f2 hs' := by
  have hm : ∀ x, mo = some x → ∃ c, w.heap[x]? = some (.cells c 5 (0, 0)) := fun x hx => ref_ty t.r hx
  refine ⟨t.s.kept k (fun x hx e => ?_), fun i hi => (t.l i hi).kept k (fun e => ?_), t.inj, (k.block A (Array.getElem?_eq_some_iff.1 t.a).1 (fun e => ?_)).trans t.a, (k.block B (Array.getElem?_eq_some_iff.1 t.h).1 (fun e => ?_)).trans t.h, t.h64, r, t.gm⟩
  · obtain ⟨c, hc⟩ := hm x e
    rcases hx with rfl | hx
    · obtain ⟨cap', hb, _⟩ := t.s.ex
      exact ty_ne hc hb (by decide) rfl
    · exact t.gm x hx e
  · obtain ⟨c, hc⟩ := hm _ e
    exact ty_ne hc (t.l i hi).hc (by decide) rfl
  · obtain ⟨c, hc⟩ := hm _ e
    exact ty_ne hc t.a (by decide) rfl
  · obtain ⟨c, hc⟩ := hm _ e
    exact ty_ne hc t.h (by decide) rfl

/-- The program's bytes and the head of list i were written. -/
theorem Trio.prog {w w' A B b ao mo n cap f cs hs f' hs' f2 x} (t : Trio w A B b ao mo n cap f cs hs f' hs') (i : Nat) (hi : i < 3) (k : Kept (lown (cs i) b ao) w w') (r : LS w' (cs i) b ao 4096 4096 3 n f2 x) : Trio w' A B b ao mo n cap f2 cs (put3 hs i x) f' hs' := by
  have no : ∀ (y : Nat) (d : Array Value) (ty : TypeId) (u : Nat × Nat), w.heap[y]? = some (.cells d ty u) → 88 ≠ ty → 5 ≠ ty → 76 ≠ ty → ¬ lown (cs i) b ao y := by
    intro y d ty u hy h1 h2 h3 hx
    rcases hx with rfl | hx
    · exact ty_ne (t.l i hi).hc hy h3 rfl
    · exact own_ne t.s hy h1 h2 hx rfl
  refine ⟨r.s, fun j hj => ?_, t.inj, (k.block A (Array.getElem?_eq_some_iff.1 t.a).1 (no _ _ _ _ t.a (by decide) (by decide) (by decide))).trans t.a, (k.block B (Array.getElem?_eq_some_iff.1 t.h).1 (no _ _ _ _ t.h (by decide) (by decide) (by decide))).trans t.h, t.h64, t.r.kept k (fun y hy hx => ?_), t.gm⟩
  · unfold put3
    by_cases e : j = i
    · subst e
      rw [if_pos rfl]
      exact r.l
    · rw [if_neg e]
      refine (t.l j hj).kept k (fun hx => ?_)
      rcases hx with hx | hx
      · exact e (t.inj j i hj hi hx)
      · exact own_ne t.s (t.l j hj).hc (by decide) (by decide) hx rfl
  · obtain ⟨c, hc⟩ := ref_ty t.r hy
    rcases hx with rfl | hx
    · exact ty_ne hc (t.l i hi).hc (by decide) rfl
    · rcases hx with rfl | hx
      · obtain ⟨cap', hb, _⟩ := t.s.ex
        exact ty_ne hc hb (by decide) rfl
      · exact t.gm y hx hy

/-- A head of the document's is written. -/
theorem Trio.head {w A B b ao mo n cap f cs hs f' hs'} (t : Trio w A B b ao mo n cap f cs hs f' hs') (i : Nat) (hi : i < 3) (x : Nat) (hx : x < 18446744073709551616) : Trio (w.setCell ⟨B, i, none⟩ (.int .u64 (x : Int))) A B b ao mo n cap f cs hs f' (put3 hs' i x) := by
  have k : Kept (fun y => y = B) w (w.setCell ⟨B, i, none⟩ (.int .u64 (x : Int))) := (Kept.refl (fun y => y = B) w).setCell (fun _ => rfl) _
  refine ⟨t.s.kept k (fun y hy e => own_ne t.s t.h (by decide) (by decide) hy e), fun j hj => (t.l j hj).kept k (fun e => ty_ne (t.l j hj).hc t.h (by decide) e), t.inj, (k.block A (Array.getElem?_eq_some_iff.1 t.a).1 (ty_ne t.a t.h (by decide))).trans t.a, (heap_set t.h i _).trans ?_, fun j hj => ?_, t.r.kept k (fun y hy e => ?_), t.gm⟩
  · match i, hi with
    | 0, _ => simp [put3, hv]
    | 1, _ => simp [put3, hv]
    | 2, _ => simp [put3, hv]
  · unfold put3
    by_cases e : j = i
    · rw [if_pos e]; exact hx
    · rw [if_neg e]; exact t.h64 j hj
  · obtain ⟨c, hc⟩ := ref_ty t.r hy
    exact ty_ne hc t.h (by decide) e

/-- A list begun anew. -/
theorem Trio.new {w A B b ao mo n cap f cs hs f' hs'} (t : Trio w A B b ao mo n cap f cs hs f' hs') (i : Nat) (hi : i < 3) (c x : Nat) (hL : ListAt w c b x) (hc : ∀ j, j < 3 → cs j ≠ c) : Trio (w.setCell ⟨A, i, none⟩ (.pointer (some ⟨c, 0, none⟩))) A B b ao mo n cap f (put3 cs i c) (put3 hs i x) f' hs' := by
  have k : Kept (fun y => y = A) w (w.setCell ⟨A, i, none⟩ (.pointer (some ⟨c, 0, none⟩))) := (Kept.refl (fun y => y = A) w).setCell (fun _ => rfl) _
  refine ⟨t.s.kept k (fun y hy e => own_ne t.s t.a (by decide) (by decide) hy e), fun j hj => ?_, fun j m hj hm e => ?_, (heap_set t.a i _).trans ?_, (k.block B (Array.getElem?_eq_some_iff.1 t.h).1 (ty_ne t.h t.a (by decide))).trans t.h, t.h64, t.r.kept k (fun y hy e => ?_), t.gm⟩
  · unfold put3
    by_cases e : j = i
    · rw [if_pos e, if_pos e]
      exact hL.kept k (fun e => ty_ne hL.hc t.a (by decide) e)
    · rw [if_neg e, if_neg e]
      exact (t.l j hj).kept k (fun e => ty_ne (t.l j hj).hc t.a (by decide) e)
  · unfold put3 at e
    by_cases e1 : j = i <;> by_cases e2 : m = i
    · omega
    · rw [if_pos e1, if_neg e2] at e
      exact absurd e.symm (hc m hm)
    · rw [if_neg e1, if_pos e2] at e
      exact absurd e (hc j hj)
    · rw [if_neg e1, if_neg e2] at e
      exact t.inj j m hj hm e
  · match i, hi with
    | 0, _ => simp [put3, lp]
    | 1, _ => simp [put3, lp]
    | 2, _ => simp [put3, lp]
  · obtain ⟨d, hd⟩ := ref_ty t.r hy
    exact ty_ne hd t.a (by decide) e
end Go.Proofs.Ytnkoheanjaapjaa
