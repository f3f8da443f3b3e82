/- played, any call; through; PagePlays. -/
import Derived.Test.YtbhheimedbfmeaaPlB
import Derived.Test.YtbhheimedbfmeaaPlG
import Derived.Test.YtbhheimedbfmeaaPlJ
import Derived.Test.YtbhheimedbfmeaaPlL
import Derived.Test.YtbhheimedbfmeaaPlN
import Derived.Test.YtbhheimedbfmeaaCel
import Derived.Test.YtbhheimedbfmeaaOps
namespace Go.Proofs.Ytbhheimedbfmeaa
open Go.RowKit
set_option linter.unusedVariables false

theorem played_9 (b : Nat) (B : Bs) (g : Option Nat) (cp : Nat) (q : Value) (R : Nat → Nat) (m : Mp) (p x y : Int) (l : Bool) (E : Nat → Obj → Prop) (w w0 : World) (h : PR E w w0 b B g cp q R m) :
    Calls Try.prog 46 #[.pointer (some ⟨b, 0, none⟩), rv m.o g m.n cp q, opV 9 p x y l] w0 fun e w' => ∃ v', e = .returned (.tuple #[v', .bool true]) ∧ PRS E w w' b v' := by
  cases hp : hasP m x p with
  | false => exact played_9no b B g cp q R m p x y l E w w0 h hp
  | true =>
    simp only [hasP, Bool.and_eq_true] at hp
    obtain ⟨a, rfl, ha⟩ := inR_nat hp.1
    obtain ⟨c, rfl, hc⟩ := inR_nat hp.2
    exact played_9yes b B g cp q R m c a y l E w w0 h a c rfl rfl ha hc
theorem played_any (b : Nat) (v : Value) (k p x y : Int) (l : Bool) (E : Nat → Obj → Prop) (w w0 : World) (h : PRS E w w0 b v) :
    Calls Try.prog 46 #[.pointer (some ⟨b, 0, none⟩), v, opV k p x y l] w0 fun e w' => ∃ v', e = .returned (.tuple #[v', .bool true]) ∧ PRS E w w' b v' := by
  obtain ⟨m, B, g, cp, q, R, rfl, h⟩ := h
  by_cases h1 : k = 1
  · subst h1; exact played_1 b B g cp q R m p x y l E w w0 h
  by_cases h2 : k = 2
  · subst h2; exact played_2 b B g cp q R m p x y l E w w0 h
  by_cases h3 : k = 3
  · subst h3; exact played_3 b B g cp q R m p x y l E w w0 h
  by_cases h4 : k = 4
  · subst h4; exact played_4 b B g cp q R m p x y l E w w0 h
  by_cases h5 : k = 5
  · subst h5; exact played_5 b B g cp q R m p x y l E w w0 h
  by_cases h6 : k = 6
  · subst h6; exact played_6 b B g cp q R m p x y l E w w0 h
  by_cases h7 : k = 7
  · subst h7; exact played_7 b B g cp q R m p x y l E w w0 h
  by_cases h8 : k = 8
  · subst h8; exact played_8 b B g cp q R m p x y l E w w0 h
  by_cases h9 : k = 9
  · subst h9; exact played_9 b B g cp q R m p x y l E w w0 h
  by_cases h10 : k = 10
  · subst h10; exact played_10 b B g cp q R m p x y l E w w0 h
  by_cases h11 : k = 11
  · subst h11; exact played_11 b B g cp q R m p x y l E w w0 h
  cases hi : inR m.n p with
  | false => exact played_0out b B g cp q R m k p x y h1 h2 h3 h4 h5 h6 h7 h8 h9 h10 h11 l E w w0 h hi
  | true =>
    obtain ⟨a, rfl, ha⟩ := inR_nat hi
    exact played_0in b B g cp q R m k a x y h1 h2 h3 h4 h5 h6 h7 h8 h9 h10 h11 l E w w0 h a rfl ha
/-- The box that a map of the document's lies in. -/
def vobj (v : Value) (X : Nat) (W : World) : Prop := ∃ o g n cp qa qc, v = rv o g n cp (.slice qa o qc) ∧ W.heap[X]? = some (ro o g n cp (.slice qa o qc))
theorem PRS.val {E : Nat → Obj → Prop} {w W : World} {b : Nat} {v : Value} (h : PRS E w W b v) : ∃ o g n cp qa qc, v = rv o g n cp (.slice qa o qc) := by
  obtain ⟨m, B, g, cp, q, R, rfl, h⟩ := h
  obtain ⟨qa, qc, rfl⟩ := h.rf.val
  exact ⟨_, _, _, _, _, _, rfl⟩
theorem PRS.kp {E : Nat → Obj → Prop} {w W : World} {b : Nat} {v : Value} (h : PRS E w W b v) : Kept none' w W := by
  obtain ⟨m, B, g, cp, q, R, rfl, h⟩ := h
  exact h.kp
theorem PRS.box {E : Nat → Obj → Prop} {X : Nat} {o : Obj} {w W : World} {b : Nat} {v : Value} (h : PRS E w W b v) (hE : E X o) : W.heap[X]? = some o := by
  obtain ⟨m, B, g, cp, q, R, rfl, h⟩ := h
  exact (h.ex X o hE).2.2
def E1 (X : Nat) (o : Obj) : Nat → Obj → Prop := fun z u => z = X ∧ u = o
def E2 (X : Nat) (o : Obj) (Y : Nat) (o' : Obj) : Nat → Obj → Prop := fun z u => (z = X ∧ u = o) ∨ (z = Y ∧ u = o')
/-- A box of the law's own is written: what stands beside is as it was. -/
theorem PRS.turn {E : Nat → Obj → Prop} {X : Nat} {o o' : Obj} {w W W' : World} {b : Nat} {v : Value} (h : PRS E w W b v) (hE : E X o) (k : Kept (fun z => z = X) W W') (hX : w.heap.size ≤ X) (ho : W'.heap[X]? = some o') : PRS (E1 X o') w W' b v := by
  obtain ⟨m, B, g, cp, q, R, rfl, h⟩ := h
  obtain ⟨e1, e2, e3⟩ := h.ex X o hE
  exact ⟨m, B, g, cp, q, R, rfl, h.mp.kept k (fun x hx e => e1 (by have e : x = X := e; rw [← e]; exact hx)), h.rf.kept k (fun x hx e => e2 (by have e : x = X := e; rw [← e]; exact hx)), h.nm, h.nr, h.ap, h.kp.trans k (fun _ _ x => x) (fun x hx e => by have e : x = X := e; omega), fun X' o2 e => by
    obtain ⟨rfl, rfl⟩ := e
    exact ⟨e1, e2, ho⟩⟩
theorem PRS.keep {E : Nat → Obj → Prop} {w W W' : World} {b : Nat} {v : Value} (h : PRS E w W b v) (k : Kept none' W W') : PRS E w W' b v := by
  obtain ⟨m, B, g, cp, q, R, rfl, h⟩ := h
  exact ⟨m, B, g, cp, q, R, rfl, h.keep k⟩
theorem PRS.mono {E E' : Nat → Obj → Prop} {w W : World} {b : Nat} {v : Value} (h : PRS E w W b v) (he : ∀ x o, E' x o → E x o) : PRS E' w W b v := by
  obtain ⟨m, B, g, cp, q, R, rfl, h⟩ := h
  exact ⟨m, B, g, cp, q, R, rfl, h.mp, h.rf, h.nm, h.nr, h.ap, h.kp, fun X o e => h.ex X o (he X o e)⟩
/-- One box more. -/
theorem PRS.more {E : Nat → Obj → Prop} {w W : World} {b : Nat} {v : Value} (o : Obj) (h : PRS E w W b v) : PRS (fun z u => E z u ∨ (z = W.heap.size ∧ u = o)) w (W.alloc o) b v := by
  obtain ⟨m, B, g, cp, q, R, rfl, h⟩ := h
  have h2 := h.keep ((Kept.refl none' W).alloc o)
  exact ⟨m, B, g, cp, q, R, rfl, h2.mp, h2.rf, h2.nm, h2.nr, h2.ap, h2.kp, fun X o2 e => by
    rcases e with e | ⟨rfl, rfl⟩
    · exact h2.ex X o2 e
    · exact ⟨fun q => absurd (h.mp.own_lt _ q) (Nat.lt_irrefl _), fun q => absurd (h.rf.own_lt _ q) (Nat.lt_irrefl _), heap_new W _⟩⟩
/-- A box beside is written. -/
theorem PRS.side {E : Nat → Obj → Prop} {w W W' : World} {b : Nat} {v : Value} {Y : Nat} {o : Obj} (h : PRS E w W b v) (hE : E Y o) (k : Kept (fun z => z = Y) W W') (hY : w.heap.size ≤ Y) : PRS (fun z u => E z u ∧ z ≠ Y) w W' b v := by
  obtain ⟨m, B, g, cp, q, R, rfl, h⟩ := h
  obtain ⟨e1, e2, e3⟩ := h.ex Y o hE
  exact ⟨m, B, g, cp, q, R, rfl, h.mp.kept k (fun x hx e => e1 (by have e : x = Y := e; rw [← e]; exact hx)), h.rf.kept k (fun x hx e => e2 (by have e : x = Y := e; rw [← e]; exact hx)), h.nm, h.nr, h.ap, h.kp.trans k (fun _ _ x => x) (fun x hx e => by have e : x = Y := e; omega), fun X o2 e => by
    obtain ⟨x1, x2, x3⟩ := h.ex X o2 e.1
    exact ⟨x1, x2, (k.block X (heap_lt x3) e.2).trans x3⟩⟩
theorem alloc_cell {w : World} {a : Addr} {v : Value} {o : Obj} (h : w.cell? a = some v) : (w.alloc o).cell? a = some v := ((Kept.refl none' w).alloc o).cell (fun x => x) h
end Go.Proofs.Ytbhheimedbfmeaa
