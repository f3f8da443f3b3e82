/- played: the program's map and the document's own side by side. -/
import Derived.Test.YtbhheimedbfmeaaRfI
import Derived.Test.YtbhheimedbfmeaaRfJ
import Derived.Test.YtbhheimedbfmeaaRfN
import Derived.Test.YtbhheimedbfmeaaCal
namespace Go.Proofs.Ytbhheimedbfmeaa
open Go.RowKit
set_option linter.unusedVariables false

/-- A map and the document's own of the same thing, newer than w, apart. -/
structure PR (E : Nat → Obj → Prop) (w W : World) (b : Nat) (B : Bs) (g : Option Nat) (cp : Nat) (q : Value) (R : Nat → Nat) (m : Mp) : Prop where
  mp : MapAt W b B m
  rf : RefAt W g cp q R m
  nm : ∀ x, mown b B m.o x → w.heap.size ≤ x
  nr : ∀ x, rown g q R m.o x → w.heap.size ≤ x
  ap : ∀ x, mown b B m.o x → ¬ rown g q R m.o x
  kp : Kept none' w W
  ex : ∀ X o, E X o → ¬ mown b B m.o X ∧ ¬ rown g q R m.o X ∧ W.heap[X]? = some o
def PRS (E : Nat → Obj → Prop) (w W : World) (b : Nat) (v : Value) : Prop := ∃ m B g cp q R, v = rv m.o g m.n cp q ∧ PR E w W b B g cp q R m
theorem PR.keep {E w W W' b B g cp q R m} (h : PR E w W b B g cp q R m) (k : Kept none' W W') : PR E w W' b B g cp q R m :=
  ⟨h.mp.keep k, h.rf.keep k, h.nm, h.nr, h.ap, none_trans h.kp k, fun X o e => ⟨(h.ex X o e).1, (h.ex X o e).2.1, (k.block X (heap_lt (h.ex X o e).2.2) (fun x => x)).trans (h.ex X o e).2.2⟩⟩
theorem PR.kept {E w W W' b B g cp q R m} {S : Nat → Prop} (h : PR E w W b B g cp q R m) (k : Kept S W W') (h1 : ∀ x, mown b B m.o x → ¬ S x) (h2 : ∀ x, rown g q R m.o x → ¬ S x) (h3 : ∀ x, S x → w.heap.size ≤ x) (h4 : ∀ X o, E X o → ¬ S X) : PR E w W' b B g cp q R m :=
  ⟨h.mp.kept k h1, h.rf.kept k h2, h.nm, h.nr, h.ap, h.kp.trans k (fun _ _ x => x) (fun x hx e => absurd (h3 x e) (by omega)), fun X o e => ⟨(h.ex X o e).1, (h.ex X o e).2.1, (k.block X (heap_lt (h.ex X o e).2.2) (h4 X o e)).trans (h.ex X o e).2.2⟩⟩
theorem setM_only (w : World) (x : Nat) (u0 u1 u2 : Value) : Kept (fun z => z = x) w (setM w x u0 u1 u2) := (((Kept.refl (fun z => z = x) w).setCell (p := ⟨x, 0, none⟩) rfl u0).setCell (p := ⟨x, 1, none⟩) rfl u1).setCell (p := ⟨x, 2, none⟩) rfl u2
/-- The answer's box is written. -/
theorem PR.setY {E : Nat → Obj → Prop} {w w0 W W2 : World} {b : Nat} {B B' : Bs} {g : Option Nat} {cp : Nat} {q : Value} {R : Nat → Nat} {o : Nat} {m' : Mp} {Y : Nat} (h : PR E w W2 b B' g cp q R m') (ho : m'.o = o) (hF : From W b B B' o) (hY : Y < W.heap.size) (hw : w.heap.size ≤ Y) (hE : ∀ X o, E X o → X < Y) (l1 : ∀ x, mown b B o x → x < Y) (l2 : ∀ x, rown g q R o x → x < Y) (u0 u1 u2 : Value) : PR E w (setM W2 Y u0 u1 u2) b B' g cp q R m' := by
  subst ho
  refine h.kept (setM_only W2 Y u0 u1 u2) (fun x hx e => ?_) (fun x hx e => ?_) (fun x e => by omega) (fun X o e e2 => by have := hE X o e; have e2 : X = Y := e2; omega)
  · have e : x = Y := e
    rcases hF x hx with q | q
    · have := l1 x q; omega
    · omega
  · have e : x = Y := e
    have := l2 x hx; omega
theorem run_n (m : Mp) (p o k : Int) : (runM m p o k).n = m.n := by unfold runM; split <;> rfl
theorem slab_n (m : Mp) (p c : Int) : (slabM m p c).n = m.n := by unfold slabM; split <;> rfl
theorem own_n (m : Mp) (p c : Int) (l : Bool) : (ownM m p c l).n = m.n := by unfold ownM; split <;> rfl
theorem chain_n (m : Mp) (p x y : Int) : (chainM m p x y).n = m.n := by unfold chainM; split <;> rfl
theorem first_n (m : Mp) (p c : Int) : (firstM m p c).n = m.n := by unfold firstM; split <;> rfl
theorem flip_n (m : Mp) (k i : Int) : (flipM m k i).n = m.n := by unfold flipM; split <;> rfl
/-- The boxes of played: the document's map, the call, what is answered. -/
structure Bx (W : World) (x : Nat) (o : Nat) (g : Option Nat) (n cp : Nat) (q : Value) (op : Obj) : Prop where
  t : W.heap[x]? = some (ro o g n cp q)
  p : W.heap[x + 1]? = some op
  y : W.heap[x + 2]? = some roZ
theorem Bx.kept {W W' x o g n cp q op} {S : Nat → Prop} (h : Bx W x o g n cp q op) (k : Kept S W W') (hS : ∀ y, S y → y < x) : Bx W' x o g n cp q op := by
  refine ⟨(k.block _ (heap_lt h.t) (fun e => ?_)).trans h.t, (k.block _ (heap_lt h.p) (fun e => ?_)).trans h.p, (k.block _ (heap_lt h.y) (fun e => ?_)).trans h.y⟩
  · have := hS _ e; omega
  · have := hS _ e; omega
  · have := hS _ e; omega
theorem three_box (w : World) (a b c : Obj) : Kept none' w (((w.alloc a).alloc b).alloc c) ∧ (((w.alloc a).alloc b).alloc c).heap[w.heap.size]? = some a ∧ (((w.alloc a).alloc b).alloc c).heap[w.heap.size + 1]? = some b ∧ (((w.alloc a).alloc b).alloc c).heap[w.heap.size + 2]? = some c := by
  have h2 := two_box w a b
  have ka := (Kept.refl none' ((w.alloc a).alloc b)).alloc c
  refine ⟨none_trans h2.1 ka, (ka.block _ (heap_lt h2.2.1) (fun x => x)).trans h2.2.1, (ka.block _ (heap_lt h2.2.2) (fun x => x)).trans h2.2.2, ?_⟩
  have := heap_new ((w.alloc a).alloc b) c
  rwa [World.size_alloc, World.size_alloc] at this
/-- Both sides have done their call: the state behind. -/
theorem PR.both {E : Nat → Obj → Prop} {w W W1 W2 : World} {b : Nat} {B B' : Bs} {g : Option Nat} {cp : Nat} {q : Value} {R : Nat → Nat} {m m' : Mp} (h : PR E w W b B g cp q R m) (hm : MapAt W1 b B' m') (hk1 : Kept (mown b B m.o) W W1) (hF : From W b B B' m.o) (ho : m'.o = m.o) (hr : RefAt W2 g cp q R m') (hk2 : Kept (onlyG g) W1 W2) : PR E w W2 b B' g cp q R m' := by
  have lt : ∀ x, rown g q R m.o x → x < W.heap.size := fun x hx => h.rf.own_lt x hx
  have apm : ∀ x, mown b B' m.o x → ¬ rown g q R m.o x := fun x hx hy => (hF x hx).elim (fun e => h.ap x e hy) (fun e => by have := lt x hy; omega)
  refine ⟨hm.kept hk2 (fun x hx e => apm x (ho ▸ hx) (.inl e)), hr, fun x hx => ?_, fun x hx => h.nr x (ho ▸ hx), fun x hx hy => apm x (ho ▸ hx) (ho ▸ hy), ?_, fun X o e => ?_⟩
  · rw [ho] at hx
    exact (hF x hx).elim (h.nm x) (fun e => Nat.le_trans h.kp.size e)
  · have k1 : Kept none' w W1 := h.kp.trans hk1 (fun _ _ x => x) (fun x hx e => absurd (h.nm x e) (by omega))
    exact k1.trans hk2 (fun _ _ x => x) (fun x hx e => absurd (h.nr x (.inl e)) (by omega))
  · obtain ⟨e1, e2, e3⟩ := h.ex X o e
    have x1 := (hk1.block X (heap_lt e3) e1).trans e3
    refine ⟨fun q => ?_, fun q => e2 (ho ▸ q), (hk2.block X (heap_lt x1) (fun q => e2 (.inl q))).trans x1⟩
    rw [ho] at q
    exact (hF X q).elim e1 (fun z => by have := heap_lt e3; omega)
/-- The document's map behind the program's call. -/
theorem PR.mid {E : Nat → Obj → Prop} {w W W1 : World} {b : Nat} {B : Bs} {g : Option Nat} {cp : Nat} {q : Value} {R : Nat → Nat} {m : Mp} (h : PR E w W b B g cp q R m) (hk1 : Kept (mown b B m.o) W W1) : RefAt W1 g cp q R m := h.rf.kept hk1 (fun x hx e => h.ap x e hx)
theorem own_lt_of {W : World} {b : Nat} {B : Bs} {m : Mp} (h : MapAt W b B m) (n : Nat) (hn : W.heap.size ≤ n) : ∀ y, mown b B m.o y → y < n := fun y hy => Nat.lt_of_lt_of_le (h.own_lt y hy) hn
theorem g_lt_of {W : World} {g : Option Nat} {cp : Nat} {q : Value} {R : Nat → Nat} {m : Mp} (h : RefAt W g cp q R m) (n : Nat) (hn : W.heap.size ≤ n) : ∀ y, onlyG g y → y < n := fun y hy => Nat.lt_of_lt_of_le (h.own_lt y (.inl hy)) hn
abbrev opObj (k p x y : Int) (l : Bool) : Obj := opO k p x y l
theorem opbox {W : World} {x : Nat} {k p a y : Int} {l : Bool} (h : W.heap[x]? = some (opO k p a y l)) : W.cell? ⟨x, 0, none⟩ = some (.int .i64 k) ∧ W.cell? ⟨x, 1, none⟩ = some (.int .i64 p) ∧ W.cell? ⟨x, 2, none⟩ = some (.int .i64 a) ∧ W.cell? ⟨x, 3, none⟩ = some (.int .i64 y) ∧ W.cell? ⟨x, 4, none⟩ = some (.bool l) := by
  refine ⟨?_, ?_, ?_, ?_, ?_⟩ <;> simp [World.cell?, h]
theorem setM_cell {w : World} {x y j : Nat} {v u0 u1 u2 : Value} (hz : y ≠ x) (h : w.cell? ⟨y, j, none⟩ = some v) : (setM w x u0 u1 u2).cell? ⟨y, j, none⟩ = some v := by
  have k : Kept (fun z => z = x) w (setM w x u0 u1 u2) := (((Kept.refl (fun z => z = x) w).setCell (p := ⟨x, 0, none⟩) rfl u0).setCell (p := ⟨x, 1, none⟩) rfl u1).setCell (p := ⟨x, 2, none⟩) rfl u2
  exact k.cell hz h
/-- The cells that played's regions read. -/
abbrev Sx (X : Nat) (o : Nat) (g : Option Nat) (n cp : Nat) (q : Value) (k p x y : Int) (l : Bool) (w : World) : Prop :=
  w.cell? ⟨X, 0, none⟩ = some (.int .i64 (o : Int)) ∧ w.cell? ⟨X, 1, none⟩ = some (.slice (adr g) n cp) ∧ w.cell? ⟨X, 2, none⟩ = some q ∧ w.cell? ⟨X + 1, 0, none⟩ = some (.int .i64 k) ∧ w.cell? ⟨X + 1, 1, none⟩ = some (.int .i64 p) ∧ w.cell? ⟨X + 1, 2, none⟩ = some (.int .i64 x) ∧ w.cell? ⟨X + 1, 3, none⟩ = some (.int .i64 y) ∧ w.cell? ⟨X + 1, 4, none⟩ = some (.bool l)
end Go.Proofs.Ytbhheimedbfmeaa
