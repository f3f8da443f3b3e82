/- What a range gives, taken down. -/
import Derived.Test.YthglogiglimebaaWdsA
namespace Go.Proofs.Ythglogiglimebaa.M
open Go.RowKit Go.Shelf
set_option linter.unusedVariables false
attribute [local go_sem] Oper.semAt_some

/-- What a range gives, at most k, p in hand, q given last. -/
def walkR (base n : Nat) (f : Nat → Nat) : Nat → Nat → Nat → List Nat
  | 0, _, _ => []
  | k + 1, q, p => if p ≠ 0 ∧ In base n p 16 ∧ pv base f p = q then p :: walkR base n f k p (nx base f p) else []

/-- The variable that takes them down. -/
def OutB (w : World) (k : Nat) (v : Value) : Prop := w.heap[k]? = some (.cells #[v] 43 (0, 0))
theorem OutB.lt {w k v} (h : OutB w k v) : k < w.heap.size := (Array.getElem?_eq_some_iff.1 h).1
theorem OutB.kept {w w' k v} {S : Nat → Prop} (h : OutB w k v) (hk : Kept S w w') (hS : ¬ S k) : OutB w' k v := (hk.block k h.lt hS).trans h
theorem OutB.set {w k v} (h : OutB w k v) (u : Value) : OutB (w.setCell ⟨k, 0, none⟩ u) k u := heap_set h 0 u

/-- Between two rounds. -/
structure Taking (c b : Nat) (ao : Option Nat) (base R lim n : Nat) (f0 : Nat → Nat) (hd0 kk ob D L : Nat) (w0 : World) (rc : LoopState → Option Code → Loop) (N i q p : Nat) (f : Nat → Nat) (S : Nat → Prop) (W : World) : Prop where
  hf : f = f0
  ls : LS W c b ao base R lim n f hd0
  pk : PtrB W kk c
  k0 : Kept none' w0 W
  hp : p < 18446744073709551616
  hq : q < 18446744073709551616
  ex : ∃ (xs : List Nat) (v : Value), xs.length = i ∧ i ≤ N ∧ xs ++ walkR base n f0 (N - i) q p = walkR base n f0 N 0 hd0 ∧ OutB W ob v ∧ Lst W v xs ∧ RecAt W L (rc .ready none) ∧ DefAt W D ∧
    (∀ r, v.ownBlock = some r → w0.heap.size ≤ r) ∧ S = fun x => x < w0.heap.size ∨ x = kk ∨ x = ob ∨ x = D ∨ x = L ∨ v.ownBlock = some x

theorem fnilIn (d : Nat) (f : Fn) (a b : Array Value) (w : World) : (Op.equalIn (d + 1) 85 (.func f a b) .nilFunc).run Try.prog w = .ok false w := by
  simp [Op.equalIn, run_underlying Try.underlying85]
theorem fnil (f : Fn) (a b : Array Value) (w : World) : (binOp .eql 85 (.func f a b) .nilFunc).run Try.prog w = .ok (.bool false) w := by
  simp only [binOp]
  simp [Op.equal, Op.maxDepth, fnilIn 9999]

end Go.Proofs.Ythglogiglimebaa.M
