/- The document's own map (croftref4): where it lies. -/
import Derived.Test.YtbhheimedbfmeaaRfM
import Derived.Test.YtbhheimedbfmeaaRfA
import Derived.Test.YtbhheimedbfmeaaApp
namespace Go.Proofs.Ytbhheimedbfmeaa
open Go.RowKit
set_option linter.unusedVariables false

/-- Pages with room behind them. -/
def Rq (w : World) (g : Option Nat) (n : Nat) (pg : Nat → Pg) : Prop :=
  match g with
  | none => n = 0
  | some q => ∃ N pg', n ≤ N ∧ Row w q N pg' ∧ ∀ i, i < n → pg' i = pg i
theorem Rq.has {w g n pg} (h : Rq w g n pg) (hn : 0 < n) : ∃ q N pg', g = some q ∧ n ≤ N ∧ Row w q N pg' ∧ ∀ i, i < n → pg' i = pg i := by
  cases g with
  | none => have : n = 0 := h; omega
  | some q => obtain ⟨N, pg', h1, h2, h3⟩ := h; exact ⟨q, N, pg', rfl, h1, h2, h3⟩
theorem Rq.kept {w w' g n pg} {S : Nat → Prop} (h : Rq w g n pg) (k : Kept S w w') (hS : ∀ x, g = some x → ¬ S x) : Rq w' g n pg := by
  cases g with
  | none => exact h
  | some q => obtain ⟨N, pg', h1, h2, h3⟩ := h; exact ⟨N, pg', h1, Row.kept h2 k (hS q rfl), h3⟩
theorem Rq.lt {w g n pg} (h : Rq w g n pg) (x : Nat) (e : g = some x) : x < w.heap.size := by
  subst e
  obtain ⟨N, pg', h1, h2, h3⟩ := h
  exact RowC.lt h2
theorem Rq.congr {w g n n' pg pg'} (h : Rq w g n pg) (hn : n' ≤ n) (he : ∀ i, i < n' → pg i = pg' i) : Rq w g n' pg' := by
  cases g with
  | none => have : n = 0 := h; show n' = 0; omega
  | some q => obtain ⟨N, pp, h1, h2, h3⟩ := h; exact ⟨N, pp, by omega, h2, fun i hi => (h3 i (by omega)).trans (he i hi)⟩
theorem Rq.put {w q n pg} (h : Rq w (some q) n pg) (i : Nat) (hi : i < n) (p : Pg) : Rq (setP w q i p) (some q) n (upp pg i p) := by
  obtain ⟨N, pp, h1, h2, h3⟩ := h
  refine ⟨N, upp pp i p, h1, Row.put h2 i (by omega) p, fun j hj => ?_⟩
  unfold upp
  by_cases e : j = i
  · rw [if_pos e, if_pos e]
  · rw [if_neg e, if_neg e]; exact h3 j hj
abbrev bsl (R : Nat → Nat) (L : Nat → Nat) (k : Nat) : Value := .slice (some ⟨R k, 0, none⟩) (L k) (L k)
def bsls (R : Nat → Nat) (L : Nat → Nat) (o : Nat) : List Value := (List.range o).map (bsl R L)
def ln (n k : Nat) : Nat := n / 2 ^ (k + 1)
/-- The document's own map m: its pages, the row of its rows of truths, these. -/
structure RefAt (w : World) (g : Option Nat) (cp : Nat) (q : Value) (R : Nat → Nat) (m : Mp) : Prop where
  o8 : m.o ≤ 8
  n1 : m.n ≤ 1024
  rq : Rq w g m.n m.pg
  cp : m.n ≤ cp
  pr : w.ownsRow 0 65 1 q m.o (bsls R (ln m.n) m.o)
  bs : ∀ k, k < m.o → InB w (R k) (ln m.n k) (bit (m.wd k))
  iR : ∀ i j, i < m.o → j < m.o → R i = R j → i = j
def rown (g : Option Nat) (q : Value) (R : Nat → Nat) (o : Nat) : Nat → Prop := fun x => g = some x ∨ q.ownBlock = some x ∨ ∃ k, k < o ∧ x = R k
theorem own_kept {w w' : World} {e : TypeId} {size : Nat} {v : Value} {n : Nat} {xs : List Value} {S : Nat → Prop} (h : w.ownsRow 0 e size v n xs) (k : Kept S w w') (hS : ∀ x, v.ownBlock = some x → ¬ S x) : w'.ownsRow 0 e size v n xs := by
  refine ⟨h.1, ?_⟩
  rcases h.2 with h0 | ⟨g, cap, cur, rfl, hb, hg, h3⟩
  · exact .inl h0
  · exact .inr ⟨g, cap, cur, rfl, hb, (k.block g (heap_lt hg) (hS g (by simp [Value.ownBlock]))).trans hg, h3⟩
theorem own_lt {w : World} {e : TypeId} {size : Nat} {v : Value} {n : Nat} {xs : List Value} (h : w.ownsRow 0 e size v n xs) (x : Nat) (hx : v.ownBlock = some x) : x < w.heap.size := by
  rcases h.2 with ⟨rfl, h0⟩ | ⟨g, cap, cur, rfl, hb, hg, h3⟩
  · simp [Value.ownBlock] at hx
  · simp [Value.ownBlock] at hx
    subst hx
    exact heap_lt hg
theorem own_cell {w : World} {e : TypeId} {v : Value} {n : Nat} {xs : List Value} (h : w.ownsRow 0 e 1 v n xs) (k : Nat) (hk : k < n) : ∃ g cap u, v = .slice (some ⟨g, 0, none⟩) n cap ∧ xs[k]? = some u ∧ w.cell? ⟨g, k, none⟩ = some u := by
  have hl : xs.length = n := by have := h.1; omega
  rcases h.2 with ⟨rfl, h0⟩ | ⟨g, cap, cur, rfl, hb, hg, hnc, hcm, hcs, htake⟩
  · omega
  · have hx : xs[k]? = some (xs[k]'(by omega)) := List.getElem?_eq_getElem _
    refine ⟨g, cap, xs[k]'(by omega), rfl, hx, ?_⟩
    rw [← hx, ← htake, List.getElem?_take, if_pos (by omega)]
    simp [World.cell?, hg]
theorem RefAt.kept {w w' g cp q R m} {S : Nat → Prop} (h : RefAt w g cp q R m) (k : Kept S w w') (hS : ∀ x, rown g q R m.o x → ¬ S x) : RefAt w' g cp q R m :=
  ⟨h.o8, h.n1, h.rq.kept k (fun x e => hS x (.inl e)), h.cp, own_kept h.pr k (fun x e => hS x (.inr (.inl e))), fun i hi => (h.bs i hi).kept k (hS _ (.inr (.inr ⟨i, hi, rfl⟩))), h.iR⟩
theorem RefAt.keep {w w' g cp q R m} (h : RefAt w g cp q R m) (k : Kept none' w w') : RefAt w' g cp q R m := h.kept k (fun _ _ x => x)
theorem InB.lt {w I n f} (h : InB w I n f) : I < w.heap.size := by
  obtain ⟨cs, hg, _⟩ := h
  exact heap_lt hg
theorem RefAt.own_lt {w g cp q R m} (h : RefAt w g cp q R m) (x : Nat) (hx : rown g q R m.o x) : x < w.heap.size := by
  rcases hx with e | e | ⟨k, hk, rfl⟩
  · exact h.rq.lt x e
  · exact Go.Proofs.Ytbhheimedbfmeaa.own_lt h.pr x e
  · exact (h.bs k hk).lt
theorem RefAt.pcell {w g cp q R m} (h : RefAt w g cp q R m) (k : Nat) (hk : k < m.o) : ∃ g' cap, q = .slice (some ⟨g', 0, none⟩) m.o cap ∧ w.cell? ⟨g', k, none⟩ = some (bsl R (ln m.n) k) := by
  obtain ⟨g', cap, u, h1, h2, h3⟩ := own_cell h.pr k hk
  refine ⟨g', cap, h1, ?_⟩
  rw [h3, ← h2]
  simp [bsls, hk]
/-- Only the pages that are there count, and the bits. -/
theorem RefAt.congr {w g cp q R m} (h : RefAt w g cp q R m) {pg' : Nat → Pg} {wd' : Nat → List Nat} (he : ∀ i, i < m.n → m.pg i = pg' i) (hw : ∀ k, k < m.o → ∀ i, i < ln m.n k → bit (m.wd k) i = bit (wd' k) i) : RefAt w g cp q R ⟨m.o, m.n, pg', wd'⟩ :=
  ⟨h.o8, h.n1, h.rq.congr (Nat.le_refl _) he, h.cp, h.pr, fun k hk => by
    obtain ⟨cs, hg, hs, hc⟩ := h.bs k hk
    exact ⟨cs, hg, hs, fun i hi => (hc i hi).trans (congrArg (fun z => some (Value.bool z)) (hw k hk i hi))⟩, h.iR⟩
end Go.Proofs.Ytbhheimedbfmeaa
