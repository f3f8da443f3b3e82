import Derived.Test.YthglogiglimebaaGreatKi
/- A live block is filled; what the book's marks say of bytes. -/
namespace Go.Proofs.YthglogiglimebaaGreat
open Go.RowKit
set_option linter.unusedVariables false

theorem wordTo_congr (f g : Nat → Nat) : ∀ k, (∀ i, i < k → f i = g i) → M.wordTo f k = M.wordTo g k
  | 0, _ => rfl
  | k + 1, h => by rw [M.wordTo, M.wordTo, wordTo_congr f g k (fun i hi => h i (by omega)), h k (by omega)]
theorem Sd.bytes {x t fr B} (s : Sd x t fr B) {f' : Nat → Nat} (h : ∀ q j, B 0 q j → ∀ i, i < 16 → f' (4096 * q + i) = t.f (4096 * q + i)) : Sd x { t with f := f' } fr B := by
  refine ⟨s.mo, s.o8, s.dv, s.nb, s.n1, s.b1, s.b2, s.tg, s.fi, s.al, s.ds, s.cv, s.pg, fun k hk => (s.ch k hk).congr fun c hc => ?_, s.wl, s.bt, s.nm⟩
  obtain ⟨q, hq, rfl⟩ := List.mem_map.1 hc
  have hb := h q k ((s.fi q k).2 ⟨hk, hq⟩)
  have e1 : ad x q - x.base = 4096 * q := by unfold ad; omega
  have e2 : ad x q + 8 - x.base = 4096 * q + 8 := by unfold ad; omega
  constructor
  · show M.nx x.base f' (ad x q) = M.nx x.base t.f (ad x q)
    unfold M.nx M.word
    rw [e1]
    exact wordTo_congr _ _ 8 fun i hi => hb i (by omega)
  · show M.pv x.base f' (ad x q) = M.pv x.base t.f (ad x q)
    unfold M.pv M.word
    rw [e2]
    exact wordTo_congr _ _ 8 fun i hi => by have := hb (8 + i) (by omega); rw [← Nat.add_assoc] at this; exact this
/-- What is written into a live block touches no list. -/
theorem Sn.fill {x t L} (s : Sn x t L) {p k : Nat} (hl : L p k) {f' : Nat → Nat} (h : ∀ i, ¬ (4096 * p ≤ i ∧ i < 4096 * (p + 2 ^ k)) → f' i = t.f i) : Sn x { t with f := f' } L := by
  obtain ⟨fr, B, s, hN, hL⟩ := s
  refine ⟨fr, B, s.bytes fun q j hb i hi => h _ fun e => ?_, hN, hL⟩
  have hz : 0 < 2 ^ j := Nat.pow_pos (by decide)
  rcases s.ds _ _ _ _ _ _ hb ((hL p k).2 hl) with ⟨e1, _⟩ | e1 | e1 <;> omega
/-- The first n blocks of the book hold their marks. -/
def Mk (t : Bt) (R : Nat → Bk) (n : Nat) : Prop := ∀ j, j < n → ∀ i, 4096 * (R j).pg ≤ i → i < 4096 * ((R j).pg + 2 ^ (R j).od) → t.f i = (R j).mark
/-- A deed was done: all hold their marks, but perhaps the new one. -/
theorem Mk.step {t t' : Bt} {R R' : Nat → Bk} {n n' : Nat} (h : Mk t R n) (hr : Rl R n R' n') (hb : ∀ i, Lp (Lk R n) (i / 4096) → Lp (Lk R' n') (i / 4096) → t'.f i = t.f i) (j : Nat) (hj : j < n') (hn : ¬ (n' = n + 1 ∧ j = n)) : ∀ i, 4096 * (R' j).pg ≤ i → i < 4096 * ((R' j).pg + 2 ^ (R' j).od) → t'.f i = (R' j).mark := by
  intro i h1 h2
  rcases hr.1 j hj with ⟨a, ha, e1, e2, e3⟩ | e
  · have hp : (R a).pg ≤ i / 4096 := by omega
    have hp2 : i / 4096 < (R a).pg + 2 ^ (R a).od := by omega
    rw [hb i ⟨_, _, ⟨a, ha, rfl, rfl⟩, hp, hp2⟩ ⟨_, _, ⟨j, hj, rfl, rfl⟩, by omega, by omega⟩, e1]
    exact h a ha i (by omega) (by omega)
  · exact absurd e hn
/-- .. and the new one is filled. -/
theorem Mk.fill {t : Bt} {R : Nat → Bk} {n : Nat} (ha : ∀ j, j < n → ∀ i, i < n → j ≠ i → (R j).pg + 2 ^ (R j).od ≤ (R i).pg ∨ (R i).pg + 2 ^ (R i).od ≤ (R j).pg) (m : Nat) (hm : m < n) (h : ∀ j, j < n → j ≠ m → ∀ i, 4096 * (R j).pg ≤ i → i < 4096 * ((R j).pg + 2 ^ (R j).od) → t.f i = (R j).mark) {f' : Nat → Nat} (h1 : ∀ i, 4096 * (R m).pg ≤ i → i < 4096 * ((R m).pg + 2 ^ (R m).od) → f' i = (R m).mark) (h2 : ∀ i, ¬ (4096 * (R m).pg ≤ i ∧ i < 4096 * ((R m).pg + 2 ^ (R m).od)) → f' i = t.f i) : Mk { t with f := f' } R n := by
  intro j hj i h3 h4
  show f' i = _
  by_cases e : j = m
  · subst e; exact h1 i h3 h4
  · rw [h2 i (by rcases ha j hj m hm e with e1 | e1 <;> omega)]
    exact h j hj e i h3 h4
end Go.Proofs.YthglogiglimebaaGreat
