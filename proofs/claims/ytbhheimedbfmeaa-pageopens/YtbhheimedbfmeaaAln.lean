/- PageAlone: a map beside a row that was told. -/
import Derived.Test.YtbhheimedbfmeaaKs
import Derived.Test.YtbhheimedbfmeaaCel
import Derived.Test.YtbhheimedbfmeaaPgU
namespace Go.Proofs.Ytbhheimedbfmeaa
open Go.RowKit
set_option linter.unusedVariables false

/-- A map that is newer than w, and a row of pages that is not its own. -/
def KG (w W : World) (b : Nat) (m : Mp) (g n : Nat) (pg : Nat → Pg) : Prop := ∃ B, MapAt W b B m ∧ (∀ x, mown b B m.o x → w.heap.size ≤ x ∧ x ≠ g) ∧ Kept none' w W ∧ Row W g n pg ∧ w.heap.size ≤ g
theorem KG.ks {w W b m g n pg} (h : KG w W b m g n pg) : KS w W b m := by
  obtain ⟨B, h1, h2, h3, _⟩ := h
  exact ⟨B, h1, fun x hx => (h2 x hx).1, h3⟩
theorem KG.keep {w W W' b m g n pg} (h : KG w W b m g n pg) (k : Kept none' W W') : KG w W' b m g n pg := by
  obtain ⟨B, h1, h2, h3, h4, h5⟩ := h
  exact ⟨B, h1.keep k, h2, none_trans h3 k, Row.kept h4 k (fun x => x), h5⟩
theorem Plain_kg (b : Nat) (m : Mp) (w W : World) (h : KS w W b m) :
    Calls Try.prog 21 #[.pointer (some ⟨b, 0, none⟩)] W fun e w' => ∃ gp gq, e = .returned (.tuple #[.slice (some ⟨gp, 0, none⟩) m.n m.n, .slice (some ⟨gq, 0, none⟩) m.o m.o]) ∧ KG w w' b m gp m.n m.pg := by
  obtain ⟨B, h1, h2, h3⟩ := h
  refine (Plain_any b B m W h1).mono ?_
  rintro e w' ⟨gp, gq, D, rfl, hT⟩
  exact ⟨gp, gq, rfl, B, h1.keep hT.kp, fun x hx => ⟨h2 x hx, by have := h1.own_lt x hx; have := hT.fp; omega⟩, none_trans h3 hT.kp, hT.row, Nat.le_trans h3.size hT.fp⟩
theorem Plain_kg2 (b : Nat) (m : Mp) (g n : Nat) (pg : Nat → Pg) (w W : World) (h : KG w W b m g n pg) :
    Calls Try.prog 21 #[.pointer (some ⟨b, 0, none⟩)] W fun e w' => ∃ gp gq, e = .returned (.tuple #[.slice (some ⟨gp, 0, none⟩) m.n m.n, .slice (some ⟨gq, 0, none⟩) m.o m.o]) ∧ Row w' gp m.n m.pg ∧ Row w' g n pg ∧ Kept none' w w' := by
  obtain ⟨B, h1, h2, h3, h4, h5⟩ := h
  refine (Plain_any b B m W h1).mono ?_
  rintro e w' ⟨gp, gq, D, rfl, hT⟩
  exact ⟨gp, gq, rfl, hT.row, Row.kept h4 hT.kp (fun x => x), none_trans h3 hT.kp⟩
theorem call_kg (b : Nat) (m : Mp) (k p x y : Int) (l : Bool) (g n : Nat) (pg : Nat → Pg) (w W : World) (h : KG w W b m g n pg) :
    Calls Try.prog 27 #[.pointer (some ⟨b, 0, none⟩), opV k p x y l] W fun e w' => e = .returned (.bool (callE m k p x y l)) ∧ KG w w' b (callM m k p x y l) g n pg := by
  obtain ⟨B, h1, h2, h3, h4, h5⟩ := h
  refine (call_any b B m k p x y l W h1).mono ?_
  rintro e w' ⟨rfl, B', a1, a2, a3⟩
  have hgl := RowC.lt h4
  refine ⟨rfl, B', a1, fun z hz => ?_, h3.trans a2 (fun _ _ x => x) (fun z hz e => absurd (h2 z e).1 (by omega)), Row.kept h4 a2 (fun e => (h2 g e).2 rfl), h5⟩
  rw [call_o] at hz
  exact (a3 z hz).elim (h2 z) (fun e => ⟨Nat.le_trans h3.size e, by omega⟩)
/-- What a call leaves of the pages. -/
theorem grow_pg (m : Mp) (i : Nat) (hi : i < m.n) : (growM m).pg i = m.pg i := by
  unfold growM
  split
  · rfl
  · show runP (resizeM m (m.n + 2 ^ m.o)).pg m.n m.o 2 i = _
    unfold runP
    rw [if_neg (by omega), if_neg (by omega)]
    show (if i < m.n then m.pg i else zeroP) = _
    rw [if_pos hi]
theorem grow_n (m : Mp) : m.n ≤ (growM m).n := by
  unfold growM
  split
  · exact Nat.le_refl _
  · exact Nat.le_add_right _ _
theorem shrink_pg (m : Mp) (n : Int) (i : Nat) (hi : i < m.n) : (shrinkM m n).pg i = m.pg i := by
  unfold shrinkM
  split
  · show (if i < m.n then m.pg i else zeroP) = _
    rw [if_pos hi]
  · rfl
theorem shrink_n (m : Mp) (n : Int) (h : shrinkE m n ≠ 0) : (shrinkM m n).n = m.n := by
  unfold shrinkE at h
  unfold shrinkM
  split
  · rename_i e
    rw [if_pos e] at h
    exact absurd rfl h
  · rfl
theorem call_n (m : Mp) (k p x y : Int) (l : Bool) (h1 : k ≠ 1) (h2 : k ≠ 2) : (callM m k p x y l).n = m.n := by
  unfold callM
  rw [if_neg h1, if_neg h2]
  split
  · unfold runM; split <;> rfl
  split
  · unfold slabM; split <;> rfl
  split
  · unfold ownM; split <;> rfl
  split
  · unfold chainM; split <;> rfl
  split
  · unfold firstM; split <;> rfl
  unfold flipM; split <;> rfl
/-- How many pages a call speaks of. -/
def speaks (m : Mp) (k p x y : Int) (l : Bool) : Nat := if callE m k p x y l = true ∧ 3 ≤ k ∧ k ≤ 7 then (if k = 3 then 2 ^ x.toNat else 1) else 0
theorem call_pg (m : Mp) (k p x y : Int) (l : Bool) (h1 : k ≠ 1) (h2 : k ≠ 2) (i : Nat) (h : speaks m k p x y l = 0 ∨ (i : Int) < p ∨ p + speaks m k p x y l ≤ (i : Int)) : (callM m k p x y l).pg i = m.pg i := by
  by_cases h3 : k = 3
  · subst h3
    rw [show callM m 3 p x y l = runM m p x y from rfl]
    unfold runM
    by_cases hc : canRun m p x y = true
    · rw [if_pos hc]
      have hE : callE m 3 p x y l = true := by rw [show callE m 3 p x y l = (runE m p x y == 0) from rfl]; simp [runE, hc]
      rw [show speaks m 3 p x y l = 2 ^ x.toNat by unfold speaks; rw [if_pos ⟨hE, by decide, by decide⟩]; rfl] at h
      have hp : inR m.n p = true := by unfold canRun at hc; simp at hc; exact hc.2.1
      obtain ⟨q, rfl, hq⟩ := inR_nat hp
      have hpos : 0 < 2 ^ x.toNat := pw_pos _
      show runP m.pg (Int.toNat q) x.toNat y i = _
      unfold runP
      rw [Int.toNat_natCast, if_neg (by omega), if_neg (by omega)]
    · rw [if_neg hc]
  · have one : ∀ (M : Mp) (E : Int) (P : Pg) (C : Prop) [Decidable C], callM m k p x y l = (if C then { m with pg := upp m.pg p.toNat P } else m) → callE m k p x y l = ((if C then (0 : Int) else 1) == 0) → (C → inR m.n p = true) → 4 ≤ k → k ≤ 7 → (callM m k p x y l).pg i = m.pg i := by
      intro M E P C _ hM hE hC h4 h7
      rw [hM]
      by_cases c : C
      · rw [if_pos c]
        have hE' : callE m k p x y l = true := by rw [hE, if_pos c]; rfl
        rw [show speaks m k p x y l = 1 by unfold speaks; rw [if_pos ⟨hE', by omega, h7⟩, if_neg h3]] at h
        obtain ⟨q, rfl, hq⟩ := inR_nat (hC c)
        show upp m.pg (Int.toNat q) P i = _
        unfold upp
        rw [Int.toNat_natCast, if_neg (by omega)]
      · rw [if_neg c]
    by_cases h4 : k = 4
    · subst h4
      exact one m 0 (slabP x) (inR m.n p = true ∧ 0 ≤ x ∧ x ≤ 7) rfl rfl (fun c => c.1) (by decide) (by decide)
    by_cases h5 : k = 5
    · subst h5
      exact one m 0 (ownP (m.pg p.toNat) x.toNat) (canOwn m p x l = true) rfl rfl (fun c => by unfold canOwn isCell at c; simp at c; exact c.1.1) (by decide) (by decide)
    by_cases h6 : k = 6
    · subst h6
      exact one m 0 { m.pg p.toNat with nx := x, pv := y } (canChain m p x y = true) rfl rfl (fun c => by unfold canChain at c; simp at c; exact c.1) (by decide) (by decide)
    by_cases h7 : k = 7
    · subst h7
      exact one m 0 { m.pg p.toNat with fs := x } (canFirst m p x = true) rfl rfl (fun c => by unfold canFirst at c; simp at c; exact c.1) (by decide) (by decide)
    rw [show callM m k p x y l = flipM m x p by simp [callM, h1, h2, h3, h4, h5, h6, h7]]
    unfold flipM
    split <;> rfl
end Go.Proofs.Ytbhheimedbfmeaa
