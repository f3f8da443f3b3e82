/- What a map of New's keeps, call by call: its pages are in range, its links apart. -/
import Derived.Test.YtbhheimedbfmeabCls
import Derived.Test.YtbhheimedbfmeabPgP
import Derived.Test.YtbhheimedbfmeabCal
import Derived.Test.YtbhheimedbfmeabKs
namespace Go.Proofs.Ytbhheimedbfmeab
open Go.RowKit
set_option linter.unusedVariables false

/-- How many of the first bits are 1. -/
def cntP (p : Pg) : Nat → Nat
  | 0 => 0
  | k + 1 => cntP p k + (if litP p k = true then 1 else 0)
theorem cntP_le (p : Pg) : ∀ k, cntP p k ≤ k
  | 0 => Nat.le_refl 0
  | k + 1 => by
    have := cntP_le p k
    unfold cntP
    split <;> omega
theorem cnt_congr {p q : Pg} (h : ∀ j, litP p j = litP q j) : ∀ k, cntP p k = cntP q k
  | 0 => rfl
  | k + 1 => by unfold cntP; rw [cnt_congr h k, h k]
theorem cnt_turn_lo (p : Pg) (c : Nat) (hc : c < 256) : ∀ k, k ≤ c → cntP (turnP p c) k = cntP p k
  | 0, _ => rfl
  | k + 1, h => by
    unfold cntP
    rw [cnt_turn_lo p c hc k (by omega), lit_turn p c k hc (by omega), if_neg (by omega : ¬ k = c)]
theorem cnt_turn (p : Pg) (c : Nat) (hc : c < 256) : ∀ k, c < k → k ≤ 256 → cntP (turnP p c) k + (if litP p c = true then 1 else 0) = cntP p k + (if litP p c = true then 0 else 1)
  | 0, h, _ => absurd h (by omega)
  | k + 1, h, h2 => by
    unfold cntP
    rw [lit_turn p c k hc (by omega)]
    by_cases e : k = c
    · subst e
      rw [cnt_turn_lo p k hc k (Nat.le_refl k), if_pos rfl]
      cases litP p k <;> simp
    · rw [if_neg e]
      have := cnt_turn p c hc k (by omega) (by omega)
      omega
theorem wP_same {p q : Pg} (h0 : p.b0 = q.b0) (h1 : p.b1 = q.b1) (h2 : p.b2 = q.b2) (h3 : p.b3 = q.b3) (k : Nat) : wP p k = wP q k := by
  unfold wP
  split
  · exact h0
  · exact h1
  · exact h2
  · exact h3
theorem lit_same {p q : Pg} (h0 : p.b0 = q.b0) (h1 : p.b1 = q.b1) (h2 : p.b2 = q.b2) (h3 : p.b3 = q.b3) (j : Nat) : litP p j = litP q j := by
  unfold litP
  rw [wP_same h0 h1 h2 h3]
theorem cnt_dark {p : Pg} (h0 : p.b0 = 0) (h1 : p.b1 = 0) (h2 : p.b2 = 0) (h3 : p.b3 = 0) : ∀ k, cntP p k = 0
  | 0 => rfl
  | k + 1 => by
    have e : litP p k = false := by
      unfold litP
      have : wP p (k / 64) = 0 := by
        unfold wP
        split <;> assumption
      rw [this]
      simp
    unfold cntP
    rw [cnt_dark h0 h1 h2 h3 k, e]
    rfl

theorem lv_same {p q : Pg} {z : Int} (h : z = cntP p 256) (h0 : q.b0 = p.b0) (h1 : q.b1 = p.b1) (h2 : q.b2 = p.b2) (h3 : q.b3 = p.b3) : z = cntP q 256 := by
  rw [h, cnt_congr (fun j => lit_same h0 h1 h2 h3 j) 256]
/-- A page in range, its links only from below. -/
structure Rng (o : Nat) (p : Pg) : Prop where
  k0 : 0 ≤ p.kd
  k4 : p.kd ≤ 4
  o0 : 0 ≤ p.od
  oo : p.od ≤ o
  c0 : 0 ≤ p.cl
  c7 : p.cl ≤ 7
  lv : p.lv = cntP p 256
  nx : -1 ≤ p.nx
  pv : -1 ≤ p.pv
  f0 : -1 ≤ p.fs
  f1 : p.fs ≤ 255
theorem Rng.zero (o : Nat) : Rng o zeroP := by
  have h : cntP zeroP 256 = 0 := cnt_dark rfl rfl rfl rfl 256
  refine ⟨?_, ?_, ?_, ?_, ?_, ?_, ?_, ?_, ?_, ?_, ?_⟩
  case refine_7 => rw [h]; rfl
  all_goals simp [zeroP]
theorem Rng.blank (o : Nat) (k q : Int) (h0 : 0 ≤ k) (h4 : k ≤ 4) (q0 : 0 ≤ q) (qo : q ≤ o) : Rng o (blankP k q) := by
  have h : cntP (blankP k q) 256 = 0 := cnt_dark rfl rfl rfl rfl 256
  refine ⟨h0, h4, q0, qo, ?_, ?_, ?_, ?_, ?_, ?_, ?_⟩
  case refine_3 => rw [h]; rfl
  all_goals simp [blankP]
theorem Rng.slab (o : Nat) (c : Int) (h0 : 0 ≤ c) (h7 : c ≤ 7) : Rng o (slabP c) := by
  have h : cntP (slabP c) 256 = 0 := cnt_dark rfl rfl rfl rfl 256
  refine ⟨?_, ?_, ?_, ?_, h0, h7, ?_, ?_, ?_, ?_, ?_⟩
  case refine_5 => rw [h]; rfl
  all_goals simp [slabP, blankP]
theorem Rng.own {o : Nat} {p : Pg} (h : Rng o p) (c : Nat) (hc : c < 256) : Rng o (ownP p c) := by
  obtain ⟨t0, t1, t2, t3, t4, t5, t6⟩ := turn_rest p c
  have e1 : ∀ j, litP (ownP p c) j = litP (turnP p c) j := fun j => lit_same rfl rfl rfl rfl j
  have e := cnt_congr e1 256
  have T := cnt_turn p c hc 256 hc (Nat.le_refl 256)
  have L := cntP_le p 256
  have L2 := cntP_le (turnP p c) 256
  have hl := h.lv
  refine ⟨by show 0 ≤ (turnP p c).kd; rw [t0]; exact h.k0, by show (turnP p c).kd ≤ 4; rw [t0]; exact h.k4, by show 0 ≤ (turnP p c).od; rw [t1]; exact h.o0, by show (turnP p c).od ≤ o; rw [t1]; exact h.oo, by show 0 ≤ (turnP p c).cl; rw [t2]; exact h.c0, by show (turnP p c).cl ≤ 7; rw [t2]; exact h.c7, ?_, by show -1 ≤ (turnP p c).nx; rw [t4]; exact h.nx, by show -1 ≤ (turnP p c).pv; rw [t5]; exact h.pv, by show -1 ≤ (turnP p c).fs; rw [t6]; exact h.f0, by show (turnP p c).fs ≤ 255; rw [t6]; exact h.f1⟩
  rw [e, own_lv]
  cases hb : litP p c
  · rw [hb] at T
    simp at T
    simp [wrap64]
    omega
  · rw [hb] at T
    simp at T
    simp [wrap64]
    omega

def Inv (m : Mp) : Prop := ∀ i, i < m.n → Rng m.o (m.pg i)
theorem inv_new (o : Nat) : Inv (newM o) := fun i h => absurd h (Nat.not_lt_zero i)
theorem inv_resize {m : Mp} (h : Inv m) (c : Nat) : ∀ i, Rng m.o ((resizeM m c).pg i) := fun i => by
  show Rng m.o (if i < m.n then m.pg i else zeroP)
  split
  · rename_i e; exact h i e
  · exact Rng.zero _
theorem rng_run {o : Nat} {pg : Nat → Pg} {n : Nat} (h : ∀ i, i < n → Rng o (pg i)) (p q : Nat) (k : Int) (hk : k = 0 ∨ k = 2) (hq : q ≤ o) : ∀ i, i < n → Rng o (runP pg p q k i) := fun i hi => by
  unfold runP
  split
  · exact Rng.blank o k q (by omega) (by omega) (by omega) (by omega)
  · split
    · exact Rng.blank o (k + 1) q (by omega) (by omega) (by omega) (by omega)
    · exact h i hi
theorem rng_upp {o : Nat} {pg : Nat → Pg} {n : Nat} (h : ∀ i, i < n → Rng o (pg i)) (j : Nat) {P : Pg} (hP : Rng o P) : ∀ i, i < n → Rng o (upp pg j P i) := fun i hi => by
  unfold upp
  split
  · exact hP
  · exact h i hi
theorem ncell256 (c : Int) : ncell c ≤ 256 := by
  unfold ncell
  exact Nat.div_le_self _ _
theorem inv_call {m : Mp} (h : Inv m) (k p x y : Int) (l : Bool) : Inv (callM m k p x y l) := by
  unfold callM
  split
  · unfold growM
    split
    · exact h
    · exact rng_run (fun i _ => inv_resize h _ i) m.n m.o 2 (.inr rfl) (Nat.le_refl _)
  split
  · unfold shrinkM
    split
    · exact fun i _ => inv_resize h _ i
    · exact h
  split
  · unfold runM
    split
    · rename_i e
      unfold canRun at e
      simp at e
      exact rng_run h p.toNat x.toNat y e.1.1 (by omega)
    · exact h
  split
  · unfold slabM
    split
    · rename_i e
      exact rng_upp h _ (Rng.slab _ x e.2.1 e.2.2)
    · exact h
  split
  · unfold ownM
    split
    · rename_i e
      unfold canOwn isCell at e
      simp only [Bool.and_eq_true] at e
      obtain ⟨q, hq, hq2⟩ := inR_nat e.1.1
      obtain ⟨r, hr, hr2⟩ := inR_nat e.1.2.2
      have := ncell256 (m.pg p.toNat).cl
      exact rng_upp h _ (Rng.own (h _ (by omega)) _ (by omega))
    · exact h
  split
  · unfold chainM
    split
    · rename_i e
      unfold canChain lnk at e
      simp only [Bool.and_eq_true, Bool.or_eq_true, beq_iff_eq] at e
      obtain ⟨q, hq, hq2⟩ := inR_nat e.1
      have H := h p.toNat (by omega)
      have hx : -1 ≤ x := by
        rcases e.2.2.1 with e | e
        · omega
        · obtain ⟨r, hr, hr2⟩ := inR_nat e; omega
      have hy : -1 ≤ y := by
        rcases e.2.2.2 with e | e
        · omega
        · obtain ⟨r, hr, hr2⟩ := inR_nat e; omega
      exact rng_upp h _ ⟨H.k0, H.k4, H.o0, H.oo, H.c0, H.c7, lv_same H.lv rfl rfl rfl rfl, hx, hy, H.f0, H.f1⟩
    · exact h
  split
  · unfold firstM
    split
    · rename_i e
      unfold canFirst at e
      simp only [Bool.and_eq_true, Bool.or_eq_true, beq_iff_eq] at e
      obtain ⟨q, hq, hq2⟩ := inR_nat e.1
      have H := h p.toNat (by omega)
      have := ncell256 (m.pg p.toNat).cl
      have hx : -1 ≤ x ∧ x ≤ 255 := by
        rcases e.2.2 with e | e
        · omega
        · obtain ⟨r, hr, hr2⟩ := inR_nat e; omega
      exact rng_upp h _ ⟨H.k0, H.k4, H.o0, H.oo, H.c0, H.c7, lv_same H.lv rfl rfl rfl rfl, H.nx, H.pv, hx.1, hx.2⟩
    · exact h
  · unfold flipM
    split <;> exact h
/-- In range, and its links too: Open takes the page as it is. -/
theorem clamp_same {m : Mp} {p : Pg} (h : Rng m.o p) (hx : p.nx < m.n) (hy : p.pv < m.n) : clampP m p = p := by
  have := cntP_le p 256
  have := h.lv
  unfold clampP clampI
  obtain ⟨a1, a2, a3, a4, a5, a6, a7, a8, a9, a10, a11⟩ := h
  obtain ⟨kd, od, cl, lv, nx, pv, fs, b0, b1, b2, b3⟩ := p
  simp only at *
  simp only [Pg.mk.injEq, and_true]
  refine ⟨?_, ?_, ?_, ?_, ?_, ?_, ?_⟩ <;> omega
end Go.Proofs.Ytbhheimedbfmeab
