import Derived.Test.YtgjapopddblpoaaGreatDoorRgD
/- What cells are as they were says of bytes. -/
namespace Go.Proofs.YtgjapopddblpoaaGreatDoor
open Go.RowKit
set_option linter.unusedVariables false

theorem wordTo_inj (f g : Nat → Nat) : ∀ k, (∀ i, i < k → f i < 256) → (∀ i, i < k → g i < 256) → M.wordTo f k = M.wordTo g k → ∀ i, i < k → f i = g i
  | 0, _, _, _, i, hi => absurd hi (Nat.not_lt_zero _)
  | k + 1, hf, hg, h, i, hi => by
    have hf' := M.wordTo_lt f k (fun i hi => hf i (by omega))
    have hg' := M.wordTo_lt g k (fun i hi => hg i (by omega))
    rw [M.wordTo, M.wordTo] at h
    have hz : 0 < 256 ^ k := Nat.pow_pos (by decide)
    have e1 : (M.wordTo f k + f k * 256 ^ k) / 256 ^ k = f k := by
      rw [Nat.add_mul_div_right _ _ hz, Nat.div_eq_of_lt hf', Nat.zero_add]
    have e2 : (M.wordTo g k + g k * 256 ^ k) / 256 ^ k = g k := by
      rw [Nat.add_mul_div_right _ _ hz, Nat.div_eq_of_lt hg', Nat.zero_add]
    have e3 : f k = g k := by rw [← e1, h, e2]
    by_cases e : i = k
    · rw [e]; exact e3
    · rw [e3] at h
      exact wordTo_inj f g k (fun i hi => hf i (by omega)) (fun i hi => hg i (by omega)) (Nat.add_right_cancel h) i (by omega)
theorem SpaceAt_byte {w s a base R lim n f} (h : M.SpaceAt w s a base R lim n f) {i : Nat} (hi : i < n) : f i < 256 := by
  obtain ⟨cap, hb, hr⟩ := h.ex
  cases a with
  | none =>
    obtain ⟨e, _⟩ := hr
    omega
  | some g =>
    obtain ⟨_, rs, _, _, h1, h2, h3⟩ := hr
    rw [← h2 i hi]
    exact h3 i
theorem word_byte {f g : Nat → Nat} {o : Nat} (hf : ∀ i, i < 8 → f (o + i) < 256) (hg : ∀ i, i < 8 → g (o + i) < 256) (h : M.word f o = M.word g o) (j : Nat) (hj : j < 8) : f (o + j) = g (o + j) :=
  wordTo_inj (fun i => f (o + i)) (fun i => g (o + i)) 8 hf hg h j hj
theorem Kp.byte {w w' x t t'} {G : Nat → Prop} (h : Kp x t t' G) (hb : BdAt w x t) (hb' : BdAt w' x t') {i : Nat} (hi : i / 4096 * 4096 + 4096 ≤ x.n) (hG : G (i / 4096)) : t'.f i = t.f i := by
  have hc := hb.sp.cfg
  have hn := hb.sp.nle
  have hbe := hc.be
  have hb1 := hc.b1
  have hcell : M.IsCell x.base x.n (x.base + i / 16 * 16) := by unfold M.IsCell; omega
  obtain ⟨h1, h2⟩ := h _ hcell (by rw [show (x.base + i / 16 * 16 - x.base) / 4096 = i / 4096 by omega]; exact hG)
  unfold M.nx at h1
  unfold M.pv at h2
  rw [show x.base + i / 16 * 16 - x.base = i / 16 * 16 by omega] at h1
  rw [show x.base + i / 16 * 16 + 8 - x.base = i / 16 * 16 + 8 by omega] at h2
  have f1 : ∀ j, j < 16 → t.f (i / 16 * 16 + j) < 256 := fun j hj => SpaceAt_byte hb.sp (by omega)
  have f2 : ∀ j, j < 16 → t'.f (i / 16 * 16 + j) < 256 := fun j hj => SpaceAt_byte hb'.sp (by omega)
  by_cases e : i % 16 < 8
  · have := word_byte (fun j hj => f2 j (by omega)) (fun j hj => f1 j (by omega)) h1 (i % 16) e
    rw [show i / 16 * 16 + i % 16 = i by omega] at this
    exact this
  · have := word_byte (o := i / 16 * 16 + 8) (fun j hj => by have := f2 (8 + j) (by omega); rw [← Nat.add_assoc] at this; exact this) (fun j hj => by have := f1 (8 + j) (by omega); rw [← Nat.add_assoc] at this; exact this) h2 (i % 16 - 8) (by omega)
    rw [show i / 16 * 16 + 8 + (i % 16 - 8) = i by omega] at this
    exact this
/-- A page of a live block. -/
def Lv (ls : List (Nat × Nat)) (g : Nat) : Prop := ∃ q k, (q, k) ∈ ls ∧ q ≤ g ∧ g < q + 2 ^ k
/-- Bytes of blocks that were live and are are as they were. -/
def BK (t t' : Bt) (ls ls' : List (Nat × Nat)) : Prop := ∀ i, Lv ls (i / 4096) → Lv ls' (i / 4096) → t'.f i = t.f i
theorem Sf.nfree {x t fr ls} (s : Sf x t fr ls) {g : Nat} (h : Lv ls g) (j : Nat) (hj : j ≤ x.o) : g ∉ fr j := fun hg => by
  obtain ⟨q, k, hm, h1, h2⟩ := h
  obtain ⟨B, s, _, hL⟩ := s
  have hz : 0 < 2 ^ j := Nat.pow_pos (by decide)
  rcases s.ds _ _ _ _ _ _ ((s.fi g j).2 ⟨hj, hg⟩) ((hL q k).2 hm) with ⟨e, _⟩ | e | e
  · exact absurd e (by decide)
  · omega
  · omega
theorem Sf.lv_in {x t fr ls} (s : Sf x t fr ls) {g : Nat} (h : Lv ls g) : g * 4096 + 4096 ≤ x.n := by
  obtain ⟨q, k', hm, h3, h4⟩ := h
  obtain ⟨_, _, a3⟩ := s.sn.al hm
  obtain ⟨B, s, _, hL⟩ := s
  have h5 : g + 1 ≤ t.m.n := Nat.le_trans h4 a3
  have h6 := Nat.mul_le_mul_right 4096 h5
  rw [Nat.add_mul, Nat.one_mul] at h6
  exact Nat.le_trans h6 s.nb
theorem BK.of {w w' : World} {x : Bx} {t t' : Bt} {fr fr' : Nat → List Nat} {ls ls' : List (Nat × Nat)} (h : BdAt w x t) (h' : BdAt w' x t') (s : Sf x t fr ls) (s' : Sf x t' fr' ls') (k : Kp x t t' (fun g => (∀ i, i ≤ x.o → g ∉ fr i) ∧ ∀ i, i ≤ x.o → g ∉ fr' i)) : BK t t' ls ls' := fun i h1 h2 => by
  have n1 := fun j hj => s.nfree h1 j hj
  have n2 := fun j hj => s'.nfree h2 j hj
  have hi := s.lv_in h1
  exact Kp.byte (G := fun g => (∀ i, i ≤ x.o → g ∉ fr i) ∧ ∀ i, i ≤ x.o → g ∉ fr' i) k h h' (i := i) hi (And.intro n1 n2)
theorem BK.refl (t : Bt) (ls ls' : List (Nat × Nat)) : BK t t ls ls' := fun _ _ _ => rfl
theorem BK.trans {t t1 t2 : Bt} {ls ls1 ls2 : List (Nat × Nat)} (h : BK t t1 ls ls1) (h' : BK t1 t2 ls1 ls2) (hm : ∀ g, Lv ls g → Lv ls2 g → Lv ls1 g) : BK t t2 ls ls2 := fun i h1 h2 => (h' i (hm _ h1 h2) h2).trans (h i h1 (hm _ h1 h2))
end Go.Proofs.YtgjapopddblpoaaGreatDoor
