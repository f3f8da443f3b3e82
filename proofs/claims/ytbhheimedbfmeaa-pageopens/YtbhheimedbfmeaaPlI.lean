/- played: Flip, Pair. -/
import Derived.Test.YtbhheimedbfmeaaPlA
namespace Go.Proofs.Ytbhheimedbfmeaa
open Go.RowKit
set_option linter.unusedVariables false

theorem Pair_any (b : Nat) (B : Bs) (m : Mp) (k i : Int) (w : World) (h : MapAt w b B m) :
    Calls Try.prog 19 #[.pointer (some ⟨b, 0, none⟩), .int .i64 k, .int .i64 i] w fun e w' => e = .returned (.bool (pairV m k i)) ∧ Kept none' w w' := by
  cases hp : hasP m k i with
  | false =>
    rw [show pairV m k i = false by simp [pairV, hp]]
    exact Pair_no b B m k i w h hp
  | true =>
    have hh := hp
    simp only [hasP, Bool.and_eq_true] at hh
    obtain ⟨a, rfl, ha⟩ := inR_nat hh.1
    obtain ⟨c, rfl, hc⟩ := inR_nat hh.2
    rw [show pairV m (a : Int) (c : Int) = inS (m.n / 2 ^ (a + 1)) (m.wd a) ((c / 2 ^ (a + 1) : Nat) : Int) by simp [pairV, hp, prL, prN]]
    exact Pair_in b B m a c w h ha hc
theorem half_lt {n o a c : Nat} (hd : ∃ r, n = r * 2 ^ o) (ha : a < o) (hc : c < n) : c / 2 ^ (a + 1) < n / 2 ^ (a + 1) := by
  obtain ⟨r, hr⟩ := hd
  obtain ⟨d, rfl⟩ : ∃ d, o = (a + 1) + d := ⟨o - (a + 1), by omega⟩
  have hn : n = r * 2 ^ d * 2 ^ (a + 1) := by rw [hr, Nat.pow_add, Nat.mul_comm (2 ^ (a + 1)), Nat.mul_assoc]
  have hpos : 0 < 2 ^ (a + 1) := Nat.pow_pos (by decide)
  rw [hn, Nat.mul_div_cancel _ hpos]
  rw [hn] at hc
  exact Nat.div_lt_of_lt_mul (by rw [Nat.mul_comm]; exact hc)
/-- The answer of Flip, in bits. -/
theorem flip_bit {w : World} {b : Nat} {B : Bs} {m : Mp} (h : MapAt w b B m) (a c : Nat) (ha : a < m.o) (hc : c < m.n) :
    (flipM m (a : Int) (c : Int)) = { m with wd := upw m.wd a (flipW (m.wd a) (c / 2 ^ (a + 1))) } ∧ pairV (flipM m (a : Int) (c : Int)) (a : Int) (c : Int) = !bit (m.wd a) (c / 2 ^ (a + 1)) ∧ pairV m (a : Int) (c : Int) = bit (m.wd a) (c / 2 ^ (a + 1)) ∧ hasP m (a : Int) (c : Int) = true ∧ ∀ j, bit (flipW (m.wd a) (c / 2 ^ (a + 1))) j = (if j = c / 2 ^ (a + 1) then !bit (m.wd a) (c / 2 ^ (a + 1)) else bit (m.wd a) j) := by
  have hp : hasP m (a : Int) (c : Int) = true := by simp [hasP, inR_yes ha, inR_yes hc]
  have hlt := half_lt h.dv ha hc
  have hin : inR (m.n / 2 ^ (a + 1)) ((c / 2 ^ (a + 1) : Nat) : Int) = true := inR_yes hlt
  have hs := h.set a ha
  have hfl : flipI (m.n / 2 ^ (a + 1)) (m.wd a) ((c / 2 ^ (a + 1) : Nat) : Int) = flipW (m.wd a) (c / 2 ^ (a + 1)) := by
    unfold flipI
    rw [if_pos hin, Int.toNat_natCast]
  have hf : flipM m (a : Int) (c : Int) = { m with wd := upw m.wd a (flipW (m.wd a) (c / 2 ^ (a + 1))) } := by
    unfold flipM
    rw [if_pos hp]
    simp only [prL, prN, Int.toNat_natCast]
    rw [hfl]
  have hb : ∀ j, bit (flipW (m.wd a) (c / 2 ^ (a + 1))) j = (if j = c / 2 ^ (a + 1) then !bit (m.wd a) (c / 2 ^ (a + 1)) else bit (m.wd a) j) := fun j => bit_flip (m.wd a) _ j (by have := hs.len; omega)
  refine ⟨hf, ?_, ?_, hp, hb⟩
  · rw [hf]
    have hp2 : hasP { m with wd := upw m.wd a (flipW (m.wd a) (c / 2 ^ (a + 1))) } (a : Int) (c : Int) = true := hp
    unfold pairV
    rw [hp2, Bool.true_and]
    simp only [prL, prN, Int.toNat_natCast]
    unfold inS
    rw [hin, Bool.true_and, Int.toNat_natCast]
    show bit (upw m.wd a _ a) _ = _
    unfold upw
    rw [if_pos rfl, hb, if_pos rfl]
  · unfold pairV
    rw [hp, Bool.true_and]
    simp only [prL, prN, Int.toNat_natCast]
    unfold inS
    rw [hin, Bool.true_and, Int.toNat_natCast]
/-- One truth of the document's map is turned. -/
theorem RefAt.flip {w g cp q R m} (h : RefAt w g cp q R m) (a j : Nat) (ha : a < m.o) (hj : j < ln m.n a) (ws : List Nat) (v : Bool) (hw : ∀ i, bit ws i = (if i = j then v else bit (m.wd a) i)) : RefAt (w.setCell ⟨R a, j, none⟩ (.bool v)) g cp q R { m with wd := upw m.wd a ws } := by
  obtain ⟨cs, hg, hs, hc⟩ := h.bs a ha
  have k : Kept (fun x => x = R a) w (w.setCell ⟨R a, j, none⟩ (.bool v)) := (Kept.refl (fun x => x = R a) w).setCell (p := ⟨R a, j, none⟩) rfl _
  refine ⟨h.o8, h.n1, h.rq.kept k (fun x e e2 => ?_), h.cp, own_kept h.pr k (fun x hx e => ?_), fun i hi => ?_, h.iR⟩
  · have e2 : x = R a := e2
    subst e
    obtain ⟨N, pp, _, h2, _⟩ := h.rq
    obtain ⟨c2, h2, _⟩ := h2
    exact absurd e2 (ty_ne h2 hg (by decide))
  · have e : x = R a := e
    subst e
    exact absurd (own_ty h.pr _ hx hg) (by decide)
  · show InB _ (R i) (ln m.n i) (bit (upw m.wd a ws i))
    unfold upw
    by_cases e : i = a
    · subst e
      rw [if_pos rfl]
      exact (h.bs i hi).set j hj v (fun z hz => hw z)
    · rw [if_neg e]
      exact (h.bs i hi).kept k (fun e2 => e (h.iR i a hi ha e2))
/-- As PR.both, the document's map written anywhere. -/
theorem PR.bothS {E : Nat → Obj → Prop} {w W W1 W2 : World} {b : Nat} {B B' : Bs} {g : Option Nat} {cp : Nat} {q : Value} {R : Nat → Nat} {m m' : Mp} {S : Nat → Prop} (h : PR E w W b B g cp q R m) (hm : MapAt W1 b B' m') (hk1 : Kept (mown b B m.o) W W1) (hF : From W b B B' m.o) (ho : m'.o = m.o) (hr : RefAt W2 g cp q R m') (hk2 : Kept S W1 W2) (hS : ∀ x, S x → rown g q R m.o x) : PR E w W2 b B' g cp q R m' := by
  have lt : ∀ x, rown g q R m.o x → x < W.heap.size := fun x hx => h.rf.own_lt x hx
  have apm : ∀ x, mown b B' m.o x → ¬ rown g q R m.o x := fun x hx hy => (hF x hx).elim (fun e => h.ap x e hy) (fun e => by have := lt x hy; omega)
  refine ⟨hm.kept hk2 (fun x hx e => apm x (ho ▸ hx) (hS x e)), hr, fun x hx => ?_, fun x hx => h.nr x (ho ▸ hx), fun x hx hy => apm x (ho ▸ hx) (ho ▸ hy), ?_, fun X o e => ?_⟩
  · rw [ho] at hx
    exact (hF x hx).elim (h.nm x) (fun e => Nat.le_trans h.kp.size e)
  · have k1 : Kept none' w W1 := h.kp.trans hk1 (fun _ _ x => x) (fun x hx e => absurd (h.nm x e) (by omega))
    exact k1.trans hk2 (fun _ _ x => x) (fun x hx e => absurd (h.nr x (hS x e)) (by omega))
  · obtain ⟨e1, e2, e3⟩ := h.ex X o e
    have x1 := (hk1.block X (heap_lt e3) e1).trans e3
    refine ⟨fun q => ?_, fun q => e2 (ho ▸ q), (hk2.block X (heap_lt x1) (fun q => e2 (hS X q))).trans x1⟩
    rw [ho] at q
    exact (hF X q).elim e1 (fun z => by have := heap_lt e3; omega)
theorem setMd_cell {w : World} {x y j : Nat} {v u0 u1 u2 : Value} (hz : y ≠ x) (h : w.drew.cell? ⟨y, j, none⟩ = some v) : (setM w x u0 u1 u2).drew.cell? ⟨y, j, none⟩ = some v := setM_cell (w := w) hz h
end Go.Proofs.Ytbhheimedbfmeaa
