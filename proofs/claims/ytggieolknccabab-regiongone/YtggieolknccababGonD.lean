/- RegionGone: what is given back. -/
import Derived.Test.YtggieolknccababGonC
namespace Go.Proofs.Ytggieolknccabab
open Go.RowKit
set_option linter.unusedVariables false

/-- While blocks are given back: d says which are. -/
structure G2 (w : World) (lw l o m : Nat) (va vk : Value) (I : Nat) (d : Nat → Bool) (E : Nat → Prop) (x : Bx) (t : Bt) (fr : Nat → List Nat) (l0 ls : List (Nat × Nat)) (W : World) : Prop where
  pe : PE E w W lw x t fr ls
  ea : ∀ y, va.ownBlock = some y → E y ∧ w.heap.size ≤ y
  ek : ∀ y, vk.ownBlock = some y → E y ∧ w.heap.size ≤ y
  ei : E I ∧ w.heap.size ≤ I
  ra : GS w W 24 1 va m (l0.map fun r => M.e64 (adG r.1))
  rk : GS w W 3 1 vk m (l0.map fun r => nI r.2)
  br : BR W I m d
  ml : m = l0.length
  nd : (l0.map Prod.fst).Nodup
  base : x.base = 1048576
  lim : x.lim = l
  o : x.o = o
  mem : ∀ q k, (q, k) ∈ ls ↔ ∃ i, i < m ∧ d i = false ∧ l0.getD i (0, 0) = (q, k)
theorem mem_getD {α : Type} {l : List α} {a z : α} : a ∈ l ↔ ∃ i, i < l.length ∧ l.getD i z = a := by
  constructor
  · intro h
    obtain ⟨i, hi, e⟩ := List.getElem_of_mem h
    exact ⟨i, hi, by rw [List.getD_eq_getElem?_getD, List.getElem?_eq_getElem hi]; exact e⟩
  · rintro ⟨i, hi, e⟩
    rw [List.getD_eq_getElem?_getD, List.getElem?_eq_getElem hi] at e
    exact e ▸ List.getElem_mem hi
theorem G1.g2 {w lw l o m va vk E x t fr ls W W'} {I : Nat} (h : G1 w lw l o m va vk E x t fr ls W) (k : Kept none' W W') (hb : BR W' I m (fun _ => false)) (hI : W.heap.size ≤ I) : G2 w lw l o m va vk I (fun _ => false) (fun y => E y ∨ y = I) x t fr ls ls W' := by
  have h1 := h.keep k
  have hw := h.pe.po.pl.kp.size
  refine ⟨h1.pe.re (fun y e => ?_), fun y e => ⟨.inl (h.ea y e).1, (h.ea y e).2⟩, fun y e => ⟨.inl (h.ek y e).1, (h.ek y e).2⟩, ⟨.inr rfl, by omega⟩, h1.ra, h1.rk, hb, h.ml, h.nd, h.base, h.lim, h.o, fun q k => ?_⟩
  · rcases e with e | rfl
    · exact h1.pe.ex y e
    · refine ⟨hb.lt, fun e => ?_⟩
      have := h.pe.po.pl.lts y e
      omega
  · rw [mem_getD (z := (0, 0)), h.ml]
    constructor
    · rintro ⟨i, h1, h2⟩
      exact ⟨i, h1, rfl, h2⟩
    · rintro ⟨i, h1, _, h2⟩
      exact ⟨i, h1, h2⟩
theorem G2.keep {w lw l o m va vk I d E x t fr l0 ls W W'} (h : G2 w lw l o m va vk I d E x t fr l0 ls W) (k : Kept none' W W') : G2 w lw l o m va vk I d E x t fr l0 ls W' := ⟨h.pe.keep k, h.ea, h.ek, h.ei, h.ra.keep k, h.rk.keep k, h.br.same (k.block _ h.br.lt (fun e => e)), h.ml, h.nd, h.base, h.lim, h.o, h.mem⟩
theorem nd_ne {l0 : List (Nat × Nat)} (h : (l0.map Prod.fst).Nodup) {i j : Nat} (hi : i < l0.length) (hj : j < l0.length) (e : (l0.getD i (0, 0)).1 = (l0.getD j (0, 0)).1) : i = j := by
  rw [List.getD_eq_getElem?_getD, List.getElem?_eq_getElem hi, List.getD_eq_getElem?_getD, List.getElem?_eq_getElem hj] at e
  have h1 : (l0.map Prod.fst)[i]'(by simpa using hi) = (l0.map Prod.fst)[j]'(by simpa using hj) := by simpa using e
  have hp := List.pairwise_iff_getElem.1 (List.nodup_iff_pairwise_ne.1 h)
  rcases Nat.lt_trichotomy i j with e2 | e2 | e2
  · exact absurd h1 (hp i j _ _ e2)
  · exact e2
  · exact absurd h1.symm (hp j i _ _ e2)
/-- One is given back, and said to be. -/
theorem G2.give {w lw l o m va vk I d E x t fr l0 ls W W' t' fr'} (h : G2 w lw l o m va vk I d E x t fr l0 ls W) (i : Nat) (hi : i < m) (hd : d i = false) (q k : Nat) (hq : l0.getD i (0, 0) = (q, k)) (hp : PO w W' lw x t' fr' (dropR ls q)) (kp : Kept (bown x) W W') :
    G2 w lw l o m va vk I (fun j => if j = i then true else d j) E x t' fr' l0 (dropR ls q) (W'.setCell ⟨I, i, none⟩ (.bool true)) := by
  obtain ⟨hpe, hE⟩ := h.pe.call hp (Sm.refl x) kp (fun y e => .inl e)
  have hb := h.br.same (hE I h.ei.1)
  have ks : Kept (fun y => y = I) W' (W'.setCell ⟨I, i, none⟩ (.bool true)) := (Kept.refl (fun y => y = I) W').setCell (p := ⟨I, i, none⟩) rfl _
  have hpe2 := hpe.set ks (fun y e => by have e : y = I := e; rw [e]; exact h.ei.1) (fun y e => by have e : y = I := e; rw [e]; exact h.ei.2)
  have bt : ∀ {e : TypeId} {v : Value} {n : Nat} {xs : List Value}, e ≠ 4 → GS w W e 1 v n xs → (∀ y, v.ownBlock = some y → E y ∧ w.heap.size ≤ y) → GS w (W'.setCell ⟨I, i, none⟩ (.bool true)) e 1 v n xs := fun {e v n xs} ht hg he => by
    have g1 := hg.keptE hp.pl.kp (fun y e => hE y (he y e).1)
    refine g1.keptE hpe2.po.pl.kp (fun y e => ks.block y (by obtain ⟨c1, h1⟩ := own_ty g1.own e; exact heap_lt h1) (fun e2 => ?_))
    have e2 : y = I := e2
    subst e2
    obtain ⟨c1, h1⟩ := own_ty g1.own e
    obtain ⟨cs, h2, _⟩ := hb
    exact ht (ty_ne' h1 h2)
  refine ⟨hpe2, h.ea, h.ek, h.ei, bt (by decide) h.ra h.ea, bt (by decide) h.rk h.ek, hb.set i hi true, h.ml, h.nd, h.base, h.lim, h.o, fun a b => ?_⟩
  rw [mem_dropR, h.mem]
  have hml := h.ml
  constructor
  · rintro ⟨⟨j, h1, h2, h3⟩, h4⟩
    have hji : j ≠ i := fun e => by
      subst e
      rw [hq] at h3
      injection h3 with e1 _
      exact h4 e1.symm
    refine ⟨j, h1, ?_, h3⟩
    show (if j = i then true else d j) = false
    rw [if_neg hji]
    exact h2
  · rintro ⟨j, h1, h2, h3⟩
    have h2 : (if j = i then true else d j) = false := h2
    have hji : j ≠ i := fun e => by rw [if_pos e] at h2; cases h2
    rw [if_neg hji] at h2
    refine ⟨⟨j, h1, h2, h3⟩, fun e => hji ?_⟩
    refine nd_ne h.nd (by omega) (by omega) ?_
    rw [h3, hq]
    exact e
theorem G2.empty {w lw l o m va vk I d E x t fr l0 ls W} (h : G2 w lw l o m va vk I d E x t fr l0 ls W) (hd : ∀ i, i < m → d i = true) : ls = [] := by
  cases hl : ls with
  | nil => rfl
  | cons r l =>
    obtain ⟨q, k⟩ := r
    obtain ⟨i, h1, h2, _⟩ := (h.mem q k).1 (by rw [hl]; exact List.mem_cons_self)
    rw [hd i h1] at h2
    cases h2
theorem G2.row {w lw l o m I d E x t fr l0 ls W} {ga ka : Option Addr} {gc kc : Nat} (h : G2 w lw l o m (.slice ga m gc) (.slice ka m kc) I d E x t fr l0 ls W) (i : Nat) (hi : i < m) (q k : Nat) (hq : l0.getD i (0, 0) = (q, k)) : ∃ g g2, ga = some ⟨g, 0, none⟩ ∧ ka = some ⟨g2, 0, none⟩ ∧ W.cell? ⟨g, i, none⟩ = some (.int .u64 ((adG q : Nat) : Int)) ∧ W.cell? ⟨g2, i, none⟩ = some (.int .i64 (k : Int)) := by
  have hml := h.ml
  have he : l0[i]? = some (q, k) := by
    rw [List.getElem?_eq_getElem (by omega)]
    rw [List.getD_eq_getElem?_getD, List.getElem?_eq_getElem (by omega)] at hq
    exact congrArg some hq
  obtain ⟨g, h1, h2⟩ := own_get h.ra.own (i := i) (u := M.e64 (adG q)) (by rw [List.getElem?_map, he]; rfl)
  obtain ⟨g2, h3, h4⟩ := own_get h.rk.own (i := i) (u := nI k) (by rw [List.getElem?_map, he]; rfl)
  exact ⟨g, g2, h1, h3, h2, h4⟩
end Go.Proofs.Ytggieolknccabab
