/- Each slab page has a live cell: between calls. -/
import Derived.Test.YtocpnddacdpnmaaGreatDoorSlX
namespace Go.Proofs.YtocpnddacdpnmaaGreatDoor
open Go.RowKit
set_option linter.unusedVariables false

theorem Lve.tak {S : Sb} {p k i : Nat} {r : List Nat} (h : ∀ a c, a ≠ p → S.c a = some c → (S.fl a).length < ncl c) (hc : S.c p = some k) (hf : S.fl p = i :: r) (hl : (S.fl p).length ≤ ncl k) : Lve (takS S p k r) := by
  intro a c ha
  replace ha : S.c a = some c := ha
  show (updF S.fl p r a).length < ncl c
  by_cases e : a = p
  · subst e
    rw [hc] at ha
    cases ha
    rw [updF_self]
    rw [hf, List.length_cons] at hl
    omega
  · rw [updF_ne _ _ e]
    exact h a c e ha
/-- Behind a Take. -/
theorem Lve.old {w W sb lw x t fr ls S h} (o : SO w W sb lw x t fr ls S h) (v : Lve S) {p k i : Nat} {l r : List Nat} (hk : k < 8) (hl : S.pl k = p :: l) (hf : S.fl p = i :: r) : Lve (takS S p k r) := by
  have hc := ((o.si.pm k hk p).1 (by rw [hl]; exact List.mem_cons_self)).1
  exact Lve.tak (fun a c _ ha => v a c ha) hc hf (o.si.lv p k hc)
theorem Lve.new {S : Sb} (v : Lve S) {p k : Nat} (hk : k < 8) : Lve (takS (freS S p k) p k (List.range' 1 (ncl k - 1))) := by
  have hnl := ncl_b hk
  have e : (freS S p k).fl p = List.range' 0 (ncl k) := updF_self _ _ _
  refine Lve.tak (i := 0) (fun a c ha hc => ?_) (updF_self _ _ _) ?_ ?_
  · rw [show (freS S p k).c a = S.c a from updF_ne _ _ ha] at hc
    rw [show (freS S p k).fl a = S.fl a from updF_ne _ _ ha]
    exact v a c hc
  · rw [e]
    obtain ⟨m, hm⟩ : ∃ m, ncl k = m + 1 := ⟨ncl k - 1, by omega⟩
    rw [hm]
    rfl
  · rw [e, List.length_range']
    exact Nat.le_refl _
/-- Behind a Give. -/
theorem Lve.back {S : Sb} (v : Lve S) {p k i : Nat} (hc : S.c p = some k) (hl : (S.fl p).length + 1 < ncl k) : Lve (givS S p k i) := by
  intro a c ha
  replace ha : S.c a = some c := ha
  show (updF S.fl p (i :: S.fl p) a).length < ncl c
  by_cases e : a = p
  · subst e
    rw [hc] at ha
    cases ha
    rw [updF_self, List.length_cons]
    exact hl
  · rw [updF_ne _ _ e]
    exact v a c ha
theorem Lve.rel {S : Sb} (v : Lve S) (p k : Nat) : Lve (relS S p k) := by
  intro a c ha
  replace ha : updF S.c p none a = some c := ha
  by_cases e : a = p
  · rw [e, updF_self] at ha
    cases ha
  · rw [updF_ne _ _ e] at ha
    exact v a c ha
/-- A slab over a fresh pool. -/
theorem SO.new {w W sb lw x t} (po : PO w W lw x t (fun _ => []) []) (sw : SW w W sb lw x t (fun _ => -1)) (hP : x.P = fun _ => none) : SO w W sb lw x t (fun _ => []) [] ⟨fun _ => none, fun _ => [], fun _ => []⟩ (fun _ => -1) := by
  refine ⟨sw, po.sf, po.st, po.bm, ⟨?_, fun p k h => ?_, fun p k h => ?_, fun p k h => ?_, fun k hk => List.nodup_nil, fun k hk p => ?_⟩, fun k hk => rfl⟩
  · rw [hP]
    funext p
    exact (pOf_none rfl).symm
  · cases h
  · cases h
  · cases h
  · constructor
    · intro h; cases h
    · rintro ⟨h, _⟩; cases h
theorem Lve.none : Lve ⟨fun _ => Option.none, fun _ => [], fun _ => []⟩ := fun p k h => by cases h
/-- A pool made in a later world. -/
theorem Pol.from {w w1 W lw x t} (k : Kept none' w w1) (h : Pol w1 W lw x t) : Pol w W lw x t := ⟨h.box, h.bd, fun y hy => Nat.le_trans k.size (h.nw y hy), none_trans k h.kp⟩
end Go.Proofs.YtocpnddacdpnmaaGreatDoor
