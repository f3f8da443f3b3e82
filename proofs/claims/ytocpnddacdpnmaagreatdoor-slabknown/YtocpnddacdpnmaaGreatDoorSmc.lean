/- croftlaw7.lives. -/
import Derived.Test.YtocpnddacdpnmaaGreatDoorSmb
import Derived.Deep.RegionHeld3
namespace Go.Proofs.YtocpnddacdpnmaaGreatDoor
open Go.RowKit
set_option linter.unusedVariables false

theorem w7c {W : World} {y base lim o lw sb : Nat} {fv lv pv qv : Value} {po pp : Int} (h : W.heap[y]? = some (w7O base lim o lw sb fv lv pv qv po pp)) : W.cell? ⟨y, 3, none⟩ = some (.pointer (some ⟨lw, 0, none⟩)) ∧ W.cell? ⟨y, 4, none⟩ = some (.pointer (some ⟨sb, 0, none⟩)) := by
  refine ⟨?_, ?_⟩ <;> simp [World.cell?, h]
/-- A world of {65536, 1, 1} at its beginning. -/
theorem Beg7.ks {w w' : World} {e : Ending} (h : Beg7 w 65536 1 1 e w') : ∃ wb lw sb fv lv pv qv, e = .returned (.pointer (some ⟨wb, 0, none⟩)) ∧ w'.heap[wb]? = some (w7O 65536 1 1 lw sb fv lv pv qv 1 0) ∧ KS7 w w' (fun y => y = wb) sb lw 0 [] [] [] S0 ∧ Kept none' w w' ∧ w.heap.size ≤ wb := by
  obtain ⟨wb, lw, sb, x, fv, lv, pv, qv, h1, h2, h3, h4, h5, h6, h7, h8, h9, h10, h11⟩ := h
  refine ⟨wb, lw, sb, fv, lv, pv, qv, h1, h2, ⟨x, _, _, _, h4, Lve.none, fun y hy => ?_, h5, h7, h9, h6, h8, rfl, rfl⟩, h10, h3⟩
  rw [show y = wb from hy]
  exact ⟨heap_lt h2, h11⟩
theorem KS7.heads {w W E sb lw n f0 f1 ls S} (s : KS7 w W E sb lw n f0 f1 ls S) :
    Calls Tryz.prog 11 #[.pointer (some ⟨sb, 0, none⟩)] W fun e w' => ∃ b, e = .returned (.slice (some ⟨b, 0, none⟩) 8 8) ∧ NumC w' b 8 (fun j => hdI (S.pl j)) ∧ Kept none' W w' ∧ W.heap.size ≤ b := by
  obtain ⟨x, t, fr, h, o, v, hE, r⟩ := s
  refine (Partial_s o.sw).mono ?_
  rintro e w' ⟨b, rfl, hb, kp, hz⟩
  refine ⟨b, rfl, fun j hj => ?_, kp, hz⟩
  have hd := o.hd
  rcases (show j = 0 ∨ j = 1 ∨ j = 2 ∨ j = 3 ∨ j = 4 ∨ j = 5 ∨ j = 6 ∨ j = 7 by omega) with rfl | rfl | rfl | rfl | rfl | rfl | rfl | rfl <;> (simp [World.cell?, hb]; exact hd _ (by decide))
theorem NumC.keep {W W' : World} {b n : Nat} {f : Nat → Int} (h : NumC W b n f) (k : Kept none' W W') : NumC W' b n f := fun j hj => k.cell (fun e => e) (h j hj)
theorem KS7.open {w W E sb lw n f0 f1 ls S} (s : KS7 w W E sb lw n f0 f1 ls S) (hT : Tab w) (b : Nat) (hb : NumC W b 8 (fun j => hdI (S.pl j))) :
    Calls Tryz.prog 36 #[.pointer (some ⟨lw, 0, none⟩), .slice (some ⟨b, 0, none⟩) 8 8] W fun e w' => ∃ sb2, e = .returned (.tuple #[.pointer (some ⟨sb2, 0, none⟩), .int .i64 0]) ∧ KS7 w w' E sb2 lw n f0 f1 ls S ∧ KS7 w w' E sb lw n f0 f1 ls S ∧ Kept none' W w' := by
  have s0 := s
  obtain ⟨x, t, fr, h, o, v, hE, r⟩ := s
  refine (Open7 o.po hT ⟨b, 0, none⟩ 8 (fun j => hdI (S.pl j)) (fun j hj => ?_)).mono ?_
  · have := hb j hj
    rw [show (⟨b, 0, none⟩ : Addr).add j = ⟨b, j, none⟩ from by
      cases j with
      | zero => rfl
      | succ j => simp [Addr.add]]
    exact this
  · rintro e w' ⟨sb2, rfl, sw, kp, hz⟩
    have o2 := o.keep kp
    refine ⟨sb2, rfl, ⟨x, t, fr, _, ⟨sw, o2.sf, o2.st, o2.bm, o2.si, fun k hk => rfl⟩, v, fun y hy => ⟨Nat.lt_of_lt_of_le (hE y hy).1 kp.size, fun e => e.elim (fun e => (hE y hy).2 (.inl e)) (fun e => absurd (hE y hy).1 (by omega))⟩, r⟩, s0.keep kp, kp⟩
end Go.Proofs.YtocpnddacdpnmaaGreatDoor
