/- Push. -/
import Derived.Test.YthglogiglimebaaLinB
namespace Go.Proofs.Ythglogiglimebaa.M
open Go.RowKit
set_option linter.unusedVariables false

/-- The blocks of a list and its space. -/
def lown (c b : Nat) (ao : Option Nat) : Nat → Prop := fun x => x = c ∨ own b ao x

theorem ListAt.apart {w c b b' hd ao base R lim n f} (hL : ListAt w c b' hd) (hS : SpaceAt w b ao base R lim n f) : ¬ own b ao c := by
  obtain ⟨cap, hb, hr⟩ := hS.ex
  have hc := hL.hc
  rintro (rfl | e)
  · rw [hc] at hb
    simp at hb
  · subst e
    obtain ⟨_, rs, _, hg, _⟩ := hr
    rw [hc] at hg
    simp at hg

def pushF (base : Nat) (f : Nat → Nat) (hd p : Nat) : Nat → Nat := if hd = 0 then stw base (stw base f p hd) (p + 8) 0 else stw base (stw base (stw base f p hd) (p + 8) 0) (hd + 8) p
/-- What Push does: the bytes, the head, the answer. -/
def pushR (base n : Nat) (f : Nat → Nat) (hd p : Nat) : (Nat → Nat) × Nat × Nat :=
  if In base n p 16 then (if cameB base n f hd 0 then (pushF base f hd p, p, 0) else (f, hd, 8)) else (f, hd, 4)

theorem Kept.lown {w w' : World} {c b : Nat} {ao : Option Nat} (h : Kept none' w w') : Kept (lown c b ao) w w' := h.mono (fun _ _ x => x.elim)
theorem Kept.lown' {w w' : World} {c b : Nat} {ao : Option Nat} (h : Kept (own b ao) w w') : Kept (Go.Proofs.Ythglogiglimebaa.M.lown c b ao) w w' := h.mono (fun _ _ x => Or.inr x)
theorem lown_trans {a b' c' : World} {c b : Nat} {ao : Option Nat} (h : Kept (lown c b ao) a b') (k : Kept (lown c b ao) b' c') : Kept (lown c b ao) a c' := h.trans k (fun _ _ x => x) (fun _ _ x => x)

/-- A list over a space. -/
structure LS (w : World) (c b : Nat) (ao : Option Nat) (base R lim n : Nat) (f : Nat → Nat) (hd : Nat) : Prop where
  s : SpaceAt w b ao base R lim n f
  l : ListAt w c b hd
theorem LS.keep {w w' c b ao base R lim n f hd} (h : LS w c b ao base R lim n f hd) (k : Kept none' w w') : LS w' c b ao base R lim n f hd := ⟨h.s.keep k, h.l.keep k⟩
theorem LS.kept {w w' c b ao base R lim n f hd} {S : Nat → Prop} (h : LS w c b ao base R lim n f hd) (k : Kept S w w') (hS : ∀ x, lown c b ao x → ¬ S x) : LS w' c b ao base R lim n f hd := ⟨h.s.kept k (fun x hx => hS x (Or.inr hx)), h.l.kept k (hS c (Or.inl rfl))⟩
theorem LS.lt {w c b ao base R lim n f hd} (h : LS w c b ao base R lim n f hd) (x : Nat) (hx : lown c b ao x) : x < w.heap.size := by
  rcases hx with rfl | hx
  · exact h.l.lt
  · exact h.s.own_lt x hx
/-- A word is written. -/
theorem LS.stored {w w' c b ao base R lim n f f' hd} (h : LS w c b ao base R lim n f hd) (hS : SpaceAt w' b ao base R lim n f') (k : Kept (own b ao) w w') : LS w' c b ao base R lim n f' hd := ⟨hS, h.l.kept k (h.l.apart h.s)⟩
/-- The head is set. -/
theorem LS.head {w c b ao base R lim n f hd} (h : LS w c b ao base R lim n f hd) (hd' : Nat) (h' : hd' < 18446744073709551616) : LS (w.setCell ⟨c, 1, none⟩ (.int .u64 (hd' : Int))) c b ao base R lim n f hd' :=
  ⟨h.s.kept ((Kept.refl (fun x => x = c) w).setCell (fun _ => rfl) _) (fun x hx e => h.l.apart h.s (e ▸ hx)), h.l.set hd' h'⟩
theorem LS.keptHead {w0 w : World} {c b : Nat} {ao : Option Nat} (k : Kept (lown c b ao) w0 w) (v : Value) : Kept (lown c b ao) w0 (w.setCell ⟨c, 1, none⟩ v) := k.setCell (fun _ => Or.inl rfl) v

theorem Push_any (c b ao base R lim n f hd) (p : Nat) (hp : p < 18446744073709551616) (w : World) (h : LS w c b ao base R lim n f hd) :
    Calls Try.prog 89 #[.pointer (some ⟨c, 0, none⟩), .int .u64 (p : Int)] w fun e w' => e = .returned (.int .i64 ((pushR base n f hd p).2.2 : Int)) ∧ LS w' c b ao base R lim n (pushR base n f hd p).1 (pushR base n f hd p).2.1 ∧ Kept (lown c b ao) w w' := by
  have h64 := h.l.h64
  have A := hid (fun w' (k : Kept none' w w') => at_any c b ao base R lim n f hd p hp w' (h.keep k).s (h.keep k).l)
  have C := hid (fun w' (k : Kept none' w w') => cameFrom_any c b ao base R lim n f hd hd 0 h64 (by decide) w' (h.keep k).s (h.keep k).l)
  rw [show ((0 : Nat) : Int) = 0 by rfl] at C
  have H := hid h
  obtain ⟨u, hu⟩ : ∃ u, u = nxO base n f p := ⟨_, rfl⟩
  obtain ⟨v, hv⟩ : ∃ v, v = pvO base n f p := ⟨_, rfl⟩
  by_cases hin : In base n p 16
  · rw [← hu, ← hv, decide_eq_true hin] at A
    by_cases hca : cameB base n f hd 0 = true
    · rw [hca] at C
      obtain ⟨g, rfl⟩ := h.s.has (by decide) hin
      have hpe : pushR base n f hd p = (pushF base f hd p, p, 0) := by unfold pushR; rw [if_pos hin, if_pos hca]
      rw [hpe]
      have I1 := hid (show In base n p 8 by unfold In at hin ⊢; omega)
      have I2 := hid (show In base n (p + 8) 8 by unfold In at hin ⊢; omega)
      by_cases h0 : hd = 0
      · subst h0
        have HF := hid (show pushF base f 0 p = stw base (stw base f p 0) (p + 8) 0 by simp [pushF])
        have hc1 := h.l.c1
        clear h hu hv hin hca hpe
        go_enter Try.func89, Try.ntmps89
        go_wp2_with fail
        refine (A.out _ (Kept.refl _ w)).mono ?_
        rintro e w1 ⟨rfl, k1⟩
        have K1 := hid (k1.alloc (.cells #[.int .u64 (u : Int), .int .u64 (v : Int)] 123))
        have hc1 := (H.out.keep K1.out).l.c1
        clear k1
        go_wp2_with fail
        refine (C.out _ K1.out).mono ?_
        rintro e w2 ⟨rfl, k2⟩
        have K2 := hid (none_trans K1.out k2)
        clear k2 hc1
        go_wp2_with fail
        refine (setNext_in c b g base R lim n f 0 p 0 (by decide) _ (H.out.keep K2.out).s (H.out.keep K2.out).l I1.out).mono ?_
        rintro e w3 ⟨rfl, hS, hK⟩
        have H3 := hid ((H.out.keep K2.out).stored hS hK)
        have K3 := hid (lown_trans K2.out.lown (hK.lown' (c := c)))
        clear hS hK
        go_wp2_with fail
        refine (setPrev_in c b g base R lim n _ 0 p 0 (by decide) _ H3.out.s H3.out.l I2.out).mono ?_
        rintro e w4 ⟨rfl, hS, hK⟩
        have H4 := hid (H3.out.stored hS hK)
        have K4 := hid (lown_trans K3.out (hK.lown' (c := c)))
        have hz := H4.out.l.fz 1
        have hc1 := H4.out.l.c1
        clear hS hK
        go_wp2_with fail
        go_ret
        refine ⟨rfl, ?_, LS.keptHead K4.out _⟩
        rw [HF.out]
        exact H4.out.head p hp
      · have HF := hid (show pushF base f hd p = stw base (stw base (stw base f p hd) (p + 8) 0) (hd + 8) p by simp [pushF, h0])
        have h0i : ((hd : Int) == 0) = false := beq_eq_false_iff_ne.2 (by omega)
        have I3 := hid (show In base n (hd + 8) 8 by
          unfold cameB at hca
          have := of_decide_eq_true hca
          rcases this with e | ⟨e, _⟩
          · exact absurd e h0
          · unfold In at e ⊢; omega)
        have hc1 := h.l.c1
        clear h hu hv hin hca hpe
        go_enter Try.func89, Try.ntmps89
        go_wp2_with fail
        refine (A.out _ (Kept.refl _ w)).mono ?_
        rintro e w1 ⟨rfl, k1⟩
        have K1 := hid (k1.alloc (.cells #[.int .u64 (u : Int), .int .u64 (v : Int)] 123))
        have hc1 := (H.out.keep K1.out).l.c1
        clear k1
        go_wp2_with fail
        refine (C.out _ K1.out).mono ?_
        rintro e w2 ⟨rfl, k2⟩
        have K2 := hid (none_trans K1.out k2)
        clear k2 hc1
        go_wp2_with fail
        refine (setNext_in c b g base R lim n f hd p hd h64 _ (H.out.keep K2.out).s (H.out.keep K2.out).l I1.out).mono ?_
        rintro e w3 ⟨rfl, hS, hK⟩
        have H3 := hid ((H.out.keep K2.out).stored hS hK)
        have K3 := hid (lown_trans K2.out.lown (hK.lown' (c := c)))
        clear hS hK
        go_wp2_with fail
        refine (setPrev_in c b g base R lim n _ hd p 0 (by decide) _ H3.out.s H3.out.l I2.out).mono ?_
        rintro e w4 ⟨rfl, hS, hK⟩
        have H4 := hid (H3.out.stored hS hK)
        have K4 := hid (lown_trans K3.out (hK.lown' (c := c)))
        clear hS hK
        go_wp2_with fail
        refine (setPrev_in c b g base R lim n _ hd hd p hp _ H4.out.s H4.out.l I3.out).mono ?_
        rintro e w5 ⟨rfl, hS, hK⟩
        have H5 := hid (H4.out.stored hS hK)
        have K5 := hid (lown_trans K4.out (hK.lown' (c := c)))
        have hz := H5.out.l.fz 1
        have hc1 := H5.out.l.c1
        clear hS hK
        go_wp2_with fail
        go_ret
        refine ⟨rfl, ?_, LS.keptHead K5.out _⟩
        rw [HF.out]
        exact H5.out.head p hp
    · have hpe : pushR base n f hd p = (f, hd, 8) := by unfold pushR; rw [if_pos hin, if_neg hca]
      rw [hpe]
      rw [Bool.eq_false_iff.2 hca] at C
      have hc1 := h.l.c1
      clear h hu hv hin hca hpe
      go_enter Try.func89, Try.ntmps89
      go_wp2_with fail
      refine (A.out _ (Kept.refl _ w)).mono ?_
      rintro e w1 ⟨rfl, k1⟩
      have K1 := hid (k1.alloc (.cells #[.int .u64 (u : Int), .int .u64 (v : Int)] 123))
      have hc1 := (H.out.keep K1.out).l.c1
      clear k1
      go_wp2_with fail
      refine (C.out _ K1.out).mono ?_
      rintro e w2 ⟨rfl, k2⟩
      have K2 := hid (none_trans K1.out k2)
      clear k2 hc1
      go_wp2_with fail
      go_ret
      exact ⟨rfl, H.out.keep K2.out, K2.out.lown⟩
  · have hpe : pushR base n f hd p = (f, hd, 4) := by unfold pushR; rw [if_neg hin]
    rw [hpe]
    rw [← hu, ← hv, decide_eq_false hin] at A
    clear h hu hv hin hpe
    go_enter Try.func89, Try.ntmps89
    go_wp2_with fail
    refine (A.out _ (Kept.refl _ w)).mono ?_
    rintro e w1 ⟨rfl, k1⟩
    have K1 := hid (k1.alloc (.cells #[.int .u64 (u : Int), .int .u64 (v : Int)] 123))
    clear k1
    go_wp2_with fail
    go_ret
    exact ⟨rfl, H.out.keep K1.out, K1.out.lown⟩
end Go.Proofs.Ythglogiglimebaa.M
