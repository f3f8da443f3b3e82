/- Remove, Pop. -/
import Derived.Test.YthglogiglimebaaLinC
namespace Go.Proofs.Ythglogiglimebaa.M
open Go.RowKit
set_option linter.unusedVariables false

def removeF (base : Nat) (f : Nat → Nat) (p : Nat) : Nat → Nat :=
  let q := pv base f p; let m := nx base f p
  let f1 := if q = 0 then f else stw base f q m
  if m = 0 then f1 else stw base f1 (m + 8) q
/-- What Remove does: the bytes, the head, the answer. -/
def removeR (base n : Nat) (f : Nat → Nat) (hd p : Nat) : (Nat → Nat) × Nat × Nat :=
  if In base n p 16 then (if leadsB base n f hd (pv base f p) p && cameB base n f (nx base f p) p then (removeF base f p, (if pv base f p = 0 then nx base f p else hd), 0) else (f, hd, 8)) else (f, hd, 4)

theorem leadsB_in {base n f hd q p} (h : leadsB base n f hd q p = true) (h0 : q ≠ 0) : In base n q 16 := by
  unfold leadsB at h
  split at h
  · exact absurd (of_decide_eq_true h).1 h0
  · exact (of_decide_eq_true h).1
theorem cameB_in {base n f q p} (h : cameB base n f q p = true) (h0 : q ≠ 0) : In base n q 16 := by
  unfold cameB at h
  rcases of_decide_eq_true h with e | ⟨e, _⟩
  · exact absurd e h0
  · exact e

theorem Remove_any (c b ao base R lim n f hd) (p : Nat) (hp : p < 18446744073709551616) (w : World) (h : LS w c b ao base R lim n f hd) :
    Calls Try.prog 42 #[.pointer (some ⟨c, 0, none⟩), .int .u64 (p : Int)] w fun e w' => e = .returned (.int .i64 ((removeR base n f hd p).2.2 : Int)) ∧ LS w' c b ao base R lim n (removeR base n f hd p).1 (removeR base n f hd p).2.1 ∧ Kept (lown c b ao) w w' := by
  have h64 := h.l.h64
  have H := hid h
  have A := hid (fun w' (k : Kept none' w w') => at_any c b ao base R lim n f hd p hp w' (h.keep k).s (h.keep k).l)
  by_cases hin : In base n p 16
  · have eu : nxO base n f p = nx base f p := by unfold nxO; rw [if_pos hin]
    have ev : pvO base n f p = pv base f p := by unfold pvO; rw [if_pos hin]
    have hu64 := h.s.nx_lt p hin
    have hv64 := h.s.pv_lt p hin
    rw [eu, ev, decide_eq_true hin] at A
    have L := hid (fun w' (k : Kept none' w w') => leadsTo_any c b ao base R lim n f hd (pv base f p) p hv64 hp w' (h.keep k).s (h.keep k).l)
    have C := hid (fun w' (k : Kept none' w w') => cameFrom_any c b ao base R lim n f hd (nx base f p) p hu64 hp w' (h.keep k).s (h.keep k).l)
    have hR : removeR base n f hd p = if leadsB base n f hd (pv base f p) p && cameB base n f (nx base f p) p then (removeF base f p, (if pv base f p = 0 then nx base f p else hd), 0) else (f, hd, 8) := by unfold removeR; rw [if_pos hin]
    have hF : removeF base f p = (let f1 := if pv base f p = 0 then f else stw base f (pv base f p) (nx base f p); if nx base f p = 0 then f1 else stw base f1 (nx base f p + 8) (pv base f p)) := rfl
    have hI : leadsB base n f hd (pv base f p) p = true → pv base f p ≠ 0 → In base n (pv base f p) 16 := leadsB_in
    have hJ : cameB base n f (nx base f p) p = true → nx base f p ≠ 0 → In base n (nx base f p) 16 := cameB_in
    obtain ⟨g, rfl⟩ := h.s.has (by decide) hin
    rw [hR, hF]
    clear hR hF eu ev hin h
    generalize nx base f p = u at *
    generalize pv base f p = v at *
    generalize hlb : leadsB base n f hd v p = lb at *
    generalize hcb : cameB base n f u p = cb at *
    clear hlb hcb
    cases lb with
    | false =>
      simp only [Bool.false_and, Bool.false_eq_true, if_false]
      clear C hI hJ
      go_enter Try.func42, Try.ntmps42
      go_wp2_with fail
      refine (A.out _ (Kept.refl _ w)).mono ?_
      rintro e w1 ⟨rfl, k1⟩
      have K1 := hid (k1.alloc (.cells #[.int .u64 (u : Int), .int .u64 (v : Int)] 123))
      have hP := PairB.box (w := w1) u v
      have hp0 := hP.c0
      have hp1 := hP.c1
      clear k1 hP
      go_wp2_with fail
      refine (L.out _ K1.out).mono ?_
      rintro e w2 ⟨rfl, k2⟩
      have K2 := hid (none_trans K1.out k2)
      clear k2
      go_wp2_with fail
      go_ret
      exact ⟨rfl, H.out.keep K2.out, K2.out.lown⟩
    | true =>
      cases cb with
      | false =>
        simp only [Bool.and_false, Bool.false_eq_true, if_false]
        clear hI hJ
        go_enter Try.func42, Try.ntmps42
        go_wp2_with fail
        refine (A.out _ (Kept.refl _ w)).mono ?_
        rintro e w1 ⟨rfl, k1⟩
        have K1 := hid (k1.alloc (.cells #[.int .u64 (u : Int), .int .u64 (v : Int)] 123))
        have hP := PairB.box (w := w1) u v
        have hp0 := hP.c0
        have hp1 := hP.c1
        have HP := hid hP
        clear k1 hP
        go_wp2_with fail
        refine (L.out _ K1.out).mono ?_
        rintro e w2 ⟨rfl, k2⟩
        have K2 := hid (none_trans K1.out k2)
        have hP2 := HP.out.keep k2
        have hp0 := hP2.c0
        have hp1 := hP2.c1
        clear k2 hP2
        go_wp2_with fail
        refine (C.out _ K2.out).mono ?_
        rintro e w3 ⟨rfl, k3⟩
        have K3 := hid (none_trans K2.out k3)
        clear k3
        go_wp2_with fail
        go_ret
        exact ⟨rfl, H.out.keep K3.out, K3.out.lown⟩
      | true =>
        simp only [Bool.and_true, if_true]
        have hI1 := hI rfl
        have hJ1 := hJ rfl
        clear hI hJ
        by_cases hv0 : v = 0
        · by_cases hu0 : u = 0
          · subst hv0
            subst hu0
            simp only [if_true]
            clear hI1 hJ1
            go_enter Try.func42, Try.ntmps42
            go_wp2_with fail
            refine (A.out _ (Kept.refl _ w)).mono ?_
            rintro e w1 ⟨rfl, k1⟩
            have K1 := hid (k1.alloc (.cells #[.int .u64 ((0 : Nat) : Int), .int .u64 ((0 : Nat) : Int)] 123))
            have hP := PairB.box (w := w1) 0 0
            have hp0 := hP.c0
            have hp1 := hP.c1
            have HP := hid hP
            clear k1 hP
            have HNE := hid (show ¬ w1.heap.size = c by intro e; have := (H.out.keep K1.out).l.hc; rw [← e, heap_new] at this; simp at this)
            have HNO := hid (show ¬ own b (some g) w1.heap.size by
              intro e
              obtain ⟨cap, hb, hr⟩ := (H.out.keep K1.out).s.ex
              rcases e with e | e
              · rw [← e, heap_new] at hb; simp at hb
              · cases e
                obtain ⟨_, rs, _, hg, _⟩ := hr
                rw [heap_new] at hg; simp at hg)
            go_wp2_with fail
            refine (L.out _ K1.out).mono ?_
            rintro e w2 ⟨rfl, k2⟩
            have K2 := hid (none_trans K1.out k2)
            have HP2 := hid (HP.out.keep k2)
            have hp0 := HP2.out.c0
            have hp1 := HP2.out.c1
            clear k2 HP
            go_wp2_with fail
            refine (C.out _ K2.out).mono ?_
            rintro e w3 ⟨rfl, k3⟩
            have K3 := hid (none_trans K2.out k3)
            have H3 := hid (H.out.keep K3.out)
            have HP3 := hid (HP2.out.keep k3)
            have hp0 := HP3.out.c0
            have hp1 := HP3.out.c1
            have hz := H3.out.l.fz 1
            have hc1 := H3.out.l.c1
            clear k3 HP2
            have HP4 := hid (HP3.out.kept ((Kept.refl (fun x => x = c) w3).setCell (p := ⟨c, 1, none⟩) (fun _ => rfl) (.int .u64 ((0 : Nat) : Int))) HNE.out)
            have H4 := hid (H3.out.head 0 (by first | decide | assumption))
            have K4 := hid (LS.keptHead (K3.out.lown (c := c) (b := b) (ao := some g)) (.int .u64 ((0 : Nat) : Int)))
            have hq0 := HP4.out.c0
            have hq1 := HP4.out.c1
            go_wp2_with fail
            go_ret
            exact ⟨rfl, H4.out, K4.out⟩
          · subst hv0
            have hu0i : ((u : Int) == 0) = false := beq_eq_false_iff_ne.2 (by omega)
            have IU := hid (show In base n (u + 8) 8 by have := hJ1 hu0; unfold In at this ⊢; omega)
            simp only [if_neg hu0]
            simp only [if_true]
            clear hI1 hJ1 hu0
            go_enter Try.func42, Try.ntmps42
            go_wp2_with fail
            refine (A.out _ (Kept.refl _ w)).mono ?_
            rintro e w1 ⟨rfl, k1⟩
            have K1 := hid (k1.alloc (.cells #[.int .u64 (u : Int), .int .u64 ((0 : Nat) : Int)] 123))
            have hP := PairB.box (w := w1) u 0
            have hp0 := hP.c0
            have hp1 := hP.c1
            have HP := hid hP
            clear k1 hP
            have HNE := hid (show ¬ w1.heap.size = c by intro e; have := (H.out.keep K1.out).l.hc; rw [← e, heap_new] at this; simp at this)
            have HNO := hid (show ¬ own b (some g) w1.heap.size by
              intro e
              obtain ⟨cap, hb, hr⟩ := (H.out.keep K1.out).s.ex
              rcases e with e | e
              · rw [← e, heap_new] at hb; simp at hb
              · cases e
                obtain ⟨_, rs, _, hg, _⟩ := hr
                rw [heap_new] at hg; simp at hg)
            go_wp2_with fail
            refine (L.out _ K1.out).mono ?_
            rintro e w2 ⟨rfl, k2⟩
            have K2 := hid (none_trans K1.out k2)
            have HP2 := hid (HP.out.keep k2)
            have hp0 := HP2.out.c0
            have hp1 := HP2.out.c1
            clear k2 HP
            go_wp2_with fail
            refine (C.out _ K2.out).mono ?_
            rintro e w3 ⟨rfl, k3⟩
            have K3 := hid (none_trans K2.out k3)
            have H3 := hid (H.out.keep K3.out)
            have HP3 := hid (HP2.out.keep k3)
            have hp0 := HP3.out.c0
            have hp1 := HP3.out.c1
            have hz := H3.out.l.fz 1
            have hc1 := H3.out.l.c1
            clear k3 HP2
            have HP4 := hid (HP3.out.kept ((Kept.refl (fun x => x = c) w3).setCell (p := ⟨c, 1, none⟩) (fun _ => rfl) (.int .u64 (u : Int))) HNE.out)
            have H4 := hid (H3.out.head u (by first | decide | assumption))
            have K4 := hid (LS.keptHead (K3.out.lown (c := c) (b := b) (ao := some g)) (.int .u64 (u : Int)))
            have hq0 := HP4.out.c0
            have hq1 := HP4.out.c1
            clear HP3 H3 K3
            go_wp2_with fail
            refine (setPrev_in c b g base R lim n _ _ u 0 (by first | decide | assumption) _ H4.out.s H4.out.l IU.out).mono ?_
            rintro e w5 ⟨rfl, hS, hK⟩
            have H5 := hid (H4.out.stored hS hK)
            have K5 := hid (lown_trans K4.out (hK.lown' (c := c)))
            clear hS hK
            go_wp2_with fail
            go_ret
            exact ⟨rfl, H5.out, K5.out⟩
        · by_cases hu0 : u = 0
          · have hv0i : ((v : Int) == 0) = false := beq_eq_false_iff_ne.2 (by omega)
            have IV := hid (show In base n v 8 by have := hI1 hv0; unfold In at this ⊢; omega)
            simp only [if_neg hv0]
            subst hu0
            simp only [if_true]
            clear hI1 hJ1 hv0
            go_enter Try.func42, Try.ntmps42
            go_wp2_with fail
            refine (A.out _ (Kept.refl _ w)).mono ?_
            rintro e w1 ⟨rfl, k1⟩
            have K1 := hid (k1.alloc (.cells #[.int .u64 ((0 : Nat) : Int), .int .u64 (v : Int)] 123))
            have hP := PairB.box (w := w1) 0 v
            have hp0 := hP.c0
            have hp1 := hP.c1
            have HP := hid hP
            clear k1 hP
            have HNE := hid (show ¬ w1.heap.size = c by intro e; have := (H.out.keep K1.out).l.hc; rw [← e, heap_new] at this; simp at this)
            have HNO := hid (show ¬ own b (some g) w1.heap.size by
              intro e
              obtain ⟨cap, hb, hr⟩ := (H.out.keep K1.out).s.ex
              rcases e with e | e
              · rw [← e, heap_new] at hb; simp at hb
              · cases e
                obtain ⟨_, rs, _, hg, _⟩ := hr
                rw [heap_new] at hg; simp at hg)
            go_wp2_with fail
            refine (L.out _ K1.out).mono ?_
            rintro e w2 ⟨rfl, k2⟩
            have K2 := hid (none_trans K1.out k2)
            have HP2 := hid (HP.out.keep k2)
            have hp0 := HP2.out.c0
            have hp1 := HP2.out.c1
            clear k2 HP
            go_wp2_with fail
            refine (C.out _ K2.out).mono ?_
            rintro e w3 ⟨rfl, k3⟩
            have K3 := hid (none_trans K2.out k3)
            have H3 := hid (H.out.keep K3.out)
            have HP3 := hid (HP2.out.keep k3)
            have hp0 := HP3.out.c0
            have hp1 := HP3.out.c1
            have hz := H3.out.l.fz 1
            have hc1 := H3.out.l.c1
            clear k3 HP2
            go_wp2_with fail
            refine (setNext_in c b g base R lim n f hd v 0 (by first | decide | assumption) _ H3.out.s H3.out.l IV.out).mono ?_
            rintro e w4 ⟨rfl, hS, hK⟩
            have H4 := hid (H3.out.stored hS hK)
            have K4 := hid (lown_trans K3.out.lown (hK.lown' (c := c)))
            have HP4 := hid (HP3.out.kept hK HNO.out)
            have hq0 := HP4.out.c0
            have hq1 := HP4.out.c1
            clear hS hK HP3 H3 K3
            go_wp2_with fail
            go_ret
            exact ⟨rfl, H4.out, K4.out⟩
          · have hv0i : ((v : Int) == 0) = false := beq_eq_false_iff_ne.2 (by omega)
            have IV := hid (show In base n v 8 by have := hI1 hv0; unfold In at this ⊢; omega)
            simp only [if_neg hv0]
            have hu0i : ((u : Int) == 0) = false := beq_eq_false_iff_ne.2 (by omega)
            have IU := hid (show In base n (u + 8) 8 by have := hJ1 hu0; unfold In at this ⊢; omega)
            simp only [if_neg hu0]
            clear hI1 hJ1 hv0 hu0
            go_enter Try.func42, Try.ntmps42
            go_wp2_with fail
            refine (A.out _ (Kept.refl _ w)).mono ?_
            rintro e w1 ⟨rfl, k1⟩
            have K1 := hid (k1.alloc (.cells #[.int .u64 (u : Int), .int .u64 (v : Int)] 123))
            have hP := PairB.box (w := w1) u v
            have hp0 := hP.c0
            have hp1 := hP.c1
            have HP := hid hP
            clear k1 hP
            have HNE := hid (show ¬ w1.heap.size = c by intro e; have := (H.out.keep K1.out).l.hc; rw [← e, heap_new] at this; simp at this)
            have HNO := hid (show ¬ own b (some g) w1.heap.size by
              intro e
              obtain ⟨cap, hb, hr⟩ := (H.out.keep K1.out).s.ex
              rcases e with e | e
              · rw [← e, heap_new] at hb; simp at hb
              · cases e
                obtain ⟨_, rs, _, hg, _⟩ := hr
                rw [heap_new] at hg; simp at hg)
            go_wp2_with fail
            refine (L.out _ K1.out).mono ?_
            rintro e w2 ⟨rfl, k2⟩
            have K2 := hid (none_trans K1.out k2)
            have HP2 := hid (HP.out.keep k2)
            have hp0 := HP2.out.c0
            have hp1 := HP2.out.c1
            clear k2 HP
            go_wp2_with fail
            refine (C.out _ K2.out).mono ?_
            rintro e w3 ⟨rfl, k3⟩
            have K3 := hid (none_trans K2.out k3)
            have H3 := hid (H.out.keep K3.out)
            have HP3 := hid (HP2.out.keep k3)
            have hp0 := HP3.out.c0
            have hp1 := HP3.out.c1
            have hz := H3.out.l.fz 1
            have hc1 := H3.out.l.c1
            clear k3 HP2
            go_wp2_with fail
            refine (setNext_in c b g base R lim n f hd v u (by first | decide | assumption) _ H3.out.s H3.out.l IV.out).mono ?_
            rintro e w4 ⟨rfl, hS, hK⟩
            have H4 := hid (H3.out.stored hS hK)
            have K4 := hid (lown_trans K3.out.lown (hK.lown' (c := c)))
            have HP4 := hid (HP3.out.kept hK HNO.out)
            have hq0 := HP4.out.c0
            have hq1 := HP4.out.c1
            clear hS hK HP3 H3 K3
            go_wp2_with fail
            refine (setPrev_in c b g base R lim n _ _ u v (by first | decide | assumption) _ H4.out.s H4.out.l IU.out).mono ?_
            rintro e w5 ⟨rfl, hS, hK⟩
            have H5 := hid (H4.out.stored hS hK)
            have K5 := hid (lown_trans K4.out (hK.lown' (c := c)))
            clear hS hK
            go_wp2_with fail
            go_ret
            exact ⟨rfl, H5.out, K5.out⟩
  · have hpe : removeR base n f hd p = (f, hd, 4) := by unfold removeR; rw [if_neg hin]
    rw [hpe]
    rw [decide_eq_false hin] at A
    generalize nxO base n f p = u at *
    generalize pvO base n f p = v at *
    clear h hin hpe
    go_enter Try.func42, Try.ntmps42
    go_wp2_with fail
    refine (A.out _ (Kept.refl _ w)).mono ?_
    rintro e w1 ⟨rfl, k1⟩
    have K1 := hid (k1.alloc (.cells #[.int .u64 (u : Int), .int .u64 (v : Int)] 123))
    clear k1
    go_wp2_with fail
    go_ret
    exact ⟨rfl, H.out.keep K1.out, K1.out.lown⟩

/-- What Pop does: the bytes, the head, the address, the answer. -/
def popR (base n : Nat) (f : Nat → Nat) (hd : Nat) : (Nat → Nat) × Nat × Nat × Nat :=
  if hd = 0 then (f, hd, 0, 9) else if (removeR base n f hd hd).2.2 = 0 then ((removeR base n f hd hd).1, (removeR base n f hd hd).2.1, hd, 0) else (f, hd, 0, (removeR base n f hd hd).2.2)
theorem removeR_bad {base n f hd p} (h : (removeR base n f hd p).2.2 ≠ 0) : (removeR base n f hd p).1 = f ∧ (removeR base n f hd p).2.1 = hd := by
  revert h
  unfold removeR
  split
  · split
    · intro h; exact absurd rfl h
    · intro _; exact ⟨rfl, rfl⟩
  · intro _; exact ⟨rfl, rfl⟩

theorem removeR_le (base n f hd p) : (removeR base n f hd p).2.2 ≤ 8 := by
  unfold removeR
  split
  · split
    · exact Nat.zero_le _
    · exact Nat.le_refl _
  · exact (by omega : 4 ≤ 8)

theorem Pop_any (c b ao base R lim n f hd) (w : World) (h : LS w c b ao base R lim n f hd) :
    Calls Try.prog 34 #[.pointer (some ⟨c, 0, none⟩)] w fun e w' => e = .returned (.tuple #[.int .u64 ((popR base n f hd).2.2.1 : Int), .int .i64 ((popR base n f hd).2.2.2 : Int)]) ∧ LS w' c b ao base R lim n (popR base n f hd).1 (popR base n f hd).2.1 ∧ Kept (lown c b ao) w w' := by
  have h64 := h.l.h64
  have hc1 := h.l.c1
  by_cases h0 : hd = 0
  · subst h0
    have hpe : popR base n f 0 = (f, 0, 0, 9) := by simp [popR]
    rw [hpe]
    have H := hid h
    clear h hpe
    go_enter Try.func34, Try.ntmps34
    go_wp2
    exact ⟨rfl, _, by simp [results, Try.results34, go_sem], rfl, H.out, Kept.refl _ _⟩
  · have h0i : ((hd : Int) == 0) = false := beq_eq_false_iff_ne.2 (by omega)
    have A := hid (Remove_any c b ao base R lim n f hd hd h64 w h)
    by_cases he : (removeR base n f hd hd).2.2 = 0
    · have hpe : popR base n f hd = ((removeR base n f hd hd).1, (removeR base n f hd hd).2.1, hd, 0) := by unfold popR; rw [if_neg h0, if_pos he]
      rw [hpe]
      rw [he] at A
      generalize (removeR base n f hd hd).1 = f' at *
      generalize (removeR base n f hd hd).2.1 = hd' at *
      clear h hpe he h0
      go_enter Try.func34, Try.ntmps34
      go_wp2_with fail
      refine A.out.mono ?_
      rintro e w1 ⟨rfl, h1, k1⟩
      have H1 := hid h1
      have K1 := hid k1
      clear h1 k1
      go_wp2_with fail
      exact ⟨rfl, _, by simp [results, Try.results34, go_sem], rfl, H1.out, K1.out⟩
    · have hpe : popR base n f hd = (f, hd, 0, (removeR base n f hd hd).2.2) := by unfold popR; rw [if_neg h0, if_neg he]
      rw [hpe]
      rw [(removeR_bad he).1, (removeR_bad he).2] at A
      have hle := removeR_le base n f hd hd
      generalize (removeR base n f hd hd).2.2 = x at *
      have hxi : ((x : Int) == 0) = false := beq_eq_false_iff_ne.2 (by omega)
      clear h hpe he h0
      go_enter Try.func34, Try.ntmps34
      go_wp2_with fail
      refine A.out.mono ?_
      rintro e w1 ⟨rfl, h1, k1⟩
      have H1 := hid h1
      have K1 := hid k1
      clear h1 k1
      go_wp2_with fail
      exact ⟨rfl, _, by simp [results, Try.results34, go_sem], rfl, H1.out, K1.out⟩
end Go.Proofs.Ythglogiglimebaa.M
