import Derived.Test.YtocpnddacdpnmaaGreatDoorSlB
/- Package slab: put, unlink; addresses of cells. -/
namespace Go.Proofs.YtocpnddacdpnmaaGreatDoor
open Go.RowKit
set_option linter.unusedVariables false

/-- A slab's own blocks. -/
def sown (x : Bx) (sb : Nat) : Nat → Prop := fun y => bown x y ∨ y = sb
/-- The map is m', the heads are h'. -/
def SE (w W : World) (sb lw : Nat) (x : Bx) (t : Bt) (m' : Mp) (h' : Nat → Int) (w' : World) : Prop := SW w w' sb lw x { t with m := m' } h' ∧ Kept (sown x sb) W w'
theorem SD.se {w W sb lw x t h m' w'} (s : SD w W sb lw x t h m' w') : SE w W sb lw x t m' h w' := ⟨s.1, s.2.mono (fun _ _ e => .inl e)⟩
def putM (m : Mp) (h : Nat → Int) (p : Int) (c : Nat) : Mp := setPrevM (chainM m p (h c) (-1)) (h c) p
set_option maxRecDepth 4000 in
theorem put_s {w W sb lw x t h} (s : SW w W sb lw x t h) (p : Int) (c : Nat) (hc : c < 8) :
    Calls Tryz.prog 43 #[.pointer (some ⟨sb, 0, none⟩), .int .i64 p, .int .i64 (c : Int)] W fun e w' => e = .returned (.tuple #[]) ∧ SE w W sb lw x t (putM t.m h p c) (uphI h c p) w' := by
  have H := hid s
  have HM := hid (Map6 s.pl)
  have CH := hid (Chain_s s p (h c) (-1))
  obtain ⟨c0, c1⟩ := s.c0
  have ch := s.hd c hc
  have hci : (c : Int) < 8 := by omega
  clear s
  rw [show putM t.m h p c = setPrevM (chainM t.m p (h c) (-1)) (h c) p from rfl]
  obtain ⟨z, hz⟩ : ∃ z, z = h c := ⟨_, rfl⟩
  rw [← hz] at ch CH ⊢
  clear hz
  go_enter Tryz.func43, Tryz.ntmps43
  go_wp2_with fail
  refine HM.out.mono ?_
  rintro e w1 ⟨rfl, h1⟩
  replace h1 := h1.symm
  subst h1
  go_wp2_with fail
  refine CH.out.mono ?_
  rintro e w2 ⟨rfl, hs2, hk2⟩
  have S2 := hid hs2
  have K2 := hid hk2
  have SP := hid (setPrev_s hs2 z p)
  clear hs2 hk2 c0 c1 ch CH HM
  go_wp2_with fail
  refine SP.out.mono ?_
  rintro e w3 ⟨rfl, hs3, hk3⟩
  have S3 := hid hs3
  have fz := hs3.fz (2 + c)
  have D := hid (show SE w W sb lw x t (setPrevM (chainM t.m p z (-1)) z p) (uphI h c p) (w3.setCell ⟨sb, 2 + c, none⟩ (.int .i64 p)) from ⟨hs3.set c hc p, ((K2.out.trans hk3 (fun _ _ e => e) (fun _ _ e => e)).mono (fun _ _ e => .inl e)).setCell (p := ⟨sb, 2 + c, none⟩) (.inr rfl) _⟩)
  have c3 := hs3.hd c hc
  clear hs3 hk3 SP
  go_wp2_with fail
  exact ⟨rfl, .tuple #[], by simp [results, Tryz.results43, go_sem], rfl, D.out⟩
/-- A page is taken off its list. -/
def unlM (m : Mp) (p : Int) : Mp := chainM (if (atP m p).pv = -1 then setPrevM m (atP m p).nx (atP m p).pv else setNextM (setPrevM m (atP m p).nx (atP m p).pv) (atP m p).pv (atP m p).nx) p (-1) (-1)
def unlH (m : Mp) (h : Nat → Int) (p : Int) (c : Nat) : Nat → Int := if (atP m p).pv = -1 then uphI h c (atP m p).nx else h
set_option maxRecDepth 4000 in
set_option maxHeartbeats 1000000 in
theorem unlink_s {w W sb lw x t h} (s : SW w W sb lw x t h) (p : Int) (c : Nat) (hc : c < 8) :
    Calls Tryz.prog 91 #[.pointer (some ⟨sb, 0, none⟩), .int .i64 p, .int .i64 (c : Int)] W fun e w' => e = .returned (.tuple #[]) ∧ SE w W sb lw x t (unlM t.m p) (unlH t.m h p c) w' := by
  obtain ⟨q, hq⟩ : ∃ q, q = atP t.m p := ⟨_, rfl⟩
  have HA := hid (show Calls Tryz.prog 16 #[.pointer (some ⟨x.m, 0, none⟩), .int .i64 p] W fun e w' => e = .returned (.tuple #[pval q, .bool (inR t.m.n p)]) ∧ Kept none' W w' from by rw [hq]; exact at_any x.m x.B t.m p W s.pl.bd.mp)
  have HM := hid (Map6 s.pl)
  obtain ⟨m2, hm2⟩ : ∃ m2, m2 = unlM t.m p := ⟨_, rfl⟩
  obtain ⟨h2, hh2⟩ : ∃ h2, h2 = unlH t.m h p c := ⟨_, rfl⟩
  rw [← hm2, ← hh2]
  unfold unlM at hm2
  unfold unlH at hh2
  rw [← hq] at hm2 hh2
  have HM2 := hid hm2
  have HH2 := hid hh2
  have H := hid s
  obtain ⟨c0, c1⟩ := s.c0
  have hci : (c : Int) < 8 := by omega
  clear s hq hm2 hh2
  generalize inR t.m.n p = r at *
  go_enter Tryz.func91, Tryz.ntmps91
  go_wp2_with fail
  refine HM.out.mono ?_
  rintro e w1 ⟨rfl, h1⟩
  replace h1 := h1.symm
  subst h1
  go_wp2_with fail
  refine HA.out.mono ?_
  rintro e w2 ⟨rfl, hk⟩
  have K2 := hid (hk.alloc (pobj q))
  have X2 := hid (heap_new w2 (pobj q))
  have H2 := hid (H.out.keep K2.out)
  have NY := hid (show ¬ bown x w2.heap.size from fun e => absurd ((H.out.keep hk).pl.lt _ (.inl e)) (Nat.lt_irrefl _))
  have NS := hid (show sb ≠ w2.heap.size from fun e => absurd (heap_lt (H.out.keep hk).bx) (by rw [e]; exact Nat.lt_irrefl _))
  clear hk c0 c1
  go_upto_region 1 with fail
  generalize w2.heap.size = y at *
  generalize w2.alloc (pobj q) = W2 at *
  obtain ⟨_, _, _, _, x4, x5, _⟩ := pg11 X2.out
  have SP := hid (setPrev_s H2.out q.nx q.pv)
  go_wp2_with fail
  refine SP.out.mono ?_
  rintro e w3 ⟨rfl, hs3, hk3⟩
  have S3 := hid hs3
  have K3 := hid (K2.out.trans hk3 (fun _ _ e => e.elim) (fun _ _ e => e))
  have X3 := hid ((hk3.block _ (heap_lt X2.out) NY.out).trans X2.out)
  clear hs3 hk3 SP x4 x5
  obtain ⟨_, _, _, _, x4, x5, _⟩ := pg11 X3.out
  by_cases hpv : q.pv = -1
  · have hb : (q.pv == -1) = true := by rw [hpv]; rfl
    have fz := S3.out.fz (2 + c)
    have c3 := S3.out.hd c hc
    as_aux_lemma =>
      go_upto_region 3 with fail
      have KD := hid ((Kept.refl none' w3).drew)
      have S4 := hid (S3.out.keep KD.out)
      have X4 := hid ((KD.out.block _ (heap_lt X3.out) (fun e => e)).trans X3.out)
      have d4 := (pg11 X4.out).2.2.2.2.1
      have d3 := S4.out.hd c hc
      have fz4 := S4.out.fz (2 + c)
      go_region
      all_goals
        have S5 := hid ((S3.out.set c hc q.nx).keep ((Kept.refl none' _).drew))
        have K5 := hid (show Kept (sown x sb) W (w3.setCell ⟨sb, 2 + c, none⟩ (.int .i64 q.nx)).drew from ((K3.out.mono (fun _ _ e => .inl e)).setCell (S := sown x sb) (p := ⟨sb, 2 + c, none⟩) (.inr rfl) _).drew)
        generalize (w3.setCell ⟨sb, 2 + c, none⟩ (.int .i64 q.nx)).drew = W5 at *
        have MP := hid (Map6 S5.out.pl)
        have CH := hid (Chain_s S5.out p (-1) (-1))
        clear x4 x5 d4 d3 fz4 fz c3
        obtain ⟨c0, c1⟩ := S5.out.c0
        go_wp2_with fail
        refine MP.out.mono ?_
        rintro e w6 ⟨rfl, h6⟩
        replace h6 := h6.symm
        subst h6
        go_wp2_with fail
        refine CH.out.mono ?_
        rintro e w7 ⟨rfl, hs7, hk7⟩
        have D := hid (show SE w W sb lw x t m2 h2 w7 from by
          rw [HM2.out, HH2.out, if_pos hpv, if_pos hpv]
          exact ⟨hs7, K5.out.trans hk7 (fun _ _ e => e) (fun _ _ e => .inl e)⟩)
        clear hs7 hk7
        go_wp2_with fail
        exact ⟨rfl, .tuple #[], by simp [results, Tryz.results91, go_sem], rfl, D.out⟩
  · have hb : (q.pv == -1) = false := by rw [beq_eq_false_iff_ne]; exact hpv
    have SN := hid (setNext_s S3.out q.pv q.nx)
    as_aux_lemma =>
      go_wp2_with fail
      refine SN.out.mono ?_
      rintro e w4 ⟨rfl, hs4, hk4⟩
      have S4 := hid hs4
      have K4 := hid (K3.out.trans hk4 (fun _ _ e => e) (fun _ _ e => e))
      have MP := hid (Map6 hs4.pl)
      have CH := hid (Chain_s hs4 p (-1) (-1))
      obtain ⟨c0, c1⟩ := hs4.c0
      clear hs4 hk4 SN x4 x5
      go_wp2_with fail
      refine MP.out.mono ?_
      rintro e w6 ⟨rfl, h6⟩
      replace h6 := h6.symm
      subst h6
      go_wp2_with fail
      refine CH.out.mono ?_
      rintro e w7 ⟨rfl, hs7, hk7⟩
      have D := hid (show SE w W sb lw x t m2 h2 w7 from by
        rw [HM2.out, HH2.out, if_neg hpv, if_neg hpv]
        exact ⟨hs7, (K4.out.trans hk7 (fun _ _ e => e) (fun _ _ e => e)).mono (fun _ _ e => .inl e)⟩)
      clear hs7 hk7
      go_wp2_with fail
      exact ⟨rfl, .tuple #[], by simp [results, Tryz.results91, go_sem], rfl, D.out⟩
end Go.Proofs.YtocpnddacdpnmaaGreatDoor
