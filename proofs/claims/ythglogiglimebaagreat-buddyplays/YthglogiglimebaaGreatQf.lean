import Derived.Test.YthglogiglimebaaGreatQc
import Derived.Test.YthglogiglimebaaGreatPfH
/- BuddyPlays: a play's world; regions come and go. -/
namespace Go.Proofs.YthglogiglimebaaGreat
open Go.RowKit
set_option linter.unusedVariables false

/-- The types of a law's world's blocks. -/
theorem LW.tys {w W lw x t dP fv lv} (h : LW w W lw x t dP fv lv) {y : Nat} (hy : bown x y ∨ y = lw) : ∃ cs tt z, W.heap[y]? = some (.cells cs tt z) ∧ tt ≠ 3 ∧ tt ≠ 79 ∧ tt ≠ 104 := by
  rcases hy with (hx | hx | ⟨j, hj, e⟩) | rfl
  · obtain ⟨cs, t', z, h1, h2⟩ := space_ty h.bd.sp hx
    refine ⟨cs, t', z, h1, ?_⟩
    rcases h2 with e | e <;> rw [e] <;> exact ⟨by decide, by decide, by decide⟩
  · rw [← h.bd.mo] at hx
    obtain ⟨cs, t', z, h1, h2⟩ := map_ty h.bd.mp hx
    refine ⟨cs, t', z, h1, ?_⟩
    rcases h2 with e | e | e | e | e <;> rw [e] <;> exact ⟨by decide, by decide, by decide⟩
  · rw [e]
    exact ⟨_, _, _, (h.bd.ls j hj).hc, by decide, by decide, by decide⟩
  · exact ⟨_, _, _, h.box, by decide, by decide, by decide⟩
theorem ty_ne' {W : World} {y : Nat} {cs cs' : Array Value} {a b : TypeId} {z z' : Nat × Nat} (h : W.heap[y]? = some (.cells cs a z)) (h' : W.heap[y]? = some (.cells cs' b z')) : a = b := by
  rw [h] at h'
  injection h' with h'
  injection h' with _ h'
theorem LW.fl {w W W' lw x t dP fv lv fa fc o fr} (h : LW w W lw x t dP fv lv) (f : FL W fa fc o fr) (k : Kept (fun y => bown x y ∨ y = lw) W W') : FL W' fa fc o fr :=
  f.kept k (fun y cs hy e => by
    obtain ⟨cs', tt, z, h1, h2, _, _⟩ := h.tys e
    exact h2 (ty_ne' h1 hy)) (fun y cs hy e => by
    obtain ⟨cs', tt, z, h1, _, h2, _⟩ := h.tys e
    exact h2 (ty_ne' h1 hy))
theorem LW.rn {w W W' lw x t dP fv lv v ls} (h : LW w W lw x t dP fv lv) (r : RN W v ls) (k : Kept (fun y => bown x y ∨ y = lw) W W') : RN W' v ls :=
  own_kept r k (fun y e hy => by
    obtain ⟨cs', tt, z, h1, _, _, h2⟩ := h.tys hy
    obtain ⟨cs, hc⟩ := own_ty r e
    exact h2 (ty_ne' h1 hc))
/-- What come leaves. -/
def ComeX (ls : List (Nat × Nat)) (w W : World) (lw : Nat) (x : Bx) (t : Bt) (dP : Nat) (fv : Value) (nv : Nat) (e : Ending) (w' : World) : Prop := ∃ x' ga gc, e = .returned (.bool true) ∧ LW w w' lw x' ⟨M.more t.f x.n, growM t.m, t.hd⟩ (dP + 2 ^ x.o) fv (.slice ga (nv + 1) gc) ∧ RN w' (.slice ga (nv + 1) gc) (ls ++ [(dP, x.o)]) ∧ Kept (fun y => bown x y ∨ y = lw) W w' ∧ (∀ y, bown x' y → bown x y ∨ W.heap.size ≤ y) ∧ x'.l = x.l ∧ x'.m = x.m ∧ x'.base = x.base ∧ x'.R = x.R ∧ x'.lim = x.lim ∧ x'.n = x.n + x.R ∧ x'.o = x.o ∧ x'.b = x.b ∧ x'.s = x.s
set_option maxRecDepth 4000 in
set_option maxHeartbeats 1000000 in
theorem come_x (lw : Nat) (x : Bx) (t : Bt) (dP : Nat) (fa : Option Addr) (fl fc : Nat) (va : Option Addr) (nv vc : Nat) (hnv : nv ≤ 1000) (ls : List (Nat × Nat)) (hls : nv = ls.length) (w W : World) (h : LW w W lw x t dP (.slice fa fl fc) (.slice va nv vc)) (r : RN W (.slice va nv vc) ls) (hk : ∃ k, x.n = k * x.R ∧ k + 1 ≤ x.lim) (hst : t.m.n * 4096 = x.n) (hd : dP = t.m.n) (hg : t.m.n + 2 ^ x.o ≤ 1024) :
    Calls Tryz.prog 14 #[.pointer (some ⟨lw, 0, none⟩)] W fun e w' => ComeX ls w W lw x t dP (.slice fa fl fc) nv e w' := by
  have ho := h.bd.o8
  have CM := hid (M.Commit_ok x.s x.a x.base x.R x.lim x.n t.f W h.bd.sp hk)
  have hR1 := h.bd.sp.cfg.r1
  obtain ⟨c0, c1, c2, c3, c4, c5, c6, c7, c8, c9⟩ := h.c
  have H := hid h
  have RR := hid r
  clear r
  have HST := hid hst
  have HD := hid hd
  have HG := hid hg
  have hdp : dP ≤ 1024 := by rw [hd]; exact Nat.le_trans (Nat.le_add_right _ _) hg
  have CX := hid (show ∀ W, RN W (.slice va nv vc) ls → Calls Tryz.prog 59 #[r5V (x.o : Int) (dP : Int) (.slice fa fl fc) (.slice va nv vc)] W fun e w' => ∃ ga gc, e = .returned (r5V (x.o : Int) ((dP + 2 ^ x.o : Nat) : Int) (.slice fa fl fc) (.slice ga (nv + 1) gc)) ∧ Kept none' W w' ∧ RN w' (.slice ga (nv + 1) gc) (ls ++ [(dP, x.o)]) from fun W hW => by
    rw [hls] at hW hnv ⊢
    refine (Come5x x.o dP ho hdp fa fl fc va vc ls hnv W hW).mono ?_
    rintro e w' ⟨ga, gc, rfl, h1, h2⟩
    rw [List.length_append, List.length_singleton] at h2
    exact ⟨ga, gc, by rw [List.length_append, List.length_singleton], h1, h2⟩)
  have HR1 := hid hR1
  clear h hk hst hd hg hR1 hls hdp
  go_enter Tryz.func14, Tryz.ntmps14
  go_wp2_with fail
  refine CM.out.mono ?_
  rintro e w1 ⟨rfl, g', hS, hK, hg'⟩
  have H1 := hid (H.out.space (toK hK) hS hg')
  have HGG := hid hg'
  have Q1 := hid (show Kept (bown x) W w1 from (Kept.refl (bown x) W).trans (toK hK) (fun _ _ e => e) (fun _ _ e => .inl e))
  have NT := hid (show ¬ topOk { x with a := some g', n := x.n + x.R } { t with f := M.more t.f x.n } from fun e => by
    have h2 : t.m.n * 4096 = x.n + x.R := e.2
    have := HST.out
    have := HR1.out
    omega)
  have FD := hid (Feed_no _ _ (.inl NT.out) w1 H1.out.bd)
  clear hS hK hg' c0 c1 c2 c3 c4 c5 c6 c7 c8 c9 CM
  obtain ⟨c0, c1, c2, c3, c4, c5, c6, c7, c8, c9⟩ := H1.out.c
  go_wp2_with fail
  refine FD.out.mono ?_
  rintro e w2 ⟨rfl, hk⟩
  have H2 := hid (H1.out.keep hk)
  have Q2 := hid (Q1.out.trans hk (fun _ _ e => e) (fun _ _ e => e.elim))
  have PL2 := hid (Pull_no _ _ (.inl NT.out) w2 H2.out.bd)
  clear hk c0 c1 c2 c3 c4 c5 c6 c7 c8 c9 FD H1
  obtain ⟨c0, c1, c2, c3, c4, c5, c6, c7, c8, c9⟩ := H2.out.c
  go_wp2_with fail
  refine PL2.out.mono ?_
  rintro e w3 ⟨rfl, hk⟩
  have H3 := hid (H2.out.keep hk)
  have Q3 := hid (Q2.out.trans hk (fun _ _ e => e) (fun _ _ e => e.elim))
  clear hk c0 c1 c2 c3 c4 c5 c6 c7 c8 c9 PL2 H2
  obtain ⟨c0, c1, c2, c3, c4, c5, c6, c7, c8, c9⟩ := H3.out.c
  go_wp2_with fail
  refine (Grow_any x.m x.B t.m _ H3.out.bd.mp).mono ?_
  rintro e w4 ⟨rfl, B', hM, hK, hF⟩
  have NB := hid (show ∀ y, bown { x with a := some g', n := x.n + x.R, B := B' } y → bown x y ∨ W.heap.size ≤ y from fun y hy => by
    rcases hy with hy | hy | hy
    · rcases hy with rfl | hy
      · exact .inl (.inl (.inl rfl))
      · cases hy
        rcases HGG.out with e | e
        · exact .inl (.inl (.inr e))
        · exact .inr e
    · have hmo := H.out.bd.mo
      rcases hF y (by rw [hmo]; exact hy) with e | e
      · exact .inl (.inr (.inl (hmo ▸ e)))
      · exact .inr (Nat.le_trans Q3.out.size e)
    · exact .inl (.inr (.inr hy)))
  have H4 := hid (H3.out.grow hK hM (growM_o _) hF)
  have Q4 := hid (show Kept (bown x) W w4 from Q3.out.trans hK (fun _ _ e => e) (fun _ _ e => .inr (.inl (H.out.bd.mo ▸ e))))
  have R4 := hid (H.out.rn RR.out (Q4.out.mono (fun _ _ e => .inl e)))
  clear hM hK hF c0 c1 c2 c3 c4 c5 c6 c7 c8 c9 H3
  obtain ⟨c0, c1, c2, c3, c4, c5, c6, c7, c8, c9⟩ := H4.out.c
  go_wp2_with fail
  refine (CX.out _ R4.out).mono ?_
  rintro e w5 ⟨ga, gc, rfl, hk, hr5⟩
  have R5 := hid hr5
  have Q5 := hid (Q4.out.trans hk (fun _ _ e => e) (fun _ _ e => e.elim))
  clear hr5 CX
  have H5 := hid (H4.out.keep hk)
  clear hk c0 c1 c2 c3 c4 c5 c6 c7 c8 c9 H4
  obtain ⟨c0, c1, c2, c3, c4, c5, c6, c7, c8, c9⟩ := H5.out.c
  have fz := H5.out.fz
  obtain ⟨P, hP⟩ : ∃ P, P = dP + 2 ^ x.o := ⟨_, rfl⟩
  rw [← hP]
  have H6 := hid (H5.out.doc P (.slice fa fl fc) (.slice ga (nv + 1) gc))
  have HP := hid hP
  have kd : Kept (fun y => y = lw) w5 ((((w5.setCell ⟨lw, 6, none⟩ (.int .i64 (x.o : Int))).setCell ⟨lw, 7, none⟩ (.int .i64 (P : Int))).setCell ⟨lw, 8, none⟩ (.slice fa fl fc)).setCell ⟨lw, 9, none⟩ (.slice ga (nv + 1) gc)) := ((((Kept.refl (fun y => y = lw) w5).setCell (p := ⟨lw, 6, none⟩) rfl _).setCell (p := ⟨lw, 7, none⟩) rfl _).setCell (p := ⟨lw, 8, none⟩) rfl _).setCell (p := ⟨lw, 9, none⟩) rfl _
  have Q6 := hid (show Kept (fun y => bown x y ∨ y = lw) W _ from Q5.out.trans kd (fun _ _ e => .inl e) (fun _ _ e => .inr e))
  have R6 := hid (own_kept R5.out kd (fun y e hy => by
    obtain ⟨cs, hg⟩ := own_ty R5.out e
    exact ty_ne hg H5.out.box (by decide) hy))
  clear kd
  have PGN := hid (show (growM t.m).n = P from by
    have := HG.out
    have h2 := H5.out.bd.mo
    rw [growM_o] at h2
    rw [hP, HD.out]
    unfold growM
    rw [h2, if_neg (by show ¬ 1024 < t.m.n + 2 ^ x.o; omega)]
    rfl)
  clear hP
  go_wp2_with fail
  clear c0 c1 c2 c3 c4 c5 c6 c7 c8 c9 fz H5
  generalize (((w5.setCell ⟨lw, 6, none⟩ (.int .i64 (x.o : Int))).setCell ⟨lw, 7, none⟩ (.int .i64 (P : Int))).setCell ⟨lw, 8, none⟩ (.slice fa fl fc)).setCell ⟨lw, 9, none⟩ (.slice ga (nv + 1) gc) = W6 at *
  obtain ⟨c0, c1, c2, c3, c4, c5, c6, c7, c8, c9⟩ := H6.out.c
  have PG := hid (show ∀ n, Calls Tryz.prog 60 #[.pointer (some ⟨x.m, 0, none⟩)] (W6.drewN n) fun e w' => e = .returned (.int .i64 (P : Int)) ∧ w' = W6.drewN n from fun n => by
    have q := pages_any x.m B' (growM t.m) (W6.drewN n) (H6.out.bd.mp.keep ((Kept.refl none' W6).drewN n))
    rw [PGN.out] at q
    exact q)
  go_quiet ((go_at_call 60; exact Calls.quiet_of_same (PG.out _)))
  have H7 := hid (H6.out.keep ((Kept.refl none' W6).drewN nq))
  have R7 := hid (RN.keep R6.out ((Kept.refl none' W6).drewN nq))
  have Q7 := hid (Q6.out.trans ((Kept.refl none' W6).drewN nq) (fun _ _ e => e) (fun _ _ e => e.elim))
  generalize W6.drewN nq = W7 at *
  go_wp2_with fail
  go_ret
  refine ⟨{ x with a := some g', n := x.n + x.R, B := B' }, ga, gc, ret_bool (by simp), ?_, R7.out, Q7.out, NB.out, rfl, rfl, rfl, rfl, rfl, rfl, rfl, rfl, rfl⟩
  rw [← HP.out]
  exact H7.out
/-- What goes leaves. -/
def GoesX (ls : List (Nat × Nat)) (w W : World) (lw : Nat) (x : Bx) (t : Bt) (dP : Nat) (fv : Value) (nv : Nat) (e : Ending) (w' : World) : Prop := ∃ x' ga m gc, m = (dropR ls (dP - 2 ^ x.o)).length ∧ e = .returned (.bool true) ∧ LW w w' lw x' ⟨t.f, resizeM t.m (t.m.n - 2 ^ x.o), t.hd⟩ (dP - 2 ^ x.o) fv (.slice ga m gc) ∧ RN w' (.slice ga m gc) (dropR ls (dP - 2 ^ x.o)) ∧ Kept (fun y => bown x y ∨ y = lw) W w' ∧ (∀ y, bown x' y → bown x y ∨ W.heap.size ≤ y) ∧ x'.l = x.l ∧ x'.m = x.m ∧ x'.base = x.base ∧ x'.R = x.R ∧ x'.lim = x.lim ∧ x'.n = x.n - x.R ∧ x'.o = x.o ∧ x'.b = x.b ∧ x'.s = x.s
set_option maxRecDepth 4000 in
set_option maxHeartbeats 1000000 in
theorem goes_x (lw : Nat) (x : Bx) (t : Bt) (dP : Nat) (fa : Option Addr) (fl fc : Nat) (va : Option Addr) (nv vc : Nat) (hnv : nv ≤ 1000) (ls : List (Nat × Nat)) (hls : nv = ls.length) (w W : World) (h : LW w W lw x t dP (.slice fa fl fc) (.slice va nv vc)) (r : RN W (.slice va nv vc) ls) (hR : x.R ≤ x.n) (hd : dP = t.m.n) (hn : 2 ^ x.o ≤ t.m.n) :
    Calls Tryz.prog 46 #[.pointer (some ⟨lw, 0, none⟩)] W fun e w' => GoesX ls w W lw x t dP (.slice fa fl fc) nv e w' := by
  have ho := h.bd.o8
  have hR1 := h.bd.sp.cfg.r1
  have hz : 0 < 2 ^ x.o := Nat.pow_pos (by decide)
  have hmo := h.bd.mo
  have hn1 := h.bd.mp.n1
  have DC := hid (M.Decommit_ok x.s x.a x.base x.R x.lim x.n t.f 1 W h.bd.sp (Nat.div_pos hR (by omega)))
  have SH := hid (show ∀ W1, MapAt W1 x.m x.B t.m → Calls Tryz.prog 92 #[.pointer (some ⟨x.m, 0, none⟩), .int .i64 ((1 : Nat) : Int)] W1 fun e w' => e = .returned (.int .i64 0) ∧ ∃ B', MapAt w' x.m B' (resizeM t.m (t.m.n - 2 ^ x.o)) ∧ Kept (mown x.m x.B t.m.o) W1 w' ∧ From W1 x.m x.B B' t.m.o from fun W1 hW => by
    have := Shrink_ok x.m x.B t.m 1 W1 hW (by rw [hmo]; exact Nat.div_pos hn hz)
    rw [Nat.one_mul, hmo] at this
    rw [hmo]
    exact this)
  have GV := hid (show ∀ W1, RN W1 (.slice va nv vc) ls → Calls Tryz.prog 93 #[r5V (x.o : Int) (dP : Int) (.slice fa fl fc) (.slice va nv vc)] W1 fun e w' => ∃ va' m vc', m = (dropR ls (dP - 2 ^ x.o)).length ∧ e = .returned (r5V (x.o : Int) ((dP - 2 ^ x.o : Nat) : Int) (.slice fa fl fc) (.slice va' m vc')) ∧ Kept none' W1 w' ∧ RN w' (.slice va' m vc') (dropR ls (dP - 2 ^ x.o)) from fun W1 hW => by
    rw [hls] at hW hnv ⊢
    refine (Go5x x.o dP ho (by omega) (by omega) fa fl fc va vc ls hnv W1 hW).mono ?_
    rintro e w' ⟨va', vc', rfl, h1, h2⟩
    exact ⟨va', _, vc', rfl, rfl, h1, h2⟩)
  obtain ⟨c0, c1, c2, c3, c4, c5, c6, c7, c8, c9⟩ := h.c
  have H := hid h
  have RR := hid r
  clear r h hR hd hn hR1 hz hmo hn1 hls
  rw [Int.natCast_one] at DC SH
  go_enter Tryz.func46, Tryz.ntmps46
  go_wp2_with fail
  refine DC.out.mono ?_
  rintro e w1 ⟨rfl, hS, hK⟩
  have H1 := hid (H.out.space0 (toK hK) hS)
  have Q1 := hid (show Kept (bown x) W w1 from (Kept.refl (bown x) W).trans (toK hK) (fun _ _ e => e) (fun _ _ e => .inl e))
  clear hS hK c0 c1 c2 c3 c4 c5 c6 c7 c8 c9 DC
  obtain ⟨c0, c1, c2, c3, c4, c5, c6, c7, c8, c9⟩ := H1.out.c
  go_wp2_with fail
  refine (SH.out _ H1.out.bd.mp).mono ?_
  rintro e w4 ⟨rfl, B', hM, hK, hF⟩
  have NB := hid (show ∀ y, bown { x with n := x.n - 1 * x.R, B := B' } y → bown x y ∨ W.heap.size ≤ y from fun y hy => by
    rcases hy with hy | hy | hy
    · exact .inl (.inl hy)
    · have hmo := H.out.bd.mo
      rcases hF y (by rw [hmo]; exact hy) with e | e
      · exact .inl (.inr (.inl (hmo ▸ e)))
      · exact .inr (Nat.le_trans Q1.out.size e)
    · exact .inl (.inr (.inr hy)))
  have H4 := hid (H1.out.grow hK hM rfl hF)
  have Q4 := hid (show Kept (bown x) W w4 from Q1.out.trans hK (fun _ _ e => e) (fun _ _ e => .inr (.inl (H.out.bd.mo ▸ e))))
  have R4 := hid (H.out.rn RR.out (Q4.out.mono (fun _ _ e => .inl e)))
  clear hM hK hF c0 c1 c2 c3 c4 c5 c6 c7 c8 c9 H1
  obtain ⟨c0, c1, c2, c3, c4, c5, c6, c7, c8, c9⟩ := H4.out.c
  go_wp2_with fail
  refine (GV.out _ R4.out).mono ?_
  rintro e w5 ⟨ga, m, gc, hm, rfl, hk, hr5⟩
  have HM := hid hm
  clear hm
  have H5 := hid (H4.out.keep hk)
  have R5 := hid hr5
  have Q5 := hid (Q4.out.trans hk (fun _ _ e => e) (fun _ _ e => e.elim))
  clear hk hr5 c0 c1 c2 c3 c4 c5 c6 c7 c8 c9 H4
  obtain ⟨P, hP⟩ : ∃ P, P = dP - 2 ^ x.o := ⟨_, rfl⟩
  rw [← hP]
  have H6 := hid (H5.out.doc P (.slice fa fl fc) (.slice ga m gc))
  have kd : Kept (fun y => y = lw) w5 ((((w5.setCell ⟨lw, 6, none⟩ (.int .i64 (x.o : Int))).setCell ⟨lw, 7, none⟩ (.int .i64 (P : Int))).setCell ⟨lw, 8, none⟩ (.slice fa fl fc)).setCell ⟨lw, 9, none⟩ (.slice ga m gc)) := ((((Kept.refl (fun y => y = lw) w5).setCell (p := ⟨lw, 6, none⟩) rfl _).setCell (p := ⟨lw, 7, none⟩) rfl _).setCell (p := ⟨lw, 8, none⟩) rfl _).setCell (p := ⟨lw, 9, none⟩) rfl _
  have Q6 := hid (show Kept (fun y => bown x y ∨ y = lw) W _ from Q5.out.trans kd (fun _ _ e => .inl e) (fun _ _ e => .inr e))
  have R6 := hid (own_kept R5.out kd (fun y e hy => by
    obtain ⟨cs, hg⟩ := own_ty R5.out e
    exact ty_ne hg H5.out.box (by decide) hy))
  have HP := hid hP
  clear kd hP
  obtain ⟨c0, c1, c2, c3, c4, c5, c6, c7, c8, c9⟩ := H5.out.c
  have fz := H5.out.fz
  go_wp2_with fail
  go_ret
  refine ⟨{ x with n := x.n - 1 * x.R, B := B' }, ga, m, gc, HM.out, rfl, ?_, R6.out, Q6.out, NB.out, rfl, rfl, rfl, rfl, rfl, by rw [Nat.one_mul], rfl, rfl, rfl⟩
  rw [← HP.out]
  exact H6.out
/-- A play's world: c steps are behind it; E: blocks beside it. -/
structure PW (E : Nat → Prop) (w W : World) (lw c : Nat) (x : Bx) (t : Bt) (fr : Nat → List Nat) (ls : List (Nat × Nat)) (fa : Option Addr) (fc : Nat) (va : Option Addr) (n vc : Nat) : Prop where
  law : LW w W lw x t t.m.n (.slice fa (x.o + 1) fc) (.slice va n vc)
  nl : n = ls.length
  fl : FL W fa fc x.o fr
  rn : RN W (.slice va n vc) ls
  sf : Sf x t fr ls
  st : t.m.n * 4096 = x.n
  nc : n ≤ c
  bm : x.base % 4096 = 0
  ex : ∀ y, E y → y < W.heap.size ∧ ¬ (bown x y ∨ y = lw)
theorem PW.keep {E w W W' lw c x t fr ls fa fc va n vc} (h : PW E w W lw c x t fr ls fa fc va n vc) (k : Kept none' W W') : PW E w W' lw c x t fr ls fa fc va n vc := ⟨h.law.keep k, h.nl, h.fl.keep k, h.rn.keep k, h.sf, h.st, h.nc, h.bm, fun y e => ⟨Nat.lt_of_lt_of_le (h.ex y e).1 k.size, (h.ex y e).2⟩⟩
theorem PW.mono {E w W lw c c' x t fr ls fa fc va n vc} (h : PW E w W lw c x t fr ls fa fc va n vc) (hc : c ≤ c') : PW E w W lw c' x t fr ls fa fc va n vc := ⟨h.law, h.nl, h.fl, h.rn, h.sf, h.st, Nat.le_trans h.nc hc, h.bm, h.ex⟩
theorem PW.nums {E w W lw c x t fr ls fa fc va n vc} (h : PW E w W lw c x t fr ls fa fc va n vc) : x.o ≤ 8 ∧ t.m.n ≤ 1024 ∧ 1 ≤ x.base ∧ x.base + x.n ≤ 9223372036854775808 ∧ (∃ r, t.m.n = r * 2 ^ x.o ∧ r ≤ x.lim ∧ x.n = r * x.R) ∧ x.lim ≤ 64 ∧ x.lim * 2 ^ x.o ≤ 1024 := by
  obtain ⟨n1, n2, n3⟩ := h.sf.sn.n
  have hc := h.law.bd.sp.cfg
  obtain ⟨r, hr, hr2⟩ := h.law.bd.sp.kn
  have hR := h.law.bd.hR
  have hst := h.st
  have hlr := hc.lr
  refine ⟨h.law.bd.o8, n1, hc.b1, n2, ⟨r, ?_, hr2, hr⟩, hc.l2, ?_⟩
  · rw [hr, hR] at hst
    have e : r * (4096 * 2 ^ x.o) = (r * 2 ^ x.o) * 4096 := by rw [Nat.mul_comm 4096, Nat.mul_assoc]
    rw [e] at hst
    exact Nat.eq_of_mul_eq_mul_right (by decide) hst
  · rw [hR] at hlr
    have e : x.lim * (4096 * 2 ^ x.o) = (x.lim * 2 ^ x.o) * 4096 := by rw [Nat.mul_comm 4096, Nat.mul_assoc]
    rw [e] at hlr
    omega
end Go.Proofs.YthglogiglimebaaGreat
/- BuddyPlays: the law's heads, free, word, linked. -/
namespace Go.Proofs.YthglogiglimebaaGreat
open Go.RowKit
set_option linter.unusedVariables false

theorem Sf.hd {x t fr ls} (s : Sf x t fr ls) {k : Nat} (hk : k ≤ x.o) : t.hd k = ((fr k).map (ad x)).getD 0 0 := by
  obtain ⟨B, s, _⟩ := s
  exact (s.ch k hk).head
theorem Sf.words {x t fr ls} (s : Sf x t fr ls) {k : Nat} (hk : k ≤ x.o) : freeL x t k = (fr k).map (ad x) := by
  obtain ⟨B, s, _⟩ := s
  exact s.freeL k hk
/-- What an address list of the law's is: new. -/
def NewL (w : World) (xs : List Nat) (e : Ending) (w' : World) : Prop := ∃ v, e = .returned v ∧ M.Lst w' v xs ∧ Kept none' w w' ∧ ∀ r, v.ownBlock = some r → w.heap.size ≤ r
theorem GS.newb {w0 W : World} {e : TypeId} {size : Nat} {v : Value} {n : Nat} {xs : List Value} (h : GS w0 W e size v n xs) (hc : ∀ g cap, v = .slice (some ⟨g, 0, none⟩) n cap → ¬ cap ≤ n) : ∀ r, v.ownBlock = some r → w0.heap.size ≤ r := by
  intro r hr
  rcases h.own.2 with ⟨h0, _⟩ | ⟨g, cap, cur, h0, hb, hg, h3⟩
  · rw [h0] at hr; simp [Value.ownBlock] at hr
  · rw [h0] at hr; simp [Value.ownBlock] at hr
    subst hr
    exact (h.new g cap h0).resolve_left (hc g cap h0)
theorem push_w64' {w0 W : World} {v : Value} {n : Nat} {xs : List Value} (h : GS w0 W 22 1 v n xs) (y : Int) (hn : n ≤ 2000) :
    ∃ g cap w', (∀ ty, (Builtin.append_ #[29, 29] ty #[v, .slice (some ⟨W.heap.size, 0, none⟩) 1 1]).run Tryz.prog (W.alloc (.cells #[.int .u64 y] 22)) = .ok (.slice (some ⟨g, 0, none⟩) (n + 1) cap) w') ∧ GS w0 w' 22 1 (.slice (some ⟨g, 0, none⟩) (n + 1) cap) (n + 1) (xs ++ [.int .u64 y]) ∧ w0.heap.size ≤ g := by
  obtain ⟨i, hi, hzz⟩ := Option.map_eq_some_iff.1 info_w64
  simp only [Prod.mk.injEq] at hzz
  obtain ⟨g, cap, w', h1, h2, h5, _⟩ := (h.keep ((Kept.refl none' W).alloc (.cells #[.int .u64 y] 22))).push 29 i (.int .u64 0) 8 Tryz.underlying29 hi hzz.1 hzz.2.1 hzz.2.2 rfl (by decide) ⟨W.heap.size, 0, none⟩ 1 [.int .u64 y] rfl (fun j u hj => cells_new (cs := #[.int .u64 y]) j u hj) (by simp [Value.oneCell']) (by simp only [maxLen]; omega) (by omega)
  exact ⟨g, cap, w', h1, h2, h5⟩
/-- A list of words that grows. -/
def WL (w0 W : World) (v : Value) (xs : List Nat) : Prop := GS w0 W 22 1 v xs.length (xs.map M.e64) ∧ ∀ r, v.ownBlock = some r → w0.heap.size ≤ r
theorem WL.nil (w0 W : World) (k : Kept none' w0 W) : WL w0 W (.slice none 0 0) [] := ⟨GS.nil _ _ _ _ k, fun r e => by simp [Value.ownBlock] at e⟩
theorem WL.push {w0 W : World} {va : Option Addr} {vc n : Nat} {xs : List Nat} (h : WL w0 W (.slice va n vc) xs) (hl : n = xs.length) (y : Nat) (hn : xs.length ≤ 2000) :
    ∃ g cap w', (∀ ty, (Builtin.append_ #[29, 29] ty #[.slice va n vc, .slice (some ⟨W.heap.size, 0, none⟩) 1 1]).run Tryz.prog (W.alloc (.cells #[.int .u64 (y : Int)] 22)) = .ok (.slice (some ⟨g, 0, none⟩) (n + 1) cap) w') ∧ WL w0 w' (.slice (some ⟨g, 0, none⟩) (n + 1) cap) (xs ++ [y]) ∧ Kept none' w0 w' := by
  have hg := h.1
  rw [← hl] at hg
  obtain ⟨g, cap, w', h1, h2, h3⟩ := push_w64' hg (y : Int) (by omega)
  refine ⟨g, cap, w', h1, ⟨?_, fun r e => by simp [Value.ownBlock] at e; omega⟩, h2.kp⟩
  rw [List.length_append, List.length_singleton, ← hl, List.map_append]
  exact h2
theorem WL.lst {w0 W : World} {v : Value} {xs : List Nat} (h : WL w0 W v xs) (hx : ∀ x ∈ xs, x < 18446744073709551616) : NewL w0 xs (.returned v) W := ⟨v, rfl, ⟨hx, h.1.own⟩, h.1.kp, h.2⟩
theorem map_getD' (x : Bx) (l : List Nat) (i : Nat) (hi : i < l.length) : (l.map (ad x)).getD i 0 = ad x (l.getD i 0) := by
  simp [List.getD, hi]
theorem range_succ_map (f : Nat → Nat) (k : Nat) : (List.range (k + 1)).map f = (List.range k).map f ++ [f k] := by rw [List.range_succ, List.map_append]; rfl
theorem ad_lt {E w W lw c x t fr ls fa fc va n vc} (h : PW E w W lw c x t fr ls fa fc va n vc) {k q : Nat} (hk : k ≤ x.o) (hq : q ∈ fr k) : ad x q < 18446744073709551616 := by
  have h1 := h.sf.lt hk hq
  obtain ⟨_, _, _, n4, _⟩ := h.nums
  have hst := h.st
  have hz : 0 < 2 ^ k := Nat.pow_pos (by decide)
  unfold ad
  omega
set_option maxRecDepth 4000 in
set_option maxHeartbeats 1000000 in
theorem heads_x {E w W lw c x t fr ls fa fc va n vc} (h : PW E w W lw c x t fr ls fa fc va n vc) :
    Calls Tryz.prog 51 #[.pointer (some ⟨lw, 0, none⟩)] W fun e w' => NewL W (headsL x t) e w' := by
  have ho := h.nums.1
  have HC := hid (fun W' (k : Kept none' W W') => show W'.cell? ⟨lw, 2, none⟩ = some (.int .i64 (x.o : Int)) ∧ W'.cell? ⟨lw, 8, none⟩ = some (.slice fa (x.o + 1) fc) from by
    obtain ⟨c0, c1, c2, c3, c4, c5, c6, c7, c8, c9⟩ := (h.keep k).law.c
    exact ⟨c2, c8⟩)
  have HB := hid h
  clear h
  go_enter Tryz.func51, Tryz.ntmps51
  go_wp2_with fail
  go_loopw [3, 4] (fun l i W' => ∃ k : Nat, k ≤ x.o + 1 ∧ i = .int .i64 k ∧ (∃ ga gc, l = .slice ga k gc) ∧ Hid (WL W W' l ((List.range k).map t.hd) ∧ Kept none' W W')) (fun _ i _ => x.o + 1 - (intOf i).toNat)
  case atStart => exact ⟨0, by omega, rfl, ⟨_, _, rfl⟩, hid ⟨WL.nil W W (Kept.refl none' W), Kept.refl none' W⟩⟩
  case round =>
    obtain ⟨k, hk, rfl, ⟨ga, gc, rfl⟩, hR⟩ := hrel
    obtain ⟨c2, c8⟩ := HC.out _ hR.out.2
    have KD := hid (fun m => none_trans hR.out.2 ((Kept.refl none' wr).drewN m))
    by_cases hlt : k ≤ x.o
    · have hki : (k : Int) ≤ (x.o : Int) := by omega
      have hki2 : (k : Int) < ((x.o + 1 : Nat) : Int) := by omega
      have hki3 : (k : Int) < (x.o : Int) + 1 := by omega
      have HW := hid (HB.out.keep hR.out.2)
      obtain ⟨g0, A, C, hfa, r0, hN⟩ := HW.out.fl.get k hlt
      subst hfa
      have hhd := HW.out.sf.hd hlt
      have hlen : ((List.range k).map t.hd).length = k := by simp
      cases hfr : fr k with
      | nil =>
        rw [hfr] at r0 hhd
        replace r0 : wr.cell? ⟨g0, k, none⟩ = some (.slice A 0 C) := r0
        obtain ⟨g, cap, w', hap, hw, hkp⟩ := hR.out.1.push hlen.symm 0 (by omega)
        have D := hid (show WL W w' (.slice (some ⟨g, 0, none⟩) (k + 1) cap) ((List.range (k + 1)).map t.hd) ∧ Kept none' W w' from ⟨by rw [range_succ_map, show t.hd k = 0 from hhd]; exact hw, hkp⟩)
        have HAP := hid (show ∀ ty, (Builtin.append_ #[29, 29] ty #[.slice ga k gc, .slice (some ⟨wr.heap.size, 0, none⟩) 1 1]).run Tryz.prog (wr.alloc (.cells #[.int .u64 0] 22)) = .ok (.slice (some ⟨g, 0, none⟩) (k + 1) cap) w' from hap)
        clear hap hw hkp hN hfr hhd hlen
        go_wp2_with (at_builtin; refine Lib.wpList_append_run _ rfl _ _ _ _ rfl (.slice ga k gc) (.slice (some ⟨wr.heap.size, 0, none⟩) 1 1) rfl rfl _ _ (HAP.out _) ?_)
        exact ⟨⟨k + 1, by omega, by simp, ⟨_, _, rfl⟩, D⟩, by simp [intOf]; omega⟩
      | cons p l =>
        have hl2 : (fr k).length = l.length + 1 := by rw [hfr]; rfl
        obtain ⟨g2, hA, r2⟩ := hN.get (i := 0) (by omega)
        subst hA
        rw [hl2] at r0
        rw [show (fr k).getD 0 0 = p by rw [hfr]; rfl] at r2
        rw [hfr] at hhd
        have hm : p ∈ fr k := by rw [hfr]; exact List.mem_cons_self
        have hp := HW.out.sf.le hlt hm
        have hlt64 := ad_lt HW.out hlt hm
        have AT := hid (at_ok HW.out.law p hp (by unfold ad at hlt64; exact hlt64))
        obtain ⟨g, cap, w', hap, hw, hkp⟩ := hR.out.1.push hlen.symm (ad x p) (by omega)
        have D := hid (show WL W w' (.slice (some ⟨g, 0, none⟩) (k + 1) cap) ((List.range (k + 1)).map t.hd) ∧ Kept none' W w' from ⟨by rw [range_succ_map, show t.hd k = ad x p from hhd]; exact hw, hkp⟩)
        have HAP := hid hap
        have hl1 : (0 : Int) < ((l.length : Nat) : Int) + 1 := by omega
        clear hap hw hkp hN hfr hhd hlen hl2 hm hlt64
        generalize ad x p = a at *
        go_wp2_with fail
        refine AT.out.mono ?_
        rintro e w2 ⟨rfl, h2⟩
        replace h2 := h2.symm
        subst h2
        go_wp2_with (at_builtin; refine Lib.wpList_append_run _ rfl _ _ _ _ rfl (.slice ga k gc) (.slice (some ⟨wr.heap.size, 0, none⟩) 1 1) rfl rfl _ _ (HAP.out _) ?_)
        exact ⟨⟨k + 1, by omega, by simp, ⟨_, _, rfl⟩, D⟩, by simp [intOf]; omega⟩
    · obtain rfl : k = x.o + 1 := by omega
      have hki : ¬ ((x.o + 1 : Nat) : Int) ≤ (x.o : Int) := by omega
      have hki2 : ¬ (x.o : Int) + 1 ≤ (x.o : Int) := by omega
      have D := hid (hR.out.1.lst (fun y hy => by
        obtain ⟨k, hk, rfl⟩ := List.mem_map.1 hy
        have hk := List.mem_range.1 hk
        rw [HB.out.sf.hd (k := k) (by omega)]
        cases hfr : fr k with
        | nil => exact (show (0 : Nat) < 18446744073709551616 by decide)
        | cons p l => exact ad_lt HB.out (k := k) (by omega) (by rw [hfr]; exact List.mem_cons_self)))
      go_wp2_with fail
      go_ret
      exact D.out
end Go.Proofs.YthglogiglimebaaGreat
/- BuddyPlays: the law's apart. -/
namespace Go.Proofs.YthglogiglimebaaGreat
open Go.RowKit
set_option linter.unusedVariables false

theorem GS.push2 {w0 W : World} {e : TypeId} {size : Nat} {v : Value} {n : Nat} {xs : List Value} (h : GS w0 W e size v n xs) (t : TypeId) (i : TypeInfo) (z : Value) (bytes : Nat)
    (ht : Tryz.prog.underlying t = some (.slice e)) (hi : Tryz.prog.info? e = some i) (hz : i.zero = some z) (hs : i.size = size) (hby : i.bytes = bytes) (hzs : z.cells.size = size) (hsz : 0 < size)
    (a : Addr) (c : Nat) (news : List Value) (hl : news.length = size) (hnews : ∀ j u, news[j]? = some u → W.cell? (a.add j) = some u) (h1 : ∀ u ∈ news, u.oneCell' = true) (h63 : n + 1 ≤ maxLen) (hbb : (n + 1) * bytes ≤ 140737488355328) :
    ∃ g cap w', (∀ ty, (Builtin.append_ #[t, t] ty #[v, .slice (some a) 1 c]).run Tryz.prog W = .ok (.slice (some ⟨g, 0, none⟩) (n + 1) cap) w') ∧ GS w0 w' e size (.slice (some ⟨g, 0, none⟩) (n + 1) cap) (n + 1) (xs ++ news) ∧ w0.heap.size ≤ g ∧ (∀ x, v.ownBlock ≠ some x → ∀ o, W.heap[x]? = some o → w'.heap[x]? = some o) ∧ (v.ownBlock = some g ∨ W.heap.size ≤ g) := by
  have hl' : news.length = 1 * size := by rw [hl, Nat.one_mul]
  have ho := h.own
  by_cases hr : ∃ g cap, v = .slice (some ⟨g, 0, none⟩) n cap ∧ n + 1 ≤ cap
  · obtain ⟨g, cap, rfl, hroom⟩ := hr
    obtain ⟨w', hrun, hown, hgr⟩ := run_append_fits (P := Tryz.prog) W 0 t 0 e i size ht hi hs g n cap xs ho a 1 c news hl' hnews h1 hroom
    have hg := (h.new g cap rfl).resolve_left (by omega)
    have hk := grown_kept' hgr
    refine ⟨g, cap, w', fun ty => ?_, ⟨hown, fun g' cap' e => ?_, h.kp.trans hk (fun _ _ x => x) (fun x hx e => ?_)⟩, hg, fun x hx o hxo => (hk.block x (heap_lt hxo) hx).trans hxo, .inl rfl⟩
    · rw [← hrun]; simp [Builtin.append_]
    · simp at e; exact .inr (by omega)
    · cases e; omega
  · have key : ∃ v' w', (Builtin.append_ #[t, t] 0 #[v, .slice (some a) 1 c]).run Tryz.prog W = .ok v' w' ∧ w'.ownsRow W.heap.size e size v' (n + 1) (xs ++ news) ∧ Kept none' W w' := by
      rcases ho.2 with ⟨rfl, h0⟩ | ⟨g, cap, cur, rfl, hb, hg, hnc, hcm, hcs, htake⟩
      · subst h0
        have : xs = [] := List.eq_nil_of_length_eq_zero (by rw [ho.1, Nat.zero_mul])
        subst this
        obtain ⟨v', w', hrun, hown, hgr, _⟩ := run_append_own (P := Tryz.prog) W W.heap.size t 0 e i z size bytes ht hi hz hs hby hzs hsz (.slice none 0 0) 0 [] (World.ownsRow_nil _ _ _ _) a 1 c news hl' hnews h1 h63 hbb (Nat.le_refl _)
        exact ⟨v', w', hrun, hown, (grown_kept' hgr).mono (fun _ _ e => by cases e)⟩
      · obtain ⟨v', w', hrun, hown, hgr⟩ := run_append_arg_grows (P := Tryz.prog) W t 0 e i z size bytes ht hi hz hs hby hzs hsz ⟨g, 0, none⟩ n cap xs ho.1 (fun j u hj => by
          rw [Addr.add_lit, Nat.zero_add]
          rw [← htake, List.getElem?_take] at hj
          split at hj
          · simp only [World.cell?, hg]
            rw [← Array.getElem?_toList, hj]
            rfl
          · cases hj) a 1 c news hl' hnews (Nat.lt_of_not_le fun hle => hr ⟨g, cap, rfl, hle⟩) h63 hbb
        exact ⟨v', w', hrun, hown, (grown_kept' hgr).mono (fun _ _ e => by cases e)⟩
    obtain ⟨v', w', hrun, hown, hk⟩ := key
    rcases hown.2 with ⟨_, h0⟩ | ⟨g, cap, cur, rfl, hb, hg, h3⟩
    · omega
    · refine ⟨g, cap, w', fun ty => ?_, ⟨⟨hown.1, .inr ⟨g, cap, cur, rfl, Nat.zero_le _, hg, h3⟩⟩, fun g' cap' e => ?_, none_trans h.kp hk⟩, Nat.le_trans h.kp.size hb, fun x hx o hxo => (hk.block x (heap_lt hxo) (fun x => x)).trans hxo, .inr hb⟩
      · rw [← hrun]; simp [Builtin.append_]
      · simp at e
        exact .inr (by have := h.kp.size; omega)
theorem own_set {W : World} {b : Nat} {e : TypeId} {va : Option Addr} {n vc : Nat} {xs : List Value} (h : W.ownsRow b e 1 (.slice va n vc) n xs) {g : Nat} (hg : va = some ⟨g, 0, none⟩) (i : Nat) (u : Value) : (W.setCell ⟨g, i, none⟩ u).ownsRow b e 1 (.slice va n vc) n (xs.set i u) := by
  refine ⟨by rw [List.length_set]; exact h.1, ?_⟩
  rcases h.2 with ⟨h0, h1⟩ | ⟨g', cap, cur, h0, hb, hg', hnc, hcm, hcs, htake⟩
  · exact .inl ⟨h0, h1⟩
  · injection h0 with h0a h0b h0c
    rw [hg] at h0a
    injection h0a with h0a
    injection h0a with h0a
    subst h0a
    refine .inr ⟨g, cap, cur.setIfInBounds i u, by rw [hg, h0c], hb, heap_set hg' i u, hnc, hcm, by simpa using hcs, ?_⟩
    rw [Array.toList_setIfInBounds, List.take_set, htake]
theorem own_fro {W : World} {b : Nat} {e : TypeId} {v : Value} {n : Nat} {xs : List Value} (h : W.ownsRow b e 1 v n xs) {g : Nat} (hg : v.ownBlock = some g) (i : Nat) : W.frozen? ⟨g, i, none⟩ = false := by
  obtain ⟨cs, hc⟩ := own_ty h hg
  simp [World.frozen?, hc]
theorem push_two {w0 W : World} {v : Value} {n : Nat} {xs : List Value} (h : GS w0 W 22 1 v n xs) (y : Int) (hn : n ≤ 2000) :
    ∃ g cap w', (∀ ty, (Builtin.append_ #[29, 29] ty #[v, .slice (some ⟨W.heap.size, 0, none⟩) 1 1]).run Tryz.prog (W.alloc (.cells #[.int .u64 y] 22)) = .ok (.slice (some ⟨g, 0, none⟩) (n + 1) cap) w') ∧ GS w0 w' 22 1 (.slice (some ⟨g, 0, none⟩) (n + 1) cap) (n + 1) (xs ++ [.int .u64 y]) ∧ w0.heap.size ≤ g ∧ (∀ x, v.ownBlock ≠ some x → ∀ o, W.heap[x]? = some o → w'.heap[x]? = some o) ∧ (v.ownBlock = some g ∨ W.heap.size ≤ g) := by
  obtain ⟨i, hi, hzz⟩ := Option.map_eq_some_iff.1 info_w64
  simp only [Prod.mk.injEq] at hzz
  have ka := (Kept.refl none' W).alloc (.cells #[.int .u64 y] 22)
  obtain ⟨g, cap, w', h1, h2, h5, h4, h6⟩ := (h.keep ka).push2 29 i (.int .u64 0) 8 Tryz.underlying29 hi hzz.1 hzz.2.1 hzz.2.2 rfl (by decide) ⟨W.heap.size, 0, none⟩ 1 [.int .u64 y] rfl (fun j u hj => cells_new (cs := #[.int .u64 y]) j u hj) (by simp [Value.oneCell']) (by simp only [maxLen]; omega) (by omega)
  exact ⟨g, cap, w', h1, h2, h5, fun x hx o ho => h4 x hx o ((ka.block x (heap_lt ho) (fun x => x)).trans ho), h6.imp_right (fun e => Nat.le_trans ka.size e)⟩
/-- Two rows of words that lie apart, newer than w0. -/
structure Tw (w0 W : World) (va : Option Addr) (n ca : Nat) (vb : Option Addr) (m cb : Nat) (xs ys : List Value) : Prop where
  a : GS w0 W 22 1 (.slice va n ca) n xs
  b : GS w0 W 22 1 (.slice vb m cb) m ys
  na : ∀ r, (Value.slice va n ca).ownBlock = some r → w0.heap.size ≤ r
  nb : ∀ r, (Value.slice vb m cb).ownBlock = some r → w0.heap.size ≤ r
  ne : ∀ r, (Value.slice va n ca).ownBlock = some r → (Value.slice vb m cb).ownBlock ≠ some r
theorem Tw.seta {w0 W va n ca vb m cb xs ys g} (h : Tw w0 W va n ca vb m cb xs ys) (hg : va = some ⟨g, 0, none⟩) (i : Nat) (u : Value) : Tw w0 (W.setCell ⟨g, i, none⟩ u) va n ca vb m cb (xs.set i u) ys := by
  have hgo : (Value.slice va n ca).ownBlock = some g := by rw [hg]; rfl
  have ks : Kept (fun y => y = g) W (W.setCell ⟨g, i, none⟩ u) := (Kept.refl (fun y => y = g) W).setCell (p := ⟨g, i, none⟩) rfl u
  have k0 : Kept none' w0 (W.setCell ⟨g, i, none⟩ u) := h.a.kp.trans ks (fun _ _ e => e) (fun y hy e => by have e : y = g := e; have := h.na g hgo; omega)
  exact ⟨⟨own_set h.a.own hg i u, h.a.new, k0⟩, h.b.keptN ks (fun r e hr => by have hr : r = g := hr; subst hr; exact h.ne r hgo e) (fun y e => by have e : y = g := e; subst e; exact h.na y hgo), h.na, h.nb, h.ne⟩
theorem Tw.swap {w0 W va n ca vb m cb xs ys} (h : Tw w0 W va n ca vb m cb xs ys) : Tw w0 W vb m cb va n ca ys xs := ⟨h.b, h.a, h.nb, h.na, fun r e1 e2 => h.ne r e2 e1⟩
theorem Tw.pusha {w0 W va n ca vb m cb xs ys} (h : Tw w0 W va n ca vb m cb xs ys) (y : Int) (hn : n ≤ 2000) :
    ∃ g cap w', (∀ ty, (Builtin.append_ #[29, 29] ty #[.slice va n ca, .slice (some ⟨W.heap.size, 0, none⟩) 1 1]).run Tryz.prog (W.alloc (.cells #[.int .u64 y] 22)) = .ok (.slice (some ⟨g, 0, none⟩) (n + 1) cap) w') ∧ Tw w0 w' (some ⟨g, 0, none⟩) (n + 1) cap vb m cb (xs ++ [.int .u64 y]) ys := by
  obtain ⟨g, cap, w', h1, h2, h3, h4, h5⟩ := push_two h.a y hn
  have hbv : ∀ r, (Value.slice vb m cb).ownBlock = some r → (Value.slice va n ca).ownBlock ≠ some r := fun r e1 e2 => h.ne r e2 e1
  refine ⟨g, cap, w', h1, h2, ⟨⟨h.b.own.1, ?_⟩, h.b.new, h2.kp⟩, fun r e => by simp [Value.ownBlock] at e; omega, h.nb, fun r e1 e2 => ?_⟩
  · rcases h.b.own.2 with h0 | ⟨g', cap', cur, h0, hb, hg, h6⟩
    · exact .inl h0
    · exact .inr ⟨g', cap', cur, h0, hb, h4 g' (hbv g' (by rw [h0]; rfl)) _ hg, h6⟩
  · simp [Value.ownBlock] at e1
    subst e1
    rcases h5 with h5 | h5
    · exact h.ne g h5 e2
    · have := (World.ownsRow.lt h.b.own g e2).2
      omega
theorem rep_set (v u : Value) : ∀ (xs : List Value) (j : Nat), j < xs.length → (List.replicate j u ++ xs.drop j).set j u = List.replicate (j + 1) u ++ xs.drop (j + 1) := fun xs j hj => by
  rw [List.set_append_right _ _ (by simp), List.length_replicate, Nat.sub_self, List.drop_eq_getElem_cons hj, List.set_cons_zero, List.replicate_succ', List.append_assoc]
  rfl
theorem rep_get (n : Nat) (u : Value) (i : Nat) (hi : i < n) : (List.replicate n u)[i]? = some u := by simp [hi]
set_option maxRecDepth 4000 in
set_option maxHeartbeats 2000000 in
theorem apart_x (w0 : World) (va : Option Addr) (n ca : Nat) (vb : Option Addr) (m cb : Nat) (xs ys : List Value) (hn : n ≤ 1024) (hm : m ≤ 1024) (W : World) (h : Tw w0 W va n ca vb m cb xs ys) :
    Calls Tryz.prog 52 #[.slice va n ca, .slice vb m cb] W fun e w' => e = .returned (.bool true) ∧ Kept none' w0 w' := by
  have hxl := h.a.own.1
  have hyl := h.b.own.1
  rw [Nat.mul_one] at hxl hyl
  have H0 := hid h
  have HXL := hid hxl
  have HYL := hid hyl
  clear h hxl hyl
  go_enter Tryz.func52, Tryz.ntmps52
  go_wp2_with fail
  go_loopw [5] (fun i W' => ∃ j : Nat, j ≤ n ∧ i = .int .i64 j ∧ Hid (Tw w0 W' va n ca vb m cb (List.replicate j (.int .u64 1001) ++ xs.drop j) ys)) (fun i _ => n - (intOf i).toNat)
  case atStart => exact ⟨0, by omega, rfl, hid (by simpa using H0.out)⟩
  case round =>
    clear H0
    obtain ⟨j, hj, rfl, hT⟩ := hrel
    by_cases hlt : j < n
    · have hji : (j : Int) < (n : Int) := by omega
      have hl1 : (List.replicate j (Value.int .u64 1001) ++ xs.drop j).length = n := by have := hT.out.a.own.1; omega
      obtain ⟨g, hg, q0⟩ := own_get hT.out.a.own (i := j) (u := (List.replicate j (Value.int .u64 1001) ++ xs.drop j)[j]'(by omega)) (List.getElem?_eq_getElem _)
      have D := hid (show Tw w0 (wr.setCell ⟨g, j, none⟩ (.int .u64 1001)) va n ca vb m cb (List.replicate (j + 1) (.int .u64 1001) ++ xs.drop (j + 1)) ys from by
        have := hT.out.seta hg j (.int .u64 1001)
        rw [rep_set (.int .u64 1001) _ _ _ (by rw [HXL.out]; exact hlt)] at this
        exact this)
      have fz := own_fro hT.out.a.own (g := g) (by rw [hg]; rfl) j
      generalize (List.replicate j (Value.int .u64 1001) ++ xs.drop j)[j]'(by omega) = old at *
      clear hl1
      subst hg
      go_wp2_with fail
      exact ⟨⟨j + 1, by omega, by simp, D⟩, by simp [intOf]; omega⟩
    · obtain rfl : j = n := by omega
      have hji : ¬ (j : Int) < (j : Int) := by omega
      have T2 := hid (show Tw w0 wr va j ca vb m cb (List.replicate j (.int .u64 1001)) ys from by
        have := hT.out
        rw [List.drop_of_length_le (by rw [HXL.out]; exact Nat.le_refl _), List.append_nil] at this
        exact this)
      clear hT hj hlt HXL
      go_wp2_with fail
      clear hji
      generalize wr = w1 at *
      go_loopw [6] (fun i W' => ∃ a : Nat, a ≤ m ∧ i = .int .i64 a ∧ Hid (Tw w0 W' vb m cb va j ca (List.replicate a (.int .u64 1002) ++ ys.drop a) (List.replicate j (.int .u64 1001)))) (fun i _ => m - (intOf i).toNat)
      case atStart => exact ⟨0, by omega, rfl, hid (by simpa using T2.out.swap)⟩
      case round =>
        clear T2
        obtain ⟨a, ha, rfl, hT⟩ := hrel
        by_cases hlt : a < m
        · have hai : (a : Int) < (m : Int) := by omega
          have hl1 : (List.replicate a (Value.int .u64 1002) ++ ys.drop a).length = m := by have := hT.out.a.own.1; omega
          obtain ⟨g, hg, q0⟩ := own_get hT.out.a.own (i := a) (u := (List.replicate a (Value.int .u64 1002) ++ ys.drop a)[a]'(by omega)) (List.getElem?_eq_getElem _)
          have D := hid (show Tw w0 (wr.setCell ⟨g, a, none⟩ (.int .u64 1002)) vb m cb va j ca (List.replicate (a + 1) (.int .u64 1002) ++ ys.drop (a + 1)) (List.replicate j (.int .u64 1001)) from by
            have := hT.out.seta hg a (.int .u64 1002)
            rw [rep_set (.int .u64 1002) _ _ _ (by rw [HYL.out]; exact hlt)] at this
            exact this)
          have fz := own_fro hT.out.a.own (g := g) (by rw [hg]; rfl) a
          generalize (List.replicate a (Value.int .u64 1002) ++ ys.drop a)[a]'(by omega) = old at *
          clear hl1
          subst hg
          go_wp2_with fail
          exact ⟨⟨a + 1, by omega, by simp, D⟩, by simp [intOf]; omega⟩
        · obtain rfl : a = m := by omega
          have hai : ¬ (a : Int) < (a : Int) := by omega
          have T2 := hid (show Tw w0 wr va j ca vb a cb (List.replicate j (.int .u64 1001)) (List.replicate a (.int .u64 1002)) from by
            have := hT.out
            rw [List.drop_of_length_le (by rw [HYL.out]; exact Nat.le_refl _), List.append_nil] at this
            exact this.swap)
          clear hT ha hlt HYL
          go_wp2_with fail
          clear hai
          generalize wr = w2 at *
          go_loopw [7, 8, 9] (fun gv hv i W' => ∃ b : Nat, b ≤ 40 ∧ i = .int .i64 b ∧ ∃ ga gc ha hc, gv = .slice ga (j + b) gc ∧ hv = .slice ha (a + b) hc ∧ Hid (Tw w0 W' ga (j + b) gc ha (a + b) hc (List.replicate (j + b) (.int .u64 1001)) (List.replicate (a + b) (.int .u64 1002)))) (fun _ _ i _ => 40 - (intOf i).toNat)
          case atStart => exact ⟨0, by omega, rfl, va, ca, vb, cb, rfl, rfl, T2⟩
          case round =>
            clear T2
            obtain ⟨b, hb, rfl, ga, gc, hha, hhc, rfl, rfl, hT⟩ := hrel
            by_cases hlt : b < 40
            · have hbi : (b : Int) < 40 := by omega
              obtain ⟨g1, cap1, w3, hap1, hT1⟩ := hT.out.pusha 1001 (by omega)
              obtain ⟨g2, cap2, w4, hap2, hT2⟩ := hT1.swap.pusha 1002 (by omega)
              have D := hid (show Tw w0 w4 (some ⟨g1, 0, none⟩) (j + (b + 1)) cap1 (some ⟨g2, 0, none⟩) (a + (b + 1)) cap2 (List.replicate (j + (b + 1)) (.int .u64 1001)) (List.replicate (a + (b + 1)) (.int .u64 1002)) from by
                have h3 := hT2.swap
                rw [show List.replicate (j + b) (Value.int .u64 1001) ++ [.int .u64 1001] = List.replicate (j + (b + 1)) (.int .u64 1001) from List.replicate_succ'.symm, show List.replicate (a + b) (Value.int .u64 1002) ++ [.int .u64 1002] = List.replicate (a + (b + 1)) (.int .u64 1002) from List.replicate_succ'.symm] at h3
                exact h3)
              have HA1 := hid hap1
              have HA2 := hid hap2
              clear hap1 hap2 hT1 hT2
              go_wp2_with (first | (at_builtin; refine Lib.wpList_append_run _ rfl _ _ _ _ rfl (.slice ga (j + b) gc) (.slice (some ⟨wr.heap.size, 0, none⟩) 1 1) rfl rfl _ _ (HA1.out _) ?_) | (at_builtin; refine Lib.wpList_append_run _ rfl _ _ _ _ rfl (.slice hha (a + b) hhc) (.slice (some ⟨w3.heap.size, 0, none⟩) 1 1) rfl rfl _ _ (HA2.out _) ?_))
              exact ⟨⟨b + 1, by omega, by simp, _, _, _, _, by rw [Nat.add_assoc], by rw [Nat.add_assoc], D⟩, by simp [intOf]; omega⟩
            · obtain rfl : b = 40 := by omega
              have hbi : ¬ (((40 : Nat) : Int) < 40) := by decide
              have T2 := hid hT.out
              have KF := hid hT.out.a.kp
              clear hT hb hlt
              go_wp2_with fail
              generalize wr = w3 at *
              go_loopw [10] (fun i W' => ∃ q : Nat, q ≤ j + 40 ∧ i = .int .i64 q ∧ Hid (Kept none' w3 W')) (fun i _ => j + 40 - (intOf i).toNat)
              case atStart => exact ⟨0, by omega, rfl, hid (Kept.refl none' w3)⟩
              case round =>
                obtain ⟨q, hq, rfl, hK⟩ := hrel
                have KD := hid (fun m => none_trans hK.out ((Kept.refl none' wr).drewN m))
                by_cases hlt : q < j + 40
                · have hqi : (q : Int) < (j : Int) + 40 := by omega
                  obtain ⟨g, hg, q0⟩ := own_get (own_kept T2.out.a.own hK.out (fun _ _ e => e)) (i := q) (u := .int .u64 1001) (rep_get _ _ q hlt)
                  subst hg
                  go_wp2_with fail
                  exact ⟨⟨q + 1, by omega, by simp, hK⟩, by simp [intOf]; omega⟩
                · obtain rfl : q = j + 40 := by omega
                  have hqi : ¬ (((j + 40 : Nat) : Int) < (j : Int) + 40) := by omega
                  have hqi2 : ¬ ((j : Int) + 40 < (j : Int) + 40) := by omega
                  go_wp2_with fail
                  generalize wr = w4 at *
                  clear hqi hqi2 hq hlt KD
                  go_loopw [11] (fun i W' => ∃ q : Nat, q ≤ a + 40 ∧ i = .int .i64 q ∧ Hid (Kept none' w3 W')) (fun i _ => a + 40 - (intOf i).toNat)
                  case atStart => exact ⟨0, by omega, rfl, hK⟩
                  case round =>
                    clear hK
                    obtain ⟨q, hq, rfl, hK⟩ := hrel
                    by_cases hlt : q < a + 40
                    · have hqi : (q : Int) < (a : Int) + 40 := by omega
                      obtain ⟨g, hg, q0⟩ := own_get (own_kept T2.out.b.own hK.out (fun _ _ e => e)) (i := q) (u := .int .u64 1002) (rep_get _ _ q hlt)
                      subst hg
                      go_wp2_with fail
                      exact ⟨⟨q + 1, by omega, by simp, hK⟩, by simp [intOf]; omega⟩
                    · obtain rfl : q = a + 40 := by omega
                      have hqi : ¬ (((a + 40 : Nat) : Int) < (a : Int) + 40) := by omega
                      have hqi2 : ¬ ((a : Int) + 40 < (a : Int) + 40) := by omega
                      go_wp2_with fail
                      go_ret
                      exact ⟨rfl, none_trans KF.out hK.out⟩
end Go.Proofs.YthglogiglimebaaGreat
