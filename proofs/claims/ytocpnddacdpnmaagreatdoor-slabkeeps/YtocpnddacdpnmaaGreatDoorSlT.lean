import Derived.Test.YtocpnddacdpnmaaGreatDoorSlS
/- Package slab: fresh, Take. -/
namespace Go.Proofs.YtocpnddacdpnmaaGreatDoor
open Go.RowKit
set_option linter.unusedVariables false

/-- What Need of one page found: the lists, and whether a region came. -/
inductive Ned (x : Bx) (t : Bt) (fr : Nat → List Nat) (d : Bool) (p : Nat) (b : Bool) (fr' : Nat → List Nat) : Prop where
  | here (j : Nat) (l : List Nat) (hj : j ≤ x.o) (hz : ∀ a, a < j → fr a = []) (hp : fr j = p :: l) (hb : b = false) (hf : fr' = cutF (frU fr j (M.dropL (fr j) p)) p j 0)
  | grew (hz : ∀ a, a ≤ x.o → fr a = []) (hd : d = false) (hl : x.n + x.R ≤ x.lim * x.R) (hb : b = true) (hp : p = t.m.n) (hf : fr' = cutF fr t.m.n x.o 0)
/-- What fresh leaves. -/
structure FrO (w W : World) (sb lw : Nat) (x : Bx) (t : Bt) (fr : Nat → List Nat) (ls : List (Nat × Nat)) (S : Sb) (h : Nat → Int) (k : Nat) (d : Bool) (p : Nat) (b : Bool) (w' : World) : Prop where
  ex : ∃ x' t' fr', Ned x t fr d p b fr' ∧ SO w w' sb lw x' t' fr' (ls ++ [(p, 0)]) (freS S p k) (uphI h k (p : Int)) ∧ Sm x { x' with P := x.P } ∧ (∀ i, Lv ls (i / 4096) → t'.f i = t.f i) ∧ Nb W x x' ∧ t'.m.n = (if b = true then t.m.n + 2 ^ x.o else t.m.n) ∧ x'.n = (if b = true then x.n + x.R else x.n)
  hc : S.c p = none
  nl : ∀ i, (p, i) ∉ ls
  kp : Kept (sown x sb) W w'
inductive FrP (w W : World) (sb lw : Nat) (x : Bx) (t : Bt) (fr : Nat → List Nat) (ls : List (Nat × Nat)) (S : Sb) (h : Nat → Int) (k : Nat) (d : Bool) (e : Ending) (w' : World) : Prop where
  | stuck (hz : ∀ a, a ≤ x.o → fr a = []) (hd : d = true ∨ x.n = x.lim * x.R) (he : e = .returned (.tuple #[.bool false, .int .i64 2])) (kp : Kept none' W w')
  | got (p : Nat) (b : Bool) (he : e = .returned (.tuple #[.bool b, .int .i64 0])) (fo : FrO w W sb lw x t fr ls S h k d p b w')
/-- Need's answer, both ways in one. -/
theorem need1 {w W lw x t fr ls} (po : PO w W lw x t fr ls) (d : Bool) :
    Calls Tryz.prog 19 #[.pointer (some ⟨lw, 0, none⟩), .int .i64 0, .bool d] W fun e w' =>
      ((∀ a, a ≤ x.o → fr a = []) ∧ (d = true ∨ x.n = x.lim * x.R) ∧ e = .returned (.tuple #[.int .u64 0, .bool false, .int .i64 2]) ∧ Kept none' W w') ∨
      (∃ p b fr' x' t', e = .returned (.tuple #[.int .u64 ((ad x p : Nat) : Int), .bool b, .int .i64 0]) ∧ Ned x t fr d p b fr' ∧ PO w w' lw x' t' fr' (ls ++ [(p, 0)]) ∧ Sm x x' ∧ BK t t' ls (ls ++ [(p, 0)]) ∧ Nb W x x' ∧ Kept (bown x) W w' ∧ x.P p = none ∧ (∀ i, (p, i) ∉ ls) ∧ t'.m.n = (if b = true then t.m.n + 2 ^ x.o else t.m.n) ∧ x'.n = (if b = true then x.n + x.R else x.n)) := by
  refine (K.Need_any po 0 d).mono fun e w' hN => ?_
  cases hN with
  | bad hk he kp =>
    exfalso
    have := of_decide_eq_false hk
    omega
  | stuck i hk hi hz hd he kp =>
    obtain rfl : i = 0 := by omega
    exact .inl ⟨fun a ha => hz a (Nat.zero_le _) ha, hd, he, kp⟩
  | here i j p l hk hi hij hj hz hp he hs kp =>
    obtain rfl : i = 0 := by omega
    obtain ⟨t', h1, h2, h3⟩ := hs
    refine .inr ⟨p, false, _, x, t', he, .here j l hj (fun a ha => hz a (Nat.zero_le _) ha) hp rfl rfl, h1, Sm.refl x, h3, fun y e => .inl e, kp, po.sf.pfree hj (by rw [hp]; exact List.mem_cons_self), fun i hm => ?_, by rw [if_neg (by decide)]; exact h2, by rw [if_neg (by decide)]⟩
    have h0 := po.sf.apart0 hj (show p ∈ fr j by rw [hp]; exact List.mem_cons_self) hm
    have hz1 : 0 < 2 ^ i := Nat.pow_pos (by decide)
    have hz2 : 0 < 2 ^ j := Nat.pow_pos (by decide)
    omega
  | grew i hk hi hz hd hl he hs kp =>
    obtain rfl : i = 0 := by omega
    obtain ⟨x', t', h1, h2, h3, h4, h5, h6⟩ := hs
    refine .inr ⟨t.m.n, true, _, x', t', he, .grew (fun a ha => hz a (Nat.zero_le _) ha) hd hl rfl rfl rfl, h1, h2, h6, h5, kp, po.sf.pout (Nat.le_refl _), fun i hm => ?_, by rw [if_pos rfl]; exact h4, by rw [if_pos rfl]; exact h3⟩
    have := (po.sf.sn.al hm).2.2
    have hz1 : 0 < 2 ^ i := Nat.pow_pos (by decide)
    omega
set_option maxRecDepth 4000 in
set_option maxHeartbeats 1000000 in
theorem fresh_s {w W sb lw x t fr ls S h} (o : SO w W sb lw x t fr ls S h) (k : Nat) (hk : k < 8) (d : Bool) :
    Calls Tryz.prog 37 #[.pointer (some ⟨sb, 0, none⟩), .int .i64 (k : Int), .bool d] W fun e w' => FrP w W sb lw x t fr ls S h k d e w' := by
  have ND := hid (need1 o.po d)
  obtain ⟨c0, c1⟩ := o.sw.c0
  have HO := hid o
  clear o
  go_enter Tryz.func37, Tryz.ntmps37
  go_wp2_with fail
  refine ND.out.mono ?_
  rintro e w1 (⟨hz, hd, rfl, kp⟩ | ⟨p, b, fr1, x1, t1, rfl, hned, hpo, hsm, hbk, hnb, hk1, hPp, hnl, htn, hxn⟩)
  · have D := hid (show FrP w W sb lw x t fr ls S h k d (.returned (.tuple #[.bool false, .int .i64 2])) w1 from .stuck hz hd rfl kp)
    clear hz hd kp ND c0 c1
    go_wp2_with fail
    exact ⟨rfl, .tuple #[.bool false, .int .i64 2], by simp [results, Tryz.results37, go_sem], D.out⟩
  · have hc : S.c p = none := by
      cases e : S.c p with
      | none => rfl
      | some c =>
        rw [HO.out.si.eP, pOf_some e] at hPp
        cases hPp
    have o1 := HO.out.pool hpo hsm hbk (fun a c ha => List.mem_append_left _ (HO.out.mem ha).1) hk1
    have hls : (p, 0) ∈ ls ++ [(p, 0)] := List.mem_append_right _ (List.mem_singleton.2 rfl)
    have hpn := (o1.sf.sn.al hls).2.2
    have n4 := o1.po.nums.2.2.2.1
    have n2 := o1.po.nums.2.1
    have hst := o1.st
    have hpb : 4096 * p + 4096 ≤ x1.n := by
      have h5 : (p + 1) * 4096 ≤ t1.m.n * 4096 := Nat.mul_le_mul_right _ hpn
      omega
    have had : ad x p = ad x1 p := by unfold ad; rw [hsm.base]
    rw [had]
    have hoff : offS x1 (ad x1 p) / 4096 = p := by unfold offS ad; omega
    obtain ⟨A, hA⟩ : ∃ A, A = ad x1 p := ⟨_, rfl⟩
    have hA64 : A < 18446744073709551616 := by rw [hA]; unfold ad; omega
    have PG := hid (show Calls Tryz.prog 85 #[.pointer (some ⟨sb, 0, none⟩), .int .u64 (A : Int)] w1 fun e w' => e = .returned (.int .i64 (p : Int)) ∧ w' = w1 from by
      have := page_s o1.sw A hA64
      rw [hA, hoff] at this
      rw [hA]
      exact this)
    have SL := hid (Slab_s o1.sw (p : Int) (k : Int))
    obtain ⟨m1, hm1⟩ : ∃ m1, m1 = slabM t1.m (p : Int) (k : Int) := ⟨_, rfl⟩
    rw [← hm1] at SL
    generalize slabE t1.m (p : Int) (k : Int) = se1 at *
    have CH := hid (show ∀ W', SW w W' sb lw x1 { t1 with m := m1 } h → Calls Tryz.prog 87 #[.pointer (some ⟨sb, 0, none⟩), .int .u64 (A : Int), .int .i64 (k : Int)] W' fun e w' => e = .returned (.tuple #[]) ∧ SW w w' sb lw x1 ⟨chA t1.f (ad x1 p) (4096 * p) (szC k) (ncl k), m1, t1.hd⟩ h ∧ Kept (bown x1) W' w' from fun W' s => by
      rw [hA]
      exact chain_s s p k hk hpb)
    obtain ⟨f2, hf2⟩ : ∃ f2, f2 = chA t1.f (ad x1 p) (4096 * p) (szC k) (ncl k) := ⟨_, rfl⟩
    rw [← hf2] at CH
    obtain ⟨m2, hm2⟩ : ∃ m2, m2 = firstM m1 (p : Int) 0 := ⟨_, rfl⟩
    have FR := hid (show ∀ W', SW w W' sb lw x1 ⟨f2, m1, t1.hd⟩ h → Calls Tryz.prog 88 #[.pointer (some ⟨x1.m, 0, none⟩), .int .i64 (p : Int), .int .i64 0] W' fun e w' => e = .returned (.int .i64 (firstE m1 (p : Int) 0)) ∧ SD w W' sb lw x1 ⟨f2, m1, t1.hd⟩ h m2 w' from fun W' s => by
      rw [hm2]
      exact First_s s (p : Int) 0)
    generalize firstE m1 (p : Int) 0 = fe1 at *
    have PT := hid (show ∀ W', SW w W' sb lw x1 ⟨f2, m2, t1.hd⟩ h → Calls Tryz.prog 43 #[.pointer (some ⟨sb, 0, none⟩), .int .i64 (p : Int), .int .i64 (k : Int)] W' fun e w' => e = .returned (.tuple #[]) ∧ SE w W' sb lw x1 ⟨f2, m2, t1.hd⟩ (putM m2 h (p : Int) k) (uphI h k (p : Int)) w' from fun W' s => put_s s (p : Int) k hk)
    have FIN := hid (show ∀ w', SW w w' sb lw x1 ⟨f2, putM m2 h (p : Int) k, t1.hd⟩ (uphI h k (p : Int)) → Kept (sown x1 sb) w1 w' → FrP w W sb lw x t fr ls S h k d (.returned (.tuple #[.bool b, .int .i64 0])) w' from fun w' s kk => by
      have e1 : putM m2 h (p : Int) k = freM t1.m h p k := by unfold freM; rw [hm2, hm1]
      rw [e1, hf2] at s
      have so := o1.fresh hk hls hc s
      refine .got p b rfl ⟨⟨_, _, fr1, hned, so, ⟨hsm.base, hsm.R, hsm.lim, hsm.o, hsm.b, hsm.s, hsm.m, hsm.l, rfl⟩, fun i hi => ?_, hnb, ?_, hxn⟩, hc, hnl, ?_⟩
      · have h2 : t1.f i = t.f i := hbk i hi (K.Lv.more hi)
        show chA t1.f (ad x1 p) (4096 * p) (szC k) (ncl k) i = t.f i
        rw [← h2]
        refine chA_out t1.f x1 p k hk i (fun e => ?_)
        obtain ⟨q, c, h3, h4, h5⟩ := hi
        have hq := hpo.sf.sn.apart (List.mem_append_left _ h3) hls
        have hip : i / 4096 = p := by omega
        rw [hip] at h4 h5
        rcases hq with ⟨e2, e3⟩ | e2 | e2
        · rw [e2] at h3; exact hnl c h3
        · omega
        · omega
      · show (freM t1.m h p k).n = _
        rw [← htn]
        unfold freM putM setPrevM
        rw [chainM_n, chainM_n]
        unfold firstM
        split <;> exact slabM_n _ _ _
      · refine (hk1.mono (fun _ _ e => .inl e)).trans kk (fun _ _ e => e) (fun y hy e => ?_)
        rcases e with e | e
        · rcases hnb y e with e | e
          · exact .inl e
          · omega
        · exact .inr e)
    have O1 := hid o1.sw
    rw [← hA]
    clear hned hpo hsm hbk hnb hk1 hPp hnl htn hxn hc o1 hls hpn n4 n2 hst hpb had hoff hA hm1 hf2 hm2 c0 c1 ND
    obtain ⟨c0, c1⟩ := O1.out.c0
    go_wp2_with fail
    refine PG.out.mono ?_
    rintro e w2 ⟨rfl, h2⟩
    replace h2 := h2.symm
    subst h2
    have MP := hid (Map6 O1.out.pl)
    go_wp2_with fail
    refine MP.out.mono ?_
    rintro e w2 ⟨rfl, h2⟩
    replace h2 := h2.symm
    subst h2
    go_wp2_with fail
    refine SL.out.mono ?_
    rintro e w3 ⟨rfl, hs3, hk3⟩
    have S3 := hid hs3
    have K3 := hid hk3
    clear hs3 hk3 c0 c1 MP
    go_wp2_with fail
    refine (CH.out _ S3.out).mono ?_
    rintro e w4 ⟨rfl, hs4, hk4⟩
    have S4 := hid hs4
    have K4 := hid (K3.out.trans hk4 (fun _ _ e => e) (fun _ _ e => e))
    have MP := hid (Map6 hs4.pl)
    obtain ⟨c0, c1⟩ := hs4.c0
    clear hs4 hk4
    go_wp2_with fail
    refine MP.out.mono ?_
    rintro e w5 ⟨rfl, h5⟩
    replace h5 := h5.symm
    subst h5
    go_wp2_with fail
    refine (FR.out _ S4.out).mono ?_
    rintro e w5 ⟨rfl, hs5, hk5⟩
    have S5 := hid hs5
    have K5 := hid (K4.out.trans hk5 (fun _ _ e => e) (fun _ _ e => e))
    clear hs5 hk5 c0 c1
    go_wp2_with fail
    refine (PT.out _ S5.out).mono ?_
    rintro e w6 ⟨rfl, hs6, hk6⟩
    have D := hid (FIN.out w6 hs6 ((K5.out.mono (fun _ _ e => .inl e)).trans hk6 (fun _ _ e => e) (fun _ _ e => e)))
    clear hs6 hk6
    go_wp2_with fail
    exact ⟨rfl, .tuple #[.bool b, .int .i64 0], by simp [results, Tryz.results37, go_sem], D.out⟩
end Go.Proofs.YtocpnddacdpnmaaGreatDoor
