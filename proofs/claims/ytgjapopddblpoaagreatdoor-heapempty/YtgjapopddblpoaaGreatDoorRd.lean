import Derived.Test.YtgjapopddblpoaaGreatDoorRc
/- Package slab: fresh, Take. -/
namespace Go.Proofs.YtgjapopddblpoaaGreatDoor
open Go.RowKit
set_option linter.unusedVariables false

/-- What Need of one page found: the lists, and whether a region came. -/
inductive Ned (x : Bx) (t : Bt) (fr : Nat → List Nat) (d : Bool) (p : Nat) (b : Bool) (fr' : Nat → List Nat) : Prop where
  | here (j : Nat) (l : List Nat) (hj : j ≤ x.o) (hz : ∀ a, a < j → fr a = []) (hp : fr j = p :: l) (hb : b = false) (hf : fr' = cutF (frU fr j (M.dropL (fr j) p)) p j 0)
  | grew (hz : ∀ a, a ≤ x.o → fr a = []) (hd : d = false) (hl : x.n + x.R ≤ x.lim * x.R) (hb : b = true) (hp : p = t.m.n) (hf : fr' = cutF fr t.m.n x.o 0)
/-- What fresh leaves. -/
structure FrO (w W : World) (sb lw : Nat) (x : Bx) (t : Bt) (fr : Nat → List Nat) (ls : List (Nat × Nat)) (S : Sb) (h : Nat → Int) (k : Nat) (d : Bool) (p : Nat) (b : Bool) (w' : World) : Prop where
  ex : ∃ x' t' fr', Ned x t fr d p b fr' ∧ SO w w' sb lw x' t' fr' (ls ++ [(p, 0)]) (freS S p k) (uphI h k (p : Int)) ∧ Sm x { x' with P := x.P } ∧ (∀ i, Lv ls (i / 4096) → t'.f i = t.f i) ∧ Nb W x x' ∧ t'.m.n = (if b = true then t.m.n + 2 ^ x.o else t.m.n) ∧ x'.n = (if b = true then x.n + x.R else x.n)
  hc : S.c p = none
  nl : ∀ i, (p, i) ∉ ls
  kp : Kept (sown x sb) W w'
inductive FrP (w W : World) (sb lw : Nat) (x : Bx) (t : Bt) (fr : Nat → List Nat) (ls : List (Nat × Nat)) (S : Sb) (h : Nat → Int) (k : Nat) (d : Bool) (e : Ending) (w' : World) : Prop where
  | stuck (hz : ∀ a, a ≤ x.o → fr a = []) (hd : d = true ∨ x.n = x.lim * x.R) (he : e = .returned (.tuple #[.bool false, .int .i64 2])) (kp : Kept none' W w')
  | got (p : Nat) (b : Bool) (he : e = .returned (.tuple #[.bool b, .int .i64 0])) (fo : FrO w W sb lw x t fr ls S h k d p b w')
/-- Need's answer, both ways in one. -/
theorem need1 {w W lw x t fr ls} (po : PO w W lw x t fr ls) (d : Bool) :
    Calls Tryz.prog 94 #[.pointer (some ⟨lw, 0, none⟩), .int .i64 0, .bool d] W fun e w' =>
      ((∀ a, a ≤ x.o → fr a = []) ∧ (d = true ∨ x.n = x.lim * x.R) ∧ e = .returned (.tuple #[.int .u64 0, .bool false, .int .i64 2]) ∧ Kept none' W w') ∨
      (∃ p b fr' x' t', e = .returned (.tuple #[.int .u64 ((ad x p : Nat) : Int), .bool b, .int .i64 0]) ∧ Ned x t fr d p b fr' ∧ PO w w' lw x' t' fr' (ls ++ [(p, 0)]) ∧ Sm x x' ∧ BK t t' ls (ls ++ [(p, 0)]) ∧ Nb W x x' ∧ Kept (bown x) W w' ∧ x.P p = none ∧ (∀ i, (p, i) ∉ ls) ∧ t'.m.n = (if b = true then t.m.n + 2 ^ x.o else t.m.n) ∧ x'.n = (if b = true then x.n + x.R else x.n)) := by
  refine (K.Need_any po 0 d).mono fun e w' hN => ?_
  cases hN with
  | bad hk he kp =>
    exfalso
    have := of_decide_eq_false hk
    omega
  | stuck i hk hi hz hd he kp =>
    obtain rfl : i = 0 := by omega
    exact .inl ⟨fun a ha => hz a (Nat.zero_le _) ha, hd, he, kp⟩
  | here i j p l hk hi hij hj hz hp he hs kp =>
    obtain rfl : i = 0 := by omega
    obtain ⟨t', h1, h2, h3⟩ := hs
    refine .inr ⟨p, false, _, x, t', he, .here j l hj (fun a ha => hz a (Nat.zero_le _) ha) hp rfl rfl, h1, Sm.refl x, h3, fun y e => .inl e, kp, po.sf.pfree hj (by rw [hp]; exact List.mem_cons_self), fun i hm => ?_, by rw [if_neg (by decide)]; exact h2, by rw [if_neg (by decide)]⟩
    have h0 := po.sf.apart0 hj (show p ∈ fr j by rw [hp]; exact List.mem_cons_self) hm
    have hz1 : 0 < 2 ^ i := Nat.pow_pos (by decide)
    have hz2 : 0 < 2 ^ j := Nat.pow_pos (by decide)
    omega
  | grew i hk hi hz hd hl he hs kp =>
    obtain rfl : i = 0 := by omega
    obtain ⟨x', t', h1, h2, h3, h4, h5, h6⟩ := hs
    refine .inr ⟨t.m.n, true, _, x', t', he, .grew (fun a ha => hz a (Nat.zero_le _) ha) hd hl rfl rfl rfl, h1, h2, h6, h5, kp, po.sf.pout (Nat.le_refl _), fun i hm => ?_, by rw [if_pos rfl]; exact h4, by rw [if_pos rfl]; exact h3⟩
    have := (po.sf.sn.al hm).2.2
    have hz1 : 0 < 2 ^ i := Nat.pow_pos (by decide)
    omega
set_option maxRecDepth 4000 in
set_option maxHeartbeats 1000000 in
theorem fresh_s {w W sb lw x t fr ls S h} (o : SO w W sb lw x t fr ls S h) (k : Nat) (hk : k < 8) (d : Bool) :
    Calls Tryz.prog 143 #[.pointer (some ⟨sb, 0, none⟩), .int .i64 (k : Int), .bool d] W fun e w' => FrP w W sb lw x t fr ls S h k d e w' := by
  have ND := hid (need1 o.po d)
  obtain ⟨c0, c1⟩ := o.sw.c0
  have HO := hid o
  clear o
  go_enter Tryz.func143, Tryz.ntmps143
  go_wp2_with fail
  refine ND.out.mono ?_
  rintro e w1 (⟨hz, hd, rfl, kp⟩ | ⟨p, b, fr1, x1, t1, rfl, hned, hpo, hsm, hbk, hnb, hk1, hPp, hnl, htn, hxn⟩)
  · have D := hid (show FrP w W sb lw x t fr ls S h k d (.returned (.tuple #[.bool false, .int .i64 2])) w1 from .stuck hz hd rfl kp)
    clear hz hd kp ND c0 c1
    go_wp2_with fail
    exact ⟨rfl, .tuple #[.bool false, .int .i64 2], by simp [results, Tryz.results143, go_sem], D.out⟩
  · have hc : S.c p = none := by
      cases e : S.c p with
      | none => rfl
      | some c =>
        rw [HO.out.si.eP, pOf_some e] at hPp
        cases hPp
    have o1 := HO.out.pool hpo hsm hbk (fun a c ha => List.mem_append_left _ (HO.out.mem ha).1) hk1
    have hls : (p, 0) ∈ ls ++ [(p, 0)] := List.mem_append_right _ (List.mem_singleton.2 rfl)
    have hpn := (o1.sf.sn.al hls).2.2
    have n4 := o1.po.nums.2.2.2.1
    have n2 := o1.po.nums.2.1
    have hst := o1.st
    have hpb : 4096 * p + 4096 ≤ x1.n := by
      have h5 : (p + 1) * 4096 ≤ t1.m.n * 4096 := Nat.mul_le_mul_right _ hpn
      omega
    have had : ad x p = ad x1 p := by unfold ad; rw [hsm.base]
    rw [had]
    have hoff : offS x1 (ad x1 p) / 4096 = p := by unfold offS ad; omega
    obtain ⟨A, hA⟩ : ∃ A, A = ad x1 p := ⟨_, rfl⟩
    have hA64 : A < 18446744073709551616 := by rw [hA]; unfold ad; omega
    have PG := hid (show Calls Tryz.prog 191 #[.pointer (some ⟨sb, 0, none⟩), .int .u64 (A : Int)] w1 fun e w' => e = .returned (.int .i64 (p : Int)) ∧ w' = w1 from by
      have := page_s o1.sw A hA64
      rw [hA, hoff] at this
      rw [hA]
      exact this)
    have SL := hid (Slab_s o1.sw (p : Int) (k : Int))
    obtain ⟨m1, hm1⟩ : ∃ m1, m1 = slabM t1.m (p : Int) (k : Int) := ⟨_, rfl⟩
    rw [← hm1] at SL
    generalize slabE t1.m (p : Int) (k : Int) = se1 at *
    have CH := hid (show ∀ W', SW w W' sb lw x1 { t1 with m := m1 } h → Calls Tryz.prog 193 #[.pointer (some ⟨sb, 0, none⟩), .int .u64 (A : Int), .int .i64 (k : Int)] W' fun e w' => e = .returned (.tuple #[]) ∧ SW w w' sb lw x1 ⟨chA t1.f (ad x1 p) (4096 * p) (szC k) (ncl k), m1, t1.hd⟩ h ∧ Kept (bown x1) W' w' from fun W' s => by
      rw [hA]
      exact chain_s s p k hk hpb)
    obtain ⟨f2, hf2⟩ : ∃ f2, f2 = chA t1.f (ad x1 p) (4096 * p) (szC k) (ncl k) := ⟨_, rfl⟩
    rw [← hf2] at CH
    obtain ⟨m2, hm2⟩ : ∃ m2, m2 = firstM m1 (p : Int) 0 := ⟨_, rfl⟩
    have FR := hid (show ∀ W', SW w W' sb lw x1 ⟨f2, m1, t1.hd⟩ h → Calls Tryz.prog 179 #[.pointer (some ⟨x1.m, 0, none⟩), .int .i64 (p : Int), .int .i64 0] W' fun e w' => e = .returned (.int .i64 (firstE m1 (p : Int) 0)) ∧ SD w W' sb lw x1 ⟨f2, m1, t1.hd⟩ h m2 w' from fun W' s => by
      rw [hm2]
      exact First_s s (p : Int) 0)
    generalize firstE m1 (p : Int) 0 = fe1 at *
    have PT := hid (show ∀ W', SW w W' sb lw x1 ⟨f2, m2, t1.hd⟩ h → Calls Tryz.prog 131 #[.pointer (some ⟨sb, 0, none⟩), .int .i64 (p : Int), .int .i64 (k : Int)] W' fun e w' => e = .returned (.tuple #[]) ∧ SE w W' sb lw x1 ⟨f2, m2, t1.hd⟩ (putM m2 h (p : Int) k) (uphI h k (p : Int)) w' from fun W' s => put_s s (p : Int) k hk)
    have FIN := hid (show ∀ w', SW w w' sb lw x1 ⟨f2, putM m2 h (p : Int) k, t1.hd⟩ (uphI h k (p : Int)) → Kept (sown x1 sb) w1 w' → FrP w W sb lw x t fr ls S h k d (.returned (.tuple #[.bool b, .int .i64 0])) w' from fun w' s kk => by
      have e1 : putM m2 h (p : Int) k = freM t1.m h p k := by unfold freM; rw [hm2, hm1]
      rw [e1, hf2] at s
      have so := o1.fresh hk hls hc s
      refine .got p b rfl ⟨⟨_, _, fr1, hned, so, ⟨hsm.base, hsm.R, hsm.lim, hsm.o, hsm.b, hsm.s, hsm.m, hsm.l, rfl⟩, fun i hi => ?_, hnb, ?_, hxn⟩, hc, hnl, ?_⟩
      · have h2 : t1.f i = t.f i := hbk i hi (K.Lv.more hi)
        show chA t1.f (ad x1 p) (4096 * p) (szC k) (ncl k) i = t.f i
        rw [← h2]
        refine chA_out t1.f x1 p k hk i (fun e => ?_)
        obtain ⟨q, c, h3, h4, h5⟩ := hi
        have hq := hpo.sf.sn.apart (List.mem_append_left _ h3) hls
        have hip : i / 4096 = p := by omega
        rw [hip] at h4 h5
        rcases hq with ⟨e2, e3⟩ | e2 | e2
        · rw [e2] at h3; exact hnl c h3
        · omega
        · omega
      · show (freM t1.m h p k).n = _
        rw [← htn]
        unfold freM putM setPrevM
        rw [chainM_n, chainM_n]
        unfold firstM
        split <;> exact slabM_n _ _ _
      · refine (hk1.mono (fun _ _ e => .inl e)).trans kk (fun _ _ e => e) (fun y hy e => ?_)
        rcases e with e | e
        · rcases hnb y e with e | e
          · exact .inl e
          · omega
        · exact .inr e)
    have O1 := hid o1.sw
    rw [← hA]
    clear hned hpo hsm hbk hnb hk1 hPp hnl htn hxn hc o1 hls hpn n4 n2 hst hpb had hoff hA hm1 hf2 hm2 c0 c1 ND
    obtain ⟨c0, c1⟩ := O1.out.c0
    go_wp2_with fail
    refine PG.out.mono ?_
    rintro e w2 ⟨rfl, h2⟩
    replace h2 := h2.symm
    subst h2
    have MP := hid (Map6 O1.out.pl)
    go_wp2_with fail
    refine MP.out.mono ?_
    rintro e w2 ⟨rfl, h2⟩
    replace h2 := h2.symm
    subst h2
    go_wp2_with fail
    refine SL.out.mono ?_
    rintro e w3 ⟨rfl, hs3, hk3⟩
    have S3 := hid hs3
    have K3 := hid hk3
    clear hs3 hk3 c0 c1 MP
    go_wp2_with fail
    refine (CH.out _ S3.out).mono ?_
    rintro e w4 ⟨rfl, hs4, hk4⟩
    have S4 := hid hs4
    have K4 := hid (K3.out.trans hk4 (fun _ _ e => e) (fun _ _ e => e))
    have MP := hid (Map6 hs4.pl)
    obtain ⟨c0, c1⟩ := hs4.c0
    clear hs4 hk4
    go_wp2_with fail
    refine MP.out.mono ?_
    rintro e w5 ⟨rfl, h5⟩
    replace h5 := h5.symm
    subst h5
    go_wp2_with fail
    refine (FR.out _ S4.out).mono ?_
    rintro e w5 ⟨rfl, hs5, hk5⟩
    have S5 := hid hs5
    have K5 := hid (K4.out.trans hk5 (fun _ _ e => e) (fun _ _ e => e))
    clear hs5 hk5 c0 c1
    go_wp2_with fail
    refine (PT.out _ S5.out).mono ?_
    rintro e w6 ⟨rfl, hs6, hk6⟩
    have D := hid (FIN.out w6 hs6 ((K5.out.mono (fun _ _ e => .inl e)).trans hk6 (fun _ _ e => e) (fun _ _ e => e)))
    clear hs6 hk6
    go_wp2_with fail
    exact ⟨rfl, .tuple #[.bool b, .int .i64 0], by simp [results, Tryz.results143, go_sem], D.out⟩
end Go.Proofs.YtgjapopddblpoaaGreatDoor
/- Package slab: Take. -/
namespace Go.Proofs.YtgjapopddblpoaaGreatDoor
open Go.RowKit
set_option linter.unusedVariables false

/-- What Take found. -/
inductive TkP (w W : World) (sb lw : Nat) (x : Bx) (t : Bt) (fr : Nat → List Nat) (ls : List (Nat × Nat)) (S : Sb) (h : Nat → Int) (c : Int) (d : Bool) (e : Ending) (w' : World) : Prop where
  | bad (hc : ¬ (0 ≤ c ∧ c < 8)) (he : e = .returned (.tuple #[.int .u64 0, .bool false, .int .i64 1])) (kp : Kept none' W w')
  | stuck (k : Nat) (hk : k < 8) (hc : c = (k : Int)) (hl : S.pl k = []) (hz : ∀ a, a ≤ x.o → fr a = []) (hd : d = true ∨ x.n = x.lim * x.R) (he : e = .returned (.tuple #[.int .u64 0, .bool false, .int .i64 2])) (kp : Kept none' W w')
  | old (k p i : Nat) (l r : List Nat) (hk : k < 8) (hc : c = (k : Int)) (hl : S.pl k = p :: l) (hf : S.fl p = i :: r) (he : e = .returned (.tuple #[.int .u64 ((caN x p k i : Nat) : Int), .bool false, .int .i64 0])) (so : ∃ P m' h', SO w w' sb lw { x with P := P } { t with m := m' } fr ls (takS S p k r) h' ∧ m'.n = t.m.n) (kp : Kept (sown x sb) W w')
  | new (k p : Nat) (b : Bool) (hk : k < 8) (hc : c = (k : Int)) (hl : S.pl k = []) (he : e = .returned (.tuple #[.int .u64 ((caN x p k 0 : Nat) : Int), .bool b, .int .i64 0])) (so : ∃ x' t' fr' h', Ned x t fr d p b fr' ∧ SO w w' sb lw x' t' fr' (ls ++ [(p, 0)]) (takS (freS S p k) p k (List.range' 1 (ncl k - 1))) h' ∧ Sm x { x' with P := x.P } ∧ (∀ i, Lv ls (i / 4096) → t'.f i = t.f i) ∧ Nb W x x' ∧ t'.m.n = (if b = true then t.m.n + 2 ^ x.o else t.m.n) ∧ x'.n = (if b = true then x.n + x.R else x.n)) (hcp : S.c p = none) (nl : ∀ i, (p, i) ∉ ls) (kp : Kept (sown x sb) W w')
theorem hanM_n {w W sb lw x t fr ls S h w'} (o : SO w W sb lw x t fr ls S h) {p k i : Nat} {r : List Nat} (hc : S.c p = some k) (hf : S.fl p = i :: r) (se : SE w W sb lw x t (hanM t.m p i r) (hanH t.m h p k i r) w') : (hanM t.m p i r).n = t.m.n := by
  have h1 := (o.hand hc hf se).st
  have h2 := o.st
  have h3 : (hanM t.m p i r).n * 4096 = x.n := h1
  omega
set_option maxRecDepth 4000 in
theorem Take_bad {w W sb lw x t fr ls S h} (o : SO w W sb lw x t fr ls S h) (c : Int) (hc : ¬ (0 ≤ c ∧ c < 8)) (d : Bool) :
    Calls Tryz.prog 92 #[.pointer (some ⟨sb, 0, none⟩), .int .i64 c, .bool d] W fun e w' => TkP w W sb lw x t fr ls S h c d e w' := by
  have D := hid (show TkP w W sb lw x t fr ls S h c d (.returned (.tuple #[.int .u64 0, .bool false, .int .i64 1])) W from .bad hc rfl (Kept.refl _ _))
  clear o
  by_cases h0 : c < 0
  · clear hc
    go_enter Tryz.func92, Tryz.ntmps92
    go_wp2_with fail
    exact ⟨rfl, .tuple #[.int .u64 0, .bool false, .int .i64 1], by simp [results, Tryz.results92, go_sem], D.out⟩
  · have h8 : 8 ≤ c := by omega
    clear hc
    go_enter Tryz.func92, Tryz.ntmps92
    go_wp2_with fail
    exact ⟨rfl, .tuple #[.int .u64 0, .bool false, .int .i64 1], by simp [results, Tryz.results92, go_sem], D.out⟩
set_option maxRecDepth 4000 in
set_option maxHeartbeats 1000000 in
theorem Take_s {w W sb lw x t fr ls S h} (o : SO w W sb lw x t fr ls S h) (k : Nat) (hk : k < 8) (d : Bool) :
    Calls Tryz.prog 92 #[.pointer (some ⟨sb, 0, none⟩), .int .i64 (k : Int), .bool d] W fun e w' => TkP w W sb lw x t fr ls S h (k : Int) d e w' := by
  have ch := o.sw.hd k hk
  have hki : (k : Int) < 8 := by omega
  have hk0 : ¬ (k : Int) < 0 := by omega
  have hk8 : ¬ 8 ≤ (k : Int) := by omega
  have HO := hid o
  have HD := o.hd k hk
  cases hl : S.pl k with
  | nil =>
    rw [hl] at HD
    have hz : h k = -1 := HD
    rw [hz] at ch
    have FR := hid (fresh_s o k hk d)
    have HL := hid hl
    clear o HD hz hl
    go_enter Tryz.func92, Tryz.ntmps92
    go_wp2_with fail
    refine FR.out.mono ?_
    intro e w1 hF
    cases hF with
    | stuck hz hd he kp =>
      subst he
      have D := hid (show TkP w W sb lw x t fr ls S h (k : Int) d (.returned (.tuple #[.int .u64 0, .bool false, .int .i64 2])) w1 from .stuck k hk rfl HL.out hz hd rfl kp)
      clear hz hd kp FR ch
      go_wp2_with fail
      exact ⟨rfl, .tuple #[.int .u64 0, .bool false, .int .i64 2], by simp [results, Tryz.results92, go_sem], D.out⟩
    | got p b he fo =>
      subst he
      obtain ⟨⟨x1, t1, fr1, hned, o1, hsm, hf1, hnb, htn, hxn⟩, hc, nl, kp⟩ := fo
      have hnl := ncl_b hk
      have hfp : (freS S p k).fl p = 0 :: List.range' 1 (ncl k - 1) := by
        have : (freS S p k).fl p = List.range' 0 (ncl k) := updF_self _ _ _
        rw [this]
        obtain ⟨m, hm⟩ : ∃ m, ncl k = m + 1 := ⟨ncl k - 1, by omega⟩
        rw [hm]
        rfl
      have hcp : (freS S p k).c p = some k := updF_self _ _ _
      have c1 : w1.cell? ⟨sb, 2 + k, none⟩ = some (.int .i64 (p : Int)) := by
        have := o1.sw.hd k hk
        rw [show uphI h k (p : Int) k = (p : Int) from if_pos rfl] at this
        exact this
      have hca : caN x1 p k 0 = caN x p k 0 := caN_sm hsm.base p k 0
      have HA := hid (show Calls Tryz.prog 144 #[.pointer (some ⟨sb, 0, none⟩), .int .i64 (p : Int), .int .i64 (k : Int)] w1 fun e w' => e = .returned (.tuple #[.int .u64 ((caN x p k 0 : Nat) : Int), .int .i64 0]) ∧ TkP w W sb lw x t fr ls S h (k : Int) d (.returned (.tuple #[.int .u64 ((caN x p k 0 : Nat) : Int), .bool b, .int .i64 0])) w' from by
        refine (hand_s o1 p k 0 _ hcp hfp).mono ?_
        rintro e w2 ⟨rfl, se⟩
        refine ⟨by rw [hca], .new k p b hk rfl HL.out rfl ⟨_, _, fr1, _, hned, o1.hand hcp hfp se, hsm, hf1, hnb, ?_, hxn⟩ hc nl ?_⟩
        · rw [← htn]
          exact hanM_n o1 hcp hfp se
        · refine kp.trans se.2 (fun _ _ e => e) (fun y hy e => ?_)
          rcases e with e | e
          · rcases hnb y e with e | e
            · exact .inl e
            · omega
          · exact .inr e)
      obtain ⟨a, ha⟩ : ∃ a, a = caN x p k 0 := ⟨_, rfl⟩
      rw [← ha] at HA
      have hpn : (p : Int) ≠ -1 := by omega
      clear hned o1 hsm hf1 hnb htn hxn hc nl kp hnl hfp hcp hca ha FR ch
      go_wp2_with fail
      refine HA.out.mono ?_
      rintro e w2 ⟨rfl, h2⟩
      have D := hid h2
      clear h2
      go_wp2_with fail
      exact ⟨rfl, .tuple #[.int .u64 (a : Int), .bool b, .int .i64 0], by simp [results, Tryz.results92, go_sem], D.out⟩
  | cons p l =>
    rw [hl] at HD
    have hz : h k = (p : Int) := HD
    rw [hz] at ch
    obtain ⟨hc, hne⟩ := (o.si.pm k hk p).1 (by rw [hl]; exact List.mem_cons_self)
    obtain ⟨i, r, hf⟩ : ∃ i r, S.fl p = i :: r := by
      cases e : S.fl p with
      | nil => exact absurd e hne
      | cons i r => exact ⟨i, r, rfl⟩
    have HA := hid (show Calls Tryz.prog 144 #[.pointer (some ⟨sb, 0, none⟩), .int .i64 (p : Int), .int .i64 (k : Int)] W fun e w' => e = .returned (.tuple #[.int .u64 ((caN x p k i : Nat) : Int), .int .i64 0]) ∧ TkP w W sb lw x t fr ls S h (k : Int) d (.returned (.tuple #[.int .u64 ((caN x p k i : Nat) : Int), .bool false, .int .i64 0])) w' from by
      refine (hand_s o p k i r hc hf).mono ?_
      rintro e w2 ⟨rfl, se⟩
      exact ⟨rfl, .old k p i l r hk rfl hl hf rfl ⟨_, _, _, o.hand hc hf se, hanM_n o hc hf se⟩ se.2⟩)
    obtain ⟨a, ha⟩ : ∃ a, a = caN x p k i := ⟨_, rfl⟩
    rw [← ha] at HA
    have hpn : (p : Int) ≠ -1 := by omega
    clear o HD hz hl hc hne hf ha
    go_enter Tryz.func92, Tryz.ntmps92
    go_wp2_with fail
    refine HA.out.mono ?_
    rintro e w2 ⟨rfl, h2⟩
    have D := hid h2
    clear h2
    go_wp2_with fail
    exact ⟨rfl, .tuple #[.int .u64 (a : Int), .bool false, .int .i64 0], by simp [results, Tryz.results92, go_sem], D.out⟩
theorem Take_any {w W sb lw x t fr ls S h} (o : SO w W sb lw x t fr ls S h) (c : Int) (d : Bool) :
    Calls Tryz.prog 92 #[.pointer (some ⟨sb, 0, none⟩), .int .i64 c, .bool d] W fun e w' => TkP w W sb lw x t fr ls S h c d e w' := by
  by_cases hc : 0 ≤ c ∧ c < 8
  · obtain ⟨k, rfl⟩ : ∃ k : Nat, c = (k : Int) := ⟨c.toNat, by omega⟩
    exact Take_s o k (by omega) d
  · exact Take_bad o c hc d
end Go.Proofs.YtgjapopddblpoaaGreatDoor
/- A cell comes back: the slab as a thing. -/
namespace Go.Proofs.YtgjapopddblpoaaGreatDoor
open Go.RowKit
set_option linter.unusedVariables false

/-- A cell comes back. -/
def givS (S : Sb) (p k i : Nat) : Sb := { S with fl := updF S.fl p (i :: S.fl p), pl := if S.fl p = [] then updF S.pl k (p :: S.pl k) else S.pl }
/-- The map, the heads behind it. -/
def givN (m : Mp) (h : Nat → Int) (p k i : Nat) (f : List Nat) : Mp := if f = [] then putM (ownM m (p : Int) (i : Int) false) h (p : Int) k else ownM m (p : Int) (i : Int) false
def givM (m : Mp) (h : Nat → Int) (p k i : Nat) (f : List Nat) : Mp := firstM (givN m h p k i f) (p : Int) (i : Int)
def givH (h : Nat → Int) (p k : Nat) (f : List Nat) : Nat → Int := if f = [] then uphI h k (p : Int) else h
theorem upp_self (pg : Nat → Pg) (p : Nat) (q : Pg) : upp pg p q p = q := if_pos rfl
theorem upp_ne (pg : Nat → Pg) {p a : Nat} (q : Pg) (h : a ≠ p) : upp pg p q a = pg a := if_neg h
theorem upp_upp (pg : Nat → Pg) (p : Nat) (q q' : Pg) : upp (upp pg p q) p q' = upp pg p q' := by
  funext a
  by_cases e : a = p
  · subst e; rw [upp_self, upp_self]
  · rw [upp_ne _ _ e, upp_ne _ _ e, upp_ne _ _ e]
theorem hdA_lk (x : Bx) (p k : Nat) (l : List Nat) : hdA x p k (hdI l) = lkA x p k l := by
  cases l with
  | nil => rfl
  | cons j l =>
    unfold hdA
    rw [if_neg (by show ¬ ((j : Int) = -1); omega)]
    rfl
/-- What a page is when a cell of it comes back. -/
theorem back_page {S : Sb} {p k i : Nat} {q : Pg} (hk : k < 8) (h : SlP S p k q) (hi : i < ncl k) (hn : i ∉ S.fl p) (hl : (S.fl p).length < ncl k) :
    SlQ (givS S p k i) p k { ownP q i with fs := (i : Int) } := by
  obtain ⟨t1, t2, t3, t4, t5, t6, t7⟩ := turn_rest q i
  have hnb := ncl_b hk
  have hlit : litP q i = true := by
    rw [h.bt i (by omega)]
    exact decide_eq_true ⟨hi, hn⟩
  have hfl : (givS S p k i).fl p = i :: S.fl p := updF_self _ _ _
  refine ⟨t1.trans h.kd, t2.trans h.od, t3.trans h.cl, ?_, by rw [hfl]; rfl, fun j hj => ?_⟩
  · show wrap64 (if litP q i = true then q.lv - 1 else q.lv + 1) = _
    rw [hlit, if_pos rfl, h.lv, hfl, List.length_cons]
    unfold wrap64
    omega
  · have e1 : litP { ownP q i with fs := (i : Int) } j = litP (ownP q i) j := lit_congr rfl rfl rfl rfl j
    rw [e1, lit_own q i j (by omega) hj, hfl]
    by_cases e : j = i
    · rw [if_pos e, hlit]
      symm
      exact decide_eq_false (fun e2 => e2.2 (by rw [e]; exact List.mem_cons_self))
    · rw [if_neg e, h.bt j hj]
      apply decide_eq_decide.2
      rw [List.mem_cons, not_or]
      exact ⟨fun h => ⟨h.1, e, h.2⟩, fun h => ⟨h.1, h.2.2⟩⟩
/-- What the partial lists of a class need of the map. -/
theorem SO.nxt {w W sb lw x t fr ls S h} (o : SO w W sb lw x t fr ls S h) {k : Nat} (hk : k < 8) (r : Nat) (hr : r ∈ S.pl k) : r < t.m.n ∧ (t.m.pg r).kd = 4 ∧ lnk t.m.n (t.m.pg r).nx = true := by
  have hcr := ((o.si.pm k hk r).1 hr).1
  have sr := (o.si.pg r k hcr).2
  refine ⟨(o.mem hcr).2.1, sr.kd, ?_⟩
  rw [sr.nx]
  rcases nxI_cases (S.pl k) r (o.si.pn k hk) with e | ⟨b, e, hb, _⟩
  · rw [e]; exact lnk_no _
  · rw [e]; exact lnk_yes (o.mem ((o.si.pm k hk b).1 hb).1).2.1
theorem givM_pg {w W sb lw x t fr ls S h} (o : SO w W sb lw x t fr ls S h) {p k i : Nat} (hc : S.c p = some k) (hi : i < ncl k) (hn : i ∉ S.fl p) :
    givM t.m h p k i (S.fl p) = { t.m with pg := if S.fl p = [] then putP (upp t.m.pg p { ownP (t.m.pg p) i with fs := (i : Int) }) (S.pl k) p else upp t.m.pg p { ownP (t.m.pg p) i with fs := (i : Int) } } := by
  obtain ⟨hk, sp⟩ := o.si.pg p k hc
  obtain ⟨hls, hpn, _⟩ := o.mem hc
  have hnb := ncl_b hk
  have hcn : ncell (t.m.pg p).cl = ncl k := by rw [sp.cl]; rfl
  have hlit : litP (t.m.pg p) i = !false := by
    rw [sp.bt i (by omega)]
    exact decide_eq_true ⟨hi, hn⟩
  obtain ⟨t1, t2, t3, _⟩ := turn_rest (t.m.pg p) i
  have eO := (ownM_yes hpn sp.kd (by rw [hcn]; exact hi) hlit).2
  have hQk : (ownP (t.m.pg p) i).kd = 4 := t1.trans sp.kd
  have hQc : (ownP (t.m.pg p) i).cl = (k : Int) := t3.trans sp.cl
  unfold givM givN
  by_cases hf : S.fl p = []
  · rw [if_pos hf, if_pos hf, eO]
    have hpl : p ∉ S.pl k := fun e => ((o.si.pm k hk p).1 e).2 hf
    rw [put_pg (m := { t.m with pg := upp t.m.pg p (ownP (t.m.pg p) i) }) (l := S.pl k) hpn (by show (upp t.m.pg p _ p).kd = 4; rw [upp_self]; exact hQk) (o.hd k hk) (fun r hr => by
      have hrp : r ≠ p := fun e => hpl (by rw [← e]; exact hr)
      show r < t.m.n ∧ (upp t.m.pg p _ r).kd = 4 ∧ lnk t.m.n (upp t.m.pg p _ r).nx = true
      rw [upp_ne _ _ hrp]
      exact o.nxt hk r hr) hpl]
    have e1 : putP (upp t.m.pg p (ownP (t.m.pg p) i)) (S.pl k) p p = { ownP (t.m.pg p) i with nx := hdI (S.pl k), pv := -1 } := by
      unfold putP
      rw [if_pos rfl, upp_self]
    rw [firstM_yes (m := { t.m with pg := putP (upp t.m.pg p (ownP (t.m.pg p) i)) (S.pl k) p }) hpn (by show (putP _ _ p p).kd = 4; rw [e1]; exact hQk) (.inr ⟨i, rfl, by show i < ncell (putP _ _ p p).cl; rw [e1]; show i < ncell (ownP (t.m.pg p) i).cl; rw [hQc]; exact hi⟩)]
    refine congrArg (fun g => ({ t.m with pg := g } : Mp)) (funext fun a => ?_)
    show upp (putP (upp t.m.pg p (ownP (t.m.pg p) i)) (S.pl k) p) p { putP (upp t.m.pg p (ownP (t.m.pg p) i)) (S.pl k) p p with fs := (i : Int) } a = _
    rw [e1]
    by_cases e : a = p
    · subst e
      rw [upp_self]
      unfold putP
      rw [if_pos rfl, upp_self]
    · rw [upp_ne _ _ e]
      unfold putP
      rw [if_neg e, if_neg e, upp_ne _ _ e, upp_ne _ _ e]
  · rw [if_neg hf, if_neg hf, eO]
    rw [firstM_yes (m := { t.m with pg := upp t.m.pg p (ownP (t.m.pg p) i) }) hpn (by show (upp t.m.pg p _ p).kd = 4; rw [upp_self]; exact hQk) (.inr ⟨i, rfl, by show i < ncell (upp t.m.pg p _ p).cl; rw [upp_self, hQc]; exact hi⟩)]
    show ({ t.m with pg := upp (upp t.m.pg p (ownP (t.m.pg p) i)) p { upp t.m.pg p (ownP (t.m.pg p) i) p with fs := (i : Int) } } : Mp) = _
    rw [upp_self, upp_upp]
/-- What is behind it. -/
theorem SO.give {w W W' sb lw x t fr ls S h} (o : SO w W sb lw x t fr ls S h) {p k i : Nat} (hc : S.c p = some k) (hi : i < ncl k) (hn : i ∉ S.fl p) (hl : (S.fl p).length < ncl k)
    (sw : SW w W' sb lw x ⟨M.upd t.f (4096 * p + i * szC k) 8 (M.byteOf (lkA x p k (S.fl p))), givM t.m h p k i (S.fl p), t.hd⟩ (givH h p k (S.fl p))) :
    SO w W' sb lw { x with P := pOf (givS S p k i) (givM t.m h p k i (S.fl p)) } ⟨M.upd t.f (4096 * p + i * szC k) 8 (M.byteOf (lkA x p k (S.fl p))), givM t.m h p k i (S.fl p), t.hd⟩ fr ls (givS S p k i) (givH h p k (S.fl p)) := by
  obtain ⟨hk, sp⟩ := o.si.pg p k hc
  obtain ⟨nd, lt, lk⟩ := o.si.fl p k hc
  obtain ⟨hls, hpn, hp1, hpb⟩ := o.mem hc
  have hnb := ncl_b hk
  have hz := szC_le hk
  have n4 := o.po.nums.2.2.2.1
  have eM := givM_pg o hc hi hn
  have Q3 := back_page hk sp hi hn hl
  have hq3n : ({ ownP (t.m.pg p) i with fs := (i : Int) } : Pg).nx = (t.m.pg p).nx := (turn_rest (t.m.pg p) i).2.2.2.2.1
  have hq3v : ({ ownP (t.m.pg p) i with fs := (i : Int) } : Pg).pv = (t.m.pg p).pv := (turn_rest (t.m.pg p) i).2.2.2.2.2.1
  have hln : (S.pl k).Nodup := o.si.pn k hk
  generalize ({ ownP (t.m.pg p) i with fs := (i : Int) } : Pg) = Q at *
  rw [eM] at sw ⊢
  clear eM
  have hfl : (givS S p k i).fl p = i :: S.fl p := updF_self _ _ _
  have hfn : ∀ a, a ≠ p → (givS S p k i).fl a = S.fl a := fun a ha => updF_ne _ _ ha
  have pg2 : ∀ a c, S.c a = some c → SlQ (givS S p k i) a c (upp t.m.pg p Q a) ∧ (upp t.m.pg p Q a).nx = nxI (S.pl c) a ∧ (upp t.m.pg p Q a).pv = pvI (S.pl c) a := fun a c ha => by
    obtain ⟨hc8, sa⟩ := o.si.pg a c ha
    by_cases e : a = p
    · subst e
      rw [hc] at ha
      cases ha
      rw [upp_self, hq3n, hq3v]
      exact ⟨Q3, sp.nx, sp.pv⟩
    · rw [upp_ne _ _ e]
      exact ⟨sa.q.congr (hfn a e), sa.nx, sa.pv⟩
  have hout2 : ∀ a, S.c a = none → upp t.m.pg p Q a = t.m.pg a := fun a ha => upp_ne _ _ (fun e => by rw [e, hc] at ha; cases ha)
  have hPl : S.fl p = [] → p ∉ S.pl k := fun hf e => ((o.si.pm k hk p).1 e).2 hf
  -- the pages in the end
  obtain ⟨pgF, hpgF⟩ : ∃ pgF, pgF = (if S.fl p = [] then putP (upp t.m.pg p Q) (S.pl k) p else upp t.m.pg p Q) := ⟨_, rfl⟩
  rw [← hpgF] at sw ⊢
  have hF1 : ∀ a, S.c a = none → pgF a = t.m.pg a := fun a ha => by
    rw [hpgF]
    by_cases hf : S.fl p = []
    · rw [if_pos hf]
      have hap : a ≠ p := fun e => by rw [e, hc] at ha; cases ha
      have hal : a ∉ S.pl k := fun e => by rw [((o.si.pm k hk a).1 e).1] at ha; cases ha
      rw [putP_out hap hal]
      exact hout2 a ha
    · rw [if_neg hf]
      exact hout2 a ha
  have hF2 : ∀ a c, S.c a = some c → SlQ (givS S p k i) a c (pgF a) ∧ (pgF a).nx = nxI ((givS S p k i).pl c) a ∧ (pgF a).pv = pvI ((givS S p k i).pl c) a := fun a c ha => by
    obtain ⟨h1, h2, h3⟩ := pg2 a c ha
    rw [hpgF]
    by_cases hf : S.fl p = []
    · have ePl : (givS S p k i).pl = updF S.pl k (p :: S.pl k) := by unfold givS; rw [if_pos hf]
      rw [if_pos hf, ePl]
      refine ⟨h1.rst (putP_rst _ _ _ _), ?_⟩
      by_cases e : c = k
      · subst e
        rw [updF_self]
        exact put_np (fun a ha => (pg2 a c ha).2) hln (hPl hf) a ha
      · rw [updF_ne _ _ e]
        have hap : a ≠ p := fun e3 => by rw [e3, hc] at ha; cases ha; exact e rfl
        have hal : a ∉ S.pl k := fun e3 => by rw [((o.si.pm k hk a).1 e3).1] at ha; cases ha; exact e rfl
        rw [putP_out hap hal]
        exact ⟨h2, h3⟩
    · have ePl : (givS S p k i).pl = S.pl := by unfold givS; rw [if_neg hf]
      rw [if_neg hf, ePl]
      exact ⟨h1, h2, h3⟩
  have hF3 : ∀ c, c < 8 → givH h p k (S.fl p) c = hdI ((givS S p k i).pl c) := fun c hc8 => by
    unfold givH
    by_cases hf : S.fl p = []
    · have ePl : (givS S p k i).pl = updF S.pl k (p :: S.pl k) := by unfold givS; rw [if_pos hf]
      rw [if_pos hf, ePl]
      by_cases e : c = k
      · subst e
        rw [updF_self]
        exact if_pos rfl
      · rw [updF_ne _ _ e]
        exact (if_neg e).trans (o.hd c hc8)
    · have ePl : (givS S p k i).pl = S.pl := by unfold givS; rw [if_neg hf]
      rw [if_neg hf, ePl]
      exact o.hd c hc8
  have hiz : (i + 1) * szC k ≤ ncl k * szC k := Nat.mul_le_mul_right _ hi
  rw [Nat.add_mul, Nat.one_mul, hnb.1] at hiz
  have sf1 := o.sf.fill (p := p) (k := 0) hls (f' := M.upd t.f (4096 * p + i * szC k) 8 (M.byteOf (lkA x p k (S.fl p)))) (fun j hj => M.upd_out _ _ _ _ _ (by omega))
  refine ⟨sw.reP _, sf1.repaint S (givS S p k i) o.si.eP { t.m with pg := pgF } rfl rfl rfl (fun a ha => ?_) (fun a c ha => ⟨(hF2 a c ha).1.kd, (o.mem ha).1⟩), o.st, o.bm, ⟨rfl, fun a c ha => ⟨(o.si.pg a c ha).1, (hF2 a c ha).1.p (hF2 a c ha).2.1 (hF2 a c ha).2.2⟩, fun a c ha => ?_, fun a c ha => ?_, fun c hc8 => ?_, fun c hc8 a => ?_⟩, hF3⟩
  · have ha : S.c a = none := ha
    rw [if_pos ha]
    exact hF1 a ha
  · replace ha : S.c a = some c := ha
    obtain ⟨n1, n2, n3⟩ := o.si.fl a c ha
    by_cases e : a = p
    · subst e
      rw [hc] at ha
      cases ha
      rw [hfl]
      refine ⟨List.nodup_cons.2 ⟨hn, n1⟩, fun j hj => ?_, ?_, ?_⟩
      · rcases List.mem_cons.1 hj with rfl | hj
        · exact hi
        · exact n2 j hj
      · have hb : lkA x a k (S.fl a) < 18446744073709551616 := by
          cases e : S.fl a with
          | nil => show 0 < _; decide
          | cons j l =>
            have hj := n2 j (by rw [e]; exact List.mem_cons_self)
            exact (off_cell (x := x) (p := a) hk hj (by omega)).2.2
        show M.word (M.upd t.f _ 8 _) _ = lkA { x with P := _ } a k (S.fl a)
        rw [M.word_upd _ _ _ hb]
        cases S.fl a <;> rfl
      · refine Lnk_reP (Lnk_move (x := x) rfl (fun j hj => ?_) n3)
        have hji : j ≠ i := fun e => hn (by rw [← e]; exact hj)
        refine M.word_far _ _ _ _ ?_
        rcases Nat.lt_or_gt_of_ne hji with hlt | hlt
        · have : (j + 1) * szC k ≤ i * szC k := Nat.mul_le_mul_right _ hlt
          rw [Nat.add_mul, Nat.one_mul] at this
          omega
        · have : (i + 1) * szC k ≤ j * szC k := Nat.mul_le_mul_right _ hlt
          rw [Nat.add_mul, Nat.one_mul] at this
          omega
    · rw [hfn a e]
      have hc8 := (o.si.pg a c ha).1
      have hnb2 := ncl_b hc8
      have hz2 := szC_le hc8
      refine ⟨n1, n2, Lnk_reP (Lnk_move (x := x) rfl (fun j hj => ?_) n3)⟩
      have hjb := n2 j hj
      have h2 : (j + 1) * szC c ≤ ncl c * szC c := Nat.mul_le_mul_right _ hjb
      rw [Nat.add_mul, Nat.one_mul, hnb2.1] at h2
      refine M.word_far _ _ _ _ ?_
      omega
  · replace ha : S.c a = some c := ha
    by_cases e : a = p
    · subst e
      rw [hc] at ha
      cases ha
      rw [hfl, List.length_cons]
      omega
    · rw [hfn a e]
      exact o.si.lv a c ha
  · have := o.si.pn c hc8
    unfold givS
    by_cases hf : S.fl p = []
    · rw [if_pos hf]
      show (updF S.pl k _ c).Nodup
      by_cases e : c = k
      · subst e; rw [updF_self]; exact List.nodup_cons.2 ⟨hPl hf, this⟩
      · rw [updF_ne _ _ e]; exact this
    · rw [if_neg hf]; exact this
  · have hpm := o.si.pm c hc8 a
    show a ∈ (givS S p k i).pl c ↔ (S.c a = some c ∧ (givS S p k i).fl a ≠ [])
    by_cases hf : S.fl p = []
    · have ePl : (givS S p k i).pl = updF S.pl k (p :: S.pl k) := by unfold givS; rw [if_pos hf]
      rw [ePl]
      by_cases ea : a = p
      · subst ea
        rw [hfl, hc]
        by_cases e : c = k
        · subst e
          rw [updF_self]
          exact ⟨fun _ => ⟨rfl, List.cons_ne_nil _ _⟩, fun _ => List.mem_cons_self⟩
        · rw [updF_ne _ _ e, hpm, hc]
          constructor
          · rintro ⟨e2, _⟩; cases e2; exact absurd rfl e
          · rintro ⟨e2, _⟩; cases e2; exact absurd rfl e
      · rw [hfn a ea]
        by_cases e : c = k
        · subst e
          rw [updF_self, List.mem_cons, hpm]
          exact ⟨fun h => h.resolve_left ea, fun h => .inr h⟩
        · rw [updF_ne _ _ e]
          exact hpm
    · have ePl : (givS S p k i).pl = S.pl := by unfold givS; rw [if_neg hf]
      rw [ePl, hpm]
      by_cases ea : a = p
      · subst ea
        rw [hfl]
        exact ⟨fun hm => ⟨hm.1, List.cons_ne_nil _ _⟩, fun hm => ⟨hm.1, hf⟩⟩
      · rw [hfn a ea]
end Go.Proofs.YtgjapopddblpoaaGreatDoor
/- A page goes back to the pool; release. -/
namespace Go.Proofs.YtgjapopddblpoaaGreatDoor
open Go.RowKit
set_option linter.unusedVariables false

/-- A page leaves. -/
def relS (S : Sb) (p k : Nat) : Sb := ⟨updF S.c p none, S.fl, updF S.pl k (M.dropL (S.pl k) p)⟩
def relM (m : Mp) (p i : Nat) : Mp := runM (unlM (ownM m (p : Int) (i : Int) false) (p : Int)) (p : Int) 0 2
def relH (m : Mp) (h : Nat → Int) (p k i : Nat) : Nat → Int := unlH (ownM m (p : Int) (i : Int) false) h (p : Int) k
theorem runM_one {m : Mp} {p : Nat} (hp : p < m.n) : runM m (p : Int) 0 2 = { m with pg := upp m.pg p (blankP 2 0) } := by
  have h : canRun m (p : Int) 0 2 = true := by
    unfold canRun
    rw [inR_yes hp, Bool.and_eq_true, Bool.and_eq_true]
    refine ⟨decide_eq_true ⟨.inr rfl, by omega, by omega⟩, rfl, decide_eq_true ?_⟩
    rw [show (2 : Int) ^ (0 : Int).toNat = 1 from rfl]
    omega
  unfold runM
  rw [if_pos h, Int.toNat_natCast]
  refine congrArg (fun g => ({ m with pg := g } : Mp)) (funext fun a => ?_)
  unfold runP upp
  by_cases e : a = p
  · rw [if_pos e, if_pos e]; rfl
  · rw [if_neg e, if_neg e, if_neg]
    rw [show (2 : Nat) ^ (0 : Int).toNat = 1 from rfl]
    omega
theorem relM_pg {w W sb lw x t fr ls S h} (o : SO w W sb lw x t fr ls S h) {p k i : Nat} (hc : S.c p = some k) (hi : i < ncl k) (hn : i ∉ S.fl p) (hf : S.fl p ≠ []) :
    relM t.m p i = { t.m with pg := upp (unlP (upp t.m.pg p (ownP (t.m.pg p) i)) (S.pl k) p) p (blankP 2 0) } ∧ relH t.m h p k i = (if pvI (S.pl k) p = -1 then uphI h k (nxI (S.pl k) p) else h) ∧ NP (upp t.m.pg p (ownP (t.m.pg p) i)) S k (S.pl k) := by
  obtain ⟨hk, sp⟩ := o.si.pg p k hc
  obtain ⟨hls, hpn, _⟩ := o.mem hc
  have hnb := ncl_b hk
  have hcn : ncell (t.m.pg p).cl = ncl k := by rw [sp.cl]; rfl
  have hlit : litP (t.m.pg p) i = !false := by
    rw [sp.bt i (by omega)]
    exact decide_eq_true ⟨hi, hn⟩
  obtain ⟨t1, t2, t3, t4, t5, t6, t7⟩ := turn_rest (t.m.pg p) i
  have eO := (ownM_yes hpn sp.kd (by rw [hcn]; exact hi) hlit).2
  have hpl : p ∈ S.pl k := (o.si.pm k hk p).2 ⟨hc, hf⟩
  have np : NP (upp t.m.pg p (ownP (t.m.pg p) i)) S k (S.pl k) := fun a ha => by
    by_cases e : a = p
    · subst e
      rw [upp_self]
      exact ⟨t5.trans sp.nx, t6.trans sp.pv⟩
    · rw [upp_ne _ _ e]
      exact ⟨(o.si.pg a k ha).2.nx, (o.si.pg a k ha).2.pv⟩
  have hU := unl_pg (m := { t.m with pg := upp t.m.pg p (ownP (t.m.pg p) i) }) (h := h) (c := k) (o.si.pn k hk) hpl (fun a ha => by
    have hca := ((o.si.pm k hk a).1 ha).1
    refine ⟨(o.mem hca).2.1, ?_, np a hca⟩
    show (upp t.m.pg p _ a).kd = 4
    by_cases e : a = p
    · rw [e, upp_self]; exact t1.trans sp.kd
    · rw [upp_ne _ _ e]; exact (o.si.pg a k hca).2.kd)
  unfold relM relH
  rw [eO]
  refine ⟨?_, hU.2, np⟩
  rw [hU.1, runM_one (m := { t.m with pg := unlP (upp t.m.pg p (ownP (t.m.pg p) i)) (S.pl k) p }) hpn]
theorem SO.rel {w W W' sb lw x t fr ls S h} (o : SO w W sb lw x t fr ls S h) {p k i : Nat} (hc : S.c p = some k) (hi : i < ncl k) (hn : i ∉ S.fl p) (hf : S.fl p ≠ [])
    (sw : SW w W' sb lw x { t with m := relM t.m p i } (relH t.m h p k i)) :
    SO w W' sb lw { x with P := pOf (relS S p k) (relM t.m p i) } { t with m := relM t.m p i } fr ls (relS S p k) (relH t.m h p k i) := by
  obtain ⟨hk, sp⟩ := o.si.pg p k hc
  obtain ⟨hls, hpn, hp1, hpb⟩ := o.mem hc
  have hln : (S.pl k).Nodup := o.si.pn k hk
  have hpl : p ∈ S.pl k := (o.si.pm k hk p).2 ⟨hc, hf⟩
  obtain ⟨eM, eH, np⟩ := relM_pg o hc hi hn hf
  rw [eM, eH] at sw ⊢
  have np2 := unl_np np hln hpl
  have hcp : (relS S p k).c p = none := updF_self _ _ _
  have hcn : ∀ a, a ≠ p → (relS S p k).c a = S.c a := fun a ha => updF_ne _ _ ha
  have hap : ∀ a c, (relS S p k).c a = some c → a ≠ p ∧ S.c a = some c := fun a c ha => by
    have hne : a ≠ p := fun e => by rw [e, hcp] at ha; cases ha
    exact ⟨hne, by rw [← hcn a hne]; exact ha⟩
  generalize hq2 : ownP (t.m.pg p) i = Q2 at *
  have hF1 : ∀ a, S.c a = none → upp (unlP (upp t.m.pg p Q2) (S.pl k) p) p (blankP 2 0) a = t.m.pg a := fun a ha => by
    have hne : a ≠ p := fun e => by rw [e, hc] at ha; cases ha
    have hal : a ∉ S.pl k := fun e => by rw [((o.si.pm k hk a).1 e).1] at ha; cases ha
    rw [upp_ne _ _ hne, unlP_out hln hne hal, upp_ne _ _ hne]
  have hF2 : ∀ a c, (relS S p k).c a = some c → c < 8 ∧ SlP (relS S p k) a c (upp (unlP (upp t.m.pg p Q2) (S.pl k) p) p (blankP 2 0) a) := fun a c ha => by
    have hb := hap a c ha
    clear ha
    obtain ⟨hne, ha⟩ := hb
    obtain ⟨hc8, sa⟩ := o.si.pg a c ha
    rw [upp_ne _ _ hne]
    have hq : SlQ (relS S p k) a c (upp t.m.pg p Q2 a) := by
      rw [upp_ne _ _ hne]
      exact sa.q.congr rfl
    refine ⟨hc8, (hq.rst (unlP_rst _ _ _ _)).p ?_ ?_⟩
    · show (unlP _ _ _ a).nx = nxI (updF S.pl k _ c) a
      by_cases e : c = k
      · subst e
        rw [updF_self]
        exact (np2 a ha).1
      · rw [updF_ne _ _ e]
        have hal : a ∉ S.pl k := fun e3 => by rw [((o.si.pm k hk a).1 e3).1] at ha; cases ha; exact e rfl
        rw [unlP_out hln hne hal, upp_ne _ _ hne]
        exact sa.nx
    · show (unlP _ _ _ a).pv = pvI (updF S.pl k _ c) a
      by_cases e : c = k
      · subst e
        rw [updF_self]
        exact (np2 a ha).2
      · rw [updF_ne _ _ e]
        have hal : a ∉ S.pl k := fun e3 => by rw [((o.si.pm k hk a).1 e3).1] at ha; cases ha; exact e rfl
        rw [unlP_out hln hne hal, upp_ne _ _ hne]
        exact sa.pv
  refine ⟨sw.reP _, o.sf.repaint S (relS S p k) o.si.eP { t.m with pg := upp (unlP (upp t.m.pg p Q2) (S.pl k) p) p (blankP 2 0) } rfl rfl rfl (fun a ha => ?_) (fun a c ha => ⟨(hF2 a c ha).2.kd, (o.mem (hap a c ha).2).1⟩), o.st, o.bm, ⟨rfl, hF2, fun a c ha => ?_, fun a c ha => o.si.lv a c (hap a c ha).2, fun c hc8 => ?_, fun c hc8 a => ?_⟩, fun c hc8 => ?_⟩
  · show upp _ p _ a = _
    by_cases e : a = p
    · subst e
      rw [upp_self, hc, if_neg (by rintro ⟨⟩)]
    · rw [hcn a e] at ha
      rw [if_pos ha]
      exact hF1 a ha
  · obtain ⟨n1, n2, n3⟩ := o.si.fl a c (hap a c ha).2
    exact ⟨n1, n2, Lnk_reP n3⟩
  · have := o.si.pn c hc8
    show (updF S.pl k _ c).Nodup
    by_cases e : c = k
    · subst e; rw [updF_self]; exact dropL_nd this p
    · rw [updF_ne _ _ e]; exact this
  · have hpm := o.si.pm c hc8 a
    show a ∈ updF S.pl k _ c ↔ ((relS S p k).c a = some c ∧ S.fl a ≠ [])
    by_cases ea : a = p
    · subst ea
      rw [hcp]
      constructor
      · intro hm
        exfalso
        by_cases e : c = k
        · subst e
          rw [updF_self, mem_drop] at hm
          exact hm.2 rfl
        · rw [updF_ne _ _ e, hpm, hc] at hm
          cases hm.1
          exact e rfl
      · rintro ⟨e, _⟩; cases e
    · rw [hcn a ea]
      by_cases e : c = k
      · subst e
        rw [updF_self, mem_drop, hpm]
        exact ⟨fun hm => hm.1, fun hm => ⟨hm, ea⟩⟩
      · rw [updF_ne _ _ e]
        exact hpm
  · show (if pvI (S.pl k) p = -1 then uphI h k (nxI (S.pl k) p) else h) c = hdI (updF S.pl k _ c)
    by_cases e : c = k
    · subst e
      rw [updF_self, hdI_drop hln hpl]
      by_cases e3 : pvI (S.pl c) p = -1
      · rw [if_pos e3, if_pos e3]
        exact if_pos rfl
      · rw [if_neg e3, if_neg e3]
        exact o.hd c hc8
    · rw [updF_ne _ _ e]
      by_cases e3 : pvI (S.pl k) p = -1
      · rw [if_pos e3]
        exact (if_neg e).trans (o.hd c hc8)
      · rw [if_neg e3]
        exact o.hd c hc8
/-- What a page's release leaves. -/
def RlO (w W1 : World) (sb lw : Nat) (x : Bx) (t : Bt) (fr : Nat → List Nat) (ls : List (Nat × Nat)) (S : Sb) (p k : Nat) (w' : World) : Prop := ∃ P t' h', SO w w' sb lw { x with P := P } t' (giveF x.o fr p 0) (dropR ls p) (relS S p k) h' ∧ t'.m.n = t.m.n ∧ BK t t' ls (dropR ls p) ∧ Kept (sown x sb) W1 w'
set_option maxRecDepth 4000 in
set_option maxHeartbeats 1000000 in
theorem release_s {w W W1 sb lw x t fr ls S h} (o : SO w W sb lw x t fr ls S h) (p k i : Nat) (hc : S.c p = some k) (hi : i < ncl k) (hn : i ∉ S.fl p) (hf : S.fl p ≠ []) (s1 : SW w W1 sb lw x { t with m := ownM t.m (p : Int) (i : Int) false } h) :
    Calls Tryz.prog 129 #[.pointer (some ⟨sb, 0, none⟩), .int .i64 (p : Int), .int .i64 (k : Int)] W1 fun e w' => e = .returned (.int .i64 0) ∧ RlO w W1 sb lw x t fr ls S p k w' := by
  obtain ⟨hk, sp⟩ := o.si.pg p k hc
  obtain ⟨hls, hpn, hp1, hpb⟩ := o.mem hc
  have hnb := ncl_b hk
  have UL := hid (unlink_s s1 (p : Int) k hk)
  obtain ⟨m2, hm2⟩ : ∃ m2, m2 = unlM (ownM t.m (p : Int) (i : Int) false) (p : Int) := ⟨_, rfl⟩
  obtain ⟨h2, hh2⟩ : ∃ h2, h2 = unlH (ownM t.m (p : Int) (i : Int) false) h (p : Int) k := ⟨_, rfl⟩
  rw [← hm2, ← hh2] at UL
  have RN := hid (show ∀ W', SW w W' sb lw x { t with m := m2 } h2 → Calls Tryz.prog 138 #[.pointer (some ⟨x.m, 0, none⟩), .int .i64 (p : Int), .int .i64 0, .int .i64 2] W' fun e w' => e = .returned (.int .i64 (runE m2 (p : Int) 0 2)) ∧ SO w w' sb lw { x with P := pOf (relS S p k) (relM t.m p i) } { t with m := relM t.m p i } fr ls (relS S p k) (relH t.m h p k i) ∧ Kept (bown x) W' w' from fun W' s => by
    refine (Run_s s (p : Int) 0 2).mono ?_
    rintro e w' ⟨rfl, s', k'⟩
    refine ⟨rfl, o.rel hc hi hn hf ?_, k'⟩
    unfold relM relH
    rw [← hm2, ← hh2]
    exact s')
  generalize runE m2 (p : Int) 0 2 = re at *
  have hP : pOf (relS S p k) (relM t.m p i) p = none := pOf_none (updF_self _ _ _)
  have had : caN x p k 0 = ad x p := by unfold caN ad; omega
  obtain ⟨A, hA⟩ : ∃ A, A = caN x p k 0 := ⟨_, rfl⟩
  have AD := hid (show ∀ t' h' P W', SW w W' sb lw { x with P := P } t' h' → Calls Tryz.prog 176 #[.pointer (some ⟨sb, 0, none⟩), .int .i64 (p : Int), .int .i64 (k : Int), .int .i64 0] W' fun e w' => e = .returned (.int .u64 (A : Int)) ∧ Kept none' W' w' from fun t' h' P W' s => by
    rw [hA]
    exact address_s s p k 0 (by omega) hk (by omega))
  have GV := hid (show ∀ W', SO w W' sb lw { x with P := pOf (relS S p k) (relM t.m p i) } { t with m := relM t.m p i } fr ls (relS S p k) (relH t.m h p k i) → Kept (sown x sb) W1 W' → Calls Tryz.prog 80 #[.pointer (some ⟨lw, 0, none⟩), .int .u64 (A : Int), .int .i64 0] W' fun e w' => e = .returned (.int .i64 0) ∧ RlO w W1 sb lw x t fr ls S p k w' from fun W' o2 k2 => by
    refine (K.Give6_yes o2.po p 0 hls hP A (hA.trans had)).mono ?_
    rintro e w' ⟨rfl, t', po', hn', kk, bk⟩
    refine ⟨rfl, _, t', _, o2.pool po' (Sm.refl _) bk (fun a c ha => ?_) kk, ?_, ?_, k2.trans (kk.mono (fun _ _ e => .inl e)) (fun _ _ e => e) (fun _ _ e => e)⟩
    · refine List.mem_filter.2 ⟨(o2.mem ha).1, decide_eq_true fun e => ?_⟩
      have e : a = p := e
      rw [e] at ha
      rw [show (relS S p k).c p = none from updF_self _ _ _] at ha
      cases ha
    · rw [hn']
      have h1 := o2.st
      have h2 := o.st
      have h3 : (relM t.m p i).n * 4096 = x.n := h1
      show (relM t.m p i).n = t.m.n
      omega
    · exact bk)
  generalize pOf (relS S p k) (relM t.m p i) = PP at *
  generalize relM t.m p i = mm at *
  generalize relH t.m h p k i = hh at *
  obtain ⟨c0, c1⟩ := s1.c0
  have S1 := hid s1
  clear o s1 hc hi hn hf sp hls hpn hp1 hpb hm2 hh2 hP had hA hnb
  go_enter Tryz.func129, Tryz.ntmps129
  go_wp2_with fail
  refine UL.out.mono ?_
  rintro e w2 ⟨rfl, hs2, hk2⟩
  have S2 := hid hs2
  have K2 := hid hk2
  have MP := hid (Map6 hs2.pl)
  clear c0 c1
  obtain ⟨c0, c1⟩ := hs2.c0
  clear hs2 hk2
  go_wp2_with fail
  refine MP.out.mono ?_
  rintro e w3 ⟨rfl, h3⟩
  replace h3 := h3.symm
  subst h3
  go_wp2_with fail
  refine (RN.out _ S2.out).mono ?_
  rintro e w3 ⟨rfl, ho3, hk3⟩
  have O3 := hid ho3
  have K3 := hid (K2.out.trans (hk3.mono (fun _ _ e => .inl e)) (fun _ _ e => e) (fun _ _ e => e))
  clear c0 c1 ho3 hk3
  go_upto_region 3 with fail
  have KD := hid ((Kept.refl none' w3).drew)
  have O4 := hid (O3.out.keep KD.out)
  have K4 := hid (K3.out.trans KD.out (fun _ _ e => e) (fun _ _ e => e.elim))
  obtain ⟨c0, c1⟩ := O4.out.sw.c0
  go_region_held3 (fun w' => w'.cell? ⟨sb, 0, none⟩ = some (.pointer (some ⟨lw, 0, none⟩))) (first | with_reducible assumption | fail) (first
    | (go_at_call 80; (with_reducible refine (GV.out _ O5.out K5.out).mono ?_); rintro e w6 ⟨rfl, hr6⟩; have D6 := hid hr6; obtain ⟨_, _, _, so6, _⟩ := hr6; obtain ⟨f0, f1⟩ := so6.sw.c0; clear so6)
    | (go_at_call 176; (with_reducible refine (AD.out _ _ _ _ O4.out.sw).mono ?_); rintro e w5 ⟨rfl, hk5⟩; have O5 := hid (O4.out.keep hk5); have K5 := hid (K4.out.trans hk5 (fun _ _ e => e) (fun _ _ e => e.elim)); obtain ⟨f0, f1⟩ := O5.out.sw.c0; clear hk5)
    | fail)
  all_goals
    go_wp2_with fail
    exact ⟨rfl, .int .i64 0, by simp [results, Tryz.results129, go_sem], rfl, D6.out⟩
end Go.Proofs.YtgjapopddblpoaaGreatDoor
