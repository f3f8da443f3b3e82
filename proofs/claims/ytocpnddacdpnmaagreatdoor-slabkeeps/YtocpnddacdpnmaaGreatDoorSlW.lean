import Derived.Test.YtocpnddacdpnmaaGreatDoorSlV
/- A page goes back to the pool; release. -/
namespace Go.Proofs.YtocpnddacdpnmaaGreatDoor
open Go.RowKit
set_option linter.unusedVariables false

/-- A page leaves. -/
def relS (S : Sb) (p k : Nat) : Sb := ⟨updF S.c p none, S.fl, updF S.pl k (M.dropL (S.pl k) p)⟩
def relM (m : Mp) (p i : Nat) : Mp := runM (unlM (ownM m (p : Int) (i : Int) false) (p : Int)) (p : Int) 0 2
def relH (m : Mp) (h : Nat → Int) (p k i : Nat) : Nat → Int := unlH (ownM m (p : Int) (i : Int) false) h (p : Int) k
theorem runM_one {m : Mp} {p : Nat} (hp : p < m.n) : runM m (p : Int) 0 2 = { m with pg := upp m.pg p (blankP 2 0) } := by
  have h : canRun m (p : Int) 0 2 = true := by
    unfold canRun
    rw [inR_yes hp, Bool.and_eq_true, Bool.and_eq_true]
    refine ⟨decide_eq_true ⟨.inr rfl, by omega, by omega⟩, rfl, decide_eq_true ?_⟩
    rw [show (2 : Int) ^ (0 : Int).toNat = 1 from rfl]
    omega
  unfold runM
  rw [if_pos h, Int.toNat_natCast]
  refine congrArg (fun g => ({ m with pg := g } : Mp)) (funext fun a => ?_)
  unfold runP upp
  by_cases e : a = p
  · rw [if_pos e, if_pos e]; rfl
  · rw [if_neg e, if_neg e, if_neg]
    rw [show (2 : Nat) ^ (0 : Int).toNat = 1 from rfl]
    omega
theorem relM_pg {w W sb lw x t fr ls S h} (o : SO w W sb lw x t fr ls S h) {p k i : Nat} (hc : S.c p = some k) (hi : i < ncl k) (hn : i ∉ S.fl p) (hf : S.fl p ≠ []) :
    relM t.m p i = { t.m with pg := upp (unlP (upp t.m.pg p (ownP (t.m.pg p) i)) (S.pl k) p) p (blankP 2 0) } ∧ relH t.m h p k i = (if pvI (S.pl k) p = -1 then uphI h k (nxI (S.pl k) p) else h) ∧ NP (upp t.m.pg p (ownP (t.m.pg p) i)) S k (S.pl k) := by
  obtain ⟨hk, sp⟩ := o.si.pg p k hc
  obtain ⟨hls, hpn, _⟩ := o.mem hc
  have hnb := ncl_b hk
  have hcn : ncell (t.m.pg p).cl = ncl k := by rw [sp.cl]; rfl
  have hlit : litP (t.m.pg p) i = !false := by
    rw [sp.bt i (by omega)]
    exact decide_eq_true ⟨hi, hn⟩
  obtain ⟨t1, t2, t3, t4, t5, t6, t7⟩ := turn_rest (t.m.pg p) i
  have eO := (ownM_yes hpn sp.kd (by rw [hcn]; exact hi) hlit).2
  have hpl : p ∈ S.pl k := (o.si.pm k hk p).2 ⟨hc, hf⟩
  have np : NP (upp t.m.pg p (ownP (t.m.pg p) i)) S k (S.pl k) := fun a ha => by
    by_cases e : a = p
    · subst e
      rw [upp_self]
      exact ⟨t5.trans sp.nx, t6.trans sp.pv⟩
    · rw [upp_ne _ _ e]
      exact ⟨(o.si.pg a k ha).2.nx, (o.si.pg a k ha).2.pv⟩
  have hU := unl_pg (m := { t.m with pg := upp t.m.pg p (ownP (t.m.pg p) i) }) (h := h) (c := k) (o.si.pn k hk) hpl (fun a ha => by
    have hca := ((o.si.pm k hk a).1 ha).1
    refine ⟨(o.mem hca).2.1, ?_, np a hca⟩
    show (upp t.m.pg p _ a).kd = 4
    by_cases e : a = p
    · rw [e, upp_self]; exact t1.trans sp.kd
    · rw [upp_ne _ _ e]; exact (o.si.pg a k hca).2.kd)
  unfold relM relH
  rw [eO]
  refine ⟨?_, hU.2, np⟩
  rw [hU.1, runM_one (m := { t.m with pg := unlP (upp t.m.pg p (ownP (t.m.pg p) i)) (S.pl k) p }) hpn]
theorem SO.rel {w W W' sb lw x t fr ls S h} (o : SO w W sb lw x t fr ls S h) {p k i : Nat} (hc : S.c p = some k) (hi : i < ncl k) (hn : i ∉ S.fl p) (hf : S.fl p ≠ [])
    (sw : SW w W' sb lw x { t with m := relM t.m p i } (relH t.m h p k i)) :
    SO w W' sb lw { x with P := pOf (relS S p k) (relM t.m p i) } { t with m := relM t.m p i } fr ls (relS S p k) (relH t.m h p k i) := by
  obtain ⟨hk, sp⟩ := o.si.pg p k hc
  obtain ⟨hls, hpn, hp1, hpb⟩ := o.mem hc
  have hln : (S.pl k).Nodup := o.si.pn k hk
  have hpl : p ∈ S.pl k := (o.si.pm k hk p).2 ⟨hc, hf⟩
  obtain ⟨eM, eH, np⟩ := relM_pg o hc hi hn hf
  rw [eM, eH] at sw ⊢
  have np2 := unl_np np hln hpl
  have hcp : (relS S p k).c p = none := updF_self _ _ _
  have hcn : ∀ a, a ≠ p → (relS S p k).c a = S.c a := fun a ha => updF_ne _ _ ha
  have hap : ∀ a c, (relS S p k).c a = some c → a ≠ p ∧ S.c a = some c := fun a c ha => by
    have hne : a ≠ p := fun e => by rw [e, hcp] at ha; cases ha
    exact ⟨hne, by rw [← hcn a hne]; exact ha⟩
  generalize hq2 : ownP (t.m.pg p) i = Q2 at *
  have hF1 : ∀ a, S.c a = none → upp (unlP (upp t.m.pg p Q2) (S.pl k) p) p (blankP 2 0) a = t.m.pg a := fun a ha => by
    have hne : a ≠ p := fun e => by rw [e, hc] at ha; cases ha
    have hal : a ∉ S.pl k := fun e => by rw [((o.si.pm k hk a).1 e).1] at ha; cases ha
    rw [upp_ne _ _ hne, unlP_out hln hne hal, upp_ne _ _ hne]
  have hF2 : ∀ a c, (relS S p k).c a = some c → c < 8 ∧ SlP (relS S p k) a c (upp (unlP (upp t.m.pg p Q2) (S.pl k) p) p (blankP 2 0) a) := fun a c ha => by
    have hb := hap a c ha
    clear ha
    obtain ⟨hne, ha⟩ := hb
    obtain ⟨hc8, sa⟩ := o.si.pg a c ha
    rw [upp_ne _ _ hne]
    have hq : SlQ (relS S p k) a c (upp t.m.pg p Q2 a) := by
      rw [upp_ne _ _ hne]
      exact sa.q.congr rfl
    refine ⟨hc8, (hq.rst (unlP_rst _ _ _ _)).p ?_ ?_⟩
    · show (unlP _ _ _ a).nx = nxI (updF S.pl k _ c) a
      by_cases e : c = k
      · subst e
        rw [updF_self]
        exact (np2 a ha).1
      · rw [updF_ne _ _ e]
        have hal : a ∉ S.pl k := fun e3 => by rw [((o.si.pm k hk a).1 e3).1] at ha; cases ha; exact e rfl
        rw [unlP_out hln hne hal, upp_ne _ _ hne]
        exact sa.nx
    · show (unlP _ _ _ a).pv = pvI (updF S.pl k _ c) a
      by_cases e : c = k
      · subst e
        rw [updF_self]
        exact (np2 a ha).2
      · rw [updF_ne _ _ e]
        have hal : a ∉ S.pl k := fun e3 => by rw [((o.si.pm k hk a).1 e3).1] at ha; cases ha; exact e rfl
        rw [unlP_out hln hne hal, upp_ne _ _ hne]
        exact sa.pv
  refine ⟨sw.reP _, o.sf.repaint S (relS S p k) o.si.eP { t.m with pg := upp (unlP (upp t.m.pg p Q2) (S.pl k) p) p (blankP 2 0) } rfl rfl rfl (fun a ha => ?_) (fun a c ha => ⟨(hF2 a c ha).2.kd, (o.mem (hap a c ha).2).1⟩), o.st, o.bm, ⟨rfl, hF2, fun a c ha => ?_, fun a c ha => o.si.lv a c (hap a c ha).2, fun c hc8 => ?_, fun c hc8 a => ?_⟩, fun c hc8 => ?_⟩
  · show upp _ p _ a = _
    by_cases e : a = p
    · subst e
      rw [upp_self, hc, if_neg (by rintro ⟨⟩)]
    · rw [hcn a e] at ha
      rw [if_pos ha]
      exact hF1 a ha
  · obtain ⟨n1, n2, n3⟩ := o.si.fl a c (hap a c ha).2
    exact ⟨n1, n2, Lnk_reP n3⟩
  · have := o.si.pn c hc8
    show (updF S.pl k _ c).Nodup
    by_cases e : c = k
    · subst e; rw [updF_self]; exact dropL_nd this p
    · rw [updF_ne _ _ e]; exact this
  · have hpm := o.si.pm c hc8 a
    show a ∈ updF S.pl k _ c ↔ ((relS S p k).c a = some c ∧ S.fl a ≠ [])
    by_cases ea : a = p
    · subst ea
      rw [hcp]
      constructor
      · intro hm
        exfalso
        by_cases e : c = k
        · subst e
          rw [updF_self, mem_drop] at hm
          exact hm.2 rfl
        · rw [updF_ne _ _ e, hpm, hc] at hm
          cases hm.1
          exact e rfl
      · rintro ⟨e, _⟩; cases e
    · rw [hcn a ea]
      by_cases e : c = k
      · subst e
        rw [updF_self, mem_drop, hpm]
        exact ⟨fun hm => hm.1, fun hm => ⟨hm, ea⟩⟩
      · rw [updF_ne _ _ e]
        exact hpm
  · show (if pvI (S.pl k) p = -1 then uphI h k (nxI (S.pl k) p) else h) c = hdI (updF S.pl k _ c)
    by_cases e : c = k
    · subst e
      rw [updF_self, hdI_drop hln hpl]
      by_cases e3 : pvI (S.pl c) p = -1
      · rw [if_pos e3, if_pos e3]
        exact if_pos rfl
      · rw [if_neg e3, if_neg e3]
        exact o.hd c hc8
    · rw [updF_ne _ _ e]
      by_cases e3 : pvI (S.pl k) p = -1
      · rw [if_pos e3]
        exact (if_neg e).trans (o.hd c hc8)
      · rw [if_neg e3]
        exact o.hd c hc8
/-- What a page's release leaves. -/
def RlO (w W1 : World) (sb lw : Nat) (x : Bx) (t : Bt) (fr : Nat → List Nat) (ls : List (Nat × Nat)) (S : Sb) (p k : Nat) (w' : World) : Prop := ∃ P t' h', SO w w' sb lw { x with P := P } t' (giveF x.o fr p 0) (dropR ls p) (relS S p k) h' ∧ t'.m.n = t.m.n ∧ BK t t' ls (dropR ls p) ∧ Kept (sown x sb) W1 w'
set_option maxRecDepth 4000 in
set_option maxHeartbeats 1000000 in
theorem release_s {w W W1 sb lw x t fr ls S h} (o : SO w W sb lw x t fr ls S h) (p k i : Nat) (hc : S.c p = some k) (hi : i < ncl k) (hn : i ∉ S.fl p) (hf : S.fl p ≠ []) (s1 : SW w W1 sb lw x { t with m := ownM t.m (p : Int) (i : Int) false } h) :
    Calls Tryz.prog 41 #[.pointer (some ⟨sb, 0, none⟩), .int .i64 (p : Int), .int .i64 (k : Int)] W1 fun e w' => e = .returned (.int .i64 0) ∧ RlO w W1 sb lw x t fr ls S p k w' := by
  obtain ⟨hk, sp⟩ := o.si.pg p k hc
  obtain ⟨hls, hpn, hp1, hpb⟩ := o.mem hc
  have hnb := ncl_b hk
  have UL := hid (unlink_s s1 (p : Int) k hk)
  obtain ⟨m2, hm2⟩ : ∃ m2, m2 = unlM (ownM t.m (p : Int) (i : Int) false) (p : Int) := ⟨_, rfl⟩
  obtain ⟨h2, hh2⟩ : ∃ h2, h2 = unlH (ownM t.m (p : Int) (i : Int) false) h (p : Int) k := ⟨_, rfl⟩
  rw [← hm2, ← hh2] at UL
  have RN := hid (show ∀ W', SW w W' sb lw x { t with m := m2 } h2 → Calls Tryz.prog 97 #[.pointer (some ⟨x.m, 0, none⟩), .int .i64 (p : Int), .int .i64 0, .int .i64 2] W' fun e w' => e = .returned (.int .i64 (runE m2 (p : Int) 0 2)) ∧ SO w w' sb lw { x with P := pOf (relS S p k) (relM t.m p i) } { t with m := relM t.m p i } fr ls (relS S p k) (relH t.m h p k i) ∧ Kept (bown x) W' w' from fun W' s => by
    refine (Run_s s (p : Int) 0 2).mono ?_
    rintro e w' ⟨rfl, s', k'⟩
    refine ⟨rfl, o.rel hc hi hn hf ?_, k'⟩
    unfold relM relH
    rw [← hm2, ← hh2]
    exact s')
  generalize runE m2 (p : Int) 0 2 = re at *
  have hP : pOf (relS S p k) (relM t.m p i) p = none := pOf_none (updF_self _ _ _)
  have had : caN x p k 0 = ad x p := by unfold caN ad; omega
  obtain ⟨A, hA⟩ : ∃ A, A = caN x p k 0 := ⟨_, rfl⟩
  have AD := hid (show ∀ t' h' P W', SW w W' sb lw { x with P := P } t' h' → Calls Tryz.prog 89 #[.pointer (some ⟨sb, 0, none⟩), .int .i64 (p : Int), .int .i64 (k : Int), .int .i64 0] W' fun e w' => e = .returned (.int .u64 (A : Int)) ∧ Kept none' W' w' from fun t' h' P W' s => by
    rw [hA]
    exact address_s s p k 0 (by omega) hk (by omega))
  have GV := hid (show ∀ W', SO w W' sb lw { x with P := pOf (relS S p k) (relM t.m p i) } { t with m := relM t.m p i } fr ls (relS S p k) (relH t.m h p k i) → Kept (sown x sb) W1 W' → Calls Tryz.prog 60 #[.pointer (some ⟨lw, 0, none⟩), .int .u64 (A : Int), .int .i64 0] W' fun e w' => e = .returned (.int .i64 0) ∧ RlO w W1 sb lw x t fr ls S p k w' from fun W' o2 k2 => by
    refine (K.Give6_yes o2.po p 0 hls hP A (hA.trans had)).mono ?_
    rintro e w' ⟨rfl, t', po', hn', kk, bk⟩
    refine ⟨rfl, _, t', _, o2.pool po' (Sm.refl _) bk (fun a c ha => ?_) kk, ?_, ?_, k2.trans (kk.mono (fun _ _ e => .inl e)) (fun _ _ e => e) (fun _ _ e => e)⟩
    · refine List.mem_filter.2 ⟨(o2.mem ha).1, decide_eq_true fun e => ?_⟩
      have e : a = p := e
      rw [e] at ha
      rw [show (relS S p k).c p = none from updF_self _ _ _] at ha
      cases ha
    · rw [hn']
      have h1 := o2.st
      have h2 := o.st
      have h3 : (relM t.m p i).n * 4096 = x.n := h1
      show (relM t.m p i).n = t.m.n
      omega
    · exact bk)
  generalize pOf (relS S p k) (relM t.m p i) = PP at *
  generalize relM t.m p i = mm at *
  generalize relH t.m h p k i = hh at *
  obtain ⟨c0, c1⟩ := s1.c0
  have S1 := hid s1
  clear o s1 hc hi hn hf sp hls hpn hp1 hpb hm2 hh2 hP had hA hnb
  go_enter Tryz.func41, Tryz.ntmps41
  go_wp2_with fail
  refine UL.out.mono ?_
  rintro e w2 ⟨rfl, hs2, hk2⟩
  have S2 := hid hs2
  have K2 := hid hk2
  have MP := hid (Map6 hs2.pl)
  clear c0 c1
  obtain ⟨c0, c1⟩ := hs2.c0
  clear hs2 hk2
  go_wp2_with fail
  refine MP.out.mono ?_
  rintro e w3 ⟨rfl, h3⟩
  replace h3 := h3.symm
  subst h3
  go_wp2_with fail
  refine (RN.out _ S2.out).mono ?_
  rintro e w3 ⟨rfl, ho3, hk3⟩
  have O3 := hid ho3
  have K3 := hid (K2.out.trans (hk3.mono (fun _ _ e => .inl e)) (fun _ _ e => e) (fun _ _ e => e))
  clear c0 c1 ho3 hk3
  go_upto_region 3 with fail
  have KD := hid ((Kept.refl none' w3).drew)
  have O4 := hid (O3.out.keep KD.out)
  have K4 := hid (K3.out.trans KD.out (fun _ _ e => e) (fun _ _ e => e.elim))
  obtain ⟨c0, c1⟩ := O4.out.sw.c0
  go_region_held3 (fun w' => w'.cell? ⟨sb, 0, none⟩ = some (.pointer (some ⟨lw, 0, none⟩))) (first | with_reducible assumption | fail) (first
    | (go_at_call 60; (with_reducible refine (GV.out _ O5.out K5.out).mono ?_); rintro e w6 ⟨rfl, hr6⟩; have D6 := hid hr6; obtain ⟨_, _, _, so6, _⟩ := hr6; obtain ⟨f0, f1⟩ := so6.sw.c0; clear so6)
    | (go_at_call 89; (with_reducible refine (AD.out _ _ _ _ O4.out.sw).mono ?_); rintro e w5 ⟨rfl, hk5⟩; have O5 := hid (O4.out.keep hk5); have K5 := hid (K4.out.trans hk5 (fun _ _ e => e) (fun _ _ e => e.elim)); obtain ⟨f0, f1⟩ := O5.out.sw.c0; clear hk5)
    | fail)
  all_goals
    go_wp2_with fail
    exact ⟨rfl, .int .i64 0, by simp [results, Tryz.results41, go_sem], rfl, D6.out⟩
end Go.Proofs.YtocpnddacdpnmaaGreatDoor
