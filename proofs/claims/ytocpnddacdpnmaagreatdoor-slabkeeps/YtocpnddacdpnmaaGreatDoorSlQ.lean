import Derived.Test.YtocpnddacdpnmaaGreatDoorSlO
/- A cell is handed out: the slab as a thing. -/
namespace Go.Proofs.YtocpnddacdpnmaaGreatDoor
open Go.RowKit
set_option linter.unusedVariables false

theorem tb_eq (x r : Nat) : (x / 2 ^ r % 2 == 1) = x.testBit r := by
  rw [Nat.testBit_eq_decide_div_mod_eq]
  rfl
theorem lit_turn (p : Pg) (c j : Nat) (hc : c < 256) (hj : j < 256) : litP (turnP p c) j = (if j = c then !litP p c else litP p j) := by
  have key : ∀ x : Nat, ∀ s r : Nat, (x ^^^ 2 ^ r).testBit s = (if s = r then !x.testBit s else x.testBit s) := fun x s r => by
    rw [Nat.testBit_xor, Nat.testBit_two_pow]
    by_cases e : s = r
    · subst e; simp
    · have e' : ¬ r = s := fun h => e h.symm
      simp [e, e']
  have two : ∀ a b : Nat, a / 64 = b / 64 → (a % 64 = b % 64 ↔ a = b) := fun a b h => by omega
  unfold litP
  rw [tb_eq, tb_eq, tb_eq]
  rcases lt4 hc with h | h | h | h <;> rcases lt4 hj with g | g | g | g <;> simp only [turnP, h, g, wP] <;> first
    | (rw [key]; by_cases e : j = c
       · subst e; simp
       · have e2 : ¬ j % 64 = c % 64 := fun e3 => e ((two j c (by omega)).1 e3)
         simp [e, e2])
    | (rw [if_neg (by omega)])
theorem lit_own (p : Pg) (c j : Nat) (hc : c < 256) (hj : j < 256) : litP (ownP p c) j = (if j = c then !litP p c else litP p j) := by
  rw [← lit_turn p c j hc hj]
  unfold litP ownP
  unfold wP
  rfl
def updF {α : Type} (f : Nat → α) (p : Nat) (v : α) : Nat → α := fun r => if r = p then v else f r
theorem updF_self {α : Type} (f : Nat → α) (p : Nat) (v : α) : updF f p v p = v := if_pos rfl
theorem updF_ne {α : Type} (f : Nat → α) {p r : Nat} (v : α) (h : r ≠ p) : updF f p v r = f r := if_neg h
/-- A slab page but for its links on the partial list. -/
structure SlQ (S : Sb) (p k : Nat) (q : Pg) : Prop where
  kd : q.kd = 4
  od : q.od = 0
  cl : q.cl = (k : Int)
  lv : q.lv = ((ncl k - (S.fl p).length : Nat) : Int)
  fs : q.fs = hdI (S.fl p)
  bt : ∀ i, i < 256 → litP q i = decide (i < ncl k ∧ i ∉ S.fl p)
theorem SlP.q {S p k q} (h : SlP S p k q) : SlQ S p k q := ⟨h.kd, h.od, h.cl, h.lv, h.fs, h.bt⟩
theorem SlQ.p {S p k q} (h : SlQ S p k q) (n : q.nx = nxI (S.pl k) p) (v : q.pv = pvI (S.pl k) p) : SlP S p k q := ⟨h.kd, h.od, h.cl, h.lv, n, v, h.fs, h.bt⟩
theorem lit_congr {q q' : Pg} (h0 : q'.b0 = q.b0) (h1 : q'.b1 = q.b1) (h2 : q'.b2 = q.b2) (h3 : q'.b3 = q.b3) (i : Nat) : litP q' i = litP q i := by
  unfold litP
  have : wP q' (i / 64) = wP q (i / 64) := by
    unfold wP
    split <;> assumption
  rw [this]
theorem SlQ.rst {S p k q q'} (h : SlQ S p k q) (r : Rst q q') : SlQ S p k q' := by
  obtain ⟨a, b, rfl⟩ := r
  exact ⟨h.kd, h.od, h.cl, h.lv, h.fs, fun i hi => (lit_congr rfl rfl rfl rfl i).trans (h.bt i hi)⟩
theorem SlQ.congr {S S' p k q} (h : SlQ S p k q) (e : S'.fl p = S.fl p) : SlQ S' p k q := ⟨h.kd, h.od, h.cl, by rw [e]; exact h.lv, by rw [e]; exact h.fs, fun i hi => by rw [e]; exact h.bt i hi⟩
theorem Lnk_reP {x : Bx} {P : Nat → Option Pg} {f : Nat → Nat} {p k : Nat} : ∀ {l : List Nat}, Lnk x f p k l → Lnk { x with P := P } f p k l
  | [], _ => trivial
  | i :: l, h => ⟨by
      rw [h.1]
      cases l <;> rfl, Lnk_reP h.2⟩
theorem unlP_out {pg : Nat → Pg} {l : List Nat} {p r : Nat} (hd : l.Nodup) (hr : r ≠ p) (hl : r ∉ l) : unlP pg l p r = pg r := by
  unfold unlP
  rw [if_neg hr, if_neg, if_neg]
  · intro e
    rcases nxI_cases l p hd with h | ⟨b, h, hb, _⟩
    · omega
    · exact hl (by rw [show r = b by omega]; exact hb)
  · intro e
    rcases pvI_cases l p hd with h | ⟨b, h, hb, _⟩
    · omega
    · exact hl (by rw [show r = b by omega]; exact hb)
theorem putP_out {pg : Nat → Pg} {l : List Nat} {p r : Nat} (hr : r ≠ p) (hl : r ∉ l) : putP pg l p r = pg r := by
  unfold putP
  rw [if_neg hr, if_neg (fun e => hl (hdI_mem e.symm))]
/-- A cell is handed out. -/
def takS (S : Sb) (p k : Nat) (r : List Nat) : Sb := { S with fl := updF S.fl p r, pl := if r = [] then updF S.pl k (M.dropL (S.pl k) p) else S.pl }
/-- What a page is when its first cell is handed out. -/
theorem own_page {S : Sb} {p k i : Nat} {r : List Nat} {q : Pg} (hk : k < 8) (h : SlP S p k q) (hf : S.fl p = i :: r) (nd : (S.fl p).Nodup) (hi : i < ncl k) (hl : (S.fl p).length ≤ ncl k) :
    SlQ (takS S p k r) p k { ownP q i with fs := hdI r } ∧ ({ ownP q i with fs := hdI r } : Pg).nx = q.nx ∧ ({ ownP q i with fs := hdI r } : Pg).pv = q.pv := by
  obtain ⟨t1, t2, t3, t4, t5, t6, t7⟩ := turn_rest q i
  have hnb := ncl_b hk
  have hlit : litP q i = false := by
    rw [h.bt i (by omega), hf]
    exact decide_eq_false (fun e => e.2 List.mem_cons_self)
  rw [hf] at nd hl
  have hni : i ∉ r := (List.nodup_cons.1 nd).1
  have hfl : (takS S p k r).fl p = r := updF_self _ _ _
  rw [List.length_cons] at hl
  refine ⟨⟨t1.trans h.kd, t2.trans h.od, t3.trans h.cl, ?_, by rw [hfl], fun j hj => ?_⟩, t5, t6⟩
  · show wrap64 (if litP q i = true then q.lv - 1 else q.lv + 1) = _
    rw [hlit, if_neg (by decide), h.lv, hfl, hf, List.length_cons]
    unfold wrap64
    omega
  · have e1 : litP { ownP q i with fs := hdI r } j = litP (ownP q i) j := lit_congr rfl rfl rfl rfl j
    rw [e1, lit_own q i j (by omega) hj, hfl]
    by_cases e : j = i
    · rw [if_pos e, hlit]
      symm
      exact decide_eq_true ⟨by omega, by rw [e]; exact hni⟩
    · rw [if_neg e, h.bt j hj, hf]
      apply decide_eq_decide.2
      rw [List.mem_cons, not_or]
      exact ⟨fun h => ⟨h.1, h.2.2⟩, fun h => ⟨h.1, e, h.2⟩⟩
theorem hanM2_pg {m : Mp} {p i k : Nat} {r : List Nat} (hp : p < m.n) (hkd : (m.pg p).kd = 4) (hcl : (m.pg p).cl = (k : Int)) (hi : i < ncl k) (hlit : litP (m.pg p) i = false) (hr : ∀ j ∈ r, j < ncl k) : hanM2 m p i r = { m with pg := upp m.pg p { ownP (m.pg p) i with fs := hdI r } } := by
  have hcn : ncell (m.pg p).cl = ncl k := by rw [hcl]; rfl
  unfold hanM2
  rw [(ownM_yes hp hkd (by rw [hcn]; exact hi) (by rw [hlit]; rfl)).2]
  obtain ⟨t1, t2, t3, _⟩ := turn_rest (m.pg p) i
  have e1 : upp m.pg p (ownP (m.pg p) i) p = ownP (m.pg p) i := if_pos rfl
  rw [firstM_yes (m := { m with pg := upp m.pg p (ownP (m.pg p) i) }) hp (by show (upp m.pg p _ p).kd = 4; rw [e1]; exact t1.trans hkd) (by
    rcases hdI_cases r with e | ⟨j, e, hj⟩
    · exact .inl e
    · refine .inr ⟨j, e, ?_⟩
      show j < ncell (upp m.pg p _ p).cl
      rw [e1, show (ownP (m.pg p) i).cl = (m.pg p).cl from t3, hcn]
      exact hr j hj)]
  show ({ m with pg := upp (upp m.pg p (ownP (m.pg p) i)) p { upp m.pg p (ownP (m.pg p) i) p with fs := hdI r } } : Mp) = _
  rw [e1]
  refine congrArg (fun g => ({ m with pg := g } : Mp)) (funext fun a => ?_)
  unfold upp
  by_cases e : a = p
  · rw [if_pos e, if_pos e]
  · rw [if_neg e, if_neg e, if_neg e]
/-- What is behind it. -/
theorem SO.hand {w W sb lw x t fr ls S h w'} (o : SO w W sb lw x t fr ls S h) {p k i : Nat} {r : List Nat} (hc : S.c p = some k) (hf : S.fl p = i :: r) (se : SE w W sb lw x t (hanM t.m p i r) (hanH t.m h p k i r) w') :
    SO w w' sb lw { x with P := pOf (takS S p k r) (hanM t.m p i r) } { t with m := hanM t.m p i r } fr ls (takS S p k r) (hanH t.m h p k i r) := by
  obtain ⟨hk, sp⟩ := o.si.pg p k hc
  obtain ⟨nd, lt, lk⟩ := o.si.fl p k hc
  have hlv := o.si.lv p k hc
  obtain ⟨hls, hpn, _⟩ := o.mem hc
  have hnb := ncl_b hk
  have hib : i < ncl k := lt i (by rw [hf]; exact List.mem_cons_self)
  have hlit : litP (t.m.pg p) i = false := by
    rw [sp.bt i (by omega), hf]
    exact decide_eq_false (fun e => e.2 List.mem_cons_self)
  have e2 := hanM2_pg (r := r) hpn sp.kd sp.cl hib hlit (fun j hj => lt j (by rw [hf]; exact List.mem_cons_of_mem _ hj))
  obtain ⟨q2, q2n, q2v⟩ := own_page hk sp hf nd hib hlv
  generalize hq2 : ({ ownP (t.m.pg p) i with fs := hdI r } : Pg) = Q2 at *
  have hpl : p ∈ S.pl k := (o.si.pm k hk p).2 ⟨hc, by rw [hf]; exact List.cons_ne_nil _ _⟩
  have hln : (S.pl k).Nodup := o.si.pn k hk
  -- the pages ahead of an unlink
  have pg2 : ∀ a c, S.c a = some c → SlQ (takS S p k r) a c (upp t.m.pg p Q2 a) ∧ (upp t.m.pg p Q2 a).nx = nxI (S.pl c) a ∧ (upp t.m.pg p Q2 a).pv = pvI (S.pl c) a := fun a c ha => by
    obtain ⟨hc8, sa⟩ := o.si.pg a c ha
    unfold upp
    by_cases e : a = p
    · subst e
      rw [hc] at ha
      cases ha
      rw [if_pos rfl, q2n, q2v]
      exact ⟨q2, sp.nx, sp.pv⟩
    · rw [if_neg e]
      exact ⟨sa.q.congr (updF_ne _ _ e), sa.nx, sa.pv⟩
  have hout2 : ∀ a, S.c a = none → upp t.m.pg p Q2 a = t.m.pg a := fun a ha => by
    unfold upp
    rw [if_neg]
    intro e
    rw [e, hc] at ha
    cases ha
  -- the pages in the end
  obtain ⟨pgF, hpgF, hF1, hF2, hF3, hF4⟩ : ∃ pgF : Nat → Pg, hanM t.m p i r = { t.m with pg := pgF } ∧ (∀ a, S.c a = none → pgF a = t.m.pg a) ∧ (∀ a c, S.c a = some c → SlQ (takS S p k r) a c (pgF a) ∧ (pgF a).nx = nxI ((takS S p k r).pl c) a ∧ (pgF a).pv = pvI ((takS S p k r).pl c) a) ∧ (∀ c, c < 8 → hanH t.m h p k i r c = hdI ((takS S p k r).pl c)) ∧ True := by
    by_cases hr : r = []
    · have hU := unl_pg (m := { t.m with pg := upp t.m.pg p Q2 }) (h := h) (c := k) hln hpl (fun a ha => by
        have hca := ((o.si.pm k hk a).1 ha).1
        obtain ⟨h1, h2, h3⟩ := pg2 a k hca
        exact ⟨(o.mem hca).2.1, h1.kd, h2, h3⟩)
      have ePl : (takS S p k r).pl = updF S.pl k (M.dropL (S.pl k) p) := by unfold takS; rw [if_pos hr]
      have np : NP (upp t.m.pg p Q2) S k (S.pl k) := fun a ha => (pg2 a k ha).2
      have np2 := unl_np np hln hpl
      refine ⟨unlP (upp t.m.pg p Q2) (S.pl k) p, ?_, fun a ha => ?_, fun a c ha => ?_, fun c hc8 => ?_, trivial⟩
      · unfold hanM
        rw [if_pos hr, e2, hU.1]
      · have hap : a ≠ p := fun e => by rw [e, hc] at ha; cases ha
        have hal : a ∉ S.pl k := fun e => by rw [((o.si.pm k hk a).1 e).1] at ha; cases ha
        rw [unlP_out hln hap hal]
        exact hout2 a ha
      · obtain ⟨h1, h2, h3⟩ := pg2 a c ha
        refine ⟨h1.rst (unlP_rst _ _ _ _), ?_⟩
        rw [ePl]
        by_cases e : c = k
        · subst e
          rw [updF_self]
          exact np2 a ha
        · rw [updF_ne _ _ e]
          have hap : a ≠ p := fun e3 => by rw [e3, hc] at ha; cases ha; exact e rfl
          have hal : a ∉ S.pl k := fun e3 => by rw [((o.si.pm k hk a).1 e3).1] at ha; cases ha; exact e rfl
          rw [unlP_out hln hap hal]
          exact ⟨h2, h3⟩
      · unfold hanH
        rw [if_pos hr, e2, hU.2, ePl]
        by_cases e : c = k
        · subst e
          rw [updF_self, hdI_drop hln hpl]
          by_cases e3 : pvI (S.pl c) p = -1
          · rw [if_pos e3, if_pos e3]
            exact if_pos rfl
          · rw [if_neg e3, if_neg e3]
            exact o.hd c hc8
        · rw [updF_ne _ _ e]
          by_cases e3 : pvI (S.pl k) p = -1
          · rw [if_pos e3]
            exact (if_neg e).trans (o.hd c hc8)
          · rw [if_neg e3]
            exact o.hd c hc8
    · have ePl : (takS S p k r).pl = S.pl := by unfold takS; rw [if_neg hr]
      refine ⟨upp t.m.pg p Q2, ?_, hout2, fun a c ha => ?_, fun c hc8 => ?_, trivial⟩
      · unfold hanM
        rw [if_neg hr, e2]
      · rw [ePl]
        exact pg2 a c ha
      · unfold hanH
        rw [if_neg hr, ePl]
        exact o.hd c hc8
  have hsw := se.1
  rw [hpgF] at hsw ⊢
  have hfl : ∀ a c, S.c a = some c → ((takS S p k r).fl a = r ∧ a = p) ∨ ((takS S p k r).fl a = S.fl a ∧ a ≠ p) := fun a c ha => by
    by_cases e : a = p
    · exact .inl ⟨by rw [e]; exact updF_self _ _ _, e⟩
    · exact .inr ⟨updF_ne _ _ e, e⟩
  refine ⟨hsw.reP _, o.sf.repaint S (takS S p k r) o.si.eP { t.m with pg := pgF } rfl rfl rfl (fun a ha => ?_) (fun a c ha => ⟨(hF2 a c ha).1.kd, (o.mem ha).1⟩), o.st, o.bm, ⟨rfl, fun a c ha => ⟨(o.si.pg a c ha).1, (hF2 a c ha).1.p (hF2 a c ha).2.1 (hF2 a c ha).2.2⟩, fun a c ha => ?_, fun a c ha => ?_, fun c hc8 => ?_, fun c hc8 a => ?_⟩, hF3⟩
  · have ha : S.c a = none := ha
    rw [if_pos ha]
    exact hF1 a ha
  · replace ha : S.c a = some c := ha
    obtain ⟨n1, n2, n3⟩ := o.si.fl a c ha
    rcases hfl a c ha with ⟨e, rfl⟩ | ⟨e, _⟩
    · rw [e]
      rw [hc] at ha
      cases ha
      rw [hf] at n1 n2 n3
      exact ⟨(List.nodup_cons.1 n1).2, fun j hj => n2 j (List.mem_cons_of_mem _ hj), Lnk_reP n3.2⟩
    · rw [e]
      exact ⟨n1, n2, Lnk_reP n3⟩
  · have hl := o.si.lv a c ha
    rcases hfl a c ha with ⟨e, rfl⟩ | ⟨e, _⟩
    · rw [e]
      rw [hf, List.length_cons] at hl
      omega
    · rw [e]
      exact hl
  · have := o.si.pn c hc8
    unfold takS
    by_cases hr : r = []
    · rw [if_pos hr]
      show (updF S.pl k _ c).Nodup
      by_cases e : c = k
      · subst e; rw [updF_self]; exact dropL_nd this p
      · rw [updF_ne _ _ e]; exact this
    · rw [if_neg hr]; exact this
  · have hpm := o.si.pm c hc8 a
    show a ∈ (takS S p k r).pl c ↔ (S.c a = some c ∧ updF S.fl p r a ≠ [])
    by_cases hr : r = []
    · have ePl : (takS S p k r).pl = updF S.pl k (M.dropL (S.pl k) p) := by unfold takS; rw [if_pos hr]
      rw [ePl]
      by_cases ea : a = p
      · subst ea
        rw [updF_self]
        constructor
        · intro hm
          exfalso
          by_cases e : c = k
          · subst e
            rw [updF_self, mem_drop] at hm
            exact hm.2 rfl
          · rw [updF_ne _ _ e, hpm, hc] at hm
            cases hm.1
            exact e rfl
        · exact fun hm => absurd hr hm.2
      · rw [updF_ne _ _ ea]
        by_cases e : c = k
        · subst e
          rw [updF_self, mem_drop, hpm]
          exact ⟨fun hm => hm.1, fun hm => ⟨hm, ea⟩⟩
        · rw [updF_ne _ _ e]
          exact hpm
    · have ePl : (takS S p k r).pl = S.pl := by unfold takS; rw [if_neg hr]
      rw [ePl, hpm]
      by_cases ea : a = p
      · subst ea
        rw [updF_self, hf]
        exact ⟨fun hm => ⟨hm.1, hr⟩, fun hm => ⟨hm.1, List.cons_ne_nil _ _⟩⟩
      · rw [updF_ne _ _ ea]
end Go.Proofs.YtocpnddacdpnmaaGreatDoor
