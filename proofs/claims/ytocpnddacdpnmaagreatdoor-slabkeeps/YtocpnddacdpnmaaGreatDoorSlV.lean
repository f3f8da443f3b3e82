import Derived.Test.YtocpnddacdpnmaaGreatDoorSlU
/- A cell comes back: the slab as a thing. -/
namespace Go.Proofs.YtocpnddacdpnmaaGreatDoor
open Go.RowKit
set_option linter.unusedVariables false

/-- A cell comes back. -/
def givS (S : Sb) (p k i : Nat) : Sb := { S with fl := updF S.fl p (i :: S.fl p), pl := if S.fl p = [] then updF S.pl k (p :: S.pl k) else S.pl }
/-- The map, the heads behind it. -/
def givN (m : Mp) (h : Nat → Int) (p k i : Nat) (f : List Nat) : Mp := if f = [] then putM (ownM m (p : Int) (i : Int) false) h (p : Int) k else ownM m (p : Int) (i : Int) false
def givM (m : Mp) (h : Nat → Int) (p k i : Nat) (f : List Nat) : Mp := firstM (givN m h p k i f) (p : Int) (i : Int)
def givH (h : Nat → Int) (p k : Nat) (f : List Nat) : Nat → Int := if f = [] then uphI h k (p : Int) else h
theorem upp_self (pg : Nat → Pg) (p : Nat) (q : Pg) : upp pg p q p = q := if_pos rfl
theorem upp_ne (pg : Nat → Pg) {p a : Nat} (q : Pg) (h : a ≠ p) : upp pg p q a = pg a := if_neg h
theorem upp_upp (pg : Nat → Pg) (p : Nat) (q q' : Pg) : upp (upp pg p q) p q' = upp pg p q' := by
  funext a
  by_cases e : a = p
  · subst e; rw [upp_self, upp_self]
  · rw [upp_ne _ _ e, upp_ne _ _ e, upp_ne _ _ e]
theorem hdA_lk (x : Bx) (p k : Nat) (l : List Nat) : hdA x p k (hdI l) = lkA x p k l := by
  cases l with
  | nil => rfl
  | cons j l =>
    unfold hdA
    rw [if_neg (by show ¬ ((j : Int) = -1); omega)]
    rfl
/-- What a page is when a cell of it comes back. -/
theorem back_page {S : Sb} {p k i : Nat} {q : Pg} (hk : k < 8) (h : SlP S p k q) (hi : i < ncl k) (hn : i ∉ S.fl p) (hl : (S.fl p).length < ncl k) :
    SlQ (givS S p k i) p k { ownP q i with fs := (i : Int) } := by
  obtain ⟨t1, t2, t3, t4, t5, t6, t7⟩ := turn_rest q i
  have hnb := ncl_b hk
  have hlit : litP q i = true := by
    rw [h.bt i (by omega)]
    exact decide_eq_true ⟨hi, hn⟩
  have hfl : (givS S p k i).fl p = i :: S.fl p := updF_self _ _ _
  refine ⟨t1.trans h.kd, t2.trans h.od, t3.trans h.cl, ?_, by rw [hfl]; rfl, fun j hj => ?_⟩
  · show wrap64 (if litP q i = true then q.lv - 1 else q.lv + 1) = _
    rw [hlit, if_pos rfl, h.lv, hfl, List.length_cons]
    unfold wrap64
    omega
  · have e1 : litP { ownP q i with fs := (i : Int) } j = litP (ownP q i) j := lit_congr rfl rfl rfl rfl j
    rw [e1, lit_own q i j (by omega) hj, hfl]
    by_cases e : j = i
    · rw [if_pos e, hlit]
      symm
      exact decide_eq_false (fun e2 => e2.2 (by rw [e]; exact List.mem_cons_self))
    · rw [if_neg e, h.bt j hj]
      apply decide_eq_decide.2
      rw [List.mem_cons, not_or]
      exact ⟨fun h => ⟨h.1, e, h.2⟩, fun h => ⟨h.1, h.2.2⟩⟩
/-- What the partial lists of a class need of the map. -/
theorem SO.nxt {w W sb lw x t fr ls S h} (o : SO w W sb lw x t fr ls S h) {k : Nat} (hk : k < 8) (r : Nat) (hr : r ∈ S.pl k) : r < t.m.n ∧ (t.m.pg r).kd = 4 ∧ lnk t.m.n (t.m.pg r).nx = true := by
  have hcr := ((o.si.pm k hk r).1 hr).1
  have sr := (o.si.pg r k hcr).2
  refine ⟨(o.mem hcr).2.1, sr.kd, ?_⟩
  rw [sr.nx]
  rcases nxI_cases (S.pl k) r (o.si.pn k hk) with e | ⟨b, e, hb, _⟩
  · rw [e]; exact lnk_no _
  · rw [e]; exact lnk_yes (o.mem ((o.si.pm k hk b).1 hb).1).2.1
theorem givM_pg {w W sb lw x t fr ls S h} (o : SO w W sb lw x t fr ls S h) {p k i : Nat} (hc : S.c p = some k) (hi : i < ncl k) (hn : i ∉ S.fl p) :
    givM t.m h p k i (S.fl p) = { t.m with pg := if S.fl p = [] then putP (upp t.m.pg p { ownP (t.m.pg p) i with fs := (i : Int) }) (S.pl k) p else upp t.m.pg p { ownP (t.m.pg p) i with fs := (i : Int) } } := by
  obtain ⟨hk, sp⟩ := o.si.pg p k hc
  obtain ⟨hls, hpn, _⟩ := o.mem hc
  have hnb := ncl_b hk
  have hcn : ncell (t.m.pg p).cl = ncl k := by rw [sp.cl]; rfl
  have hlit : litP (t.m.pg p) i = !false := by
    rw [sp.bt i (by omega)]
    exact decide_eq_true ⟨hi, hn⟩
  obtain ⟨t1, t2, t3, _⟩ := turn_rest (t.m.pg p) i
  have eO := (ownM_yes hpn sp.kd (by rw [hcn]; exact hi) hlit).2
  have hQk : (ownP (t.m.pg p) i).kd = 4 := t1.trans sp.kd
  have hQc : (ownP (t.m.pg p) i).cl = (k : Int) := t3.trans sp.cl
  unfold givM givN
  by_cases hf : S.fl p = []
  · rw [if_pos hf, if_pos hf, eO]
    have hpl : p ∉ S.pl k := fun e => ((o.si.pm k hk p).1 e).2 hf
    rw [put_pg (m := { t.m with pg := upp t.m.pg p (ownP (t.m.pg p) i) }) (l := S.pl k) hpn (by show (upp t.m.pg p _ p).kd = 4; rw [upp_self]; exact hQk) (o.hd k hk) (fun r hr => by
      have hrp : r ≠ p := fun e => hpl (by rw [← e]; exact hr)
      show r < t.m.n ∧ (upp t.m.pg p _ r).kd = 4 ∧ lnk t.m.n (upp t.m.pg p _ r).nx = true
      rw [upp_ne _ _ hrp]
      exact o.nxt hk r hr) hpl]
    have e1 : putP (upp t.m.pg p (ownP (t.m.pg p) i)) (S.pl k) p p = { ownP (t.m.pg p) i with nx := hdI (S.pl k), pv := -1 } := by
      unfold putP
      rw [if_pos rfl, upp_self]
    rw [firstM_yes (m := { t.m with pg := putP (upp t.m.pg p (ownP (t.m.pg p) i)) (S.pl k) p }) hpn (by show (putP _ _ p p).kd = 4; rw [e1]; exact hQk) (.inr ⟨i, rfl, by show i < ncell (putP _ _ p p).cl; rw [e1]; show i < ncell (ownP (t.m.pg p) i).cl; rw [hQc]; exact hi⟩)]
    refine congrArg (fun g => ({ t.m with pg := g } : Mp)) (funext fun a => ?_)
    show upp (putP (upp t.m.pg p (ownP (t.m.pg p) i)) (S.pl k) p) p { putP (upp t.m.pg p (ownP (t.m.pg p) i)) (S.pl k) p p with fs := (i : Int) } a = _
    rw [e1]
    by_cases e : a = p
    · subst e
      rw [upp_self]
      unfold putP
      rw [if_pos rfl, upp_self]
    · rw [upp_ne _ _ e]
      unfold putP
      rw [if_neg e, if_neg e, upp_ne _ _ e, upp_ne _ _ e]
  · rw [if_neg hf, if_neg hf, eO]
    rw [firstM_yes (m := { t.m with pg := upp t.m.pg p (ownP (t.m.pg p) i) }) hpn (by show (upp t.m.pg p _ p).kd = 4; rw [upp_self]; exact hQk) (.inr ⟨i, rfl, by show i < ncell (upp t.m.pg p _ p).cl; rw [upp_self, hQc]; exact hi⟩)]
    show ({ t.m with pg := upp (upp t.m.pg p (ownP (t.m.pg p) i)) p { upp t.m.pg p (ownP (t.m.pg p) i) p with fs := (i : Int) } } : Mp) = _
    rw [upp_self, upp_upp]
/-- What is behind it. -/
theorem SO.give {w W W' sb lw x t fr ls S h} (o : SO w W sb lw x t fr ls S h) {p k i : Nat} (hc : S.c p = some k) (hi : i < ncl k) (hn : i ∉ S.fl p) (hl : (S.fl p).length < ncl k)
    (sw : SW w W' sb lw x ⟨M.upd t.f (4096 * p + i * szC k) 8 (M.byteOf (lkA x p k (S.fl p))), givM t.m h p k i (S.fl p), t.hd⟩ (givH h p k (S.fl p))) :
    SO w W' sb lw { x with P := pOf (givS S p k i) (givM t.m h p k i (S.fl p)) } ⟨M.upd t.f (4096 * p + i * szC k) 8 (M.byteOf (lkA x p k (S.fl p))), givM t.m h p k i (S.fl p), t.hd⟩ fr ls (givS S p k i) (givH h p k (S.fl p)) := by
  obtain ⟨hk, sp⟩ := o.si.pg p k hc
  obtain ⟨nd, lt, lk⟩ := o.si.fl p k hc
  obtain ⟨hls, hpn, hp1, hpb⟩ := o.mem hc
  have hnb := ncl_b hk
  have hz := szC_le hk
  have n4 := o.po.nums.2.2.2.1
  have eM := givM_pg o hc hi hn
  have Q3 := back_page hk sp hi hn hl
  have hq3n : ({ ownP (t.m.pg p) i with fs := (i : Int) } : Pg).nx = (t.m.pg p).nx := (turn_rest (t.m.pg p) i).2.2.2.2.1
  have hq3v : ({ ownP (t.m.pg p) i with fs := (i : Int) } : Pg).pv = (t.m.pg p).pv := (turn_rest (t.m.pg p) i).2.2.2.2.2.1
  have hln : (S.pl k).Nodup := o.si.pn k hk
  generalize ({ ownP (t.m.pg p) i with fs := (i : Int) } : Pg) = Q at *
  rw [eM] at sw ⊢
  clear eM
  have hfl : (givS S p k i).fl p = i :: S.fl p := updF_self _ _ _
  have hfn : ∀ a, a ≠ p → (givS S p k i).fl a = S.fl a := fun a ha => updF_ne _ _ ha
  have pg2 : ∀ a c, S.c a = some c → SlQ (givS S p k i) a c (upp t.m.pg p Q a) ∧ (upp t.m.pg p Q a).nx = nxI (S.pl c) a ∧ (upp t.m.pg p Q a).pv = pvI (S.pl c) a := fun a c ha => by
    obtain ⟨hc8, sa⟩ := o.si.pg a c ha
    by_cases e : a = p
    · subst e
      rw [hc] at ha
      cases ha
      rw [upp_self, hq3n, hq3v]
      exact ⟨Q3, sp.nx, sp.pv⟩
    · rw [upp_ne _ _ e]
      exact ⟨sa.q.congr (hfn a e), sa.nx, sa.pv⟩
  have hout2 : ∀ a, S.c a = none → upp t.m.pg p Q a = t.m.pg a := fun a ha => upp_ne _ _ (fun e => by rw [e, hc] at ha; cases ha)
  have hPl : S.fl p = [] → p ∉ S.pl k := fun hf e => ((o.si.pm k hk p).1 e).2 hf
  -- the pages in the end
  obtain ⟨pgF, hpgF⟩ : ∃ pgF, pgF = (if S.fl p = [] then putP (upp t.m.pg p Q) (S.pl k) p else upp t.m.pg p Q) := ⟨_, rfl⟩
  rw [← hpgF] at sw ⊢
  have hF1 : ∀ a, S.c a = none → pgF a = t.m.pg a := fun a ha => by
    rw [hpgF]
    by_cases hf : S.fl p = []
    · rw [if_pos hf]
      have hap : a ≠ p := fun e => by rw [e, hc] at ha; cases ha
      have hal : a ∉ S.pl k := fun e => by rw [((o.si.pm k hk a).1 e).1] at ha; cases ha
      rw [putP_out hap hal]
      exact hout2 a ha
    · rw [if_neg hf]
      exact hout2 a ha
  have hF2 : ∀ a c, S.c a = some c → SlQ (givS S p k i) a c (pgF a) ∧ (pgF a).nx = nxI ((givS S p k i).pl c) a ∧ (pgF a).pv = pvI ((givS S p k i).pl c) a := fun a c ha => by
    obtain ⟨h1, h2, h3⟩ := pg2 a c ha
    rw [hpgF]
    by_cases hf : S.fl p = []
    · have ePl : (givS S p k i).pl = updF S.pl k (p :: S.pl k) := by unfold givS; rw [if_pos hf]
      rw [if_pos hf, ePl]
      refine ⟨h1.rst (putP_rst _ _ _ _), ?_⟩
      by_cases e : c = k
      · subst e
        rw [updF_self]
        exact put_np (fun a ha => (pg2 a c ha).2) hln (hPl hf) a ha
      · rw [updF_ne _ _ e]
        have hap : a ≠ p := fun e3 => by rw [e3, hc] at ha; cases ha; exact e rfl
        have hal : a ∉ S.pl k := fun e3 => by rw [((o.si.pm k hk a).1 e3).1] at ha; cases ha; exact e rfl
        rw [putP_out hap hal]
        exact ⟨h2, h3⟩
    · have ePl : (givS S p k i).pl = S.pl := by unfold givS; rw [if_neg hf]
      rw [if_neg hf, ePl]
      exact ⟨h1, h2, h3⟩
  have hF3 : ∀ c, c < 8 → givH h p k (S.fl p) c = hdI ((givS S p k i).pl c) := fun c hc8 => by
    unfold givH
    by_cases hf : S.fl p = []
    · have ePl : (givS S p k i).pl = updF S.pl k (p :: S.pl k) := by unfold givS; rw [if_pos hf]
      rw [if_pos hf, ePl]
      by_cases e : c = k
      · subst e
        rw [updF_self]
        exact if_pos rfl
      · rw [updF_ne _ _ e]
        exact (if_neg e).trans (o.hd c hc8)
    · have ePl : (givS S p k i).pl = S.pl := by unfold givS; rw [if_neg hf]
      rw [if_neg hf, ePl]
      exact o.hd c hc8
  have hiz : (i + 1) * szC k ≤ ncl k * szC k := Nat.mul_le_mul_right _ hi
  rw [Nat.add_mul, Nat.one_mul, hnb.1] at hiz
  have sf1 := o.sf.fill (p := p) (k := 0) hls (f' := M.upd t.f (4096 * p + i * szC k) 8 (M.byteOf (lkA x p k (S.fl p)))) (fun j hj => M.upd_out _ _ _ _ _ (by omega))
  refine ⟨sw.reP _, sf1.repaint S (givS S p k i) o.si.eP { t.m with pg := pgF } rfl rfl rfl (fun a ha => ?_) (fun a c ha => ⟨(hF2 a c ha).1.kd, (o.mem ha).1⟩), o.st, o.bm, ⟨rfl, fun a c ha => ⟨(o.si.pg a c ha).1, (hF2 a c ha).1.p (hF2 a c ha).2.1 (hF2 a c ha).2.2⟩, fun a c ha => ?_, fun a c ha => ?_, fun c hc8 => ?_, fun c hc8 a => ?_⟩, hF3⟩
  · have ha : S.c a = none := ha
    rw [if_pos ha]
    exact hF1 a ha
  · replace ha : S.c a = some c := ha
    obtain ⟨n1, n2, n3⟩ := o.si.fl a c ha
    by_cases e : a = p
    · subst e
      rw [hc] at ha
      cases ha
      rw [hfl]
      refine ⟨List.nodup_cons.2 ⟨hn, n1⟩, fun j hj => ?_, ?_, ?_⟩
      · rcases List.mem_cons.1 hj with rfl | hj
        · exact hi
        · exact n2 j hj
      · have hb : lkA x a k (S.fl a) < 18446744073709551616 := by
          cases e : S.fl a with
          | nil => show 0 < _; decide
          | cons j l =>
            have hj := n2 j (by rw [e]; exact List.mem_cons_self)
            exact (off_cell (x := x) (p := a) hk hj (by omega)).2.2
        show M.word (M.upd t.f _ 8 _) _ = lkA { x with P := _ } a k (S.fl a)
        rw [M.word_upd _ _ _ hb]
        cases S.fl a <;> rfl
      · refine Lnk_reP (Lnk_move (x := x) rfl (fun j hj => ?_) n3)
        have hji : j ≠ i := fun e => hn (by rw [← e]; exact hj)
        refine M.word_far _ _ _ _ ?_
        rcases Nat.lt_or_gt_of_ne hji with hlt | hlt
        · have : (j + 1) * szC k ≤ i * szC k := Nat.mul_le_mul_right _ hlt
          rw [Nat.add_mul, Nat.one_mul] at this
          omega
        · have : (i + 1) * szC k ≤ j * szC k := Nat.mul_le_mul_right _ hlt
          rw [Nat.add_mul, Nat.one_mul] at this
          omega
    · rw [hfn a e]
      have hc8 := (o.si.pg a c ha).1
      have hnb2 := ncl_b hc8
      have hz2 := szC_le hc8
      refine ⟨n1, n2, Lnk_reP (Lnk_move (x := x) rfl (fun j hj => ?_) n3)⟩
      have hjb := n2 j hj
      have h2 : (j + 1) * szC c ≤ ncl c * szC c := Nat.mul_le_mul_right _ hjb
      rw [Nat.add_mul, Nat.one_mul, hnb2.1] at h2
      refine M.word_far _ _ _ _ ?_
      omega
  · replace ha : S.c a = some c := ha
    by_cases e : a = p
    · subst e
      rw [hc] at ha
      cases ha
      rw [hfl, List.length_cons]
      omega
    · rw [hfn a e]
      exact o.si.lv a c ha
  · have := o.si.pn c hc8
    unfold givS
    by_cases hf : S.fl p = []
    · rw [if_pos hf]
      show (updF S.pl k _ c).Nodup
      by_cases e : c = k
      · subst e; rw [updF_self]; exact List.nodup_cons.2 ⟨hPl hf, this⟩
      · rw [updF_ne _ _ e]; exact this
    · rw [if_neg hf]; exact this
  · have hpm := o.si.pm c hc8 a
    show a ∈ (givS S p k i).pl c ↔ (S.c a = some c ∧ (givS S p k i).fl a ≠ [])
    by_cases hf : S.fl p = []
    · have ePl : (givS S p k i).pl = updF S.pl k (p :: S.pl k) := by unfold givS; rw [if_pos hf]
      rw [ePl]
      by_cases ea : a = p
      · subst ea
        rw [hfl, hc]
        by_cases e : c = k
        · subst e
          rw [updF_self]
          exact ⟨fun _ => ⟨rfl, List.cons_ne_nil _ _⟩, fun _ => List.mem_cons_self⟩
        · rw [updF_ne _ _ e, hpm, hc]
          constructor
          · rintro ⟨e2, _⟩; cases e2; exact absurd rfl e
          · rintro ⟨e2, _⟩; cases e2; exact absurd rfl e
      · rw [hfn a ea]
        by_cases e : c = k
        · subst e
          rw [updF_self, List.mem_cons, hpm]
          exact ⟨fun h => h.resolve_left ea, fun h => .inr h⟩
        · rw [updF_ne _ _ e]
          exact hpm
    · have ePl : (givS S p k i).pl = S.pl := by unfold givS; rw [if_neg hf]
      rw [ePl, hpm]
      by_cases ea : a = p
      · subst ea
        rw [hfl]
        exact ⟨fun hm => ⟨hm.1, List.cons_ne_nil _ _⟩, fun hm => ⟨hm.1, hf⟩⟩
      · rw [hfn a ea]
end Go.Proofs.YtocpnddacdpnmaaGreatDoor
