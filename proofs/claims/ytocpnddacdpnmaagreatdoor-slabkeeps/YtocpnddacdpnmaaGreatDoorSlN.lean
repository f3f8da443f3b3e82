import Derived.Test.YtocpnddacdpnmaaGreatDoorSlM
/- The partial lists in the map: put and unlink as changes of pages. -/
namespace Go.Proofs.YtocpnddacdpnmaaGreatDoor
open Go.RowKit
set_option linter.unusedVariables false

theorem lnk_no (n : Nat) : lnk n (-1) = true := by unfold lnk; rfl
theorem lnk_yes {n r : Nat} (h : r < n) : lnk n (r : Int) = true := by unfold lnk; rw [inR_yes h, Bool.or_true]
theorem chainM_yes {m : Mp} {p : Nat} {a b : Int} (hp : p < m.n) (hk : (m.pg p).kd = 4) (ha : lnk m.n a = true) (hb : lnk m.n b = true) : chainM m (p : Int) a b = { m with pg := upp m.pg p { m.pg p with nx := a, pv := b } } := by
  unfold chainM canChain
  rw [Int.toNat_natCast, inR_yes hp, decide_eq_true hk, ha, hb]
  rfl
theorem chainM_neg (m : Mp) (a b : Int) : chainM m (-1) a b = m := by
  unfold chainM canChain
  rw [show inR m.n (-1) = false from decide_eq_false (by omega)]
  rfl
theorem atP_in {m : Mp} {p : Nat} (hp : p < m.n) : atP m (p : Int) = m.pg p := by unfold atP; rw [if_pos (inR_yes hp), Int.toNat_natCast]
theorem setPrevM_yes {m : Mp} {r : Nat} {v : Int} (hr : r < m.n) (hk : (m.pg r).kd = 4) (hn : lnk m.n (m.pg r).nx = true) (hv : lnk m.n v = true) : setPrevM m (r : Int) v = { m with pg := upp m.pg r { m.pg r with pv := v } } := by
  unfold setPrevM
  rw [atP_in hr, chainM_yes hr hk hn hv]
theorem setPrevM_neg (m : Mp) (v : Int) : setPrevM m (-1) v = m := chainM_neg _ _ _
theorem setNextM_yes {m : Mp} {r : Nat} {v : Int} (hr : r < m.n) (hk : (m.pg r).kd = 4) (hn : lnk m.n (m.pg r).pv = true) (hv : lnk m.n v = true) : setNextM m (r : Int) v = { m with pg := upp m.pg r { m.pg r with nx := v } } := by
  unfold setNextM
  rw [atP_in hr, chainM_yes hr hk hv hn]
/-- The pages behind a put. -/
def putP (pg : Nat → Pg) (l : List Nat) (p : Nat) : Nat → Pg := fun r => if r = p then { pg p with nx := hdI l, pv := -1 } else if (r : Int) = hdI l then { pg r with pv := (p : Int) } else pg r
theorem put_pg {m : Mp} {h : Nat → Int} {p c : Nat} {l : List Nat} (hp : p < m.n) (hk : (m.pg p).kd = 4) (hh : h c = hdI l) (hl : ∀ r ∈ l, r < m.n ∧ (m.pg r).kd = 4 ∧ lnk m.n (m.pg r).nx = true) (hpl : p ∉ l) : putM m h (p : Int) c = { m with pg := putP m.pg l p } := by
  unfold putM
  rw [hh]
  cases l with
  | nil =>
    show setPrevM (chainM m (p : Int) (-1) (-1)) (-1) (p : Int) = _
    rw [setPrevM_neg, chainM_yes hp hk (lnk_no _) (lnk_no _)]
    refine congrArg (fun g => ({ m with pg := g } : Mp)) (funext fun r => ?_)
    unfold upp putP
    by_cases e : r = p
    · rw [if_pos e, if_pos e]; rfl
    · rw [if_neg e, if_neg e, if_neg (by show ¬ (r : Int) = -1; omega)]
  | cons b l =>
    obtain ⟨h1, h2, h3⟩ := hl b List.mem_cons_self
    have hbp : b ≠ p := fun e => hpl (by rw [e]; exact List.mem_cons_self)
    show setPrevM (chainM m (p : Int) (b : Int) (-1)) (b : Int) (p : Int) = _
    rw [chainM_yes hp hk (lnk_yes h1) (lnk_no _)]
    have e1 : upp m.pg p { m.pg p with nx := (b : Int), pv := -1 } b = m.pg b := by unfold upp; rw [if_neg hbp]
    rw [setPrevM_yes (m := { m with pg := upp m.pg p { m.pg p with nx := (b : Int), pv := -1 } }) h1 (by show (upp m.pg p _ b).kd = 4; rw [e1]; exact h2) (by show lnk m.n (upp m.pg p _ b).nx = true; rw [e1]; exact h3) (lnk_yes hp)]
    show ({ m with pg := upp (upp m.pg p { m.pg p with nx := (b : Int), pv := -1 }) b { upp m.pg p { m.pg p with nx := (b : Int), pv := -1 } b with pv := (p : Int) } } : Mp) = _
    rw [e1]
    refine congrArg (fun g => ({ m with pg := g } : Mp)) (funext fun r => ?_)
    unfold upp putP
    by_cases e : r = p
    · rw [if_neg (show ¬ r = b from fun e2 => hbp (e2.symm.trans e)), if_pos e, if_pos e]; rfl
    · rw [if_neg e]
      by_cases e2 : r = b
      · rw [if_pos e2, if_neg e, if_pos (by rw [e2]; rfl), e2]
      · rw [if_neg e2, if_neg e, if_neg]
        intro e3
        have e3 : (r : Int) = (b : Int) := e3
        omega
/-- The pages behind an unlink. -/
def unlP (pg : Nat → Pg) (l : List Nat) (p : Nat) : Nat → Pg := fun r => if r = p then { pg p with nx := -1, pv := -1 } else { pg r with nx := if (r : Int) = pvI l p then nxI l p else (pg r).nx, pv := if (r : Int) = nxI l p then pvI l p else (pg r).pv }
theorem unl_pg {m : Mp} {h : Nat → Int} {p c : Nat} {l : List Nat} (hd : l.Nodup) (hp : p ∈ l) (hl : ∀ r ∈ l, r < m.n ∧ (m.pg r).kd = 4 ∧ (m.pg r).nx = nxI l r ∧ (m.pg r).pv = pvI l r) : unlM m (p : Int) = { m with pg := unlP m.pg l p } ∧ unlH m h (p : Int) c = if pvI l p = -1 then uphI h c (nxI l p) else h := by
  obtain ⟨p1, p2, p3, p4⟩ := hl p hp
  have lk : ∀ r ∈ l, lnk m.n (nxI l r) = true ∧ lnk m.n (pvI l r) = true := fun r hr => by
    constructor
    · rcases nxI_cases l r hd with e | ⟨b, e, hb, _⟩
      · rw [e]; exact lnk_no _
      · rw [e]; exact lnk_yes (hl b hb).1
    · rcases pvI_cases l r hd with e | ⟨b, e, hb, _⟩
      · rw [e]; exact lnk_no _
      · rw [e]; exact lnk_yes (hl b hb).1
  refine ⟨?_, by unfold unlH; rw [atP_in p1, p3, p4]⟩
  unfold unlM
  rw [atP_in p1, p3, p4]
  -- the one behind
  obtain ⟨m1, hm1, hm1n, hpg1⟩ : ∃ m1 : Mp, setPrevM m (nxI l p) (pvI l p) = m1 ∧ (m1.n = m.n ∧ m1 = { m with pg := m1.pg }) ∧ ∀ r, m1.pg r = if (r : Int) = nxI l p then { m.pg r with pv := pvI l p } else m.pg r := by
    rcases nxI_cases l p hd with e | ⟨b, e, hb, hbp⟩
    · refine ⟨m, by rw [e, setPrevM_neg], ⟨rfl, rfl⟩, fun r => ?_⟩
      rw [e, if_neg (by omega)]
    · obtain ⟨b1, b2, b3, b4⟩ := hl b hb
      refine ⟨{ m with pg := upp m.pg b { m.pg b with pv := pvI l p } }, by rw [e]; exact setPrevM_yes b1 b2 (by rw [b3]; exact (lk b hb).1) (lk p hp).2, ⟨rfl, rfl⟩, fun r => ?_⟩
      show upp m.pg b _ r = _
      unfold upp
      rw [e]
      by_cases e2 : r = b
      · rw [if_pos e2, if_pos (by rw [e2]), e2]
      · rw [if_neg e2, if_neg (by omega)]
  rw [hm1]
  -- the one ahead
  obtain ⟨m2, hm2, hm2n, hpg2⟩ : ∃ m2 : Mp, (if pvI l p = -1 then m1 else setNextM m1 (pvI l p) (nxI l p)) = m2 ∧ (m2.n = m.n ∧ m2 = { m with pg := m2.pg }) ∧ ∀ r, m2.pg r = if (r : Int) = pvI l p then { m1.pg r with nx := nxI l p } else m1.pg r := by
    rcases pvI_cases l p hd with e | ⟨b, e, hb, hbp⟩
    · refine ⟨m1, by rw [if_pos e], hm1n, fun r => ?_⟩
      rw [e, if_neg (by omega)]
    · obtain ⟨b1, b2, b3, b4⟩ := hl b hb
      have hk1 : (m1.pg b).kd = 4 := by
        rw [hpg1]
        split
        · exact b2
        · exact b2
      have hl1 : lnk m1.n (m1.pg b).pv = true := by
        rw [hpg1, hm1n.1]
        split
        · exact (lk p hp).2
        · rw [b4]; exact (lk b hb).2
      refine ⟨{ m1 with pg := upp m1.pg b { m1.pg b with nx := nxI l p } }, by rw [if_neg (by rw [e]; omega), e]; exact setNextM_yes (by rw [hm1n.1]; exact b1) hk1 hl1 (by rw [hm1n.1]; exact (lk p hp).1), ⟨hm1n.1, ?_⟩, fun r => ?_⟩
      · show ({ m1 with pg := _ } : Mp) = { m with pg := _ }
        rw [hm1n.2]
      · show upp m1.pg b _ r = _
        unfold upp
        rw [e]
        by_cases e2 : r = b
        · rw [if_pos e2, if_pos (by rw [e2]), e2]
        · rw [if_neg e2, if_neg (by omega)]
  rw [hm2]
  have np : ¬ (p : Int) = nxI l p := fun e => by
    rcases nxI_cases l p hd with h | ⟨b, h, _, hb⟩
    · omega
    · exact hb (by omega)
  have pp : ¬ (p : Int) = pvI l p := fun e => by
    rcases pvI_cases l p hd with h | ⟨b, h, _, hb⟩
    · omega
    · exact hb (by omega)
  have hp2 : m2.pg p = m.pg p := by rw [hpg2, if_neg pp, hpg1, if_neg np]
  rw [chainM_yes (by rw [hm2n.1]; exact p1) (by rw [hp2]; exact p2) (by exact lnk_no _) (by exact lnk_no _), hp2, hm2n.2]
  show ({ m with pg := upp m2.pg p { m.pg p with nx := -1, pv := -1 } } : Mp) = _
  refine congrArg (fun g => ({ m with pg := g } : Mp)) (funext fun r => ?_)
  unfold upp unlP
  by_cases e : r = p
  · rw [if_pos e, if_pos e]
  · rw [if_neg e, if_neg e, hpg2, hpg1]
    by_cases e1 : (r : Int) = pvI l p
    · rw [if_pos e1, if_pos e1]
      by_cases e2 : (r : Int) = nxI l p
      · rw [if_pos e2, if_pos e2]
      · rw [if_neg e2, if_neg e2]
    · rw [if_neg e1, if_neg e1]
      by_cases e2 : (r : Int) = nxI l p
      · rw [if_pos e2, if_pos e2]
      · rw [if_neg e2, if_neg e2]
/-- Only nx and pv are other. -/
def Rst (q q' : Pg) : Prop := ∃ a b, q' = { q with nx := a, pv := b }
theorem putP_rst (pg : Nat → Pg) (l : List Nat) (p r : Nat) : Rst (pg r) (putP pg l p r) := by
  unfold putP
  by_cases e : r = p
  · rw [if_pos e, e]; exact ⟨_, _, rfl⟩
  · rw [if_neg e]
    split
    · exact ⟨(pg r).nx, _, rfl⟩
    · exact ⟨(pg r).nx, (pg r).pv, rfl⟩
theorem unlP_rst (pg : Nat → Pg) (l : List Nat) (p r : Nat) : Rst (pg r) (unlP pg l p r) := by
  unfold unlP
  by_cases e : r = p
  · rw [if_pos e, e]; exact ⟨_, _, rfl⟩
  · rw [if_neg e]; exact ⟨_, _, rfl⟩
/-- The links of a class's pages are those of its list. -/
def NP (pg : Nat → Pg) (S : Sb) (k : Nat) (l : List Nat) : Prop := ∀ r, S.c r = some k → (pg r).nx = nxI l r ∧ (pg r).pv = pvI l r
theorem put_np {pg : Nat → Pg} {S : Sb} {k p : Nat} {l : List Nat} (h : NP pg S k l) (hd : l.Nodup) (hp : p ∉ l) : NP (putP pg l p) S k (p :: l) := fun r hr => by
  obtain ⟨h1, h2⟩ := h r hr
  unfold putP
  by_cases e : r = p
  · rw [if_pos e, e]
    exact ⟨by show hdI l = _; rw [nxI, if_pos rfl], (pvI_head (List.nodup_cons.2 ⟨hp, hd⟩)).symm⟩
  · have n1 : nxI (p :: l) r = nxI l r := by rw [nxI, if_neg (fun e2 => e e2.symm)]
    have n2 : pvI (p :: l) r = if hdI l = (r : Int) then (p : Int) else pvI l r := rfl
    rw [if_neg e, n1, n2]
    by_cases e2 : (r : Int) = hdI l
    · rw [if_pos e2, if_pos e2.symm]; exact ⟨h1, rfl⟩
    · rw [if_neg e2, if_neg (fun e3 => e2 e3.symm)]; exact ⟨h1, h2⟩
theorem unl_np {pg : Nat → Pg} {S : Sb} {k p : Nat} {l : List Nat} (h : NP pg S k l) (hd : l.Nodup) (hp : p ∈ l) : NP (unlP pg l p) S k (M.dropL l p) := fun r hr => by
  obtain ⟨h1, h2⟩ := h r hr
  unfold unlP
  by_cases e : r = p
  · have ho : p ∉ M.dropL l p := by rw [mem_drop]; exact fun h => h.2 rfl
    rw [if_pos e, e, nxI_out ho, pvI_out ho]
    exact ⟨rfl, rfl⟩
  · rw [if_neg e, nxI_drop hd hp e, pvI_drop hd hp e]
    exact ⟨by show (if _ then _ else _) = _; rw [h1], by show (if _ then _ else _) = _; rw [h2]⟩
end Go.Proofs.YtocpnddacdpnmaaGreatDoor
