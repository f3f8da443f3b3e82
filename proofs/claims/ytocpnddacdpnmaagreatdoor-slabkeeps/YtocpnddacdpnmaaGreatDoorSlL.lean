import Derived.Test.YtocpnddacdpnmaaGreatDoorSlK
/- Partial lists as lists: who stands behind a page, who ahead of it. -/
namespace Go.Proofs.YtocpnddacdpnmaaGreatDoor
open Go.RowKit
set_option linter.unusedVariables false

def hdI : List Nat → Int
  | [] => -1
  | a :: _ => (a : Int)
/-- What stands behind p. -/
def nxI : List Nat → Nat → Int
  | [], _ => -1
  | a :: l, p => if a = p then hdI l else nxI l p
/-- What stands ahead of p. -/
def pvI : List Nat → Nat → Int
  | [], _ => -1
  | a :: l, p => if hdI l = (p : Int) then (a : Int) else pvI l p
theorem hdI_nil {l : List Nat} : hdI l = -1 ↔ l = [] := by
  cases l with
  | nil => exact ⟨fun _ => rfl, fun _ => rfl⟩
  | cons a l =>
    refine ⟨fun e => ?_, fun e => by cases e⟩
    have e : (a : Int) = -1 := e
    omega
theorem hdI_mem {l : List Nat} {p : Nat} (h : hdI l = (p : Int)) : p ∈ l := by
  cases l with
  | nil =>
    have h : (-1 : Int) = (p : Int) := h
    omega
  | cons a l =>
    have h : (a : Int) = (p : Int) := h
    rw [show p = a by omega]
    exact List.mem_cons_self
theorem hdI_cases (l : List Nat) : hdI l = -1 ∨ ∃ r : Nat, hdI l = (r : Int) ∧ r ∈ l := by
  cases l with
  | nil => exact .inl rfl
  | cons a l => exact .inr ⟨a, rfl, List.mem_cons_self⟩
theorem nxI_out {l : List Nat} {p : Nat} (h : p ∉ l) : nxI l p = -1 := by
  induction l with
  | nil => rfl
  | cons a l ih =>
    rw [List.mem_cons, not_or] at h
    rw [nxI, if_neg (fun e => h.1 e.symm)]
    exact ih h.2
theorem pvI_out {l : List Nat} {p : Nat} (h : p ∉ l) : pvI l p = -1 := by
  induction l with
  | nil => rfl
  | cons a l ih =>
    rw [List.mem_cons, not_or] at h
    rw [pvI, if_neg (fun e => h.2 (hdI_mem e))]
    exact ih h.2
theorem nxI_cases (l : List Nat) (p : Nat) (hd : l.Nodup) : nxI l p = -1 ∨ ∃ r : Nat, nxI l p = (r : Int) ∧ r ∈ l ∧ r ≠ p := by
  induction l with
  | nil => exact .inl rfl
  | cons a l ih =>
    rw [List.nodup_cons] at hd
    rw [nxI]
    by_cases e : a = p
    · rw [if_pos e]
      rcases hdI_cases l with h | ⟨r, h1, h2⟩
      · exact .inl h
      · exact .inr ⟨r, h1, List.mem_cons_of_mem _ h2, fun e2 => hd.1 (by rw [e, ← e2]; exact h2)⟩
    · rw [if_neg e]
      rcases ih hd.2 with h | ⟨r, h1, h2, h3⟩
      · exact .inl h
      · exact .inr ⟨r, h1, List.mem_cons_of_mem _ h2, h3⟩
theorem pvI_cases (l : List Nat) (p : Nat) (hd : l.Nodup) : pvI l p = -1 ∨ ∃ r : Nat, pvI l p = (r : Int) ∧ r ∈ l ∧ r ≠ p := by
  induction l with
  | nil => exact .inl rfl
  | cons a l ih =>
    rw [List.nodup_cons] at hd
    rw [pvI]
    by_cases e : hdI l = (p : Int)
    · rw [if_pos e]
      exact .inr ⟨a, rfl, List.mem_cons_self, fun e2 => hd.1 (by rw [e2]; exact hdI_mem e)⟩
    · rw [if_neg e]
      rcases ih hd.2 with h | ⟨r, h1, h2, h3⟩
      · exact .inl h
      · exact .inr ⟨r, h1, List.mem_cons_of_mem _ h2, h3⟩
/-- The head has none ahead of it. -/
theorem pvI_head {a : Nat} {l : List Nat} (hd : (a :: l).Nodup) : pvI (a :: l) a = -1 := by
  rw [List.nodup_cons] at hd
  rw [pvI, if_neg (fun e => hd.1 (hdI_mem e))]
  exact pvI_out hd.1
theorem pvI_no {l : List Nat} {p : Nat} (hd : l.Nodup) (hp : p ∈ l) : pvI l p = -1 ↔ hdI l = (p : Int) := by
  cases l with
  | nil => cases hp
  | cons a l =>
    constructor
    · intro h
      rcases List.mem_cons.1 hp with e | hm
      · rw [e]; rfl
      · exfalso
        clear hp
        induction l generalizing a with
        | nil => cases hm
        | cons b l ih =>
          rw [pvI] at h
          by_cases e : hdI (b :: l) = (p : Int)
          · rw [if_pos e] at h
            omega
          · rw [if_neg e] at h
            rcases List.mem_cons.1 hm with e2 | hm2
            · exact e (by rw [e2]; rfl)
            · exact ih b (List.nodup_cons.1 hd).2 h hm2
    · intro h
      have h : (a : Int) = (p : Int) := h
      rw [show p = a by omega]
      exact pvI_head hd
theorem dropL_cons_self {l : List Nat} {p : Nat} (h : p ∉ l) : M.dropL (p :: l) p = l := by
  unfold M.dropL
  rw [List.filter_cons_of_neg (by simp)]
  exact List.filter_eq_self.2 fun q hq => by simp; exact fun e => h (e ▸ hq)
theorem dropL_cons_ne {l : List Nat} {a p : Nat} (h : a ≠ p) : M.dropL (a :: l) p = a :: M.dropL l p := by
  unfold M.dropL
  rw [List.filter_cons_of_pos (by simp [h])]
theorem dropL_out {l : List Nat} {p : Nat} (h : p ∉ l) : M.dropL l p = l := by
  unfold M.dropL
  exact List.filter_eq_self.2 fun q hq => by simp; exact fun e => h (e ▸ hq)
theorem dropL_nd {l : List Nat} (h : l.Nodup) (p : Nat) : (M.dropL l p).Nodup := h.filter _
theorem hdI_drop {l : List Nat} {p : Nat} (hd : l.Nodup) (hp : p ∈ l) : hdI (M.dropL l p) = if pvI l p = -1 then nxI l p else hdI l := by
  cases l with
  | nil => cases hp
  | cons a l =>
    have hn := List.nodup_cons.1 hd
    by_cases e : a = p
    · subst e
      rw [dropL_cons_self hn.1, if_pos (pvI_head hd), nxI, if_pos rfl]
    · rw [dropL_cons_ne e, if_neg]
      · rfl
      · rw [pvI_no hd hp]
        intro h
        have h : (a : Int) = (p : Int) := h
        omega
theorem nxI_drop {l : List Nat} {p r : Nat} (hd : l.Nodup) (hp : p ∈ l) (hr : r ≠ p) : nxI (M.dropL l p) r = if (r : Int) = pvI l p then nxI l p else nxI l r := by
  induction l with
  | nil => cases hp
  | cons a l ih =>
    have hn := List.nodup_cons.1 hd
    by_cases e : a = p
    · subst e
      rw [dropL_cons_self hn.1, pvI_head hd, if_neg (by omega)]
      show nxI l r = if a = r then hdI l else nxI l r
      rw [if_neg (fun h => hr h.symm)]
    · have hpl : p ∈ l := by
        rcases List.mem_cons.1 hp with h | h
        · exact absurd h.symm e
        · exact h
      rw [dropL_cons_ne e]
      have hnx : nxI (a :: l) p = nxI l p := by rw [nxI, if_neg e]
      rw [hnx]
      by_cases e2 : a = r
      · subst e2
        rw [nxI, if_pos rfl, hdI_drop hn.2 hpl, nxI, if_pos rfl, pvI]
        by_cases e3 : hdI l = (p : Int)
        · rw [if_pos e3, if_pos rfl, if_pos ((pvI_no hn.2 hpl).2 e3)]
        · rw [if_neg e3, if_neg (fun h => e3 ((pvI_no hn.2 hpl).1 h)), if_neg]
          intro h
          rcases pvI_cases l p hn.2 with h2 | ⟨b, h2, h3, _⟩
          · rw [h2] at h
            omega
          · rw [h2] at h
            exact hn.1 (by rw [show a = b by omega]; exact h3)
      · rw [nxI, if_neg e2, ih hn.2 hpl, nxI, if_neg e2, pvI]
        by_cases e3 : hdI l = (p : Int)
        · rw [if_pos e3, (pvI_no hn.2 hpl).2 e3, if_neg (by omega), if_neg (fun h => e2 (by omega))]
        · rw [if_neg e3]
theorem pvI_drop {l : List Nat} {p r : Nat} (hd : l.Nodup) (hp : p ∈ l) (hr : r ≠ p) : pvI (M.dropL l p) r = if (r : Int) = nxI l p then pvI l p else pvI l r := by
  induction l with
  | nil => cases hp
  | cons a l ih =>
    have hn := List.nodup_cons.1 hd
    by_cases e : a = p
    · subst e
      rw [dropL_cons_self hn.1, pvI_head hd]
      have hnx : nxI (a :: l) a = hdI l := by rw [nxI, if_pos rfl]
      rw [hnx]
      by_cases e2 : (r : Int) = hdI l
      · rw [if_pos e2]
        exact (pvI_no hn.2 (hdI_mem e2.symm)).2 e2.symm
      · rw [if_neg e2, pvI, if_neg (fun h => e2 h.symm)]
    · have hpl : p ∈ l := by
        rcases List.mem_cons.1 hp with h | h
        · exact absurd h.symm e
        · exact h
      rw [dropL_cons_ne e]
      have hnx : nxI (a :: l) p = nxI l p := by rw [nxI, if_neg e]
      rw [hnx, pvI, hdI_drop hn.2 hpl, ih hn.2 hpl, pvI, pvI]
      by_cases e3 : hdI l = (p : Int)
      · have h1 := (pvI_no hn.2 hpl).2 e3
        rw [if_pos h1, if_pos e3, h1]
        by_cases e4 : nxI l p = (r : Int)
        · rw [if_pos e4, if_pos e4.symm]
        · rw [if_neg e4, if_neg (fun h => e4 h.symm), if_neg (fun h => e4 h.symm), if_neg]
          intro h
          rw [e3] at h
          exact hr (by omega)
      · have h1 : ¬ pvI l p = -1 := fun h => e3 ((pvI_no hn.2 hpl).1 h)
        rw [if_neg h1, if_neg e3]
        by_cases e4 : hdI l = (r : Int)
        · rw [if_pos e4]
          by_cases e5 : (r : Int) = nxI l p
          · exfalso
            -- the head stands behind nobody
            cases l with
            | nil => cases hpl
            | cons b l =>
              have e4 : (b : Int) = (r : Int) := e4
              have : nxI (b :: l) p = (b : Int) := by rw [← e5, e4]
              rw [nxI] at this
              have hn2 := List.nodup_cons.1 hn.2
              by_cases e6 : b = p
              · exact e3 (by rw [e6]; rfl)
              · rw [if_neg e6] at this
                rcases nxI_cases l p hn2.2 with h | ⟨c, h2, h3, _⟩
                · omega
                · exact hn2.1 (by rw [show b = c by omega]; exact h3)
          · rw [if_neg e5, if_pos e4]
        · rw [if_neg e4, if_neg e4]
end Go.Proofs.YtocpnddacdpnmaaGreatDoor
