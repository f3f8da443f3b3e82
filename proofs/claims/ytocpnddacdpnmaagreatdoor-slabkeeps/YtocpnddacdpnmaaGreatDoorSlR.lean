import Derived.Test.YtocpnddacdpnmaaGreatDoorSlQ
/- Package slab: a fresh page: the pool beneath, the chain of its cells. -/
namespace Go.Proofs.YtocpnddacdpnmaaGreatDoor
open Go.RowKit
set_option linter.unusedVariables false

theorem caN_sm {x x' : Bx} (h : x'.base = x.base) (p k n : Nat) : caN x' p k n = caN x p k n := by unfold caN; rw [h]
theorem Lnk_move {x x' : Bx} {f f' : Nat → Nat} {p k : Nat} (hb : x'.base = x.base) : ∀ {l : List Nat}, (∀ i ∈ l, M.word f' (4096 * p + i * szC k) = M.word f (4096 * p + i * szC k)) → Lnk x f p k l → Lnk x' f' p k l
  | [], _, _ => trivial
  | i :: l, hf, h => ⟨by
      rw [hf i List.mem_cons_self, h.1]
      cases l with
      | nil => rfl
      | cons j l => exact (caN_sm hb p k j).symm, Lnk_move hb (fun j hj => hf j (List.mem_cons_of_mem _ hj)) h.2⟩
theorem word_congr {f g : Nat → Nat} {o : Nat} (h : ∀ i, i < 8 → g (o + i) = f (o + i)) : M.word g o = M.word f o := by
  unfold M.word
  exact wordTo_congr _ _ 8 h
/-- The pool was called: the slab pages stay. -/
theorem SO.pool {w W W' sb lw x t fr ls S h x1 t1 fr1 ls1} (o : SO w W sb lw x t fr ls S h) (po : PO w W' lw x1 t1 fr1 ls1) (sm : Sm x x1) (bk : BK t t1 ls ls1) (sub : ∀ p k, S.c p = some k → (p, 0) ∈ ls1) (kp : Kept (bown x) W W') : SO w W' sb lw x1 t1 fr1 ls1 S h := by
  have hpage : ∀ p k, S.c p = some k → t1.m.pg p = t.m.pg p := fun p k hp =>
    (po.sf.pslab (p := p) (q := t.m.pg p) (by rw [sm.P, o.si.eP]; exact pOf_some hp)).2.2.2
  refine ⟨⟨po.pl, ?_, o.sw.nw, o.sw.tb⟩, po.sf, po.st, po.bm, ⟨?_, fun p k hp => ?_, fun p k hp => ?_, o.si.lv, o.si.pn, o.si.pm⟩, o.hd⟩
  · rw [sm.base]
    exact (kp.block _ (heap_lt o.sw.bx) (fun e => o.sw.nsb (.inl e))).trans o.sw.bx
  · rw [sm.P, o.si.eP]
    funext p
    cases e : S.c p with
    | none => rw [pOf_none e, pOf_none e]
    | some k => rw [pOf_some e, pOf_some e, hpage p k e]
  · obtain ⟨h1, h2⟩ := o.si.pg p k hp
    rw [hpage p k hp]
    exact ⟨h1, h2⟩
  · obtain ⟨n1, n2, n3⟩ := o.si.fl p k hp
    have hk := (o.si.pg p k hp).1
    have hnb := ncl_b hk
    have hz := szC_le hk
    refine ⟨n1, n2, Lnk_move sm.base (fun i hi => word_congr fun j hj => ?_) n3⟩
    have hib := n2 i hi
    have h2 : (i + 1) * szC k ≤ ncl k * szC k := Nat.mul_le_mul_right _ hib
    rw [Nat.add_mul, Nat.one_mul, hnb.1] at h2
    have hd : (4096 * p + i * szC k + j) / 4096 = p := by omega
    refine bk _ ?_ ?_
    · rw [hd]; exact ⟨p, 0, (o.mem hp).1, Nat.le_refl _, by omega⟩
    · rw [hd]; exact ⟨p, 0, sub p k hp, Nat.le_refl _, by omega⟩
/-- The chain's words. -/
theorem chF_far (f : Nat → Nat) (P off z : Nat) (hz : 8 ≤ z) : ∀ k i, k ≤ i → M.word (chF f P off z k) (off + i * z) = M.word f (off + i * z)
  | 0, i, _ => rfl
  | k + 1, i, h => by
    rw [chF, M.word_far _ _ _ _ (.inl ?_)]
    · exact chF_far f P off z hz k i (by omega)
    · have : (k + 1) * z ≤ i * z := Nat.mul_le_mul_right _ h
      rw [Nat.add_mul, Nat.one_mul] at this
      omega
theorem chF_word (f : Nat → Nat) (P off z : Nat) (hz : 8 ≤ z) : ∀ k i, i < k → P + k * z < 18446744073709551616 → M.word (chF f P off z k) (off + i * z) = P + (i + 1) * z
  | 0, i, h, _ => absurd h (Nat.not_lt_zero _)
  | k + 1, i, h, h64 => by
    rw [chF]
    by_cases e : i = k
    · subst e
      rw [M.word_upd _ _ _ h64]
    · have hl : i < k := by omega
      have h1 : (i + 1) * z ≤ k * z := Nat.mul_le_mul_right _ hl
      rw [Nat.add_mul, Nat.one_mul] at h1
      have h2 : k * z ≤ (k + 1) * z := Nat.mul_le_mul_right _ (by omega)
      rw [M.word_far _ _ _ _ (.inr (by omega))]
      exact chF_word f P off z hz k i hl (by omega)
theorem chF_out (f : Nat → Nat) (P off z : Nat) : ∀ k j, (∀ i, i < k → ¬ (off + i * z ≤ j ∧ j < off + i * z + 8)) → chF f P off z k j = f j
  | 0, j, _ => rfl
  | k + 1, j, h => by
    rw [chF]
    unfold M.upd
    rw [if_neg (h k (by omega))]
    exact chF_out f P off z k j (fun i hi => h i (by omega))
/-- Outside of the page nothing is other. -/
theorem chA_out (f : Nat → Nat) (x : Bx) (p k : Nat) (hk : k < 8) (j : Nat) (hj : ¬ (4096 * p ≤ j ∧ j < 4096 * p + 4096)) : chA f (ad x p) (4096 * p) (szC k) (ncl k) j = f j := by
  have hnb := ncl_b hk
  have hz := szC_le hk
  have hin : ∀ i, i < ncl k → i * szC k + szC k ≤ 4096 := fun i hi => by
    have h2 : (i + 1) * szC k ≤ ncl k * szC k := Nat.mul_le_mul_right _ hi
    rw [Nat.add_mul, Nat.one_mul, hnb.1] at h2
    exact h2
  unfold chA
  have h1 := hin (ncl k - 1) (by omega)
  unfold M.upd
  rw [if_neg (by omega)]
  refine chF_out _ _ _ _ _ _ fun i hi => ?_
  have := hin i (by omega)
  omega
theorem range_lnk (x : Bx) (f : Nat → Nat) (p k : Nat) (hk : k < 8) (hb : x.base + 4096 * p + 4096 ≤ 9223372036854775808) : ∀ n a, a + n = ncl k → Lnk x (chA f (ad x p) (4096 * p) (szC k) (ncl k)) p k (List.range' a n)
  | 0, a, _ => trivial
  | n + 1, a, h => by
    have hnb := ncl_b hk
    have hz := szC_le hk
    obtain ⟨M1, hM⟩ : ∃ M1, ncl k = M1 + 1 := ⟨ncl k - 1, by omega⟩
    have hMz : M1 * szC k + szC k = 4096 := by
      have := hnb.1
      rw [hM, Nat.add_mul, Nat.one_mul] at this
      exact this
    refine ⟨?_, range_lnk x f p k hk hb n (a + 1) (by omega)⟩
    unfold chA
    rw [show ncl k - 1 = M1 by omega]
    cases n with
    | zero =>
      have ea : a = M1 := by omega
      subst ea
      rw [M.word_upd _ _ _ (by decide)]
      rfl
    | succ n =>
      have hl : a < M1 := by omega
      have h1 : (a + 1) * szC k ≤ M1 * szC k := Nat.mul_le_mul_right _ hl
      rw [Nat.add_mul, Nat.one_mul] at h1
      rw [M.word_far _ _ _ _ (.inr (by omega)), chF_word _ _ _ _ (by omega) M1 a hl (by unfold ad; omega)]
      show _ = caN x p k (a + 1)
      unfold caN ad
      rfl
/-- A fresh page comes onto its list. -/
def freS (S : Sb) (p k : Nat) : Sb := ⟨updF S.c p (some k), updF S.fl p (List.range' 0 (ncl k)), updF S.pl k (p :: S.pl k)⟩
/-- What the map says of it. -/
def freM (m : Mp) (h : Nat → Int) (p k : Nat) : Mp := putM (firstM (slabM m (p : Int) (k : Int)) (p : Int) 0) h (p : Int) k
theorem lit_zero {q : Pg} (h0 : q.b0 = 0) (h1 : q.b1 = 0) (h2 : q.b2 = 0) (h3 : q.b3 = 0) (i : Nat) : litP q i = false := by
  unfold litP
  have : wP q (i / 64) = 0 := by
    unfold wP
    split <;> assumption
  rw [this]
  simp
theorem freM_pg {m : Mp} {h : Nat → Int} {p k : Nat} {l : List Nat} (hp : p < m.n) (hk : k < 8) (hh : h k = hdI l) (hl : ∀ r ∈ l, r < m.n ∧ (m.pg r).kd = 4 ∧ lnk m.n (m.pg r).nx = true) (hpl : p ∉ l) : freM m h p k = { m with pg := putP (upp m.pg p { slabP (k : Int) with fs := 0 }) l p } := by
  have hnb := ncl_b hk
  have e1 : slabM m (p : Int) (k : Int) = { m with pg := upp m.pg p (slabP (k : Int)) } := by
    unfold slabM
    rw [if_pos ⟨inR_yes hp, by omega, by omega⟩, Int.toNat_natCast]
  have e2 : upp m.pg p (slabP (k : Int)) p = slabP (k : Int) := if_pos rfl
  have e3 : firstM { m with pg := upp m.pg p (slabP (k : Int)) } (p : Int) 0 = { m with pg := upp m.pg p { slabP (k : Int) with fs := 0 } } := by
    rw [firstM_yes (m := { m with pg := upp m.pg p (slabP (k : Int)) }) (c := (0 : Int)) hp (by show (upp m.pg p _ p).kd = 4; rw [e2]; rfl) (.inr ⟨0, rfl, by
      show 0 < ncell (upp m.pg p _ p).cl
      rw [e2]
      show 0 < ncl k
      omega⟩)]
    show ({ m with pg := upp (upp m.pg p (slabP (k : Int))) p { upp m.pg p (slabP (k : Int)) p with fs := 0 } } : Mp) = _
    rw [e2]
    refine congrArg (fun g => ({ m with pg := g } : Mp)) (funext fun a => ?_)
    unfold upp
    by_cases e : a = p
    · rw [if_pos e, if_pos e]
    · rw [if_neg e, if_neg e, if_neg e]
  unfold freM
  rw [e1, e3]
  have e4 : upp m.pg p { slabP (k : Int) with fs := 0 } p = { slabP (k : Int) with fs := 0 } := if_pos rfl
  exact put_pg (m := { m with pg := upp m.pg p { slabP (k : Int) with fs := 0 } }) hp (by show (upp m.pg p _ p).kd = 4; rw [e4]; rfl) hh (fun r hr => by
    have hrp : r ≠ p := fun e => hpl (e ▸ hr)
    have e5 : upp m.pg p { slabP (k : Int) with fs := 0 } r = m.pg r := if_neg hrp
    show r < m.n ∧ (upp m.pg p _ r).kd = 4 ∧ lnk m.n (upp m.pg p _ r).nx = true
    rw [e5]
    exact hl r hr) hpl
end Go.Proofs.YtocpnddacdpnmaaGreatDoor
