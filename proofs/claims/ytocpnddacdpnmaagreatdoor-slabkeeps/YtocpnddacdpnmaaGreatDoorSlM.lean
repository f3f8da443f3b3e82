import Derived.Test.YtocpnddacdpnmaaGreatDoorSlL
/- A slab as a thing, and the pool beneath it. -/
namespace Go.Proofs.YtocpnddacdpnmaaGreatDoor
open Go.RowKit
set_option linter.unusedVariables false

/-- How many cells a page of a class has. -/
def ncl (k : Nat) : Nat := 256 / 2 ^ k
theorem ncl_b {k : Nat} (h : k < 8) : ncl k * szC k = 4096 ∧ 2 ≤ ncl k ∧ ncl k ≤ 256 := cells_mul k h
/-- The slab pages' classes, their free cells, the partial lists. -/
structure Sb where
  c : Nat → Option Nat
  fl : Nat → List Nat
  pl : Nat → List Nat
/-- What the map says of slab pages. -/
def pOf (S : Sb) (m : Mp) : Nat → Option Pg := fun p => (S.c p).map fun _ => m.pg p
theorem pOf_none {S : Sb} {m : Mp} {p : Nat} (h : S.c p = none) : pOf S m p = none := by unfold pOf; rw [h]; rfl
theorem pOf_some {S : Sb} {m : Mp} {p k : Nat} (h : S.c p = some k) : pOf S m p = some (m.pg p) := by unfold pOf; rw [h]; rfl
theorem pOf_inv {S : Sb} {m : Mp} {p : Nat} {q : Pg} (h : pOf S m p = some q) : (∃ k, S.c p = some k) ∧ m.pg p = q := by
  cases e : S.c p with
  | none => rw [pOf_none e] at h; cases h
  | some k =>
    rw [pOf_some e] at h
    injection h with h
    exact ⟨⟨k, rfl⟩, h⟩
/-- A slab page in the map. -/
structure SlP (S : Sb) (p k : Nat) (q : Pg) : Prop where
  kd : q.kd = 4
  od : q.od = 0
  cl : q.cl = (k : Int)
  lv : q.lv = ((ncl k - (S.fl p).length : Nat) : Int)
  nx : q.nx = nxI (S.pl k) p
  pv : q.pv = pvI (S.pl k) p
  fs : q.fs = hdI (S.fl p)
  bt : ∀ i, i < 256 → litP q i = decide (i < ncl k ∧ i ∉ S.fl p)
/-- The address of what heads a list of cells. -/
def lkA (x : Bx) (p k : Nat) : List Nat → Nat
  | [] => 0
  | j :: _ => caN x p k j
/-- The links of free cells. -/
def Lnk (x : Bx) (f : Nat → Nat) (p k : Nat) : List Nat → Prop
  | [] => True
  | i :: l => M.word f (4096 * p + i * szC k) = lkA x p k l ∧ Lnk x f p k l
/-- A slab without fault. -/
structure SI (x : Bx) (t : Bt) (S : Sb) : Prop where
  eP : x.P = pOf S t.m
  pg : ∀ p k, S.c p = some k → k < 8 ∧ SlP S p k (t.m.pg p)
  fl : ∀ p k, S.c p = some k → (S.fl p).Nodup ∧ (∀ i ∈ S.fl p, i < ncl k) ∧ Lnk x t.f p k (S.fl p)
  lv : ∀ p k, S.c p = some k → (S.fl p).length ≤ ncl k
  pn : ∀ k, k < 8 → (S.pl k).Nodup
  pm : ∀ k, k < 8 → ∀ p, p ∈ S.pl k ↔ (S.c p = some k ∧ S.fl p ≠ [])
/-- Each slab page has a live cell. -/
def Lve (S : Sb) : Prop := ∀ p k, S.c p = some k → (S.fl p).length < ncl k
/-- The pages are painted anew. -/
theorem Sf.repaint {x t fr ls} (s : Sf x t fr ls) (S S' : Sb) (hP : x.P = pOf S t.m) (m' : Mp) (ho : m'.o = t.m.o) (hn : m'.n = t.m.n) (hw : m'.wd = t.m.wd) (h1 : ∀ p, S'.c p = none → m'.pg p = (if S.c p = none then t.m.pg p else blankP 2 0)) (h2 : ∀ p k, S'.c p = some k → (m'.pg p).kd = 4 ∧ (p, 0) ∈ ls) :
    Sf { x with P := pOf S' m' } { t with m := m' } fr ls := by
  obtain ⟨B, s, hN, hL⟩ := s
  refine ⟨B, ⟨?_, s.o8, ?_, ?_, ?_, s.b1, s.b2, s.tg, s.fi, ?_, s.ds, ?_, ?_, s.ch, ?_, ?_, s.nm, ?_⟩, hN, hL⟩
  · show m'.o = x.o
    rw [ho]; exact s.mo
  · show ∃ r, m'.n = r * 2 ^ x.o
    rw [hn]; exact s.dv
  · show m'.n * 4096 ≤ x.n
    rw [hn]; exact s.nb
  · show m'.n ≤ 1024
    rw [hn]; exact s.n1
  · intro g p k hb
    show k ≤ x.o ∧ p % 2 ^ k = 0 ∧ p + 2 ^ k ≤ m'.n
    rw [hn]; exact s.al g p k hb
  · intro i hi
    have hi : i < m'.n := hi
    rw [hn] at hi
    exact s.cv i hi
  · intro g p k hb h9 i hi1 hi2
    show m'.pg i = (pOf S' m' i).getD _
    cases e : S'.c i with
    | some k' => rw [pOf_some e]; rfl
    | none =>
      rw [pOf_none e, Option.getD_none, h1 i e]
      cases e2 : S.c i with
      | none =>
        rw [if_pos rfl]
        have := s.pg g p k hb h9 i hi1 hi2
        rw [hP, pOf_none e2, Option.getD_none] at this
        exact this
      | some k' =>
        rw [if_neg (by rintro ⟨⟩)]
        have hv := (s.vs i (t.m.pg i) (by rw [hP]; exact pOf_some e2)).1
        rcases s.ds _ _ _ _ _ _ hv hb with ⟨e3, e4, e5⟩ | e3 | e3
        · rw [if_pos e4, ← e3, ← e5]; rfl
        · omega
        · omega
  · intro k hk
    show (m'.wd k).length = (m'.n / 2 ^ (k + 1) + 63) / 64
    rw [hw, hn]; exact s.wl k hk
  · intro k hk i hi
    have hi : i < m'.n / 2 ^ (k + 1) := hi
    rw [hn] at hi
    show bit (m'.wd k) i = _
    rw [hw]; exact s.bt k hk i hi
  · intro p q h
    have h : pOf S' m' p = some q := h
    obtain ⟨⟨k, hk⟩, hq⟩ := pOf_inv h
    obtain ⟨h3, h4⟩ := h2 p k hk
    exact ⟨(hL p 0).2 h4, by rw [← hq]; exact h3⟩
theorem BdAt.reP {W x t} (h : BdAt W x t) (P : Nat → Option Pg) : BdAt W { x with P := P } t := ⟨h.sp, h.mp, h.ls, h.bs, h.lr, h.mo, h.iL, h.hR⟩
theorem Pol.reP {w W lw x t} (h : Pol w W lw x t) (P : Nat → Option Pg) : Pol w W lw { x with P := P } t := ⟨h.box, h.bd.reP P, h.nw, h.kp⟩
theorem SW.reP {w W sb lw x t h} (s : SW w W sb lw x t h) (P : Nat → Option Pg) : SW w W sb lw { x with P := P } t h := ⟨s.pl.reP P, s.bx, s.nw, s.tb⟩
/-- A slab over a pool, both without fault. -/
structure SO (w W : World) (sb lw : Nat) (x : Bx) (t : Bt) (fr : Nat → List Nat) (ls : List (Nat × Nat)) (S : Sb) (h : Nat → Int) : Prop where
  sw : SW w W sb lw x t h
  sf : Sf x t fr ls
  st : t.m.n * 4096 = x.n
  bm : x.base % 4096 = 0
  si : SI x t S
  hd : ∀ k, k < 8 → h k = hdI (S.pl k)
theorem SO.po {w W sb lw x t fr ls S h} (o : SO w W sb lw x t fr ls S h) : PO w W lw x t fr ls := ⟨o.sw.pl, o.sf, o.st, o.bm⟩
theorem SO.keep {w W W' sb lw x t fr ls S h} (o : SO w W sb lw x t fr ls S h) (k : Kept none' W W') : SO w W' sb lw x t fr ls S h := ⟨o.sw.keep k, o.sf, o.st, o.bm, o.si, o.hd⟩
/-- A slab page is a live block of one page. -/
theorem SO.mem {w W sb lw x t fr ls S h} (o : SO w W sb lw x t fr ls S h) {p k : Nat} (hp : S.c p = some k) : (p, 0) ∈ ls ∧ p < t.m.n ∧ p < 1024 ∧ x.base + 4096 * p + 4096 ≤ x.base + x.n := by
  have h1 := o.sf.pslab (p := p) (q := t.m.pg p) (by rw [o.si.eP]; exact pOf_some hp)
  have hn := o.po.nums.2.1
  have hst := o.st
  refine ⟨h1.1, h1.2.2.1, by omega, ?_⟩
  have h5 : (p + 1) * 4096 ≤ t.m.n * 4096 := Nat.mul_le_mul_right _ h1.2.2.1
  omega
/-- A cell by its address. -/
theorem off_cell {x : Bx} {p k i : Nat} (hk : k < 8) (hi : i < ncl k) (hb : x.base + 4096 * p + 4096 ≤ 9223372036854775808) : offS x (caN x p k i) = 4096 * p + i * szC k ∧ i * szC k + szC k ≤ 4096 ∧ caN x p k i < 18446744073709551616 := by
  have h1 := ncl_b hk
  have h2 : (i + 1) * szC k ≤ ncl k * szC k := Nat.mul_le_mul_right _ hi
  rw [Nat.add_mul, Nat.one_mul, h1.1] at h2
  have h3 : caN x p k i = x.base + 4096 * p + i * szC k := rfl
  refine ⟨?_, h2, by omega⟩
  unfold offS
  omega
theorem at_cell {x : Bx} {t : Bt} {p k i : Nat} (hk : k < 8) (hi : i < ncl k) (hb : x.base + 4096 * p + 4096 ≤ 9223372036854775808) (hp : p < t.m.n) (hkd : (t.m.pg p).kd = 4) (hcl : (t.m.pg p).cl = (k : Int)) :
    atB x t (caN x p k i) = true ∧ offS x (caN x p k i) / 4096 = p ∧ atQ x t (caN x p k i) = t.m.pg p ∧ atN x t (caN x p k i) = i := by
  obtain ⟨h1, h2, h3⟩ := off_cell (x := x) (p := p) hk hi hb
  have hz := szC_le hk
  have e1 : offS x (caN x p k i) / 4096 = p := by rw [h1]; omega
  have e2 : offS x (caN x p k i) % 4096 = i * szC k := by rw [h1]; omega
  have e3 : atQ x t (caN x p k i) = t.m.pg p := by
    unfold atQ atP
    rw [e1, if_pos (inR_yes hp), Int.toNat_natCast]
  have e4 : (t.m.pg p).cl.toNat = k := by rw [hcl]; rfl
  refine ⟨?_, e1, e3, ?_⟩
  · unfold atB
    rw [e3, e4, e2, decide_eq_true hkd, decide_eq_true (Nat.mul_mod_left _ _)]
    rfl
  · unfold atN
    rw [e3, e4, e2, Nat.mul_div_cancel _ (by omega)]
end Go.Proofs.YtocpnddacdpnmaaGreatDoor
