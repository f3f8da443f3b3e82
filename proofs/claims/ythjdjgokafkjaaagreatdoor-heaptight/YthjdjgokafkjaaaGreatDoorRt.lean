import Derived.Test.YthjdjgokafkjaaaGreatDoorHnC
import Derived.Test.YthjdjgokafkjaaaGreatDoorHtR
/- HeapTight: a heap whose live blocks have all one size. -/
namespace Go.Proofs.YthjdjgokafkjaaaGreatDoor
open Go.RowKit
set_option linter.unusedVariables false

/-- The live blocks are just those of a list, all of m bytes. -/
structure TL (x : Bx) (ls : List (Nat × Nat)) (S : Sb) (m : Nat) (l : List Nat) : Prop where
  nd : l.Nodup
  iff : ∀ a z, Lth x ls S a z ↔ (a ∈ l ∧ z = m)
/-- The sizes that the statement asks for. -/
def S3k (m : Nat) : Prop := (∃ k, k < 8 ∧ m = szC k) ∨ m = 4096
theorem S3k.dv {m : Nat} (h : S3k m) : 16 ≤ m ∧ m ≤ 4096 ∧ ∃ c, 4096 = c * m := by
  rcases h with ⟨k, hk, rfl⟩ | rfl
  · have := szC_le hk
    exact ⟨this.1, by omega, ncl k, (ncl_b hk).1.symm⟩
  · exact ⟨by decide, by decide, 1, rfl⟩
section
variable {w W : World} {sb lw : Nat} {x : Bx} {t : Bt} {fr : Nat → List Nat} {ls : List (Nat × Nat)} {S : Sb} {h : Nat → Int} {m : Nat} {l : List Nat}
/-- A live cell of a slab page. -/
theorem Lve.cell (v : Lve S) {g k : Nat} (hc : S.c g = some k) : ∃ i, Liv x S (caN x g k i) g k i := by
  obtain ⟨i, h1, h2⟩ := pigeon _ _ (v g k hc)
  exact ⟨i, hc, h1, h2, rfl⟩
theorem TL.kind (o : SO w W sb lw x t fr ls S h) (v : Lve S) (T : TL x ls S m l) {g : Nat} (hg : g < t.m.n) : (∃ k, S.c g = some k ∧ m = szC k) ∨ ((g, 0) ∈ ls ∧ S.c g = none ∧ m = 4096) ∨ (∃ q k, (q, k) ∈ ls ∧ S.c q = none ∧ S.c g = none ∧ q ≤ g ∧ g < q + 2 ^ k ∧ m = 4096 * 2 ^ k) ∨ (∃ q j, q ∈ fr j ∧ j ≤ x.o ∧ S.c g = none ∧ q ≤ g ∧ g < q + 2 ^ j) := by
  cases o.kind hg with
  | slab k hc =>
    obtain ⟨i, hi⟩ := v.cell (x := x) hc
    exact .inl ⟨k, hc, ((T.iff _ _).1 (.inl ⟨g, k, i, hi, rfl⟩)).2.symm⟩
  | big q k hm hc hgn h1 h2 hp => exact .inr (.inr (.inl ⟨q, k, hm, hc, hgn, h1, h2, ((T.iff _ _).1 (.inr ⟨q, k, hm, hc, rfl, rfl⟩)).2.symm⟩))
  | free q j hm hj hgn h1 h2 hp => exact .inr (.inr (.inr ⟨q, j, hm, hj, hgn, h1, h2⟩))
/-- Where there is no place, each place is taken. -/
theorem TL.full (o : SO w W sb lw x t fr ls S h) (v : Lve S) (T : TL x ls S m l) (hs : S3k m) (nf : NF x fr S m) (j : Nat) (hj : (j + 1) * m ≤ x.n) : Lth x ls S (x.base + j * m) m := by
  obtain ⟨d1, d2, c, hc⟩ := hs.dv
  have hst := o.st
  rw [Nat.add_mul, Nat.one_mul] at hj
  have hg : j * m / 4096 < t.m.n := by omega
  have hfr : ∀ a, a ≤ x.o → fr a = [] := by
    rcases hs with ⟨k, hk, rfl⟩ | rfl
    · exact ((NF.cell hk).1 nf).2
    · exact fun a ha => (NF.page (k := 0) (Nat.zero_le _)).1 nf a (Nat.zero_le _) ha
  rcases T.kind o v hg with ⟨k, hk, hm⟩ | ⟨hk, hn, hm⟩ | ⟨q, k, h1, h2, h3, h4, h5, hm⟩ | ⟨q, a, h1, h2, _⟩
  · have hk8 := (o.si.pg _ k hk).1
    have hpl : S.pl k = [] := by rw [hm] at nf; exact ((NF.cell hk8).1 nf).1
    have hfl : S.fl (j * m / 4096) = [] := by
      cases e : S.fl (j * m / 4096) with
      | nil => rfl
      | cons i r =>
        have := (o.si.pm k hk8 (j * m / 4096)).2 ⟨hk, by rw [e]; exact List.cons_ne_nil _ _⟩
        rw [hpl] at this
        cases this
    have hnb := ncl_b hk8
    rw [← hm] at hnb
    have hmod : j * m % 4096 % m = 0 := by
      rw [hc, Nat.mul_comm c m, Nat.mod_mul_right_mod]
      exact Nat.mul_mod_left _ _
    have hdm := Nat.div_add_mod (j * m % 4096) m
    rw [hmod, Nat.add_zero] at hdm
    refine .inl ⟨j * m / 4096, k, j * m % 4096 / m, ⟨hk, ?_, by rw [hfl]; exact List.not_mem_nil, ?_⟩, hm⟩
    · refine Nat.lt_of_not_le fun hle => ?_
      have := Nat.mul_le_mul_right m hle
      rw [hnb.1, Nat.mul_comm] at this
      omega
    · unfold caN
      rw [← hm, Nat.mul_comm (j * m % 4096 / m) m, hdm]
      omega
  · have hjj : j * m / 4096 = j := by rw [hm]; exact Nat.mul_div_cancel _ (by decide)
    rw [hjj] at hk hn
    rw [hm]
    exact .inr ⟨j, 0, hk, hn, by unfold ad; omega, rfl⟩
  · rcases hs with ⟨k2, hk2, e⟩ | e
    · exact absurd (e.symm.trans hm) (szC_pg hk2)
    · have hk0 : k = 0 := pg_inj8 (show 4096 * 2 ^ k = 4096 * 2 ^ 0 by rw [← hm, e])
      subst hk0
      rw [Nat.pow_zero] at h5
      have hjj : j * m / 4096 = j := by rw [e]; exact Nat.mul_div_cancel _ (by decide)
      rw [hjj] at h4 h5
      have hqj : q = j := by omega
      subst hqj
      rw [e]
      exact .inr ⟨q, 0, h1, h2, by unfold ad; omega, rfl⟩
  · rw [hfr a h2] at h1
    cases h1
/-- The places of the live blocks. -/
theorem TL.pos (o : SO w W sb lw x t fr ls S h) (T : TL x ls S m l) (hs : S3k m) {a : Nat} (ha : a ∈ l) : ∃ j, a = x.base + j * m ∧ (j + 1) * m ≤ x.n := by
  obtain ⟨d1, d2, c, hc⟩ := hs.dv
  have hl := (T.iff a m).2 ⟨ha, rfl⟩
  have hi := o.inside hl
  have hp : ∃ j, a = x.base + j * m := by
    rcases hl with ⟨g, k, i, ⟨h1, h2, h3, h4⟩, h5⟩ | ⟨q, k, h1, h2, h4, h5⟩
    · refine ⟨g * c + i, ?_⟩
      rw [h4]
      unfold caN
      rw [← h5, Nat.add_mul, Nat.mul_assoc, ← hc]
      omega
    · refine ⟨q * c, ?_⟩
      rw [h4]
      unfold ad
      rw [Nat.mul_assoc, ← hc]
      omega
  obtain ⟨j, rfl⟩ := hp
  refine ⟨j, rfl, ?_⟩
  rw [Nat.add_mul, Nat.one_mul]
  omega
/-- Their numbers. -/
def nmb (x : Bx) (m : Nat) (l : List Nat) : List Nat := l.map fun a => (a - x.base) / m
theorem TL.nmb_nd (o : SO w W sb lw x t fr ls S h) (T : TL x ls S m l) (hs : S3k m) {N : Nat} (hN : x.n = N * m) : (nmb x m l).Nodup ∧ (∀ i ∈ nmb x m l, i < N) ∧ (∀ j, j ∈ nmb x m l ↔ (x.base + j * m) ∈ l) := by
  have hm0 : 0 < m := by have := hs.dv.1; omega
  have hv : ∀ j, (x.base + j * m - x.base) / m = j := fun j => by
    rw [Nat.add_sub_cancel_left, Nat.mul_div_cancel _ hm0]
  refine ⟨?_, ?_, ?_⟩
  · unfold nmb
    refine nodup_map_on T.nd (fun a ha b hb e => ?_)
    obtain ⟨i, rfl, _⟩ := T.pos o hs ha
    obtain ⟨j, rfl, _⟩ := T.pos o hs hb
    rw [hv, hv] at e
    rw [e]
  · intro i hi
    obtain ⟨a, ha, rfl⟩ := List.mem_map.1 hi
    obtain ⟨j, rfl, hj⟩ := T.pos o hs ha
    rw [hv]
    rw [hN] at hj
    exact Nat.le_of_mul_le_mul_right hj hm0
  · intro j
    constructor
    · intro hj
      obtain ⟨a, ha, e⟩ := List.mem_map.1 hj
      obtain ⟨i, rfl, _⟩ := T.pos o hs ha
      rw [hv] at e
      rw [← e]
      exact ha
    · exact fun hj => List.mem_map.2 ⟨_, hj, hv j⟩
theorem TL.le (o : SO w W sb lw x t fr ls S h) (T : TL x ls S m l) (hs : S3k m) {N : Nat} (hN : x.n = N * m) : l.length ≤ N := by
  obtain ⟨h1, h2, _⟩ := T.nmb_nd o hs hN
  have := nodup_le N _ h1 h2
  unfold nmb at this
  rwa [List.length_map] at this
theorem TL.eq (o : SO w W sb lw x t fr ls S h) (v : Lve S) (T : TL x ls S m l) (hs : S3k m) {N : Nat} (hN : x.n = N * m) (nf : NF x fr S m) : l.length = N := by
  obtain ⟨h1, h2, h3⟩ := T.nmb_nd o hs hN
  have hle := T.le o hs hN
  rcases Nat.lt_or_ge l.length N with e | e
  · obtain ⟨i, hi, hn⟩ := pigeon N (nmb x m l) (by unfold nmb; rw [List.length_map]; exact e)
    have := T.full o v hs nf i (by rw [hN]; exact Nat.mul_le_mul_right _ hi)
    exact absurd ((h3 i).2 ((T.iff _ _).1 this).1) hn
  · omega
theorem TL.all (o : SO w W sb lw x t fr ls S h) (T : TL x ls S m l) (hs : S3k m) {N : Nat} (hN : x.n = N * m) (hl : l.length = N) (j : Nat) (hj : j < N) : (x.base + j * m) ∈ l := by
  obtain ⟨h1, h2, h3⟩ := T.nmb_nd o hs hN
  rw [← h3]
  refine Decidable.byContradiction fun hn => ?_
  have := nodup_le N (j :: nmb x m l) (List.nodup_cons.2 ⟨hn, h1⟩) (fun i hi => by
    rcases List.mem_cons.1 hi with rfl | hi
    · exact hj
    · exact h2 i hi)
  unfold nmb at this
  rw [List.length_cons, List.length_map] at this
  omega
end
end Go.Proofs.YthjdjgokafkjaaaGreatDoor
/- HeapTight: what is left at multiples of a size: no place, and the bytes. -/
namespace Go.Proofs.YthjdjgokafkjaaaGreatDoor
open Go.RowKit
set_option linter.unusedVariables false

/-- Of a heap's places just those at multiples of nn are taken. -/
structure TM (x : Bx) (ls : List (Nat × Nat)) (S : Sb) (m nn : Nat) (l : List Nat) : Prop where
  t : TL x ls S m l
  a : ∀ q, (q + 1) * nn ≤ x.n → (x.base + q * nn) ∈ l
  b : ∀ a, a ∈ l → (a - x.base) % nn = 0
  d : ∃ c, x.n = c * nn
section
variable {w W : World} {hb sb lw : Nat} {x : Bx} {t : Bt} {fr : Nat → List Nat} {ls : List (Nat × Nat)} {S : Sb} {s : Int} {m kn : Nat} {l : List Nat}
theorem SO.free_page {h : Nat → Int} (o : SO w W sb lw x t fr ls S h) {q a : Nat} (hq : q ∈ fr a) (ha : a ≤ x.o) : q % 2 ^ a = 0 ∧ q + 2 ^ a ≤ t.m.n ∧ ∀ z, 0 < z → ¬ Lth x ls S (x.base + 4096 * q) z := by
  have hal : a ≤ x.o ∧ q % 2 ^ a = 0 ∧ q + 2 ^ a ≤ t.m.n := by
    obtain ⟨B, sd, hN, hB⟩ := o.sf
    exact sd.al 0 q a ((sd.fi q a).2 ⟨ha, hq⟩)
  have hz : 0 < 2 ^ a := Nat.pow_pos (by decide)
  have n4 := o.po.nums.2.2.2.1
  have hst := o.st
  have hoff : offS x (x.base + 4096 * q) / 4096 = q := by
    unfold offS
    omega
  refine ⟨hal.2.1, hal.2.2, fun z hz0 hl => ?_⟩
  have hL := (o.lth_at hl (Nat.le_refl _) (by omega)).2
  rw [hoff] at hL
  obtain ⟨B, sd, hN, hB⟩ := o.sf
  cases hL with
  | cell k i c1 =>
    rcases sd.ds _ _ _ _ _ _ ((sd.fi q a).2 ⟨ha, hq⟩) ((hB q 0).2 (o.mem c1).1) with ⟨e, _⟩ | e | e
    · exact absurd e (by decide)
    · omega
    · rw [Nat.pow_zero] at e; omega
  | big q2 k hm2 _ _ g1 g2 =>
    rcases sd.ds _ _ _ _ _ _ ((sd.fi q a).2 ⟨ha, hq⟩) ((hB q2 k).2 hm2) with ⟨e, _⟩ | e | e
    · exact absurd e (by decide)
    · omega
    · omega
theorem TM.nofree (H : HW w W hb sb lw x t fr ls S s) (T : TM x ls S m (4096 * 2 ^ kn) l) (hm : 0 < m) (a : Nat) (hka : kn ≤ a) (ha : a ≤ x.o) : fr a = [] := by
  obtain ⟨h, o⟩ := H.so
  cases e : fr a with
  | nil => rfl
  | cons q r =>
    exfalso
    obtain ⟨h1, h2, h3⟩ := o.free_page (show q ∈ fr a by rw [e]; exact List.mem_cons_self) ha
    obtain ⟨c, hc⟩ : ∃ c, q = c * 2 ^ kn := by
      refine ⟨q / 2 ^ kn, (Nat.div_mul_cancel ?_).symm⟩
      exact Nat.dvd_trans (Nat.pow_dvd_pow 2 hka) (Nat.dvd_of_mod_eq_zero h1)
    have hpp : 2 ^ kn ≤ 2 ^ a := Nat.pow_le_pow_right (by decide) hka
    have hst := o.st
    have hin := T.a c (by
      rw [Nat.add_mul, Nat.one_mul, show c * (4096 * 2 ^ kn) = 4096 * q by rw [hc, Nat.mul_left_comm]]
      omega)
    rw [show c * (4096 * 2 ^ kn) = 4096 * q by rw [hc, Nat.mul_left_comm]] at hin
    exact h3 m hm ((T.t.iff _ _).2 ⟨hin, rfl⟩)
theorem TM.nf (H : HW w W hb sb lw x t fr ls S s) (T : TM x ls S m (4096 * 2 ^ kn) l) (hm : 0 < m) (hko : kn ≤ x.o) (r : Nat) (hr : (∃ k, k < 8 ∧ r = szC k ∧ m ≠ r ∧ kn = 0) ∨ r = 4096 * 2 ^ kn) : NF x fr S r := by
  rcases hr with ⟨k, hk, rfl, hne, rfl⟩ | rfl
  · refine (NF.cell hk).2 ⟨?_, fun a ha => T.nofree H hm a (Nat.zero_le _) ha⟩
    obtain ⟨h, o⟩ := H.so
    cases e : S.pl k with
    | nil => rfl
    | cons p q =>
      exfalso
      have hc := ((o.si.pm k hk p).1 (by rw [e]; exact List.mem_cons_self)).1
      obtain ⟨i, hi⟩ := H.lv.cell (x := x) hc
      exact hne ((T.t.iff _ _).1 (.inl ⟨p, k, i, hi, rfl⟩)).2.symm
  · exact (NF.page hko).2 fun a h1 h2 => T.nofree H hm a h1 h2
theorem mod4 {g i P : Nat} (hP : 0 < P) (h : (4096 * g + i) % (4096 * P) = 0) (hi : i < 4096) : i = 0 ∧ g % P = 0 := by
  have h1 : (4096 * g + i) % 4096 = 0 := by
    have := Nat.mod_mul_right_mod (4096 * g + i) 4096 P
    rw [h] at this
    omega
  have hi0 : i = 0 := by omega
  subst hi0
  refine ⟨rfl, ?_⟩
  rw [Nat.add_zero, Nat.mul_mod_mul_left] at h
  omega
/-- What a page brings. -/
theorem TM.pl (H : HW w W hb sb lw x t fr ls S s) (T : TM x ls S m (4096 * 2 ^ kn) l) (hs : S3k m) {g : Nat} (hg : g < t.m.n) : plL (t.m.pg g) = if g % 2 ^ kn = 0 then m else 0 := by
  obtain ⟨d1, d2, c, hc4⟩ := hs.dv
  have hP : 0 < 2 ^ kn := Nat.pow_pos (by decide)
  obtain ⟨h, o⟩ := H.so
  have hst := o.st
  have n4 := o.po.nums.2.2.2.1
  have hoff : offS x (x.base + 4096 * g) / 4096 = g := by
    unfold offS
    omega
  have yes : g % 2 ^ kn = 0 → Lth x ls S (x.base + 4096 * g) m := fun e => by
    obtain ⟨d, hd⟩ : ∃ d, g = d * 2 ^ kn := ⟨g / 2 ^ kn, (Nat.div_mul_cancel (Nat.dvd_of_mod_eq_zero e)).symm⟩
    have hdg : d * (4096 * 2 ^ kn) = 4096 * g := by rw [hd, Nat.mul_left_comm]
    obtain ⟨c2, hc2⟩ := T.d
    have hin := T.a d (by
      rw [hc2]
      refine Nat.mul_le_mul_right _ ?_
      refine Nat.lt_of_mul_lt_mul_right (a := 4096 * 2 ^ kn) ?_
      rw [← hc2, hdg]
      omega)
    rw [hdg] at hin
    exact (T.t.iff _ _).2 ⟨hin, rfl⟩
  have cellz : ∀ k i, S.c g = some k → i < ncl k → i ∉ S.fl g → i = 0 ∧ g % 2 ^ kn = 0 := fun k i hc hi hf => by
    have hk := (o.si.pg g k hc).1
    have hz := szC_le hk
    have hof := off_cell (x := x) (p := g) hk hi (by
      have := (o.mem hc).2.2.2
      omega)
    have hin := ((T.t.iff _ _).1 (.inl ⟨g, k, i, ⟨hc, hi, hf, rfl⟩, rfl⟩)).1
    have hb := T.b _ hin
    rw [show caN x g k i - x.base = 4096 * g + i * szC k by unfold caN; omega] at hb
    obtain ⟨e1, e2⟩ := mod4 hP hb (by omega)
    refine ⟨?_, e2⟩
    rcases Nat.mul_eq_zero.1 e1 with e | e
    · exact e
    · omega
  rcases T.t.kind o H.lv hg with ⟨k, hk, hm⟩ | ⟨hk, hn, hm⟩ | ⟨q, k, h1, h2, h3, h4, h5, hm⟩ | ⟨q, a, h1, h2, h3, h4, h5⟩
  · obtain ⟨i0, v1, v2, v3, _⟩ := H.lv.cell (x := x) hk
    obtain ⟨rfl, hg0⟩ := cellz k i0 v1 v2 v3
    rw [(H.pl_slab hk).1, if_pos hg0]
    have hcnt := o.cells_of hk [0] (by simp) (fun i => by
      constructor
      · intro e
        rw [List.mem_singleton] at e
        subst e
        exact ⟨v2, v3⟩
      · rintro ⟨e1, e2⟩
        rw [List.mem_singleton]
        exact (cellz k i hk e1 e2).1)
    rw [← hcnt, List.length_singleton, Nat.one_mul, hm]
  · have hin := ((T.t.iff _ _).1 (.inr ⟨g, 0, hk, hn, rfl, rfl⟩)).1
    have hb := T.b _ hin
    rw [show ad x g - x.base = 4096 * g + 0 by unfold ad; omega] at hb
    have hg0 := (mod4 hP hb (by decide)).2
    have := (H.pl_big hk hn (Nat.le_refl _) (by rw [Nat.pow_zero]; omega)).1
    rw [if_pos rfl] at this
    rw [this, if_pos hg0, hm]
  · rcases hs with ⟨k2, hk2, e⟩ | e
    · exact absurd (e.symm.trans hm) (szC_pg hk2)
    · have hk0 : k = 0 := pg_inj8 (show 4096 * 2 ^ k = 4096 * 2 ^ 0 by rw [← hm, e])
      subst hk0
      rw [Nat.pow_zero] at h5
      have hqg : q = g := by omega
      subst hqg
      have hin := ((T.t.iff _ _).1 (.inr ⟨q, 0, h1, h2, rfl, rfl⟩)).1
      have hb := T.b _ hin
      rw [show ad x q - x.base = 4096 * q + 0 by unfold ad; omega] at hb
      have hg0 := (mod4 hP hb (by decide)).2
      have := (H.pl_big h1 h2 (Nat.le_refl _) (by rw [Nat.pow_zero]; omega)).1
      rw [if_pos rfl] at this
      rw [this, if_pos hg0, e]
  · rw [if_neg]
    · cases o.kind hg with
      | slab k hc => rw [h3] at hc; cases hc
      | big q2 k hm hc hgn g1 g2 hp =>
        exfalso
        obtain ⟨B, sd, hN, hB⟩ := o.sf
        rcases sd.ds _ _ _ _ _ _ ((sd.fi q a).2 ⟨h2, h1⟩) ((hB q2 k).2 hm) with ⟨e, _⟩ | e | e
        · exact absurd e (by decide)
        · omega
        · omega
      | free q2 j hm hj hgn g1 g2 hp =>
        rw [hp]
        unfold plL blankP
        by_cases e : g = q2
        · rw [if_pos e]
          rfl
        · rw [if_neg e]
          rfl
    · intro e
      have hl := yes e
      have := o.ar_free (p := x.base + 4096 * g) h1 h2 (by rw [hoff]; exact h4) (by rw [hoff]; exact h5) (by rw [hoff]; exact h3) 0 0
      rcases this with ⟨e2, _⟩ | ⟨_, hn⟩
      · cases e2
      · exact hn _ _ hl ⟨Nat.le_refl _, by omega⟩
/-- How many multiples there are below a number. -/
def cM (P : Nat) : Nat → Nat
  | 0 => 0
  | i + 1 => cM P i + if i % P = 0 then 1 else 0
theorem cM_eq {P : Nat} (hP : 0 < P) : ∀ i, cM P i = (i + P - 1) / P
  | 0 => by
    rw [cM, Nat.zero_add, Nat.div_eq_of_lt (by omega)]
  | i + 1 => by
    rw [cM, cM_eq hP i]
    have h1 := Nat.div_add_mod i P
    have h2 := Nat.mod_lt i hP
    obtain ⟨a, ha⟩ : ∃ a, a = i / P := ⟨_, rfl⟩
    obtain ⟨b, hb⟩ : ∃ b, b = i % P := ⟨_, rfl⟩
    rw [← ha, ← hb] at h1
    rw [← hb] at h2 ⊢
    have e1 : i + 1 + P - 1 = b + P * (a + 1) := by rw [Nat.mul_add, Nat.mul_one]; omega
    rw [e1, Nat.add_mul_div_left _ _ hP, Nat.div_eq_of_lt h2]
    by_cases hb0 : b = 0
    · rw [if_pos hb0]
      have e2 : i + P - 1 = (P - 1) + P * a := by omega
      rw [e2, Nat.add_mul_div_left _ _ hP, Nat.div_eq_of_lt (by omega)]
      omega
    · rw [if_neg hb0]
      have e2 : i + P - 1 = (b - 1) + P * (a + 1) := by rw [Nat.mul_add, Nat.mul_one]; omega
      rw [e2, Nat.add_mul_div_left _ _ hP, Nat.div_eq_of_lt (by omega)]
      omega
theorem TM.sum (H : HW w W hb sb lw x t fr ls S s) (T : TM x ls S m (4096 * 2 ^ kn) l) (hs : S3k m) : ∀ i, i ≤ t.m.n → stS plL t.m i = m * cM (2 ^ kn) i
  | 0, _ => rfl
  | i + 1, hi => by
    rw [stS, T.sum H hs i (by omega), T.pl H hs (by omega), cM, Nat.mul_add]
    by_cases e : i % 2 ^ kn = 0
    · rw [if_pos e, if_pos e, Nat.mul_one]
    · rw [if_neg e, if_neg e, Nat.mul_zero]
/-- The bound is met. -/
theorem TM.bound (H : HW w W hb sb lw x t fr ls S s) (T : TM x ls S m (4096 * 2 ^ kn) l) (hs : S3k m) : (4096 * 2 ^ kn) * stS plL t.m t.m.n = m * x.n := by
  have hP : 0 < 2 ^ kn := Nat.pow_pos (by decide)
  obtain ⟨h, o⟩ := H.so
  have hst := o.st
  obtain ⟨c, hc⟩ := T.d
  have hn : t.m.n = c * 2 ^ kn := by
    refine Nat.eq_of_mul_eq_mul_right (show 0 < 4096 by decide) ?_
    rw [hst, hc, Nat.mul_assoc, Nat.mul_comm 4096]
  rw [T.sum H hs _ (Nat.le_refl _), cM_eq hP, hn, hc]
  have : (c * 2 ^ kn + 2 ^ kn - 1) / 2 ^ kn = c := by
    rw [show c * 2 ^ kn + 2 ^ kn - 1 = (2 ^ kn - 1) + 2 ^ kn * c by rw [Nat.mul_comm c]; omega, Nat.add_mul_div_left _ _ hP, Nat.div_eq_of_lt (by omega), Nat.zero_add]
  rw [this, Nat.mul_left_comm, Nat.mul_comm c]
end
end Go.Proofs.YthjdjgokafkjaaaGreatDoor
/- Rows of numbers that grow beside a heap. (Written by mk8h.py off GonB.) -/
namespace Go.Proofs.YthjdjgokafkjaaaGreatDoor
open Go.RowKit
set_option linter.unusedVariables false

theorem GS.pushK {w0 W : World} {e : TypeId} {size : Nat} {v : Value} {n : Nat} {xs : List Value} (h : GS w0 W e size v n xs) (t : TypeId) (i : TypeInfo) (z : Value) (bytes : Nat)
    (ht : Tryz.prog.underlying t = some (.slice e)) (hi : Tryz.prog.info? e = some i) (hz : i.zero = some z) (hs : i.size = size) (hby : i.bytes = bytes) (hzs : z.cells.size = size) (hsz : 0 < size)
    (a : Addr) (c : Nat) (news : List Value) (hl : news.length = size) (hnews : ∀ j u, news[j]? = some u → W.cell? (a.add j) = some u) (h1 : ∀ u ∈ news, u.oneCell' = true) (h63 : n + 1 ≤ maxLen) (hbb : (n + 1) * bytes ≤ 140737488355328) :
    ∃ g cap w', (∀ ty, (Builtin.append_ #[t, t] ty #[v, .slice (some a) 1 c]).run Tryz.prog W = .ok (.slice (some ⟨g, 0, none⟩) (n + 1) cap) w') ∧ GS w0 w' e size (.slice (some ⟨g, 0, none⟩) (n + 1) cap) (n + 1) (xs ++ news) ∧ w0.heap.size ≤ g ∧ Kept (fun b => v.ownBlock = some b) W w' ∧ (v.ownBlock = some g ∨ W.heap.size ≤ g) := by
  have hl' : news.length = 1 * size := by rw [hl, Nat.one_mul]
  have ho := h.own
  by_cases hr : ∃ g cap, v = .slice (some ⟨g, 0, none⟩) n cap ∧ n + 1 ≤ cap
  · obtain ⟨g, cap, rfl, hroom⟩ := hr
    obtain ⟨w', hrun, hown, hgr⟩ := run_append_fits (P := Tryz.prog) W 0 t 0 e i size ht hi hs g n cap xs ho a 1 c news hl' hnews h1 hroom
    have hg := (h.new g cap rfl).resolve_left (by omega)
    have hk := grown_kept' hgr
    refine ⟨g, cap, w', fun ty => ?_, ⟨hown, fun g' cap' e => ?_, h.kp.trans hk (fun _ _ x => x) (fun x hx e => ?_)⟩, hg, hk, .inl (by simp [Value.ownBlock])⟩
    · rw [← hrun]; simp [Builtin.append_]
    · simp at e; exact .inr (by omega)
    · cases e; omega
  · have key : ∃ v' w', (Builtin.append_ #[t, t] 0 #[v, .slice (some a) 1 c]).run Tryz.prog W = .ok v' w' ∧ w'.ownsRow W.heap.size e size v' (n + 1) (xs ++ news) ∧ Kept none' W w' := by
      rcases ho.2 with ⟨rfl, h0⟩ | ⟨g, cap, cur, rfl, hb, hg, hnc, hcm, hcs, htake⟩
      · subst h0
        have : xs = [] := List.eq_nil_of_length_eq_zero (by rw [ho.1, Nat.zero_mul])
        subst this
        obtain ⟨v', w', hrun, hown, hgr, _⟩ := run_append_own (P := Tryz.prog) W W.heap.size t 0 e i z size bytes ht hi hz hs hby hzs hsz (.slice none 0 0) 0 [] (World.ownsRow_nil _ _ _ _) a 1 c news hl' hnews h1 h63 hbb (Nat.le_refl _)
        exact ⟨v', w', hrun, hown, (grown_kept' hgr).mono (fun _ _ e => by cases e)⟩
      · obtain ⟨v', w', hrun, hown, hgr⟩ := run_append_arg_grows (P := Tryz.prog) W t 0 e i z size bytes ht hi hz hs hby hzs hsz ⟨g, 0, none⟩ n cap xs ho.1 (fun j u hj => by
          rw [Addr.add_lit, Nat.zero_add]
          rw [← htake, List.getElem?_take] at hj
          split at hj
          · simp only [World.cell?, hg]
            rw [← Array.getElem?_toList, hj]
            rfl
          · cases hj) a 1 c news hl' hnews (Nat.lt_of_not_le fun hle => hr ⟨g, cap, rfl, hle⟩) h63 hbb
        exact ⟨v', w', hrun, hown, (grown_kept' hgr).mono (fun _ _ e => by cases e)⟩
    obtain ⟨v', w', hrun, hown, hk⟩ := key
    rcases hown.2 with ⟨_, h0⟩ | ⟨g, cap, cur, rfl, hb, hg, h3⟩
    · omega
    · refine ⟨g, cap, w', fun ty => ?_, ⟨⟨hown.1, .inr ⟨g, cap, cur, rfl, Nat.zero_le _, hg, h3⟩⟩, fun g' cap' e => ?_, none_trans h.kp hk⟩, Nat.le_trans h.kp.size hb, hk.mono (fun _ _ e => e.elim), .inr hb⟩
      · rw [← hrun]; simp [Builtin.append_]
      · simp at e
        exact .inr (by have := h.kp.size; omega)
theorem push_uK {w0 W : World} {v : Value} {n : Nat} {xs : List Value} (h : GS w0 W 27 1 v n xs) (y : Int) (hn : n ≤ 5000) :
    ∃ g cap w', (∀ t, (Builtin.append_ #[59, 59] t #[v, .slice (some ⟨W.heap.size, 0, none⟩) 1 1]).run Tryz.prog (W.alloc (.cells #[.int .u64 y] 27)) = .ok (.slice (some ⟨g, 0, none⟩) (n + 1) cap) w') ∧ GS w0 w' 27 1 (.slice (some ⟨g, 0, none⟩) (n + 1) cap) (n + 1) (xs ++ [.int .u64 y]) ∧ w0.heap.size ≤ g ∧ g < w'.heap.size ∧ Kept (fun b => v.ownBlock = some b) W w' ∧ (v.ownBlock = some g ∨ W.heap.size ≤ g) := by
  obtain ⟨i, hi, hzz⟩ := Option.map_eq_some_iff.1 info_w64
  simp only [Prod.mk.injEq] at hzz
  have ka := (Kept.refl none' W).alloc (.cells #[.int .u64 y] 27)
  obtain ⟨g, cap, w', h1, h2, h5, h6, h7⟩ := (h.keep ka).pushK 59 i (.int .u64 0) 8 Tryz.underlying59 hi hzz.1 hzz.2.1 hzz.2.2 rfl (by decide) ⟨W.heap.size, 0, none⟩ 1 [.int .u64 y] rfl (fun j u hj => cells_new (cs := #[.int .u64 y]) j u hj) (by simp [Value.oneCell']) (by simp only [maxLen]; omega) (by omega)
  obtain ⟨cs, hc⟩ := own_ty h2.own (y := g) (by simp [Value.ownBlock])
  refine ⟨g, cap, w', h1, h2, h5, heap_lt hc, ka.trans h6 (fun _ _ e => e.elim) (fun _ _ e => e), h7.imp (fun e => e) (fun e => Nat.le_trans ka.size e)⟩
theorem GS.keptE {w W W' : World} {e : TypeId} {v : Value} {n : Nat} {xs : List Value} (h : GS w W e 1 v n xs) (k : Kept none' w W') (hE : ∀ y, v.ownBlock = some y → W'.heap[y]? = W.heap[y]?) : GS w W' e 1 v n xs := by
  refine ⟨⟨h.own.1, ?_⟩, h.new, k⟩
  rcases h.own.2 with h0 | ⟨g, cap, cur, rfl, hb, hg, h3⟩
  · exact .inl h0
  · exact .inr ⟨g, cap, cur, rfl, hb, (hE g (by simp [Value.ownBlock])).trans hg, h3⟩
end Go.Proofs.YthjdjgokafkjaaaGreatDoor
/- HeapTight: the heap and the list of its blocks. -/
namespace Go.Proofs.YthjdjgokafkjaaaGreatDoor
open Go.RowKit
set_option linter.unusedVariables false

/-- Numbers in cells. -/
def u64s (l : List Nat) : List Value := l.map fun a : Nat => .int .u64 (a : Int)
/-- A row of numbers beside a heap is written. -/
theorem HW.apart {w W W' : World} {hb sb lw : Nat} {x : Bx} {t : Bt} {fr : Nat → List Nat} {ls : List (Nat × Nat)} {S : Sb} {s : Int} (H : HW w W hb sb lw x t fr ls S s) {y0 : Nat} {cs : Array Value} {z : Nat × Nat} (hy : W.heap[y0]? = some (.cells cs 27 z)) (h1 : ¬ sown x sb y0) (k : Kept (fun y => y = y0) W W') (kp : Kept none' w W') : HW w W' hb sb lw x t fr ls S s := by
  obtain ⟨h, o⟩ := H.so
  have hpty : ∀ y, (bown x y ∨ y = x.b ∨ y = x.l ∨ y = lw) → y ≠ y0 := by
    rintro y (hy2 | rfl | rfl | rfl) e
    · exact h1 (.inl (e ▸ hy2))
    · exact absurd (ty_ne' (e ▸ o.sw.pl.bd.bs) hy) (by decide)
    · obtain ⟨cs', hl, _⟩ := o.sw.pl.bd.lr
      exact absurd (ty_ne' (e ▸ hl) hy) (by decide)
    · exact absurd (ty_ne' (e ▸ o.sw.pl.box) hy) (by decide)
  have hsb : sb ≠ y0 := fun e => h1 (.inr e.symm)
  have hhb : hb ≠ y0 := fun e => absurd (ty_ne' (e ▸ H.bx) hy) (by decide)
  refine ⟨⟨h, ⟨⟨⟨(k.block _ (heap_lt o.sw.pl.box) (hpty _ (.inr (.inr (.inr rfl))))).trans o.sw.pl.box, o.sw.pl.bd.kept k (fun y hy2 => hpty y ?_), o.sw.pl.nw, kp⟩, (k.block _ (heap_lt o.sw.bx) hsb).trans o.sw.bx, o.sw.nw, o.sw.tb⟩, o.sf, o.st, o.bm, o.si, o.hd⟩⟩, H.lv, (k.block _ (heap_lt H.bx) hhb).trans H.bx, H.nw, H.br⟩
  rcases hy2 with hy2 | hy2 | hy2
  · exact .inl hy2
  · exact .inr (.inl hy2)
  · exact .inr (.inr (.inl hy2))
/-- A heap of blocks of m bytes beside the list of addresses: lh in the heap, lr in the list. -/
structure TI (w1 W : World) (hb base lim o R m : Nat) (xn : Nat → Prop) (lh lr : List Nat) (v : Value) : Prop where
  ex : ∃ sb lw x t fr ls S, HW w1 W hb sb lw x t fr ls S 0 ∧ TL x ls S m lh ∧ x.base = base ∧ x.lim = lim ∧ x.o = o ∧ x.R = R ∧ xn x.n ∧ ∀ g, v.ownBlock = some g → g < W.heap.size ∧ ¬ sown x sb g ∧ g ≠ hb
  gs : GS w1 W 27 1 v lr.length (u64s lr)
section
variable {w1 W W' : World} {hb base lim o R m : Nat} {xn : Nat → Prop} {lh lr : List Nat} {v : Value}
theorem TI.keep (T : TI w1 W hb base lim o R m xn lh lr v) (k : Kept none' W W') : TI w1 W' hb base lim o R m xn lh lr v := by
  obtain ⟨⟨sb, lw, x, t, fr, ls, S, H, T1, e1, e2, e3, e4, e5, e6⟩, G⟩ := T
  exact ⟨⟨sb, lw, x, t, fr, ls, S, H.keep k, T1, e1, e2, e3, e4, e5, fun g hg => ⟨Nat.lt_of_lt_of_le (e6 g hg).1 k.size, (e6 g hg).2⟩⟩, G.keep k⟩
theorem TI.kp (T : TI w1 W hb base lim o R m xn lh lr v) : Kept none' w1 W := T.gs.kp
/-- Behind a call that changed the heap. -/
theorem TI.nx {sb lw : Nat} {x x' : Bx} {t t' : Bt} {fr fr' : Nat → List Nat} {ls ls' : List (Nat × Nat)} {S S' : Sb} {xn' : Nat → Prop} {lh' : List Nat} (H : HW w1 W hb sb lw x t fr ls S 0) (G : GS w1 W 27 1 v lr.length (u64s lr)) (hv : ∀ g, v.ownBlock = some g → g < W.heap.size ∧ ¬ sown x sb g ∧ g ≠ hb) (nx : Nx w1 W W' hb sb lw x t ls S 0 x' t' fr' ls' S') (T' : TL x' ls' S' m lh') (e1 : x.base = base) (e2 : x.lim = lim) (e3 : x.o = o) (e4 : x.R = R) (e5 : xn' x'.n) : TI w1 W' hb base lim o R m xn' lh' lr v := by
  refine ⟨⟨sb, lw, x', t', fr', ls', S', nx.H, T', nx.ch.base.trans e1, nx.ch.lim.trans e2, nx.ch.o.trans e3, nx.ch.R.trans e4, e5, fun g hg => ?_⟩, ?_⟩
  · obtain ⟨a1, a2, a3⟩ := hv g hg
    exact ⟨Nat.lt_of_lt_of_le a1 nx.kp.size, fun e => (nx.ns g e).elim a2 (fun e2 => by omega), a3⟩
  · exact G.keptE nx.H.po.pl.kp (fun y hy => nx.kp.block y (hv y hy).1 (hv y hy).2.1)
/-- One more in the list. -/
theorem TI.push {p : Nat} (T : TI w1 W hb base lim o R m xn lh lr v) (hl : lr.length ≤ 5000) : ∃ g cap w', (∀ t, (Builtin.append_ #[59, 59] t #[v, .slice (some ⟨W.heap.size, 0, none⟩) 1 1]).run Tryz.prog (W.alloc (.cells #[.int .u64 (p : Int)] 27)) = .ok (.slice (some ⟨g, 0, none⟩) (lr.length + 1) cap) w') ∧ TI w1 w' hb base lim o R m xn lh (lr ++ [p]) (.slice (some ⟨g, 0, none⟩) (lr.length + 1) cap) := by
  obtain ⟨⟨sb, lw, x, t, fr, ls, S, H, T1, e1, e2, e3, e4, e5, e6⟩, G⟩ := T
  obtain ⟨g, cap, w', h1, h2, h3, h4, h5, h6⟩ := push_uK G (p : Int) hl
  have hsz : ∀ y, (bown x y ∨ y = x.b ∨ y = x.l ∨ y = lw) → y < W.heap.size := H.po.pl.lt8
  obtain ⟨h', o'⟩ := H.so
  have hown : ∀ y, sown x sb y → y < W.heap.size := fun y hy => hy.elim (fun e => hsz y (.inl e)) (fun e => by rw [e]; exact heap_lt o'.sw.bx)
  have hH : HW w1 w' hb sb lw x t fr ls S 0 := by
    cases hvb : v.ownBlock with
    | none => exact H.keep ⟨h5.os, h5.tape, h5.output, h5.size, fun i hi _ => h5.block i hi (by rw [hvb]; intro e; cases e)⟩
    | some y0 =>
      have k0 : Kept (fun y => y = y0) W w' := h5.mono (fun y _ e => by rw [hvb] at e; injection e with e; exact e.symm)
      obtain ⟨cs, hcs⟩ := own_ty G.own hvb
      exact H.apart hcs (e6 y0 hvb).2.1 k0 h2.kp
  refine ⟨g, cap, w', h1, ⟨⟨sb, lw, x, t, fr, ls, S, hH, T1, e1, e2, e3, e4, e5, fun g' hg => ?_⟩, ?_⟩⟩
  · have : g' = g := by
      simp [Value.ownBlock] at hg
      exact hg.symm
    subst this
    refine ⟨h4, ?_, ?_⟩
    · rcases h6 with e | e
      · exact (e6 _ e).2.1
      · exact fun e2 => absurd (hown _ e2) (Nat.not_lt.2 e)
    · rcases h6 with e | e
      · exact (e6 _ e).2.2
      · intro e2
        have := heap_lt H.bx
        omega
  · have : (lr ++ [p]).length = lr.length + 1 := by simp
    rw [this]
    have e : u64s (lr ++ [p]) = u64s lr ++ [.int .u64 (p : Int)] := by unfold u64s; simp
    rw [e]
    exact h2
/-- The sizes. -/
def M3 (m : Nat) : Prop := m = 16 ∨ m = 32 ∨ m = 4096
theorem M3.s (h : M3 m) : S3k m ∧ cl m ≤ 12 ∧ 2 ^ cl m = m ∧ max m 16 = m ∧ m < 18446744073709551616 := by
  rcases h with rfl | rfl | rfl
  · have e : cl 16 = 4 := cl_pow (by decide) (.inr (by decide))
    exact ⟨.inl ⟨0, by decide, rfl⟩, by rw [e]; decide, by rw [e], by decide, by decide⟩
  · have e : cl 32 = 5 := cl_pow (by decide) (.inr (by decide))
    exact ⟨.inl ⟨1, by decide, rfl⟩, by rw [e]; decide, by rw [e], by decide, by decide⟩
  · have e : cl 4096 = 12 := cl_pow (by decide) (.inr (by decide))
    exact ⟨.inr rfl, by rw [e]; decide, by rw [e], by decide, by decide⟩
theorem TL.add {x x' : Bx} {ls ls' : List (Nat × Nat)} {S S' : Sb} {p : Nat} (T : TL x ls S m lh) (hL : ∀ a z, Lth x' ls' S' a z ↔ Lth x ls S a z ∨ (a = p ∧ z = m)) (hN : ∀ z, ¬ Lth x ls S p z) : TL x' ls' S' m (lh ++ [p]) := by
  refine ⟨?_, fun a z => ?_⟩
  · rw [List.nodup_append]
    refine ⟨T.nd, by simp, fun a ha b hb e => ?_⟩
    rw [List.mem_singleton] at hb
    subst hb e
    exact hN m ((T.iff _ _).2 ⟨ha, rfl⟩)
  · rw [hL, T.iff, List.mem_append, List.mem_singleton]
    constructor
    · rintro (⟨h1, h2⟩ | ⟨h1, h2⟩)
      · exact ⟨.inl h1, h2⟩
      · exact ⟨.inr h1, h2⟩
    · rintro ⟨h1 | h1, h2⟩
      · exact .inl ⟨h1, h2⟩
      · exact .inr ⟨h1, h2⟩
/-- Malloc of one more block. -/
theorem TI.mal {k all : Nat} (T : TI w1 W hb base lim o R m (fun n => n ≤ all) lh lr v) (hm : M3 m) (hall : all = k * R) (hkl : k ≤ lim) (hlen : (lh.length + 1) * m ≤ all) :
    Calls Tryz.prog 10 #[.pointer (some ⟨hb, 0, none⟩), .int .u64 (m : Int), .bool false] W fun e w' => ∃ p : Nat, e = .returned (.tuple #[.int .u64 (p : Int), .int .i64 0]) ∧ p < 9223372036854775808 ∧ base ≤ p ∧ TI w1 w' hb base lim o R m (fun n => n ≤ all) (lh ++ [p]) lr v := by
  obtain ⟨⟨sb, lw, x, t, fr, ls, S, H, T1, e1, e2, e3, e4, e5, e6⟩, G⟩ := T
  obtain ⟨s3, hcl, hp2, hmx, hm64⟩ := hm.s
  obtain ⟨h', so⟩ := H.so
  obtain ⟨rg, hrg, hrl, hxn⟩ := H.rg
  have hm0 : 0 < m := by have := s3.dv.1; omega
  obtain ⟨N, hN⟩ : ∃ N, x.n = N * m := by
    obtain ⟨_, _, c, hc⟩ := s3.dv
    exact ⟨t.m.n * c, by rw [Nat.mul_assoc, ← hc]; exact so.st.symm⟩
  have hR0 : 0 < R := by
    rw [← e4, so.sw.pl.bd.hR]
    have : 0 < 2 ^ x.o := Nat.pow_pos (by decide)
    omega
  have hfull : NF x fr S m → x.n < all := fun nf => by
    have h1 := T1.eq so H.lv s3 hN nf
    rw [hN, ← h1]
    rw [Nat.add_mul, Nat.one_mul] at hlen
    omega
  refine (Malloc_h H m hm64 false m hmx.symm).mono ?_
  rintro e w' ⟨p, er, rfl, hR⟩
  cases hR with
  | big ho => exact absurd (decide_eq_true (show cl m ≤ 12 + x.o by omega)) (by rw [show decide (cl m ≤ 12 + x.o) = szOk x.o m from rfl, ho]; decide)
  | ok ho hT =>
    rw [hp2] at hT
    cases hT with
    | no hp he nf hd kp =>
      exfalso
      have h1 := hfull nf
      rcases hd with e | e
      · cases e
      · rw [e, e2, e4, hall] at h1
        have := Nat.mul_le_mul_right R hkl
        omega
    | yes x' t' fr' ls' S' b he td nx hL hNN hn hmm hb1 hb2 =>
      subst he
      have hl' : Lth x' ls' S' p m := (hL _ _).2 (.inr ⟨rfl, rfl⟩)
      obtain ⟨h2', so'⟩ := nx.H.so
      have hin := so'.inside hl'
      have n4 := so'.po.nums.2.2.2.1
      refine ⟨p, rfl, by omega, by rw [← e1, ← nx.ch.base]; exact hin.1, TI.nx H G e6 nx (T1.add hL hNN) e1 e2 e3 e4 ?_⟩
      show x'.n ≤ all
      rw [hn]
      cases b with
      | false => rw [if_neg (by decide)]; exact e5
      | true =>
        rw [if_pos rfl]
        have h1 := hfull (hb1 rfl).1
        rw [hall, hxn, e4] at h1
        have h2 : rg < k := Nat.lt_of_mul_lt_mul_right h1
        have h3 := Nat.mul_le_mul_right R h2
        rw [Nat.succ_mul] at h3
        rw [hxn, e4, hall]
        exact h3
/-- Behind the last one. -/
theorem TI.done {all N : Nat} (T : TI w1 W hb base lim o R m (fun n => n ≤ all) lh lr v) (hm : M3 m) (hN : all = N * m) (hlen : lh.length = N) : TI w1 W hb base lim o R m (fun n => n = all) lh lr v ∧ (∀ j, j < N → (base + j * m) ∈ lh) ∧ lh.Nodup := by
  obtain ⟨⟨sb, lw, x, t, fr, ls, S, H, T1, e1, e2, e3, e4, e5, e6⟩, G⟩ := T
  obtain ⟨s3, hcl, hp2, hmx, hm64⟩ := hm.s
  obtain ⟨h', so⟩ := H.so
  have hm0 : 0 < m := by have := s3.dv.1; omega
  obtain ⟨N', hN'⟩ : ∃ N, x.n = N * m := by
    obtain ⟨_, _, c, hc⟩ := s3.dv
    exact ⟨t.m.n * c, by rw [Nat.mul_assoc, ← hc]; exact so.st.symm⟩
  have hle := T1.le so s3 hN'
  have h1 : x.n = all := by
    have := Nat.mul_le_mul_right m hle
    rw [hlen, ← hN, ← hN'] at this
    have : x.n ≤ all := e5
    omega
  have hNN : N' = N := Nat.eq_of_mul_eq_mul_right hm0 (by rw [← hN', h1, hN])
  refine ⟨⟨⟨sb, lw, x, t, fr, ls, S, H, T1, e1, e2, e3, e4, h1, e6⟩, G⟩, fun j hj => ?_, T1.nd⟩
  rw [← e1]
  exact T1.all so s3 hN' (by rw [hNN]; exact hlen) j (by omega)
/-- Free of one of them. -/
theorem TI.free {lh' : List Nat} {a : Nat} (T : TI w1 W hb base lim o R m xn lh lr v) (ha : a ∈ lh) (ha64 : a < 18446744073709551616) (h0 : a ≠ 0) (hnd : lh'.Nodup) (hlh : ∀ b, b ∈ lh' ↔ b ∈ lh ∧ b ≠ a) :
    Calls Tryz.prog 14 #[.pointer (some ⟨hb, 0, none⟩), .int .u64 (a : Int)] W fun e w' => e = .returned (.int .i64 0) ∧ TI w1 w' hb base lim o R m xn lh' lr v := by
  obtain ⟨⟨sb, lw, x, t, fr, ls, S, H, T1, e1, e2, e3, e4, e5, e6⟩, G⟩ := T
  refine (Free_h H a ha64).mono ?_
  rintro e w' ⟨er, rfl, hF⟩
  cases hF with
  | nil hp => exact absurd hp h0
  | bad hp hl => exact absurd ((T1.iff _ _).2 ⟨ha, rfl⟩) (hl m)
  | ok z hp hl he hG =>
    subst he
    obtain ⟨x', t', fr', ls', S', gd, nx, hL, hn⟩ := hG
    refine ⟨rfl, TI.nx H G e6 nx ⟨hnd, fun b c => ?_⟩ e1 e2 e3 e4 (by rw [hn]; exact e5)⟩
    rw [hL, T1.iff, hlh]
    constructor
    · rintro ⟨⟨g1, g2⟩, g3⟩
      exact ⟨⟨g1, g3⟩, g2⟩
    · rintro ⟨⟨g1, g3⟩, g2⟩
      exact ⟨⟨g1, g2⟩, g3⟩
/-- The list while blocks are freed. -/
def fl2 (kq : Nat → Bool) (l : List Nat) (i : Nat) : List Nat := (l.take i).filter kq ++ l.drop i
theorem fl2_nd {kq : Nat → Bool} {l : List Nat} (h : l.Nodup) (i : Nat) : (fl2 kq l i).Nodup := by
  refine List.Sublist.nodup ?_ h
  unfold fl2
  have := List.Sublist.append (List.filter_sublist (p := kq) (l := l.take i)) (List.Sublist.refl (l.drop i))
  rwa [List.take_append_drop] at this
theorem fl2_keep {kq : Nat → Bool} {l : List Nat} {i a : Nat} (h : l[i]? = some a) (hk : kq a = true) : fl2 kq l (i + 1) = fl2 kq l i := by
  have hlt : i < l.length := (List.getElem?_eq_some_iff.1 h).1
  have hd : l.drop i = a :: l.drop (i + 1) := by
    rw [List.drop_eq_getElem_cons hlt]
    rw [List.getElem?_eq_getElem hlt] at h
    injection h with h
    rw [h]
  unfold fl2
  rw [List.take_add_one, h, hd, List.filter_append]
  simp [hk]
theorem fl2_drop {kq : Nat → Bool} {l : List Nat} {i a : Nat} (hn : l.Nodup) (h : l[i]? = some a) (hk : kq a = false) : a ∈ fl2 kq l i ∧ ∀ b, b ∈ fl2 kq l (i + 1) ↔ b ∈ fl2 kq l i ∧ b ≠ a := by
  have hlt : i < l.length := (List.getElem?_eq_some_iff.1 h).1
  have hd : l.drop i = a :: l.drop (i + 1) := by
    rw [List.drop_eq_getElem_cons hlt]
    rw [List.getElem?_eq_getElem hlt] at h
    injection h with h
    rw [h]
  have e1 : fl2 kq l i = (l.take i).filter kq ++ a :: l.drop (i + 1) := by unfold fl2; rw [hd]
  have e2 : fl2 kq l (i + 1) = (l.take i).filter kq ++ l.drop (i + 1) := by
    unfold fl2
    rw [List.take_add_one, h, List.filter_append]
    simp [hk]
  have hnd := fl2_nd (kq := kq) hn i
  rw [e1] at hnd
  rw [e1, e2]
  refine ⟨List.mem_append_right _ List.mem_cons_self, fun b => ?_⟩
  rw [List.nodup_append] at hnd
  obtain ⟨n1, n2, n3⟩ := hnd
  obtain ⟨n4, n5⟩ := List.nodup_cons.1 n2
  rw [List.mem_append, List.mem_append, List.mem_cons]
  constructor
  · rintro (hb | hb)
    · exact ⟨.inl hb, fun e => n3 b hb a List.mem_cons_self e⟩
    · exact ⟨.inr (.inr hb), fun e => n4 (e ▸ hb)⟩
  · rintro ⟨hb | hb | hb, hne⟩
    · exact .inl hb
    · exact absurd hb hne
    · exact .inr hb
end
end Go.Proofs.YthjdjgokafkjaaaGreatDoor
/- HeapTight: the end. -/
namespace Go.Proofs.YthjdjgokafkjaaaGreatDoor
open Go.RowKit
set_option linter.unusedVariables false

section
variable {w1 W W' : World} {hb base lim o R m : Nat} {lh lr : List Nat} {v : Value}
/-- What is left of the list. -/
theorem fl2_end {kq : Nat → Bool} (l : List Nat) : fl2 kq l l.length = l.filter kq := by
  unfold fl2
  rw [List.take_length, List.drop_length, List.append_nil]
/-- The blocks at multiples of nn. -/
theorem TI.tm {all N kn k : Nat} (T : TI w1 W hb base lim o R m (fun n => n = all) (lr.filter fun a => decide ((a - base) % (4096 * 2 ^ kn) = 0)) lr v) (hm : M3 m) (hN : all = N * m) (hA : ∀ j, j < N → (base + j * m) ∈ lr) (hR : R = 4096 * 2 ^ o) (hall : all = k * R) (hko : kn ≤ o) : ∃ sb lw x t fr ls S, HW w1 W hb sb lw x t fr ls S 0 ∧ TM x ls S m (4096 * 2 ^ kn) (lr.filter fun a => decide ((a - base) % (4096 * 2 ^ kn) = 0)) ∧ x.n = all ∧ x.o = o := by
  obtain ⟨⟨sb, lw, x, t, fr, ls, S, H, T1, e1, e2, e3, e4, e5, e6⟩, G⟩ := T
  obtain ⟨s3, hcl, hp2, hmx, hm64⟩ := hm.s
  obtain ⟨_, _, c, hc⟩ := s3.dv
  have hm0 : 0 < m := by have := s3.dv.1; omega
  have hnn : 4096 * 2 ^ kn = (c * 2 ^ kn) * m := by
    have e : c * 2 ^ kn * m = (c * m) * 2 ^ kn := Nat.mul_right_comm _ _ _
    rw [e]
    exact congrArg (· * 2 ^ kn) hc
  refine ⟨sb, lw, x, t, fr, ls, S, H, ⟨T1, fun q hq => ?_, fun a ha => ?_, ?_⟩, e5, e3⟩
  · rw [List.mem_filter, e1]
    have hj : q * (4096 * 2 ^ kn) = (q * (c * 2 ^ kn)) * m := by rw [hnn]; exact (Nat.mul_assoc _ _ _).symm
    refine ⟨?_, decide_eq_true ?_⟩
    · rw [hj]
      refine hA _ ?_
      have hq2 : (q + 1) * (4096 * 2 ^ kn) ≤ all := by
        have : x.n = all := e5
        rw [← this]
        exact hq
      rw [Nat.add_mul, Nat.one_mul, hj, hN] at hq2
      have h0 : 0 < 4096 * 2 ^ kn := Nat.mul_pos (by decide) (Nat.pow_pos (by decide))
      exact Nat.lt_of_mul_lt_mul_right (a := m) (by omega)
    · rw [Nat.add_sub_cancel_left]
      exact Nat.mul_mod_left _ _
  · have := (List.mem_filter.1 ha).2
    rw [e1]
    exact of_decide_eq_true this
  · refine ⟨k * 2 ^ (o - kn), ?_⟩
    have : x.n = all := e5
    rw [this, hall, hR, Nat.mul_assoc]
    congr 1
    rw [Nat.mul_left_comm, ← Nat.pow_add, show o - kn + kn = o by omega]
/-- A request for r bytes is refused; the bound is met. -/
theorem TI.end {all N kn k r : Nat} (T : TI w1 W hb base lim o R m (fun n => n = all) (lr.filter fun a => decide ((a - base) % (4096 * 2 ^ kn) = 0)) lr v) (hm : M3 m) (hN : all = N * m) (hA : ∀ j, j < N → (base + j * m) ∈ lr) (hR : R = 4096 * 2 ^ o) (hall : all = k * R) (hko : kn ≤ o) (hr : (∃ k, k < 8 ∧ r = szC k ∧ m ≠ r ∧ kn = 0) ∨ r = 4096 * 2 ^ kn) :
    Calls Tryz.prog 10 #[.pointer (some ⟨hb, 0, none⟩), .int .u64 (r : Int), .bool true] W fun e w' => e = .returned (.tuple #[.int .u64 0, .int .i64 2]) ∧ Kept none' W w' ∧ ∃ L B F : Nat, (4096 * 2 ^ kn) * L = m * all ∧ L ≤ 1073741824 ∧ Kept none' w1 w' ∧ Calls Tryz.prog 13 #[.pointer (some ⟨hb, 0, none⟩)] w' fun e w'' => e = .returned (stV all L B F) ∧ Kept none' w1 w'' := by
  obtain ⟨sb, lw, x, t, fr, ls, S, H, TMM, hxn, hxo⟩ := T.tm hm hN hA hR hall hko
  obtain ⟨s3, hcl, hp2, hmx, hm64⟩ := hm.s
  have hm0 : 0 < m := by have := s3.dv.1; omega
  have hnf := TMM.nf H hm0 (by rw [hxo]; exact hko) r hr
  have hb := TMM.bound H s3
  rw [hxn] at hb
  have o8 := H.po.nums.1
  have hrp : ∃ e, 4 ≤ e ∧ e ≤ 12 + x.o ∧ r = 2 ^ e := by
    rcases hr with ⟨k, hk, rfl, _⟩ | rfl
    · exact ⟨4 + k, by omega, by omega, by unfold szC; rw [Nat.pow_add]⟩
    · exact ⟨12 + kn, by omega, by omega, by rw [Nat.pow_add]⟩
  obtain ⟨e, h4, hle, hre⟩ := hrp
  have hclr : cl r = e := by
    rw [hre]
    exact cl_pow (Nat.le_refl _) (.inr (Nat.pow_lt_pow_right (by decide) (by omega)))
  have hr16 : 16 ≤ r := by
    rw [hre]
    exact Nat.pow_le_pow_right (n := 2) (by decide) h4
  have hr20 : r ≤ 1048576 := by
    rw [hre]
    exact Nat.pow_le_pow_right (n := 2) (i := e) (j := 20) (by decide) (by omega)
  have hst := H.stb t.m.n (Nat.le_refl _)
  have n2 := H.po.nums.2.1
  refine (Malloc_h H r (by omega) true r (by omega)).mono ?_
  rintro e' w' ⟨p, er, rfl, hQ⟩
  cases hQ with
  | big ho =>
    exfalso
    have := of_decide_eq_false ho
    omega
  | ok ho hT =>
    rw [hclr, ← hre] at hT
    cases hT with
    | yes x' t' fr' ls' S' b he td nx hL hNN hn hmm hb1 hb2 =>
      exfalso
      cases b with
      | false => exact hb2 rfl hnf
      | true => cases (hb1 rfl).2.1
    | no hp he nf hd kp =>
      subst hp he
      have H2 := H.keep kp
      refine ⟨rfl, kp, stS plL t.m t.m.n, stS plB t.m t.m.n, stS plF t.m t.m.n, hb, by omega, H2.po.pl.kp, ?_⟩
      have := Stats_h H2
      rw [hxn] at this
      exact this.mono fun e w'' h => ⟨h.1, none_trans H2.po.pl.kp h.2⟩
end
end Go.Proofs.YthjdjgokafkjaaaGreatDoor
