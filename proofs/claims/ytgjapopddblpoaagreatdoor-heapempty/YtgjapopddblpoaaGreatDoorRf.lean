import Derived.Test.YtgjapopddblpoaaGreatDoorRe
import Derived.Conc.MuLone
import Derived.Deep.QuietTactic
import Derived.BigQuiet
/- Package malloc: the lock; where a heap lies. -/
namespace Go.Proofs.YtgjapopddblpoaaGreatDoor
open Go.RowKit
open Go.MuLone
set_option linter.unusedVariables false

/-- A world that keeps all that was there in w. -/
def KW (w : World) : Type := { W : World // Kept none' w W }
def KW.v {w : World} (x : KW w) : World := x.1
theorem KW.k {w : World} (x : KW w) : Kept none' w x.v := x.2
instance (w : World) : Nonempty (KW w) := ⟨⟨w, Kept.refl _ _⟩⟩

/-- One walk of the lexical order serves every order, where all that was there is kept. -/
theorem wp_region_kept {P : Program} {id : Nat} {Q : Exit → Act → World → Prop} {a : Act} {w : World} {l : List Oper} (hm : P.follows .mixedOrders = true) (hB : Region.lexB .any l.toArray = true)
    (h : wpQuiet P l.toArray (fun w' => ∃ x : KW w, w' = x.v) (fun a' => ∀ x : KW w, Q .normal a' x.v) l a) : (Code.region id l.toArray true).wp P Q a w := by
  refine wp_region_quiet (C := fun w' => ∃ x : KW w, w' = x.v) hm hB ⟨⟨w.drew, (Kept.refl _ w).drew⟩, rfl⟩ ?_
  have e : (fun a' => ∀ w', (∃ x : KW w, w' = x.v) → Q .normal a' w') = (fun a' => ∀ x : KW w, Q .normal a' x.v) := by
    funext a'
    exact propext ⟨fun h x => h _ ⟨x, rfl⟩, fun h w' ⟨x, hx⟩ => hx ▸ h x⟩
  rw [e]
  simpa using h

/-- A callee's contract, met in such a world. -/
theorem Calls.kept_of {P : Program} {f : FuncId} {args : Array Value} {w : World} {x : KW w} {v : Value}
    (h : Calls P f args x.v fun e w' => e = .returned v ∧ Kept none' x.v w') : Calls P f args x.v fun e w'' => e = .returned v ∧ ∃ y : KW w, w'' = y.v :=
  h.mono fun _ w1 ⟨he, hk⟩ => ⟨he, ⟨w1, none_trans x.k hk⟩, rfl⟩

abbrev muK : Go.Conc.Locks.MuLink := { lock := 35, unlock := 36, ilock := 74, iunlock := 75, lockSlow := 121, unlockSlow := 124, disable := 117, enable := 119, acquire := 120, relMerge := 122, cas32 := 118, add32 := 123, tMutex := 89, tIMutex := 87, tPMutex := 136, tPIMutex := 178, tPI32 := 180, tUP := 182, tNoCopy := 84, tU32 := 85 }
theorem muH : Go.Conc.Locks.MuLib Tryz.prog muK :=
  ⟨Tryz.func35, Tryz.func36, Tryz.func74, Tryz.func75, Tryz.func117, Tryz.func119, Tryz.func120, Tryz.func122, Tryz.func118, Tryz.func123,
  Tryz.underlying87, Tryz.runUnderlying87, Tryz.sizeOf87, Tryz.isAgg87, Tryz.zeroValue87,
  Tryz.underlying89, Tryz.runUnderlying89, Tryz.sizeOf89, Tryz.isAgg89, Tryz.zeroValue89,
  Tryz.underlying136, Tryz.runUnderlying136, Tryz.sizeOf136, Tryz.isAgg136, Tryz.zeroValue136,
  Tryz.underlying178, Tryz.runUnderlying178, Tryz.sizeOf178, Tryz.isAgg178, Tryz.zeroValue178,
  Tryz.underlying180, Tryz.runUnderlying180, Tryz.sizeOf180, Tryz.isAgg180, Tryz.zeroValue180,
  Tryz.underlying182, Tryz.runUnderlying182, Tryz.sizeOf182, Tryz.isAgg182, Tryz.zeroValue182,
  Tryz.underlying84, Tryz.runUnderlying84, Tryz.sizeOf84, Tryz.isAgg84, Tryz.zeroValue84,
  Tryz.underlying21, Tryz.runUnderlying21, Tryz.sizeOf21, Tryz.isAgg21, Tryz.zeroValue21,
  (by kernel_rfl)⟩
/-- A heap's struct. -/
abbrev hpO (s : Int) (lw sb base lim o : Nat) : Obj := .cells #[.int .i32 s, .int .u32 0, .int .u64 (base : Int), .int .i64 (lim : Int), .int .i64 (o : Int), .pointer (some ⟨lw, 0, none⟩), .pointer (some ⟨sb, 0, none⟩)] 91
/-- What a heap's calls may write. -/
def hown (x : Bx) (sb hb : Nat) : Nat → Prop := fun y => sown x sb y ∨ y = hb
/-- A heap without fault; s: the lock's word. -/
structure HW (w W : World) (hb sb lw : Nat) (x : Bx) (t : Bt) (fr : Nat → List Nat) (ls : List (Nat × Nat)) (S : Sb) (s : Int) : Prop where
  so : ∃ h, SO w W sb lw x t fr ls S h
  lv : Lve S
  bx : W.heap[hb]? = some (hpO s lw sb x.base x.lim x.o)
  nw : w.heap.size ≤ hb
  br : x.base % x.R = 0
theorem SO.hty {w W sb lw x t fr ls S h} (s : SO w W sb lw x t fr ls S h) {y : Nat} {cs : Array Value} {z : Nat × Nat} (hy : W.heap[y]? = some (.cells cs 91 z)) : ¬ sown x sb y := by
  rintro (e | e)
  · exact absurd (s.sw.pl.pty hy (.inl e)) (by unfold Go.Proofs.YtgjapopddblpoaaGreatDoor.pty; decide)
  · subst e
    exact absurd (ty_ne' hy s.sw.bx) (by decide)
section
variable {w W W' : World} {hb sb lw : Nat} {x : Bx} {t : Bt} {fr : Nat → List Nat} {ls : List (Nat × Nat)} {S : Sb} {s : Int}
theorem HW.nhb (H : HW w W hb sb lw x t fr ls S s) : ¬ sown x sb hb := by
  obtain ⟨h, o⟩ := H.so
  exact o.hty H.bx
theorem HW.po (H : HW w W hb sb lw x t fr ls S s) : PO w W lw x t fr ls := by
  obtain ⟨h, o⟩ := H.so
  exact o.po
theorem HW.keep (H : HW w W hb sb lw x t fr ls S s) (k : Kept none' W W') : HW w W' hb sb lw x t fr ls S s := by
  obtain ⟨h, o⟩ := H.so
  exact ⟨⟨h, o.keep k⟩, H.lv, (k.block _ (heap_lt H.bx) (fun e => e)).trans H.bx, H.nw, H.br⟩
theorem HW.c (H : HW w W hb sb lw x t fr ls S s) : W.cell? ⟨hb, 0, none⟩ = some (.int .i32 s) ∧ W.cell? ⟨hb, 2, none⟩ = some (.int .u64 (x.base : Int)) ∧ W.cell? ⟨hb, 3, none⟩ = some (.int .i64 (x.lim : Int)) ∧ W.cell? ⟨hb, 4, none⟩ = some (.int .i64 (x.o : Int)) ∧ W.cell? ⟨hb, 5, none⟩ = some (.pointer (some ⟨lw, 0, none⟩)) ∧ W.cell? ⟨hb, 6, none⟩ = some (.pointer (some ⟨sb, 0, none⟩)) := by
  refine ⟨?_, ?_, ?_, ?_, ?_, ?_⟩ <;> simp [World.cell?, H.bx]
theorem HW.fz (H : HW w W hb sb lw x t fr ls S s) (j : Nat) : W.frozen? ⟨hb, j, none⟩ = false := by simp [World.frozen?, H.bx]
/-- Behind a call of the slab, of the pool. -/
theorem HW.call {x' : Bx} {t' : Bt} {fr' : Nat → List Nat} {ls' : List (Nat × Nat)} {S' : Sb} {h' : Nat → Int} (H : HW w W hb sb lw x t fr ls S s) (o : SO w W' sb lw x' t' fr' ls' S' h') (v : Lve S') (c : Ch x t ls S x' t' ls' S') (k : Kept (sown x sb) W W') : HW w W' hb sb lw x' t' fr' ls' S' s :=
  ⟨⟨h', o⟩, v, by rw [c.base, c.lim, c.o]; exact (k.block _ (heap_lt H.bx) H.nhb).trans H.bx, H.nw, by rw [c.base, c.R]; exact H.br⟩
/-- The lock's word is written. -/
theorem HW.set (H : HW w W hb sb lw x t fr ls S s) (v : Int) : HW w (W.setCell ⟨hb, 0, none⟩ (.int .i32 v)) hb sb lw x t fr ls S v ∧ Kept (fun y => y = hb) W (W.setCell ⟨hb, 0, none⟩ (.int .i32 v)) := by
  have kp : Kept (fun y => y = hb) W (W.setCell ⟨hb, 0, none⟩ (.int .i32 v)) := (Kept.refl (fun y => y = hb) W).setCell (p := ⟨hb, 0, none⟩) rfl _
  refine ⟨⟨?_, H.lv, ?_, H.nw, H.br⟩, kp⟩
  · obtain ⟨h, o⟩ := H.so
    have nl : ∀ {y cs e z}, W.heap[y]? = some (.cells cs e z) → e ≠ 91 → y ≠ hb := fun hy he e => he (ty_ne' (e ▸ hy) H.bx)
    have hpty : ∀ y, (bown x y ∨ y = x.b ∨ y = x.l ∨ y = lw) → y ≠ hb := fun y hy e => by
      subst e
      exact absurd (o.sw.pl.pty H.bx hy) (by unfold Go.Proofs.YtgjapopddblpoaaGreatDoor.pty; decide)
    refine ⟨h, ⟨⟨⟨(kp.block _ (heap_lt o.sw.pl.box) (hpty _ (.inr (.inr (.inr rfl))))).trans o.sw.pl.box, o.sw.pl.bd.kept kp (fun y hy => hpty y ?_), o.sw.pl.nw, o.sw.pl.kp.setNew (p := ⟨hb, 0, none⟩) (fun e => absurd H.nw (Nat.not_le.2 e)) _⟩, (kp.block _ (heap_lt o.sw.bx) (nl o.sw.bx (by decide))).trans o.sw.bx, o.sw.nw, o.sw.tb⟩, o.sf, o.st, o.bm, o.si, o.hd⟩⟩
    rcases hy with hy | hy | hy
    · exact .inl hy
    · exact .inr (.inl hy)
    · exact .inr (.inr (.inl hy))
  · rw [heap_set H.bx]
    simp
theorem HW.lock (H : HW w W hb sb lw x t fr ls S 0) :
    Calls Tryz.prog 35 #[.pointer (some ⟨hb, 0, none⟩)] W fun e w' => e = .returned (.tuple #[]) ∧ w' = W.setCell ⟨hb, 0, none⟩ (.int .i32 1) := lock_free muH ⟨hb, 0, none⟩ W H.c.1 (H.fz 0)
theorem HW.unlock (H : HW w W hb sb lw x t fr ls S 1) (u : FrameMode) :
    CallsD Tryz.prog 36 #[.pointer (some ⟨hb, 0, none⟩)] u W fun e u' w' => u' = u ∧ (e = .returned (.tuple #[]) ∧ w' = W.setCell ⟨hb, 0, none⟩ (.int .i32 0)) := unlock_deferred muH ⟨hb, 0, none⟩ u W H.c.1 (H.fz 0)
/-- The lock was taken and let go. -/
theorem HW.round {K : Nat → Prop} {w2 : World} {x2 : Bx} {t2 : Bt} {fr2 : Nat → List Nat} {ls2 : List (Nat × Nat)} {S2 : Sb} (H : HW w W hb sb lw x t fr ls S 0) (hK : ¬ K hb) (k : Kept K (W.setCell ⟨hb, 0, none⟩ (.int .i32 1)) w2) (H2 : HW w w2 hb sb lw x2 t2 fr2 ls2 S2 1) (e1 : x2.base = x.base) (e2 : x2.lim = x.lim) (e3 : x2.o = x.o) : Kept K W (w2.setCell ⟨hb, 0, none⟩ (.int .i32 0)) := by
  have k1 := (H.set 1).2
  refine ⟨k.os.trans k1.os, k.tape.trans k1.tape, k.output.trans k1.output, ?_, fun i hi hU => ?_⟩
  · have h1 := k1.size
    have h2 := k.size
    simp
    omega
  · by_cases e : i = hb
    · subst e
      rw [heap_set H2.bx, H.bx, e1, e2, e3]
      simp
    · rw [Below.heap_setCell w2 ⟨hb, 0, none⟩ _ i (fun e2 => e e2), k.block i (Nat.lt_of_lt_of_le hi k1.size) hU]
      exact k1.block i hi e
end
end Go.Proofs.YtgjapopddblpoaaGreatDoor
/- What the map says of a page, held against the live blocks. -/
namespace Go.Proofs.YtgjapopddblpoaaGreatDoor
open Go.RowKit
set_option linter.unusedVariables false

/-- What lies at a page. -/
inductive Pk (x : Bx) (t : Bt) (fr : Nat → List Nat) (ls : List (Nat × Nat)) (S : Sb) (g : Nat) : Prop where
  | slab (k : Nat) (hc : S.c g = some k)
  | big (q k : Nat) (hm : (q, k) ∈ ls) (hc : S.c q = none) (hg : S.c g = none) (h1 : q ≤ g) (h2 : g < q + 2 ^ k) (hp : t.m.pg g = blankP (if g = q then 2 else 3) (k : Int))
  | free (q j : Nat) (hm : q ∈ fr j) (hj : j ≤ x.o) (hg : S.c g = none) (h1 : q ≤ g) (h2 : g < q + 2 ^ j) (hp : t.m.pg g = blankP (if g = q then 0 else 1) (j : Int))
section
variable {w W : World} {sb lw : Nat} {x : Bx} {t : Bt} {fr : Nat → List Nat} {ls : List (Nat × Nat)} {S : Sb} {h : Nat → Int}
theorem SO.kind (o : SO w W sb lw x t fr ls S h) {g : Nat} (hg : g < t.m.n) : Pk x t fr ls S g := by
  cases e : S.c g with
  | some k => exact .slab k e
  | none =>
    have hap := fun {p k q j : Nat} => o.apart (p := p) (k := k) (q := q) (j := j)
    have hme := fun {p k : Nat} => o.mem (p := p) (k := k)
    have heP := o.si.eP
    obtain ⟨B, s, hN, hL⟩ := o.sf
    obtain ⟨a, p, k, hb, h1, h2⟩ := s.cv g hg
    have h9 : a ≠ 9 := fun e => hN p k (e ▸ hb)
    have hp := s.pg a p k hb h9 g h1 h2
    rw [heP, pOf_none e, Option.getD_none] at hp
    rcases s.tg a p k hb with rfl | rfl | rfl
    · obtain ⟨f1, f2⟩ := (s.fi p k).1 hb
      exact .free p k f2 f1 e h1 h2 hp
    · have hm := (hL p k).1 hb
      refine .big p k hm ?_ e h1 h2 hp
      cases e2 : S.c p with
      | none => rfl
      | some c =>
        exfalso
        have hz : 0 < 2 ^ k := Nat.pow_pos (by decide)
        rcases hap (hme e2).1 hm with ⟨_, e3⟩ | e3 | e3
        · subst e3
          rw [Nat.pow_zero] at h2
          obtain rfl : p = g := by omega
          rw [e] at e2
          cases e2
        · rw [Nat.pow_zero] at e3
          omega
        · omega
    · exact absurd rfl h9
/-- Where an address inside a live block lies. -/
inductive Pa (x : Bx) (t : Bt) (ls : List (Nat × Nat)) (S : Sb) (a s g : Nat) : Prop where
  | cell (k i : Nat) (hc : S.c g = some k) (hl : Liv x S a g k i) (hs : s = szC k)
  | big (q k : Nat) (hm : (q, k) ∈ ls) (hc : S.c q = none) (hg : S.c g = none) (h1 : q ≤ g) (h2 : g < q + 2 ^ k) (ha : a = ad x q) (hs : s = 4096 * 2 ^ k)
theorem SO.big_none (o : SO w W sb lw x t fr ls S h) {q k g : Nat} (hm : (q, k) ∈ ls) (hc : S.c q = none) (h1 : q ≤ g) (h2 : g < q + 2 ^ k) : S.c g = none := by
  cases e : S.c g with
  | none => rfl
  | some c =>
    exfalso
    rcases o.apart (o.mem e).1 hm with ⟨e3, _⟩ | e3 | e3
    · subst e3
      rw [hc] at e
      cases e
    · rw [Nat.pow_zero] at e3
      omega
    · omega
theorem SO.lth_at (o : SO w W sb lw x t fr ls S h) {a s p : Nat} (hl : Lth x ls S a s) (h1 : a ≤ p) (h2 : p < a + s) : offS x p / 4096 < t.m.n ∧ Pa x t ls S a s (offS x p / 4096) := by
  have hin := o.inside hl
  have n4 := o.po.nums.2.2.2.1
  have hof : offS x p = p - x.base := by
    unfold offS
    omega
  have hst := o.st
  rw [hof]
  refine ⟨by omega, ?_⟩
  rcases hl with ⟨g, k, i, hv, rfl⟩ | ⟨q, k, hm, hc, rfl, rfl⟩
  · have hv2 := hv
    obtain ⟨c1, c2, c3, rfl⟩ := hv2
    have hk := (o.si.pg g k c1).1
    have hme := o.mem c1
    have hoc := off_cell (x := x) (p := g) hk c2 (by omega)
    have e : caN x g k i = x.base + 4096 * g + i * szC k := rfl
    have hg : (p - x.base) / 4096 = g := by omega
    rw [hg]
    exact .cell k i c1 hv rfl
  · unfold ad at h1 h2
    have g1 : q ≤ (p - x.base) / 4096 := by omega
    have g2 : (p - x.base) / 4096 < q + 2 ^ k := by omega
    exact .big q k hm hc (o.big_none hm hc g1 g2) g1 g2 rfl rfl
/-- Which live block an address lies in. -/
def ArP (x : Bx) (ls : List (Nat × Nat)) (S : Sb) (p a s : Nat) (l : Bool) : Prop := (l = true ∧ Lth x ls S a s ∧ a ≤ p ∧ p < a + s) ∨ (l = false ∧ ∀ b z, Lth x ls S b z → ¬ (b ≤ p ∧ p < b + z))
theorem SO.ar_far (o : SO w W sb lw x t fr ls S h) {p : Nat} (hg : ¬ offS x p / 4096 < t.m.n) (a s : Nat) : ArP x ls S p a s false := .inr ⟨rfl, fun b z hl ⟨h1, h2⟩ => hg (o.lth_at hl h1 h2).1⟩
theorem SO.ar_free (o : SO w W sb lw x t fr ls S h) {p q j : Nat} (hm : q ∈ fr j) (hj : j ≤ x.o) (h1 : q ≤ offS x p / 4096) (h2 : offS x p / 4096 < q + 2 ^ j) (hc : S.c (offS x p / 4096) = none) (a s : Nat) : ArP x ls S p a s false := .inr ⟨rfl, fun b z hl ⟨l1, l2⟩ => by
  have hL := (o.lth_at hl l1 l2).2
  obtain ⟨B, sd, hN, hB⟩ := o.sf
  cases hL with
  | cell k i c1 => rw [hc] at c1; cases c1
  | big q2 k hm2 _ _ g1 g2 =>
    rcases sd.ds _ _ _ _ _ _ ((sd.fi q j).2 ⟨hj, hm⟩) ((hB q2 k).2 hm2) with ⟨e, _⟩ | e | e
    · exact absurd e (by decide)
    · omega
    · omega⟩
theorem SO.off_eq (o : SO w W sb lw x t fr ls S h) {p : Nat} (hp : p < 18446744073709551616) (hg : offS x p / 4096 < t.m.n) : x.base ≤ p ∧ offS x p = p - x.base := by
  have n4 := o.po.nums.2.2.2.1
  have hst := o.st
  unfold offS at hg ⊢
  omega
theorem SO.ar_big (o : SO w W sb lw x t fr ls S h) {p q k : Nat} (hp : p < 18446744073709551616) (hg : offS x p / 4096 < t.m.n) (hm : (q, k) ∈ ls) (hc : S.c q = none) (h1 : q ≤ offS x p / 4096) (h2 : offS x p / 4096 < q + 2 ^ k) : ArP x ls S p (ad x q) (4096 * 2 ^ k) true := by
  obtain ⟨b1, b2⟩ := o.off_eq hp hg
  rw [b2] at h1 h2
  refine .inl ⟨rfl, .inr ⟨q, k, hm, hc, rfl, rfl⟩, ?_, ?_⟩
  · unfold ad; omega
  · unfold ad; omega
/-- The beginning of the cell in which an address lies. -/
theorem SO.down_at (o : SO w W sb lw x t fr ls S h) {p g k : Nat} (hp : p < 18446744073709551616) (hg : offS x p / 4096 = g) (hc : S.c g = some k) : ∃ i, i < ncl k ∧ p / szC k * szC k = caN x g k i ∧ caN x g k i ≤ p ∧ p < caN x g k i + szC k := by
  obtain ⟨hk, _⟩ := o.si.pg g k hc
  have hme := o.mem hc
  have hz := szC_le hk
  have hnb := ncl_b hk
  obtain ⟨b1, b2⟩ := o.off_eq hp (by rw [hg]; exact hme.2.1)
  have hbm := o.bm
  rw [b2] at hg
  obtain ⟨d, hd⟩ : ∃ d, d = (p - x.base) % 4096 := ⟨_, rfl⟩
  have hp2 : p = x.base + 4096 * g + d := by omega
  have hd2 : d < 4096 := by omega
  obtain ⟨b, hb⟩ : ∃ b, x.base = 4096 * b := ⟨x.base / 4096, by omega⟩
  have e1 : x.base + 4096 * g = ncl k * (b + g) * szC k := by
    rw [hb, ← Nat.mul_add, Nat.mul_right_comm, hnb.1]
  have e2 : p / szC k = ncl k * (b + g) + d / szC k := by
    rw [hp2, e1, Nat.add_comm, Nat.add_mul_div_right _ _ (by omega), Nat.add_comm]
  have e3 := Nat.div_add_mod d (szC k)
  have e4 := Nat.mod_lt d (show 0 < szC k by omega)
  refine ⟨d / szC k, ?_, ?_, ?_, ?_⟩
  · refine Nat.lt_of_not_le fun hle => ?_
    have := Nat.mul_le_mul_right (szC k) hle
    rw [hnb.1, Nat.mul_comm] at this
    omega
  · rw [e2, Nat.add_mul, ← e1]
    rfl
  · show x.base + 4096 * g + d / szC k * szC k ≤ p
    rw [Nat.mul_comm] at e3
    omega
  · show p < x.base + 4096 * g + d / szC k * szC k + szC k
    rw [Nat.mul_comm] at e3
    omega
theorem SO.ar_cell (o : SO w W sb lw x t fr ls S h) {p g k i : Nat} (hg : offS x p / 4096 = g) (hc : S.c g = some k) (hi : i < ncl k) (h1 : caN x g k i ≤ p) (h2 : p < caN x g k i + szC k) : ArP x ls S p (caN x g k i) (szC k) (decide (i ∉ S.fl g)) := by
  by_cases hf : i ∈ S.fl g
  · rw [decide_eq_false (fun e => e hf)]
    refine .inr ⟨rfl, fun b z hl ⟨l1, l2⟩ => ?_⟩
    have hL := (o.lth_at hl l1 l2).2
    rw [hg] at hL
    cases hL with
    | big q2 k2 _ _ e => rw [hc] at e; cases e
    | cell k2 i2 c1 hv hs =>
      rw [hc] at c1
      injection c1 with c1
      subst c1 hs
      obtain ⟨v1, v2, v3, rfl⟩ := hv
      have hz := szC_le (o.si.pg g k hc).1
      have e1 : caN x g k i = x.base + 4096 * g + i * szC k := rfl
      have e2 : caN x g k i2 = x.base + 4096 * g + i2 * szC k := rfl
      have : i = i2 := by
        rcases Nat.lt_trichotomy i i2 with e | e | e
        · have := Nat.mul_le_mul_right (szC k) (show i + 1 ≤ i2 from e)
          rw [Nat.add_mul, Nat.one_mul] at this
          omega
        · exact e
        · have := Nat.mul_le_mul_right (szC k) (show i2 + 1 ≤ i from e)
          rw [Nat.add_mul, Nat.one_mul] at this
          omega
      subst this
      exact v3 hf
  · rw [decide_eq_true hf]
    exact .inl ⟨rfl, .inl ⟨g, k, i, ⟨hc, hi, hf, rfl⟩, rfl⟩, h1, h2⟩
theorem SO.cell_liv (o : SO w W sb lw x t fr ls S h) {g k i : Nat} (hc : S.c g = some k) (hi : i < ncl k) : livS x t (caN x g k i) = decide (i ∉ S.fl g) := by
  by_cases hf : i ∈ S.fl g
  · rw [decide_eq_false (fun e => e hf)]
    cases e : livS x t (caN x g k i) with
    | false => rfl
    | true =>
      exfalso
      have hk := (o.si.pg g k hc).1
      have hme := o.mem hc
      have n4 := o.po.nums.2.2.2.1
      obtain ⟨g2, k2, i2, v1, v2, v3, v4⟩ := o.liv_of (off_cell (x := x) (p := g) hk hi (by omega)).2.2 e
      obtain ⟨e1, e2, e3⟩ := o.cell_ne hc hi v1 v2 v4
      subst e1 e2 e3
      exact v3 hf
  · rw [decide_eq_true hf]
    exact (o.of_liv ⟨hc, hi, hf, rfl⟩).1
end
end Go.Proofs.YtgjapopddblpoaaGreatDoor
/- A heap's requests and what is given back, by the live blocks and by the lists. -/
namespace Go.Proofs.YtgjapopddblpoaaGreatDoor
open Go.RowKit
set_option linter.unusedVariables false

/-- No place for r bytes. -/
def NF (x : Bx) (fr : Nat → List Nat) (S : Sb) (r : Nat) : Prop := (∃ k, k < 8 ∧ r = szC k ∧ S.pl k = [] ∧ ∀ a, a ≤ x.o → fr a = []) ∨ (∃ k, k ≤ x.o ∧ r = 4096 * 2 ^ k ∧ ∀ a, k ≤ a → a ≤ x.o → fr a = [])
/-- Where a block of r bytes was found. -/
inductive Td (x : Bx) (t : Bt) (fr : Nat → List Nat) (ls : List (Nat × Nat)) (S : Sb) (r : Nat) (d : Bool) (p : Nat) (b : Bool) (fr' : Nat → List Nat) (ls' : List (Nat × Nat)) (S' : Sb) : Prop where
  | old (k g i : Nat) (l rr : List Nat) (hk : k < 8) (hr : r = szC k) (hl : S.pl k = g :: l) (hf : S.fl g = i :: rr) (hp : p = caN x g k i) (hb : b = false) (e1 : fr' = fr) (e2 : ls' = ls) (e3 : S' = takS S g k rr)
  | new (k g : Nat) (hk : k < 8) (hr : r = szC k) (hl : S.pl k = []) (hp : p = caN x g k 0) (nd : Ned x t fr d g b fr') (e2 : ls' = ls ++ [(g, 0)]) (e3 : S' = takS (freS S g k) g k (List.range' 1 (ncl k - 1)))
  | here (k g j : Nat) (l : List Nat) (hk : k ≤ x.o) (hr : r = 4096 * 2 ^ k) (hkj : k ≤ j) (hj : j ≤ x.o) (hz : ∀ a, k ≤ a → a < j → fr a = []) (hl : fr j = g :: l) (hp : p = ad x g) (hb : b = false) (e1 : fr' = cutF (frU fr j (M.dropL (fr j) g)) g j k) (e2 : ls' = ls ++ [(g, k)]) (e3 : S' = S)
  | grew (k : Nat) (hk : k ≤ x.o) (hr : r = 4096 * 2 ^ k) (hz : ∀ a, k ≤ a → a ≤ x.o → fr a = []) (hp : p = ad x t.m.n) (hb : b = true) (e1 : fr' = cutF fr t.m.n x.o k) (e2 : ls' = ls ++ [(t.m.n, k)]) (e3 : S' = S)
/-- A heap behind a call that changed it. -/
structure Nx (w W W' : World) (hb sb lw : Nat) (x : Bx) (t : Bt) (ls : List (Nat × Nat)) (S : Sb) (s : Int) (x' : Bx) (t' : Bt) (fr' : Nat → List Nat) (ls' : List (Nat × Nat)) (S' : Sb) : Prop where
  H : HW w W' hb sb lw x' t' fr' ls' S' s
  ch : Ch x t ls S x' t' ls' S'
  kp : Kept (sown x sb) W W'
  ns : ∀ y, sown x' sb y → sown x sb y ∨ W.heap.size ≤ y
/-- What a request of r bytes answers, and leaves. -/
inductive Tq (w W : World) (hb sb lw : Nat) (x : Bx) (t : Bt) (fr : Nat → List Nat) (ls : List (Nat × Nat)) (S : Sb) (s : Int) (r : Nat) (d : Bool) (p : Nat) (er : Int) (w' : World) : Prop where
  | no (hp : p = 0) (he : er = 2) (nf : NF x fr S r) (hd : d = true ∨ x.n = x.lim * x.R) (kp : Kept none' W w')
  | yes (x' : Bx) (t' : Bt) (fr' : Nat → List Nat) (ls' : List (Nat × Nat)) (S' : Sb) (b : Bool) (he : er = 0) (td : Td x t fr ls S r d p b fr' ls' S') (nx : Nx w W w' hb sb lw x t ls S s x' t' fr' ls' S') (hL : ∀ a z, Lth x' ls' S' a z ↔ Lth x ls S a z ∨ (a = p ∧ z = r)) (hN : ∀ z, ¬ Lth x ls S p z) (hn : x'.n = (if b = true then x.n + x.R else x.n)) (hm : p % r = 0) (hb1 : b = true → NF x fr S r ∧ d = false ∧ x.n + x.R ≤ x.lim * x.R) (hb2 : b = false → ¬ NF x fr S r)
abbrev tkE (p : Nat) (g : Bool) (er : Int) : Ending := .returned (.tuple #[.int .u64 (p : Int), .bool g, .int .i64 er])
theorem szC_inj8 {k j : Nat} (h : szC k = szC j) : k = j := by
  unfold szC at h
  exact pow_inj _ _ (Nat.eq_of_mul_eq_mul_left (show 0 < 16 by decide) h)
theorem pg_inj8 {k j : Nat} (h : 4096 * 2 ^ k = 4096 * 2 ^ j) : k = j := pow_inj _ _ (Nat.eq_of_mul_eq_mul_left (show 0 < 4096 by decide) h)
theorem szC_pg {k j : Nat} (hk : k < 8) : szC k ≠ 4096 * 2 ^ j := fun e => by
  have := (szC_le hk).2
  have : 0 < 2 ^ j := Nat.pow_pos (by decide)
  omega
theorem NF.cell {x fr S k} (hk : k < 8) : NF x fr S (szC k) ↔ S.pl k = [] ∧ ∀ a, a ≤ x.o → fr a = [] := by
  constructor
  · rintro (⟨j, h1, h2, h3⟩ | ⟨j, h1, h2, h3⟩)
    · obtain rfl := szC_inj8 h2
      exact h3
    · exact absurd h2 (szC_pg hk)
  · exact fun h => .inl ⟨k, hk, rfl, h⟩
theorem NF.page {x : Bx} {fr S k} (hk : k ≤ x.o) : NF x fr S (4096 * 2 ^ k) ↔ ∀ a, k ≤ a → a ≤ x.o → fr a = [] := by
  constructor
  · rintro (⟨j, h1, h2, h3⟩ | ⟨j, h1, h2, h3⟩)
    · exact absurd h2.symm (szC_pg h1)
    · obtain rfl := pg_inj8 h2
      exact h3
  · exact fun h => .inr ⟨k, hk, rfl, h⟩
theorem mod_cell8 {b k i p : Nat} (hk : k < 8) (hb : b % 4096 = 0) : (b + 4096 * p + i * szC k) % szC k = 0 := by
  have hc := (ncl_b hk).1
  have h1 : b = b / 4096 * (ncl k * szC k) := by rw [hc]; omega
  rw [h1, show 4096 * p = p * (ncl k * szC k) by rw [hc]; omega, ← Nat.mul_assoc, ← Nat.mul_assoc, ← Nat.add_mul, ← Nat.add_mul]
  exact Nat.mul_mod_left _ _
theorem SO.pnone8 {w W sb lw x t fr ls S h} (o : SO w W sb lw x t fr ls S h) {q : Nat} (hc : S.c q = none) : x.P q = none := by
  rw [o.si.eP]
  exact pOf_none hc
section
variable {w W W' : World} {hb sb lw : Nat} {x : Bx} {t : Bt} {fr : Nat → List Nat} {ls : List (Nat × Nat)} {S : Sb} {s : Int}
theorem HW.take_small (H : HW w W hb sb lw x t fr ls S s) {k : Nat} (hk : k < 8) (d : Bool) :
    Calls Tryz.prog 92 #[.pointer (some ⟨sb, 0, none⟩), .int .i64 (k : Int), .bool d] W fun e w' => ∃ p g er, e = tkE p g er ∧ Tq w W hb sb lw x t fr ls S s (szC k) d p er w' := by
  obtain ⟨h, o⟩ := H.so
  have hz := szC_le hk
  refine (Take_any o (k : Int) d).mono fun e w' hT => ?_
  cases hT with
  | bad hc => exact absurd ⟨by omega, by omega⟩ hc
  | stuck k2 hk2 hc hl hz2 hd he kp =>
    obtain rfl : k = k2 := by omega
    exact ⟨0, false, 2, he, .no rfl rfl ((NF.cell hk).2 ⟨hl, hz2⟩) hd kp⟩
  | old k2 p i l r hk2 hc hl hf he so kp =>
    obtain rfl : k = k2 := by omega
    obtain ⟨P, m', h', so', hn⟩ := so
    have hcp := ((o.si.pm k hk p).1 (by rw [hl]; exact List.mem_cons_self)).1
    have hL : ∀ a z, Lth { x with P := P } ls (takS S p k r) a z ↔ Lth x ls S a z ∨ (a = caN x p k i ∧ z = szC k) := fun a z => by
      rw [Lth_base (x := x) (x' := { x with P := P }) rfl]
      exact Lth_old o hcp hf a z
    have ch : Ch x t ls S { x with P := P } { t with m := m' } ls (takS S p k r) := ⟨rfl, rfl, rfl, rfl, fun j _ _ => rfl⟩
    refine ⟨caN x p k i, false, 0, he, .yes _ _ _ _ _ false rfl (.old k p i l r hk rfl hl hf rfl rfl rfl rfl rfl) ⟨H.call so' (Lve.old o H.lv hk hl hf) ch kp, ch, kp, fun y e => .inl e⟩ hL (o.free_no hcp (by rw [hf]; exact List.mem_cons_self)) rfl (mod_cell8 hk o.bm) (fun e => by cases e) (fun _ e => ?_)⟩
    have := ((NF.cell hk).1 e).1
    rw [hl] at this
    cases this
  | new k2 p b hk2 hc hl he so hcp nl kp =>
    obtain rfl : k = k2 := by omega
    obtain ⟨x', t', fr', h', hN, so', sm, hfb, nb, htn, hxn'⟩ := so
    have hL : ∀ a z, Lth x' (ls ++ [(p, 0)]) (takS (freS S p k) p k (List.range' 1 (ncl k - 1))) a z ↔ Lth x ls S a z ∨ (a = caN x p k 0 ∧ z = szC k) := fun a z => by
      rw [Lth_base (x := x) (x' := x') sm.base]
      exact Lth_new hk hcp nl a z
    have hno : ∀ z, ¬ Lth x ls S (caN x p k 0) z := fun z e => by
      have h0 : 0 < z := (o.span e).1
      obtain ⟨_, q, j, q1, q2, q3⟩ := o.span e
      have hz2 : 0 < 2 ^ j := Nat.pow_pos (by decide)
      unfold caN at q2 q3
      unfold ad at q2 q3
      rcases so'.apart (List.mem_append_left _ q1) (List.mem_append_right ls (List.mem_singleton.2 rfl)) with ⟨e3, e4⟩ | e3 | e3
      · subst e3
        exact nl _ q1
      · omega
      · rw [Nat.pow_zero] at e3
        omega
    have ch : Ch x t ls S x' t' (ls ++ [(p, 0)]) (takS (freS S p k) p k (List.range' 1 (ncl k - 1))) := ⟨sm.base, sm.R, sm.lim, sm.o, fun j h1 _ => hfb j (o.byte h1)⟩
    refine ⟨caN x p k 0, b, 0, he, .yes _ _ _ _ _ b rfl (.new k p hk rfl hl rfl hN rfl rfl) ⟨H.call so' (H.lv.new hk) ch kp, ch, kp, fun y e => e.elim (fun e => (nb y e).imp (fun e => .inl e) id) (fun e => .inl (.inr e))⟩ hL hno hxn' (mod_cell8 hk o.bm) (fun e => ?_) (fun e hf => ?_)⟩
    · cases hN with
      | here j l2 hj hz2 hp hb => rw [hb] at e; cases e
      | grew hz2 hd hle hb hp => exact ⟨(NF.cell hk).2 ⟨hl, hz2⟩, hd, hle⟩
    · cases hN with
      | here j l2 hj hz2 hp hb =>
        have := ((NF.cell hk).1 hf).2 j hj
        rw [hp] at this
        cases this
      | grew hz2 hd hle hb hp => rw [hb] at e; cases e
theorem HW.need_big (H : HW w W hb sb lw x t fr ls S s) {k : Nat} (hk : k ≤ x.o) (d : Bool) :
    Calls Tryz.prog 94 #[.pointer (some ⟨lw, 0, none⟩), .int .i64 (k : Int), .bool d] W fun e w' => ∃ p g er, e = tkE p g er ∧ Tq w W hb sb lw x t fr ls S s (4096 * 2 ^ k) d p er w' := by
  obtain ⟨h, o⟩ := H.so
  have hz : 0 < 2 ^ k := Nat.pow_pos (by decide)
  have key : ∀ (p : Nat) (b : Bool) (x' : Bx) (t' : Bt) (fr' : Nat → List Nat) (e : Ending) (w' : World), e = .returned (.tuple #[.int .u64 ((ad x p : Nat) : Int), .bool b, .int .i64 0]) → PO w w' lw x' t' fr' (ls ++ [(p, k)]) → Sm x x' → BK t t' ls (ls ++ [(p, k)]) → Nb W x x' → Kept (bown x) W w' → S.c p = none → (∀ i, (p, i) ∉ ls) → x'.n = (if b = true then x.n + x.R else x.n) → Td x t fr ls S (4096 * 2 ^ k) d (ad x p) b fr' (ls ++ [(p, k)]) S → (b = true → NF x fr S (4096 * 2 ^ k) ∧ d = false ∧ x.n + x.R ≤ x.lim * x.R) → (b = false → ¬ NF x fr S (4096 * 2 ^ k)) → ∃ p g er, e = tkE p g er ∧ Tq w W hb sb lw x t fr ls S s (4096 * 2 ^ k) d p er w' := by
    rintro p b x' t' fr' e w' he po' sm bk nb kp hcp nl hxn td h1 h2
    have o' := o.pool po' sm bk (fun a c ha => List.mem_append_left _ (o.mem ha).1) kp
    have hL : ∀ a z, Lth x' (ls ++ [(p, k)]) S a z ↔ Lth x ls S a z ∨ (a = ad x p ∧ z = 4096 * 2 ^ k) := fun a z => by
      rw [Lth_base (x := x) (x' := x') sm.base]
      exact Lth_need hcp a z
    have hal : p % 2 ^ k = 0 := (o'.al (List.mem_append_right ls (List.mem_singleton.2 rfl))).2.1
    have hno : ∀ z, ¬ Lth x ls S (ad x p) z := fun z e => by
      have h0 : 0 < z := (o.span e).1
      obtain ⟨_, q, j, q1, q2, q3⟩ := o.span e
      have hz2 : 0 < 2 ^ j := Nat.pow_pos (by decide)
      unfold ad at q2 q3
      rcases o'.apart (List.mem_append_left _ q1) (List.mem_append_right ls (List.mem_singleton.2 rfl)) with ⟨e3, e4⟩ | e3 | e3
      · subst e3
        exact nl _ q1
      · omega
      · omega
    have ch : Ch x t ls S x' t' (ls ++ [(p, k)]) S := ⟨sm.base, sm.R, sm.lim, sm.o, fun j h1 h2 => bk j (o.byte h1) (o'.byte h2)⟩
    have kp2 : Kept (sown x sb) W w' := kp.mono (fun _ _ e => .inl e)
    refine ⟨ad x p, b, 0, he, .yes x' t' fr' _ S b rfl td ⟨H.call o' H.lv ch kp2, ch, kp2, fun y e => e.elim (fun e => (nb y e).imp (fun e => .inl e) id) (fun e => .inl (.inr e))⟩ hL hno hxn ?_ h1 h2⟩
    have hR := o.sw.pl.bd.hR
    have h1 : 4096 * 2 ^ k ∣ x.base := Nat.dvd_trans (by rw [hR]; exact Nat.mul_dvd_mul_left _ (Nat.pow_dvd_pow 2 hk)) (Nat.dvd_of_mod_eq_zero H.br)
    have h2 : 4096 * 2 ^ k ∣ 4096 * p := Nat.mul_dvd_mul_left _ (Nat.dvd_of_mod_eq_zero hal)
    exact Nat.mod_eq_zero_of_dvd (Nat.dvd_add h1 h2)
  refine (K.Need_any o.po (k : Int) d).mono fun e w' hN => ?_
  cases hN with
  | bad hb he kp =>
    exfalso
    rw [inR_in hk] at hb
    cases hb
  | stuck i hi hi2 hz2 hd he kp =>
    obtain rfl : k = i := by omega
    exact ⟨0, false, 2, he, .no rfl rfl ((NF.page hk).2 hz2) hd kp⟩
  | here i j p l hi hi2 hij hj hz2 hp he hs kp =>
    obtain rfl : k = i := by omega
    obtain ⟨t', po', hn, bk⟩ := hs
    have hcp : S.c p = none := by
      have h1 := o.sf.pfree hj (show p ∈ fr j by rw [hp]; exact List.mem_cons_self)
      cases e : S.c p with
      | none => rfl
      | some c =>
        rw [o.si.eP, pOf_some e] at h1
        cases h1
    refine key p false x t' _ e w' he po' (Sm.refl x) bk (fun y e => .inl e) kp hcp (fun i hm2 => ?_) rfl (.here k p j l hk rfl hij hj hz2 hp rfl rfl rfl rfl rfl) (fun e => by cases e) (fun _ e => ?_)
    · have h0 := o.sf.apart0 hj (show p ∈ fr j by rw [hp]; exact List.mem_cons_self) hm2
      have hz1 : 0 < 2 ^ i := Nat.pow_pos (by decide)
      have hz2 : 0 < 2 ^ j := Nat.pow_pos (by decide)
      omega
    · have := (NF.page hk).1 e j hij hj
      rw [hp] at this
      cases this
  | grew i hi hi2 hz2 hd hle he hs kp =>
    obtain rfl : k = i := by omega
    obtain ⟨x', t', po', sm, hn, htn, nb, bk⟩ := hs
    have hcp : S.c t.m.n = none := by
      have h1 := o.sf.pout (Nat.le_refl t.m.n)
      cases e : S.c t.m.n with
      | none => rfl
      | some c =>
        rw [o.si.eP, pOf_some e] at h1
        cases h1
    refine key t.m.n true x' t' _ e w' he po' sm bk nb kp hcp (fun i hm2 => ?_) (by rw [if_pos rfl]; exact hn) (.grew k hk rfl hz2 rfl rfl rfl rfl rfl) (fun _ => ⟨(NF.page hk).2 hz2, hd, hle⟩) (fun e => by cases e)
    have := (o.al hm2).2.2
    have hz1 : 0 < 2 ^ i := Nat.pow_pos (by decide)
    omega
/-- How a live block was given back. -/
inductive Gd (x : Bx) (fr : Nat → List Nat) (ls : List (Nat × Nat)) (S : Sb) (p z : Nat) (fr' : Nat → List Nat) (ls' : List (Nat × Nat)) (S' : Sb) : Prop where
  | back (g k i : Nat) (hv : Liv x S p g k i) (hz : z = szC k) (hl : (S.fl g).length + 1 < ncl k) (e1 : fr' = fr) (e2 : ls' = ls) (e3 : S' = givS S g k i)
  | rel (g k i : Nat) (hv : Liv x S p g k i) (hz : z = szC k) (hl : (S.fl g).length + 1 = ncl k) (e1 : fr' = giveF x.o fr g 0) (e2 : ls' = dropR ls g) (e3 : S' = relS S g k)
  | pages (q k : Nat) (hm : (q, k) ∈ ls) (hc : S.c q = none) (hp : p = ad x q) (hz : z = 4096 * 2 ^ k) (e1 : fr' = giveF x.o fr q k) (e2 : ls' = dropR ls q) (e3 : S' = S)
/-- What giving a live block back leaves. -/
def Gq (w W : World) (hb sb lw : Nat) (x : Bx) (t : Bt) (fr : Nat → List Nat) (ls : List (Nat × Nat)) (S : Sb) (s : Int) (p z : Nat) (w' : World) : Prop := ∃ x' t' fr' ls' S', Gd x fr ls S p z fr' ls' S' ∧ Nx w W w' hb sb lw x t ls S s x' t' fr' ls' S' ∧ (∀ a c, Lth x' ls' S' a c ↔ Lth x ls S a c ∧ a ≠ p) ∧ x'.n = x.n
theorem HW.give_cell (H : HW w W hb sb lw x t fr ls S s) {p g k i : Nat} (hv : Liv x S p g k i) :
    Calls Tryz.prog 79 #[.pointer (some ⟨sb, 0, none⟩), .int .u64 (p : Int)] W fun e w' => e = .returned (.int .i64 0) ∧ Gq w W hb sb lw x t fr ls S s p (szC k) w' := by
  obtain ⟨h, o⟩ := H.so
  have hk := (o.si.pg g k hv.1).1
  have hz := szC_le hk
  have hp : p = caN x g k i := hv.2.2.2
  have hv2 : Liv x S (caN x g k i) g k i := by rw [← hp]; exact hv
  have hm := o.mem hv.1
  have n4 := o.po.nums.2.2.2.1
  have hcc := off_cell (x := x) (p := g) hk hv.2.1 (by omega)
  refine (Give7_yes o H.lv _ g k i hv).mono ?_
  rintro e w' ⟨rfl, hG⟩
  refine ⟨rfl, ?_⟩
  cases hG with
  | back hl so kp =>
    obtain ⟨P, t', h', so', hf, hn⟩ := so
    have hL : ∀ a z, Lth { x with P := P } ls (givS S g k i) a z ↔ Lth x ls S a z ∧ a ≠ p := fun a z => by
      rw [hp, Lth_base (x := x) (x' := { x with P := P }) rfl]
      exact Lth_back o hv2 a z
    have ch : Ch x t ls S { x with P := P } t' ls (givS S g k i) := ⟨rfl, rfl, rfl, rfl, fun j _ hj => by
      refine hf j (fun hj8 => ?_)
      obtain ⟨a, z, h1, h2, h3⟩ := hj
      obtain ⟨h1, h4⟩ := (hL a z).1 h1
      have h2 : a ≤ x.base + j := h2
      have h3 : x.base + j < a + z := h3
      rw [hp] at h4
      have e : caN x g k i = x.base + 4096 * g + i * szC k := rfl
      rcases o.two h1 (.inl ⟨g, k, i, hv2, rfl⟩) with ⟨e2, _⟩ | e2 | e2
      · exact h4 e2
      · omega
      · omega⟩
    exact ⟨_, _, _, _, _, .back g k i hv rfl hl rfl rfl rfl, ⟨H.call so' (H.lv.back hv.1 hl) ch kp, ch, kp, fun y e => .inl e⟩, hL, rfl⟩
  | rel hl so =>
    obtain ⟨P, t', h', so', hn, bk, kp⟩ := so
    have hL : ∀ a z, Lth { x with P := P } (dropR ls g) (relS S g k) a z ↔ Lth x ls S a z ∧ a ≠ p := fun a z => by
      rw [hp, Lth_base (x := x) (x' := { x with P := P }) rfl]
      exact Lth_rel o hv2 hl a z
    have ch : Ch x t ls S { x with P := P } t' (dropR ls g) (relS S g k) := ⟨rfl, rfl, rfl, rfl, fun j h1 h2 => bk j (o.byte h1) (so'.byte h2)⟩
    exact ⟨_, _, _, _, _, .rel g k i hv rfl hl rfl rfl rfl, ⟨H.call so' (H.lv.rel g k) ch kp, ch, kp, fun y e => .inl e⟩, hL, rfl⟩
theorem HW.give_pages (H : HW w W hb sb lw x t fr ls S s) {p q k : Nat} (hq : (q, k) ∈ ls) (hc : S.c q = none) (hp : p = ad x q) :
    Calls Tryz.prog 80 #[.pointer (some ⟨lw, 0, none⟩), .int .u64 (p : Int), .int .i64 (k : Int)] W fun e w' => e = .returned (.int .i64 0) ∧ Gq w W hb sb lw x t fr ls S s p (4096 * 2 ^ k) w' := by
  obtain ⟨h, o⟩ := H.so
  refine (K.Give6_yes o.po q k hq (o.pnone8 hc) _ hp).mono ?_
  rintro e w' ⟨rfl, t', po', hn, kk, bk⟩
  have o' := o.pool po' (Sm.refl _) bk (fun a c ha => List.mem_filter.2 ⟨(o.mem ha).1, decide_eq_true fun e => by
    have e : a = q := e
    rw [e, hc] at ha
    cases ha⟩) kk
  have hL : ∀ a z, Lth x (dropR ls q) S a z ↔ Lth x ls S a z ∧ a ≠ p := fun a z => by
    rw [hp]
    exact Lth_giv o hq hc a z
  have ch : Ch x t ls S x t' (dropR ls q) S := ⟨rfl, rfl, rfl, rfl, fun j h1 h2 => bk j (o.byte h1) (o'.byte h2)⟩
  have kp2 : Kept (sown x sb) W w' := kk.mono (fun _ _ e => .inl e)
  exact ⟨rfl, _, _, _, _, _, .pages q k hq hc hp rfl rfl rfl rfl, ⟨H.call o' H.lv ch kp2, ch, kp2, fun y e => .inl e⟩, hL, rfl⟩
end
end Go.Proofs.YtgjapopddblpoaaGreatDoor
