/- LinksPlays: the walk. -/
import Derived.Test.YtnkoheanjaapjaaPlyN
import Derived.Test.YtnkoheanjaapjaaLawD
import Derived.Test.YtnkoheanjaapjaaArgP
import Derived.Deep.RegionHeld3
namespace Go.Proofs.Ytnkoheanjaapjaa
open Go.RowKit
set_option linter.unusedVariables false

/-- Both spaces, the document's in its box T, while regions come. -/
structure In3 (w wr : World) (b T : Nat) (ao mo : Option Nat) (n cap : Nat) (f : Nat → Nat) : Prop where
  s : SpaceAt wr b ao 4096 4096 3 n f
  r : RefAt wr mo n cap f
  gm : ∀ g, ao = some g → mo ≠ some g
  t : wr.heap[T]? = some (.cells #[.int .u64 4096, .int .u64 4096, .int .i64 3, .slice (adr mo) n cap] 44 (0, 0))
  hb : w.heap.size ≤ b
  hT : w.heap.size ≤ T
  hao : ∀ g, ao = some g → w.heap.size ≤ g
  hmo : ∀ g, mo = some g → w.heap.size ≤ g
  k : Kept (from' w.heap.size) w wr
theorem In3.ct {w wr b T ao mo n cap f} (h : In3 w wr b T ao mo n cap f) :
    wr.cell? ⟨T, 0, none⟩ = some (.int .u64 4096) ∧ wr.cell? ⟨T, 1, none⟩ = some (.int .u64 4096) ∧ wr.cell? ⟨T, 2, none⟩ = some (.int .i64 3) ∧ wr.cell? ⟨T, 3, none⟩ = some (.slice (adr mo) n cap) := by
  have := h.t
  refine ⟨?_, ?_, ?_, ?_⟩ <;> simp [World.cell?, this]
theorem In3.keep {w wr wr' b T ao mo n cap f} (h : In3 w wr b T ao mo n cap f) (k : Kept none' wr wr') : In3 w wr' b T ao mo n cap f :=
  ⟨h.s.keep k, h.r.keep k, h.gm, (k.block _ (Array.getElem?_eq_some_iff.1 h.t).1 (fun x => x)).trans h.t, h.hb, h.hT, h.hao, h.hmo, h.k.then' (fresh_none k)⟩
/-- The program's region has come. -/
theorem In3.tOwn {w wr w2 b T ao mo n cap f} (h : In3 w wr b T ao mo n cap f) (k : Kept (own b ao) wr w2) : w2.heap[T]? = some (.cells #[.int .u64 4096, .int .u64 4096, .int .i64 3, .slice (adr mo) n cap] 44 (0, 0)) ∧ RefAt w2 mo n cap f ∧ Kept (from' w.heap.size) w w2 := by
  refine ⟨(k.block _ (Array.getElem?_eq_some_iff.1 h.t).1 (fun e => own_ne h.s h.t (by decide) (by decide) e rfl)).trans h.t, h.r.kept k (fun x hx e => ?_), h.k.then' (k.fresh (fun x e => ?_))⟩
  · rcases e with rfl | e
    · obtain ⟨c, hc⟩ := ref_ty h.r hx
      obtain ⟨cap', hb, _⟩ := h.s.ex
      exact ty_ne hc hb (by decide) rfl
    · exact h.gm x e hx
  · rcases e with rfl | e
    · exact h.hb
    · exact h.hao x e

/-- The document's region has come, and is in its box. -/
theorem In3.fin {w w5 b T g h' n cap f} {v0 v1 v2 v3 : Value} (HS : SpaceAt w5 b (some g) 4096 4096 3 n f) (HR : RefAt w5 (some h') n cap f) (gm : ∀ x, some g = some x → some h' ≠ some x)
    (T5 : w5.heap[T]? = some (.cells #[v0, v1, v2, v3] 44 (0, 0))) (hb : w.heap.size ≤ b) (hT : w.heap.size ≤ T) (hg : w.heap.size ≤ g) (hh : w.heap.size ≤ h') (k : Kept (from' w.heap.size) w w5) (o : Obj) :
    In3 w (((((w5.setCell ⟨T, 0, none⟩ (.int .u64 4096)).setCell ⟨T, 1, none⟩ (.int .u64 4096)).setCell ⟨T, 2, none⟩ (.int .i64 3)).setCell ⟨T, 3, none⟩ (.slice (some ⟨h', 0, none⟩) n cap)).alloc o) b T (some g) (some h') n cap f := by
  have hk4 : Kept (fun x => x = T) w5 ((((w5.setCell ⟨T, 0, none⟩ (.int .u64 4096)).setCell ⟨T, 1, none⟩ (.int .u64 4096)).setCell ⟨T, 2, none⟩ (.int .i64 3)).setCell ⟨T, 3, none⟩ (.slice (some ⟨h', 0, none⟩) n cap)) :=
    ((((Kept.refl (fun x => x = T) w5).setCell (fun _ => rfl) _).setCell (fun _ => rfl) _).setCell (fun _ => rfl) _).setCell (fun _ => rfl) _
  have ht : ((((w5.setCell ⟨T, 0, none⟩ (.int .u64 4096)).setCell ⟨T, 1, none⟩ (.int .u64 4096)).setCell ⟨T, 2, none⟩ (.int .i64 3)).setCell ⟨T, 3, none⟩ (.slice (some ⟨h', 0, none⟩) n cap)).heap[T]? = some (.cells #[.int .u64 4096, .int .u64 4096, .int .i64 3, .slice (some ⟨h', 0, none⟩) n cap] 44 (0, 0)) := by
    simp only [World.setCell, Array.getElem?_modify, if_true, T5]
    simp
  refine In3.keep ⟨HS.kept hk4 (fun x hx e => own_ne HS T5 (by decide) (by decide) hx e), HR.kept hk4 (fun x hx e => ?_), gm, ht, hb, hT, fun x e => ?_, fun x e => ?_, k.then' (hk4.fresh (fun x e => ?_))⟩ ((Kept.refl none' _).alloc o)
  · obtain ⟨c, hc⟩ := ref_ty HR hx
    exact ty_ne hc T5 (by decide) e
  · cases e; exact hg
  · cases e; exact hh
  · subst e; exact hT

def mp (cs : Nat → Nat) (j k : Nat) : Value := if k < j then lp (cs k) else .pointer none
/-- While the lists are made. -/
structure Mk (w W : World) (b T A B : Nat) (ao mo : Option Nat) (n cap : Nat) (f : Nat → Nat) (j : Nat) (cs : Nat → Nat) : Prop where
  i : In3 w W b T ao mo n cap f
  a : W.heap[A]? = some (.cells #[mp cs j 0, mp cs j 1, mp cs j 2] 49 (0, 0))
  h : W.heap[B]? = some (.cells #[hv 0, hv 0, hv 0] 50 (0, 0))
  l : ∀ k, k < j → ListAt W (cs k) b 0
  inj : ∀ p q, p < j → q < j → cs p = cs q → p = q
  hA : w.heap.size ≤ A
  hB : w.heap.size ≤ B
  fr : ∀ k, k < j → w.heap.size ≤ cs k
theorem Mk.ca {w W b T A B ao mo n cap f j cs} (h : Mk w W b T A B ao mo n cap f j cs) (k : Nat) (hk : k < 3) : W.cell? ⟨A, k, none⟩ = some (mp cs j k) := by
  have := h.a
  match k, hk with
  | 0, _ => simp [World.cell?, this]
  | 1, _ => simp [World.cell?, this]
  | 2, _ => simp [World.cell?, this]
theorem Mk.keep {w W W' b T A B ao mo n cap f j cs} (h : Mk w W b T A B ao mo n cap f j cs) (k : Kept none' W W') : Mk w W' b T A B ao mo n cap f j cs :=
  ⟨h.i.keep k, (k.block _ (Array.getElem?_eq_some_iff.1 h.a).1 (fun x => x)).trans h.a, (k.block _ (Array.getElem?_eq_some_iff.1 h.h).1 (fun x => x)).trans h.h, fun i hi => (h.l i hi).keep k, h.inj, h.hA, h.hB, h.fr⟩
theorem Mk.next {w W b T A B ao mo n cap f j cs} (h : Mk w W b T A B ao mo n cap f j cs) (hj : j < 3) (c : Nat) (hc : ListAt W c b 0) (hn : ∀ k, k < j → cs k ≠ c) (hcw : w.heap.size ≤ c) :
    Mk w (W.setCell ⟨A, j, none⟩ (.pointer (some ⟨c, 0, none⟩))) b T A B ao mo n cap f (j + 1) (put3 cs j c) := by
  have k : Kept (fun y => y = A) W (W.setCell ⟨A, j, none⟩ (.pointer (some ⟨c, 0, none⟩))) := (Kept.refl (fun y => y = A) W).setCell (fun _ => rfl) _
  refine ⟨⟨h.i.s.kept k (fun y hy e => own_ne h.i.s h.a (by decide) (by decide) hy e), h.i.r.kept k (fun y hy e => ?_), h.i.gm, (k.block _ (Array.getElem?_eq_some_iff.1 h.i.t).1 (ty_ne h.i.t h.a (by decide))).trans h.i.t, h.i.hb, h.i.hT, h.i.hao, h.i.hmo, h.i.k.then' (k.fresh (fun x e => e ▸ h.hA))⟩, (heap_set h.a j _).trans ?_, (k.block _ (Array.getElem?_eq_some_iff.1 h.h).1 (ty_ne h.h h.a (by decide))).trans h.h, fun i hi => ?_, fun p q hp hq e => ?_, h.hA, h.hB, fun i hi => ?_⟩
  · obtain ⟨d, hd⟩ := ref_ty h.i.r hy
    exact ty_ne hd h.a (by decide) e
  · match j, hj with
    | 0, _ => simp [mp, put3, lp]
    | 1, _ => simp [mp, put3, lp]
    | 2, _ => simp [mp, put3, lp]
  · unfold put3
    by_cases e : i = j
    · rw [if_pos e]
      exact hc.kept k (fun e => ty_ne hc.hc h.a (by decide) e)
    · rw [if_neg e]
      exact (h.l i (by omega)).kept k (fun e => ty_ne (h.l i (by omega)).hc h.a (by decide) e)
  · unfold put3 at e
    by_cases e1 : p = j <;> by_cases e2 : q = j
    · omega
    · rw [if_pos e1, if_neg e2] at e
      exact absurd e.symm (hn q (by omega))
    · rw [if_neg e1, if_pos e2] at e
      exact absurd e (hn p (by omega))
    · rw [if_neg e1, if_neg e2] at e
      exact h.inj p q (by omega) (by omega) e
  · unfold put3
    by_cases e : i = j
    · rw [if_pos e]; exact hcw
    · rw [if_neg e]; exact h.fr i (by omega)
/-- Between the steps. -/
structure Pl (w W : World) (b T A B : Nat) (ao mo : Option Nat) (n cap : Nat) (f cs hs : Nat → Nat) : Prop where
  t : Trio W A B b ao mo n cap f cs hs f hs
  bx : W.heap[T]? = some (.cells #[.int .u64 4096, .int .u64 4096, .int .i64 3, .slice (adr mo) n cap] 44 (0, 0))
  fr : ∀ x, tri A B b ao mo cs x → w.heap.size ≤ x
  hT : w.heap.size ≤ T
  k : Kept (from' w.heap.size) w W
theorem Mk.pl {w W b T A B ao mo n cap f cs} (h : Mk w W b T A B ao mo n cap f 3 cs) : Pl w W b T A B ao mo n cap f cs (fun _ => 0) := by
  refine ⟨⟨h.i.s, h.l, h.inj, ?_, h.h, fun k hk => by decide, h.i.r, h.i.gm⟩, h.i.t, fun x hx => ?_, h.i.hT, h.i.k⟩
  · have := h.a
    simpa [mp] using this
  · rcases hx with rfl | rfl | (rfl | hx) | hx | ⟨k, hk, rfl⟩
    · exact h.hA
    · exact h.hB
    · exact h.i.hb
    · exact h.i.hao x hx
    · exact h.i.hmo x hx
    · exact h.fr k hk
theorem Pl.ct {w wr b T A B ao mo n cap f cs hs} (h : Pl w wr b T A B ao mo n cap f cs hs) :
    wr.cell? ⟨T, 0, none⟩ = some (.int .u64 4096) ∧ wr.cell? ⟨T, 1, none⟩ = some (.int .u64 4096) ∧ wr.cell? ⟨T, 2, none⟩ = some (.int .i64 3) ∧ wr.cell? ⟨T, 3, none⟩ = some (.slice (adr mo) n cap) := by
  have := h.bx
  refine ⟨?_, ?_, ?_, ?_⟩ <;> simp [World.cell?, this]
theorem read_all {w A B b ao mo n cap f cs hs f' hs'} (t : Trio w A B b ao mo n cap f cs hs f' hs') :
    Calls Try.prog 23 #[.pointer (some ⟨b, 0, none⟩), .int .u64 4096, .int .u64 (n : Int)] w fun e w' => ∃ q, e = .returned (.tuple #[.slice (some ⟨q, 0, none⟩) n n, .int .i64 0]) ∧ Bytes w' (.slice (some ⟨q, 0, none⟩) n n) n f ∧ Kept none' w w' := by
  by_cases h0 : n = 0
  · subst h0
    refine (Read_zero b 4096 w).mono ?_
    rintro e w' ⟨rfl, k, hz⟩
    exact ⟨_, rfl, ⟨by omega, some _, 0, rfl, Or.inl rfl⟩, k⟩
  · obtain ⟨g, rfl⟩ := t.s.some (by omega)
    refine (Read_in b g 4096 4096 3 n f 4096 n w t.s (by omega) ⟨by omega, by omega⟩).mono ?_
    rintro e w' ⟨rfl, hB, k⟩
    exact ⟨_, rfl, by simpa using hB.bytes n, k⟩
theorem Pl.keep {w W W' b T A B ao mo n cap f cs hs} (h : Pl w W b T A B ao mo n cap f cs hs) (k : Kept none' W W') : Pl w W' b T A B ao mo n cap f cs hs :=
  ⟨h.t.keep k, (k.block _ (Array.getElem?_eq_some_iff.1 h.bx).1 (fun x => x)).trans h.bx, h.fr, h.hT, h.k.then' (fresh_none k)⟩
theorem Pl.next {w W W' b T A B ao mo n cap f cs hs f2 cs2 hs2} (h : Pl w W b T A B ao mo n cap f cs hs) (t : Trio W' A B b ao mo n cap f2 cs2 hs2 f2 hs2) (k : Kept (tri A B b ao mo cs) W W') (hc : ∀ k, k < 3 → cs2 k = cs k ∨ W.heap.size ≤ cs2 k) : Pl w W' b T A B ao mo n cap f2 cs2 hs2 := by
  refine ⟨t, (k.block _ (Array.getElem?_eq_some_iff.1 h.bx).1 (fun hx => ?_)).trans h.bx, fun x hx => ?_, h.hT, h.k.then' (k.fresh h.fr)⟩
  · rcases hx with e | e | hx | hx | ⟨k, hk, e⟩
    · exact ty_ne h.bx h.t.a (by decide) e
    · exact ty_ne h.bx h.t.h (by decide) e
    · exact own_ne h.t.s h.bx (by decide) (by decide) hx rfl
    · obtain ⟨d, hd⟩ := ref_ty h.t.r hx
      exact ty_ne hd h.bx (by decide) rfl
    · exact ty_ne h.bx (h.t.l k hk).hc (by decide) e
  · rcases hx with e | e | hx | hx | ⟨k, hk, e⟩
    · exact h.fr x (.inl e)
    · exact h.fr x (.inr (.inl e))
    · exact h.fr x (.inr (.inr (.inl hx)))
    · exact h.fr x (.inr (.inr (.inr (.inl hx))))
    · subst e
      rcases hc k hk with e | e
      · rw [e]; exact h.fr _ (.inr (.inr (.inr (.inr ⟨k, hk, rfl⟩))))
      · have := h.k.size; omega

set_option maxHeartbeats 4000000 in
set_option maxRecDepth 5000 in
theorem plays_any (rg : Int) (hr1 : -9223372036854775808 ≤ rg) (hr2 : rg ≤ 9223372036854775807) (sv : Value) (m : Nat) (w : World) (hS : Steps w sv m) :
    Calls Try.prog 4 #[.int .i64 rg, sv] w fun e w' => e = .returned (.bool true) ∧ Kept none' w w' := by
  obtain ⟨hm63, oa, oc, rfl, hsv⟩ := hS
  have HSV := hid hsv
  have HM63 := hid hm63
  clear hsv hm63
  have hmay : mayB 4096 3 0 = true := by decide
  have HM := hid hmay
  clear hmay
  go_enter Try.func4, Try.ntmps4
  go_wp2_with fail
  refine (New_ok 4096 (by decide) 3 0 (by decide) (by decide) (by decide) (by decide) HM.out (fun _ => 0) _).mono ?_
  rintro e w1 ⟨b, rfl, hS, hK, hb⟩
  have C1 := hid (show w1.heap[w.heap.size]? = some (.cells #[.int .u64 4096, .int .i64 3, .int .i64 0] 39 (0, 0)) from (hK.block _ (by simp) (fun x => x)).trans (heap_new w _))
  have HS1 := hid (show SpaceAt w1 b none 4096 4096 3 0 (fun _ => 0) from hS)
  have K1 := hid (none_trans ((Kept.refl none' w).alloc (.cells #[.int .u64 4096, .int .i64 3, .int .i64 0] 39)) hK)
  have HB := hid (show w.heap.size ≤ b by simp at hb; omega)
  clear hS hK hb
  go_wp2_with fail
  refine (lives_any _).mono ?_
  rintro e w2 ⟨rfl, hK⟩
  have C2 := hid ((hK.block _ (Array.getElem?_eq_some_iff.1 C1.out).1 (fun x => x)).trans C1.out)
  have HS2 := hid (HS1.out.keep hK)
  have K2 := hid (none_trans K1.out hK)
  have c0 : w2.cell? ⟨w.heap.size, 0, none⟩ = some (.int .u64 4096) := by simp [World.cell?, C2.out]
  have c1 : w2.cell? ⟨w.heap.size, 1, none⟩ = some (.int .i64 3) := by simp [World.cell?, C2.out]
  have c2 : w2.cell? ⟨w.heap.size, 2, none⟩ = some (.int .i64 0) := by simp [World.cell?, C2.out]
  clear hK HS1 K1 C1
  go_wp2_with fail
  refine (RNew_any 4096 3 0 (by decide) _).mono ?_
  rintro e w3 ⟨rfl, hK⟩
  rw [show refV 4096 (RS 0) 3 none 0 0 = .agg #[.int .u64 4096, .int .u64 4096, .int .i64 3, .slice none 0 0] from rfl]
  have HI := hid (show In3 w (w3.alloc (.cells #[.int .u64 4096, .int .u64 4096, .int .i64 3, .slice none 0 0] 44)) b w3.heap.size none none 0 0 (fun _ => 0) from by
    have ka := (Kept.refl none' w3).alloc (.cells #[.int .u64 4096, .int .u64 4096, .int .i64 3, .slice none 0 0] 44)
    refine ⟨(HS2.out.keep hK).keep ka, ⟨rfl, rfl⟩, fun g e => (by cases e), heap_new w3 _, HB.out, ?_, fun g e => (by cases e), fun g e => (by cases e), fresh_none (none_trans (none_trans K2.out hK) ka)⟩
    exact (none_trans K2.out hK).size)
  clear hK HS2 K2 C2 c0 c1 c2 HM
  go_wp2_with fail
  obtain ⟨T, hT⟩ : ∃ T, T = w3.heap.size := ⟨_, rfl⟩
  rw [← hT] at HI
  rw [← hT]
  clear hT
  go_loopw [9] (fun i wr => ∃ j : Nat, j ≤ 3 ∧ i = .int .i64 j ∧ Hid (∃ ao mo cap f, In3 w wr b T ao mo (j * 4096) cap f)) (fun i _ => 3 - (intOf i).toNat)
  case atStart => exact ⟨0, by omega, rfl, ⟨none, none, 0, fun _ => 0, HI.out⟩⟩
  case round =>
    clear HI
    obtain ⟨j, hj, rfl, hI⟩ := hrel
    by_cases hlt : (j : Int) < rg ∧ (j : Int) < 3
    · obtain ⟨hl1, hl2⟩ := hlt
      obtain ⟨ao, mo, cap, f, hI⟩ := hI.out
      have HI := hid hI
      clear hI
      go_wp2_with fail
      refine (Commit_ok b ao 4096 4096 3 (j * 4096) f _ HI.out.s ⟨j, rfl, by omega⟩).mono ?_
      rintro e w4 ⟨rfl, g, hS4, hK4, hg⟩
      have HS4 := hid hS4
      have HK4 := hid hK4
      have HG4 := hid (show w.heap.size ≤ g by rcases hg with e | e; exact HI.out.hao g e; exact Nat.le_trans HI.out.k.size e)
      obtain ⟨t4, r4, k4⟩ := HI.out.tOwn hK4
      have T4 := hid t4
      have R4 := hid r4
      have K4 := hid k4
      have d0 : w4.cell? ⟨T, 0, none⟩ = some (.int .u64 4096) := by simp [World.cell?, t4]
      have d1 : w4.cell? ⟨T, 1, none⟩ = some (.int .u64 4096) := by simp [World.cell?, t4]
      have d2 : w4.cell? ⟨T, 2, none⟩ = some (.int .i64 3) := by simp [World.cell?, t4]
      have d3 : w4.cell? ⟨T, 3, none⟩ = some (.slice (adr mo) (j * 4096) cap) := by simp [World.cell?, t4]
      clear hS4 hK4 hg t4 r4 k4
      go_wp2_with fail
      refine (RCommit_ok 4096 4096 3 (j * 4096) cap mo f (by decide) (by decide) (by omega) (by omega) (by omega) w4 R4.out).mono ?_
      rintro e w5 ⟨h', rfl, hM5, hK5, hh5⟩
      have HM5 := hid (show RefAt w5 (some h') (j * 4096 + 4096) (j * 4096 + 4096) (more f (j * 4096)) from hM5)
      have HS5 := hid (HS4.out.keep hK5)
      have HK5 := hid (K4.out.then' (fresh_none hK5))
      have T5 := hid ((hK5.block _ (Array.getElem?_eq_some_iff.1 T4.out).1 (fun x => x)).trans T4.out)
      have HH5 := hid (show w.heap.size ≤ h' from Nat.le_trans K4.out.size hh5)
      have HGM := hid (show ∀ x, some g = some x → some h' ≠ some x from fun x e e2 => by
        injection e with e; injection e2 with e2
        subst e
        subst e2
        have := HS4.out.glt
        omega)
      clear hM5 hK5 hh5 d0 d1 d2 d3
      have hTl : T < w5.heap.size := (Array.getElem?_eq_some_iff.1 T5.out).1
      have hTn : T ≠ w5.heap.size := by omega
      have z0 : w5.frozen? ⟨T, 0, none⟩ = false := by simp [World.frozen?, T5.out]
      have z1 : w5.frozen? ⟨T, 1, none⟩ = false := by simp [World.frozen?, T5.out]
      have z2 : w5.frozen? ⟨T, 2, none⟩ = false := by simp [World.frozen?, T5.out]
      have z3 : w5.frozen? ⟨T, 3, none⟩ = false := by simp [World.frozen?, T5.out]
      have d0 : w5.cell? ⟨T, 0, none⟩ = some (.int .u64 4096) := by simp [World.cell?, T5.out]
      have d1 : w5.cell? ⟨T, 1, none⟩ = some (.int .u64 4096) := by simp [World.cell?, T5.out]
      have d2 : w5.cell? ⟨T, 2, none⟩ = some (.int .i64 3) := by simp [World.cell?, T5.out]
      have d3 : w5.cell? ⟨T, 3, none⟩ = some (.slice (adr mo) (j * 4096) cap) := by simp [World.cell?, T5.out]
      go_wp2_with fail
      exact ⟨⟨j + 1, by omega, by simp, ⟨some g, some h', j * 4096 + 4096, more f (j * 4096), by
        have hn : (j + 1) * 4096 = j * 4096 + 4096 := by omega
        rw [hn]
        exact In3.fin HS5.out HM5.out HGM.out T5.out HB.out HI.out.hT HG4.out HH5.out HK5.out _⟩⟩, by simp [intOf]; omega⟩
    · obtain ⟨ao, mo, cap, f, hI⟩ := hI.out
      have HI := hid hI
      have hg2 : ((j : Int) < rg ∧ ¬ (j : Int) < 3) ∨ ¬ (j : Int) < rg := by omega
      obtain ⟨n, hn⟩ : ∃ n, n = j * 4096 := ⟨_, rfl⟩
      rw [← hn] at HI
      have HN := hid (show n ≤ 12288 by omega)
      clear hI hlt hn
      have HMK := hid (show Mk w ((wr.alloc (.cells #[.pointer none, .pointer none, .pointer none] 49)).alloc (.cells #[.int .u64 0, .int .u64 0, .int .u64 0] 50)) b T wr.heap.size (wr.heap.size + 1) ao mo n cap f 0 (fun _ => 0) from by
        have hz := HI.out.k.size
        refine ⟨HI.out.keep (((Kept.refl none' wr).alloc _).alloc _), (Below.heap_alloc _ _ _ (by simp)).trans (heap_new wr _), heap_new2 wr _ _, fun k hk => absurd hk (by omega), fun p q hp => absurd hp (by omega), by omega, by omega, fun k hk => absurd hk (by omega)⟩)
      generalize hW : ((wr.alloc (.cells #[.pointer none, .pointer none, .pointer none] 49)).alloc (.cells #[.int .u64 0, .int .u64 0, .int .u64 0] 50)) = W0 at HMK
      have HW := hid hW
      clear hW
      rcases hg2 with ⟨hl1, hl2⟩ | hl1
      all_goals
        go_wp2_with fail
        rw [HW.out]
        have HW0 := hid (show wr.heap.size + 2 ≤ W0.heap.size by rw [← HW.out]; simp)
        clear HW
        obtain ⟨A, hA⟩ : ∃ A, A = wr.heap.size := ⟨_, rfl⟩
        rw [← hA] at HMK
        rw [← hA]
        clear hA HI
        go_loopw [15] (fun i W => ∃ k : Nat, k ≤ 3 ∧ i = .int .i64 k ∧ Hid (∃ cs, Mk w W b T A (A + 1) ao mo n cap f k cs)) (fun i _ => 3 - (intOf i).toNat)
        case atStart => exact ⟨0, by omega, rfl, ⟨fun _ => 0, HMK.out⟩⟩
        case round =>
          clear HMK
          obtain ⟨k, hk, rfl, hI⟩ := hrel
          by_cases hk3 : k < 3
          · obtain ⟨cs, hM⟩ := hI.out
            have HMK := hid hM
            have hk3i : (k : Int) < 3 := by omega
            clear hM
            go_wp2_with fail
            refine (newList_any b 0 (by decide) _).mono ?_
            rintro e W2 ⟨c, rfl, hl, hK, hc⟩
            have HM2 := hid (HMK.out.keep hK)
            have HL := hid hl
            have HC := hid (show ∀ x, x < k → cs x ≠ c from fun x hx e => by have := (HMK.out.l x hx).lt; rw [e] at this; omega)
            have HCW := hid (show w.heap.size ≤ c from Nat.le_trans HMK.out.i.k.size hc)
            have za : W2.frozen? ⟨A, k, none⟩ = false := by simp [World.frozen?, HM2.out.a]
            have ca := HM2.out.ca k hk3
            clear hl hK hc
            go_wp2_with fail
            exact ⟨⟨k + 1, by omega, by simp, ⟨put3 cs k c, HM2.out.next hk3 c HL.out HC.out HCW.out⟩⟩, by simp [intOf]; omega⟩
          · obtain ⟨cs, hM⟩ := hI.out
            have HPL := hid (show Pl w wr b T A (A + 1) ao mo n cap f cs (fun _ => 0) from by
              have e : k = 3 := by omega
              rw [e] at hM
              exact hM.pl)
            have hk3i : ¬ (k : Int) < 3 := by omega
            clear hM hk hk3
            go_wp2_with fail
            obtain ⟨M1, hM1⟩ : ∃ M1 : Nat, M1 = 1000 := ⟨_, rfl⟩
            have HM1 := hid hM1
            clear hM1
            go_loopw [16] (fun i W => ∃ k : Nat, k ≤ m ∧ k ≤ M1 ∧ i = .int .i64 k ∧ Hid (∃ f cs hs, Pl w W b T A (A + 1) ao mo n cap f cs hs)) (fun i _ => m - (intOf i).toNat)
            case atStart => exact ⟨0, by omega, by omega, rfl, ⟨f, cs, fun _ => 0, HPL.out⟩⟩
            case round =>
              clear HPL
              obtain ⟨k, hk, hkM, rfl, hI⟩ := hrel
              obtain ⟨f, cs, hs, hP⟩ := hI.out
              have HPL := hid hP
              clear hP
              obtain ⟨d0, d1, d2, d3⟩ := HPL.out.ct
              by_cases hlt : k < m ∧ k < M1
              · obtain ⟨bl, o, rfl, hbl, hrow⟩ := HSV.out.resolve_left (by omega)
                obtain ⟨op, li, P, V, h1, h2, h3, h4, g0, g1, g2, g3⟩ := hrow k hlt.1
                have hfr : ∀ (q : Nat) (v : Value), w.cell? ⟨bl, q, none⟩ = some v → _ := fun q v hq => HPL.out.k.cell (p := ⟨bl, q, none⟩) (fun h => by unfold from' at h; simp at h; omega) hq
                have g0 := hfr _ _ g0
                rw [show o + k * 4 + 0 = o + k * 4 from rfl] at g0
                have g1 := hfr _ _ g1
                have g2 := hfr _ _ g2
                have g3 := hfr _ _ g3
                have hki : (k : Int) < (m : Int) := by omega
                have hk6i : (k : Int) < 1000 := by have := HM1.out; omega
                have HLT := hid hlt
                clear hfr hrow hlt hkM hk
                have HH3 := hid h3
                have HH4 := hid h4
                clear h1 h2 h3 h4 hbl
                go_wp2_with fail
                go_region_with ((go_at_call 22; refine (step_any A (A + 1) b ao mo n cap f cs hs (by have := HN.out; omega) op li P V HH3.out HH4.out _ (HPL.out.t.keep (Kept.refl none' _).drew)).mono ?_; rintro e W2 ⟨f2, cs2, hs2, rfl, t2, k2, hc2⟩))
                all_goals
                  have HP2 := hid ((HPL.out.keep (Kept.refl none' _).drew).next t2 k2 hc2)
                  clear t2 k2 hc2
                  go_wp2_with fail
                  exact ⟨⟨k + 1, by have := HLT.out; omega, by have := HLT.out; omega, by simp, ⟨f2, cs2, hs2, HP2.out⟩⟩, by have := HLT.out; simp [intOf]; omega⟩
              · have hg2 : ((k : Int) < (m : Int) ∧ ¬ (k : Int) < 1000) ∨ ¬ (k : Int) < (m : Int) := by have := HM1.out; omega
                clear hlt hk hkM
                have ha0 := HPL.out.t.ca 0 (by decide)
                have RD := hid (read_all HPL.out.t)
                have hwn : IntKind.u64.wrap (n : Int) = n := by rw [wrap_u64]; have := HN.out; omega
                rcases hg2 with ⟨h1, h2⟩ | h1
                all_goals
                  go_wp2_with fail
                  refine RD.out.mono ?_
                  rintro e W2 ⟨q, rfl, hq, hK⟩
                  have HQ := hid hq
                  have HK := hid hK
                  have HP2 := hid (HPL.out.keep hK)
                  clear hq hK d0 d1 d2 d3
                  obtain ⟨d0, d1, d2, d3⟩ := HP2.out.ct
                  have a0 := HP2.out.t.ca 0 (by decide)
                  have a1 := HP2.out.t.ca 1 (by decide)
                  have a2 := HP2.out.t.ca 2 (by decide)
                  have b0 := HP2.out.t.ch 0 (by decide)
                  have b1 := HP2.out.t.ch 1 (by decide)
                  have b2 := HP2.out.t.ch 2 (by decide)
                  go_wp2_with fail
                  go_region_held3 (fun w' => w'.cell? ⟨T, 3, none⟩ = some (.slice (adr mo) n cap) ∧ w'.cell? ⟨A, 0, none⟩ = some (.pointer (some ⟨cs 0, 0, none⟩)) ∧ w'.cell? ⟨A, 1, none⟩ = some (.pointer (some ⟨cs 1, 0, none⟩)) ∧ w'.cell? ⟨A, 2, none⟩ = some (.pointer (some ⟨cs 2, 0, none⟩)) ∧ w'.cell? ⟨A + 1, 0, none⟩ = some (.int .u64 (hs 0 : Int)) ∧ w'.cell? ⟨A + 1, 1, none⟩ = some (.int .u64 (hs 1 : Int)) ∧ w'.cell? ⟨A + 1, 2, none⟩ = some (.int .u64 (hs 2 : Int))) (exact ⟨d3, a0, a1, a2, b0, b1, b2⟩) (first | (go_at_call 24; refine (Same_true (.slice (some ⟨q, 0, none⟩) n n) (.slice (adr mo) n cap) n (by have := HN.out; omega) f _ (HQ.out.keep (Kept.refl none' _).drew) (HP2.out.t.r.keep (Kept.refl none' _).drew).bytes).mono ?_; rintro e W3 ⟨rfl, k3⟩; have k3 := none_trans (Kept.refl none' W2).drew k3; have HP3 := hid (HP2.out.keep k3); have d3 := HP3.out.ct.2.2.2; have a0 := HP3.out.t.ca 0 (by decide); have a1 := HP3.out.t.ca 1 (by decide); have a2 := HP3.out.t.ca 2 (by decide); have b0 := HP3.out.t.ch 0 (by decide); have b1 := HP3.out.t.ch 1 (by decide); have b2 := HP3.out.t.ch 2 (by decide); clear k3) | (go_at_call 15; refine (Head_any (cs 0) b (hs 0) _ (HP3.out.t.l 0 (by decide))).mono ?_; rintro e W4 ⟨rfl, rfl⟩) | (go_at_call 15; refine (Head_any (cs 1) b (hs 1) _ (HP3.out.t.l 1 (by decide))).mono ?_; rintro e W4 ⟨rfl, rfl⟩) | (go_at_call 15; refine (Head_any (cs 2) b (hs 2) _ (HP3.out.t.l 2 (by decide))).mono ?_; rintro e W4 ⟨rfl, rfl⟩))
                  all_goals
                    go_wp2_with fail
                    exact ⟨rfl, .bool true, by simp [results, Try.results4, go_sem], rfl, from_none HP3.out.k⟩
end Go.Proofs.Ytnkoheanjaapjaa
