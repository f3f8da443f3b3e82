/- MemPlays. -/
import Derived.Test.YtanfdpangcgdhaaPlayP
import Derived.Test.YtanfdpangcgdhaaCopies
import Derived.Test.YtanfdpangcgdhaaPlayOps
import Derived.Deep.RegionHeld3
namespace Go.Proofs.Ytanfdpangcgdhaa
open Go.RowKit
set_option linter.unusedVariables false

theorem bytes_from {w w' : World} {v : Value} {m : Nat} {g : Nat → Nat} (h : Bytes w v m g) (k : Kept (from' w.heap.size) w w') : Bytes w' v m g := by
  by_cases h0 : m = 0
  · subst h0
    obtain ⟨h1, ao, cap, rfl, _⟩ := h
    exact ⟨h1, ao, cap, rfl, Or.inl rfl⟩
  · exact h.kept k (fun b e hb => by have := h.lt (by omega) b e; unfold from' at hb; omega)

/-- Both spaces, and the two variables of the law: the document's space, the Config. -/
structure In2 (w wr : World) (b T : Nat) (ao mo : Option Nat) (base R lim n cap : Nat) (f : Nat → Nat) (lm od : Int) : Prop where
  st : St wr b ao mo base R lim n cap f
  t : wr.heap[T]? = some (.cells #[.int .u64 (base : Int), .int .u64 (R : Int), .int .i64 (lim : Int), .slice (adr mo) n cap] 50 (0, 0))
  c : wr.heap[w.heap.size]? = some (.cells #[.int .u64 (base : Int), .int .i64 lm, .int .i64 od] 25 (0, 0))
  fr : ∀ x, S3 b ao mo x → w.heap.size < x ∧ x ≠ T
  tT : w.heap.size < T
theorem In2.ct {w wr b T ao mo base R lim n cap f lm od} (h : In2 w wr b T ao mo base R lim n cap f lm od) :
    wr.cell? ⟨T, 0, none⟩ = some (.int .u64 (base : Int)) ∧ wr.cell? ⟨T, 1, none⟩ = some (.int .u64 (R : Int)) ∧ wr.cell? ⟨T, 2, none⟩ = some (.int .i64 (lim : Int)) ∧ wr.cell? ⟨T, 3, none⟩ = some (.slice (adr mo) n cap) := by
  have := h.t
  refine ⟨?_, ?_, ?_, ?_⟩ <;> simp [World.cell?, this]
theorem In2.keep {w wr wr' b T ao mo base R lim n cap f lm od} (h : In2 w wr b T ao mo base R lim n cap f lm od) (k : Kept none' wr wr') : In2 w wr' b T ao mo base R lim n cap f lm od :=
  ⟨h.st.keep k, (k.block _ (Array.getElem?_eq_some_iff.1 h.t).1 (fun x => x)).trans h.t, (k.block _ (Array.getElem?_eq_some_iff.1 h.c).1 (fun x => x)).trans h.c, h.fr, h.tT⟩

/-- Behind a call: t is set to what it told. -/
theorem In2.next {w wr w3 b T ao mo base R lim n cap f lm od ao' mo' n' cap' f'} (h : In2 w wr b T ao mo base R lim n cap f lm od) (hS : St w3 b ao' mo' base R lim n' cap' f') (hK : Kept (S3 b ao mo) wr w3) (hf : ∀ x, S3 b ao' mo' x → S3 b ao mo x ∨ wr.heap.size ≤ x) :
    In2 w ((((w3.setCell ⟨T, 0, none⟩ (.int .u64 (base : Int))).setCell ⟨T, 1, none⟩ (.int .u64 (R : Int))).setCell ⟨T, 2, none⟩ (.int .i64 (lim : Int))).setCell ⟨T, 3, none⟩ (.slice (adr mo') n' cap')) b T ao' mo' base R lim n' cap' f' lm od := by
  have hTl := (Array.getElem?_eq_some_iff.1 h.t).1
  have hCl := (Array.getElem?_eq_some_iff.1 h.c).1
  have hfr : ∀ x, S3 b ao' mo' x → w.heap.size < x ∧ x ≠ T := fun x e => by
    rcases hf x e with e | e
    · exact h.fr x e
    · have := h.tT; omega
  have ht2 : w3.heap[T]? = some (.cells #[.int .u64 (base : Int), .int .u64 (R : Int), .int .i64 (lim : Int), .slice (adr mo) n cap] 50 (0, 0)) := (hK.block T hTl (fun e => (h.fr T e).2 rfl)).trans h.t
  have hk4 : Kept (fun x => x = T) w3 ((((w3.setCell ⟨T, 0, none⟩ (.int .u64 (base : Int))).setCell ⟨T, 1, none⟩ (.int .u64 (R : Int))).setCell ⟨T, 2, none⟩ (.int .i64 (lim : Int))).setCell ⟨T, 3, none⟩ (.slice (adr mo') n' cap')) :=
    ((((Kept.refl (fun x => x = T) w3).setCell (fun _ => rfl) _).setCell (fun _ => rfl) _).setCell (fun _ => rfl) _).setCell (fun _ => rfl) _
  refine ⟨hS.kept hk4 (fun x e e2 => (hfr x e).2 e2), ?_, ?_, hfr, h.tT⟩
  · simp only [World.setCell, Array.getElem?_modify, if_true, ht2]
    simp
  · exact (hk4.block _ (by have := hK.size; omega) (by have := h.tT; omega)).trans ((hK.block _ hCl (fun e => by have := (h.fr _ e).1; omega)).trans h.c)
/-- The variable t, in a world behind. -/
theorem In2.tc {w wr w3 b T ao mo base R lim n cap f lm od} (h : In2 w wr b T ao mo base R lim n cap f lm od) (hK : Kept (S3 b ao mo) wr w3) :
    w3.cell? ⟨T, 0, none⟩ = some (.int .u64 (base : Int)) ∧ w3.cell? ⟨T, 1, none⟩ = some (.int .u64 (R : Int)) ∧ w3.cell? ⟨T, 2, none⟩ = some (.int .i64 (lim : Int)) ∧ w3.cell? ⟨T, 3, none⟩ = some (.slice (adr mo) n cap) ∧
    w3.frozen? ⟨T, 0, none⟩ = false ∧ w3.frozen? ⟨T, 1, none⟩ = false ∧ w3.frozen? ⟨T, 2, none⟩ = false ∧ w3.frozen? ⟨T, 3, none⟩ = false := by
  have := (hK.block T (Array.getElem?_eq_some_iff.1 h.t).1 (fun e => (h.fr T e).2 rfl)).trans h.t
  refine ⟨?_, ?_, ?_, ?_, ?_, ?_, ?_, ?_⟩ <;> first | simp [World.cell?, this] | simp [World.frozen?, this]
/-- A new variable u, in a world behind. -/
theorem ucells {wr w3 : World} {S : Nat → Prop} (hK : Kept S (wr.alloc (.cells #[.int .u64 0, .int .u64 0, .int .i64 0, .slice none 0 0] 50)).drew w3) (hS : ¬ S wr.heap.size) :
    w3.cell? ⟨wr.heap.size, 0, none⟩ = some (.int .u64 0) ∧ w3.cell? ⟨wr.heap.size, 1, none⟩ = some (.int .u64 0) ∧ w3.cell? ⟨wr.heap.size, 2, none⟩ = some (.int .i64 0) ∧ w3.cell? ⟨wr.heap.size, 3, none⟩ = some (.slice none 0 0) ∧
    w3.frozen? ⟨wr.heap.size, 0, none⟩ = false ∧ w3.frozen? ⟨wr.heap.size, 1, none⟩ = false ∧ w3.frozen? ⟨wr.heap.size, 2, none⟩ = false ∧ w3.frozen? ⟨wr.heap.size, 3, none⟩ = false := by
  have := (hK.block wr.heap.size (by simp) hS).trans (heap_new wr _)
  refine ⟨?_, ?_, ?_, ?_, ?_, ?_, ?_, ?_⟩ <;> first | simp [World.cell?, this] | simp [World.frozen?, this]
theorem St.set4 {w : World} {b ao mo base R lim n cap f} (h : St w b ao mo base R lim n cap f) (y : Nat) (hy : ∀ x, S3 b ao mo x → x ≠ y) (u0 u1 u2 u3 : Value) : St ((((w.setCell ⟨y, 0, none⟩ u0).setCell ⟨y, 1, none⟩ u1).setCell ⟨y, 2, none⟩ u2).setCell ⟨y, 3, none⟩ u3) b ao mo base R lim n cap f :=
  h.kept (S := fun x => x = y) (((((Kept.refl (fun x => x = y) w).setCell (fun _ => rfl) _).setCell (fun _ => rfl) _).setCell (fun _ => rfl) _).setCell (fun _ => rfl) _) (fun x e e2 => hy x e e2)
theorem Kept.set4S {S : Nat → Prop} {w w' : World} (h : Kept S w w') (y : Nat) (hy : w.heap.size ≤ y) (u0 u1 u2 u3 : Value) : Kept S w ((((w'.setCell ⟨y, 0, none⟩ u0).setCell ⟨y, 1, none⟩ u1).setCell ⟨y, 2, none⟩ u2).setCell ⟨y, 3, none⟩ u3) :=
  (((h.setCell (fun e => absurd e (by simp; omega)) _).setCell (fun e => absurd e (by simp; omega)) _).setCell (fun e => absurd e (by simp; omega)) _).setCell (fun e => absurd e (by simp; omega)) _

theorem Kept.set4F {B : Nat} {w w' : World} (h : Kept (from' B) w w') (y : Nat) (hy : B ≤ y) (u0 u1 u2 u3 : Value) : Kept (from' B) w ((((w'.setCell ⟨y, 0, none⟩ u0).setCell ⟨y, 1, none⟩ u1).setCell ⟨y, 2, none⟩ u2).setCell ⟨y, 3, none⟩ u3) :=
  (((h.setCell (p := ⟨y, 0, none⟩) (fun _ => hy) _).setCell (p := ⟨y, 1, none⟩) (fun _ => hy) _).setCell (p := ⟨y, 2, none⟩) (fun _ => hy) _).setCell (p := ⟨y, 3, none⟩) (fun _ => hy) _

theorem plays_bad (base : Nat) (hb64 : base < 18446744073709551616) (lim ord : Int) (hl1 : -9223372036854775808 ≤ lim) (hl2 : lim ≤ 9223372036854775807) (ho1 : -9223372036854775808 ≤ ord) (ho2 : ord ≤ 9223372036854775807) (hm : mayB base lim ord = false) (oa : Option Addr) (m oc : Nat) (w : World) :
    Calls Try.prog 5 #[.agg #[.int .u64 (base : Int), .int .i64 lim, .int .i64 ord], .slice oa m oc] w fun e w' => e = .returned (.bool true) ∧ Below w.heap.size w w' := by
  have HM := hid hm
  clear hm
  go_enter Try.func5, Try.ntmps5
  go_wp2_with fail
  refine (awake_any _).mono ?_
  rintro e w1 ⟨rfl, hK⟩
  obtain ⟨hc0, hc1, hKK⟩ := box_cells w w1 base lim ord hK
  have hc2 : w1.cell? ⟨w.heap.size, 2, none⟩ = some (.int .i64 ord) := by
    have := (hK.block w.heap.size (by simp) (fun x => x)).trans (heap_new w _)
    simp [World.cell?, this]
  have HK := hid hKK
  clear hK hKK
  go_wp2_with fail
  refine (New_bad base hb64 lim ord hl1 hl2 ho1 ho2 HM.out _).mono ?_
  rintro e w2 ⟨rfl, hK⟩
  have hd0 := hK.cell (fun x => x) hc0
  have hd1 := hK.cell (fun x => x) hc1
  have hd2 := hK.cell (fun x => x) hc2
  have HK2 := hid (HK.out.trans (U := none') hK (fun _ _ x => x) (fun _ _ x => x))
  clear hK HK hc0 hc1 hc2
  go_wp2_with fail
  refine (May_any base hb64 lim ord hl1 hl2 ho1 ho2 _).mono ?_
  rw [HM.out]
  rintro e w3 ⟨rfl, hK⟩
  have HK3 := hid (HK2.out.trans (U := none') hK (fun _ _ x => x) (fun _ _ x => x))
  clear hK HK2 hd0 hd1 hd2
  go_wp2
  go_ret
  exact ⟨rfl, HK3.out.below (Nat.le_refl _) (fun x h => h.elim)⟩

set_option maxRecDepth 100000 in
set_option maxHeartbeats 4000000 in
theorem plays_ok (base : Nat) (hb64 : base < 18446744073709551616) (l k0 : Nat) (hl : l ≤ 64) (hk0 : k0 ≤ 8) (hm : mayB base l k0 = true) (oa : Option Addr) (m oc : Nat) (w : World) (hops : Ops w (.slice oa m oc) m) :
    Calls Try.prog 5 #[.agg #[.int .u64 (base : Int), .int .i64 (l : Int), .int .i64 (k0 : Int)], .slice oa m oc] w fun e w' => e = .returned (.bool true) ∧ Below w.heap.size w w' := by
  have HM := hid hm
  obtain ⟨hmx, oa', oc', e0, hop⟩ := hops
  injection e0 with e1 e2 e3
  subst e1
  clear e2 e3
  have HOP := hid hop
  clear hm hop
  go_enter Try.func5, Try.ntmps5
  go_wp2_with fail
  refine (awake_any _).mono ?_
  rintro e w1 ⟨rfl, hK⟩
  have HC1 := hid ((hK.block w.heap.size (by simp) (fun x => x)).trans (heap_new w _))
  have HK1 := hid (((Kept.refl none' w).alloc _).trans (U := none') hK (fun _ _ x => x) (fun _ _ x => x))
  obtain ⟨hc0, hc1, -⟩ := box_cells w w1 base l k0 hK
  have hc2 : w1.cell? ⟨w.heap.size, 2, none⟩ = some (.int .i64 (k0 : Int)) := by
    have := HC1.out
    simp [World.cell?, this]
  clear hK
  go_wp2_with fail
  refine (New_ok base hb64 l k0 (by omega) (by omega) (by omega) (by omega) HM.out (fun _ => 0) _).mono ?_
  rintro e w2 ⟨b, rfl, hS, hK, hb⟩
  have HS2 := hid (show SpaceAt w2 b none base (RS k0) l 0 (fun _ => 0) from hS)
  have HC2 := hid ((hK.block _ (Array.getElem?_eq_some_iff.1 HC1.out).1 (fun x => x)).trans HC1.out)
  have HB2 := hid (show w.heap.size < b from Nat.lt_of_lt_of_le (Array.getElem?_eq_some_iff.1 HC1.out).1 hb)
  have HK2 := hid (HK1.out.trans (U := none') hK (fun _ _ x => x) (fun _ _ x => x))
  have hd0 := hK.cell (fun x => x) hc0
  have hd1 := hK.cell (fun x => x) hc1
  have hd2 := hK.cell (fun x => x) hc2
  clear hK hS hb hc0 hc1 hc2 HC1 HK1
  go_wp2_with fail
  refine (May_any base hb64 l k0 (by omega) (by omega) (by omega) (by omega) _).mono ?_
  rw [HM.out]
  rintro e w3 ⟨rfl, hK⟩
  have HS3 := hid (HS2.out.keep hK)
  have HC3 := hid ((hK.block _ (Array.getElem?_eq_some_iff.1 HC2.out).1 (fun x => x)).trans HC2.out)
  have HK3 := hid (HK2.out.trans (U := none') hK (fun _ _ x => x) (fun _ _ x => x))
  have hc0 := hK.cell (fun x => x) hd0
  have hc1 := hK.cell (fun x => x) hd1
  have hc2 := hK.cell (fun x => x) hd2
  clear hK hd0 hd1 hd2 HC2 HK2 HS2
  go_wp2_with fail
  refine (RNew_any base l k0 hk0 _).mono ?_
  rintro e w4 ⟨rfl, hK⟩
  obtain ⟨R, hR⟩ : ∃ R, R = RS k0 := ⟨_, rfl⟩
  have HS4 := hid (show SpaceAt w4 b none base R l 0 (fun _ => 0) from hR ▸ HS3.out.keep hK)
  have HC4 := hid ((hK.block _ (Array.getElem?_eq_some_iff.1 HC3.out).1 (fun x => x)).trans HC3.out)
  have HK4 := hid (HK3.out.trans (U := none') hK (fun _ _ x => x) (fun _ _ x => x))
  rw [← hR, show refV base R l none 0 0 = .agg #[.int .u64 (base : Int), .int .u64 (R : Int), .int .i64 (l : Int), .slice none 0 0] from rfl]
  clear hK hc0 hc1 hc2 HC3 HK3 HS3 hR
  have HI4 := hid (show In2 w (w4.alloc (.cells #[.int .u64 (base : Int), .int .u64 (R : Int), .int .i64 (l : Int), .slice none 0 0] 50)) b w4.heap.size none none base R l 0 0 (fun _ => 0) l k0 from by
    have hbl := HS4.out.blt
    have hcl := (Array.getElem?_eq_some_iff.1 HC4.out).1
    have hb2 := HB2.out
    refine ⟨⟨HS4.out.keep ((Kept.refl none' w4).alloc _), ⟨rfl, rfl⟩, fun h e => by cases e⟩, ?_, ?_, ?_, by omega⟩
    · exact heap_new w4 _
    · exact ((Kept.refl none' w4).alloc _).block _ hcl (fun x => x) |>.trans HC4.out
    · rintro x ((e | e) | e)
      · omega
      · cases e
      · cases e)
  have HKA := hid ((HK4.out.alloc (.cells #[.int .u64 (base : Int), .int .u64 (R : Int), .int .i64 (l : Int), .slice none 0 0] 50)).fresh (B := w.heap.size) (fun x h => h.elim))
  clear HS4 HC4 HK4
  go_wp2
  go_loopw [8] (fun i wr => ∃ k : Nat, k ≤ m ∧ i = .int .i64 k ∧ Hid (∃ ao mo n cap f, In2 w wr b w4.heap.size ao mo base R l n cap f l k0) ∧ Hid (Kept (from' w.heap.size) w wr)) (fun i _ => m - (intOf i).toNat)
  case atStart => exact ⟨0, by omega, rfl, ⟨_, _, _, _, _, HI4.out⟩, HKA⟩
  case round =>
    obtain ⟨k, hk, rfl, hI, hK⟩ := hrel
    clear HI4 HKA
    obtain ⟨ao, mo, n, cap, f, hi⟩ := hI.out
    have HI := hid hi
    obtain ⟨t0, t1, t2, t3⟩ := hi.ct
    by_cases hlt : k < m
    · obtain ⟨bl, o, rfl, hbl, hopk⟩ := HOP.out.resolve_left (by omega)
      obtain ⟨kind, P, Q, N, V, a, deny, count, da, dm, dc, gg, hP, hQ, hN, hV, hc1, hc2, hdm, hbt, g0, g1, g2, g3, g4, g5, g6, g7, g8⟩ := hopk k hlt
      have hnf : ¬ from' w.heap.size bl := by unfold from'; omega
      have i0 := hK.out.cell (p := ⟨bl, o + k * 9 + 0, none⟩) hnf g0
      have i1 := hK.out.cell (p := ⟨bl, o + k * 9 + 1, none⟩) hnf g1
      have i2 := hK.out.cell (p := ⟨bl, o + k * 9 + 2, none⟩) hnf g2
      have i3 := hK.out.cell (p := ⟨bl, o + k * 9 + 3, none⟩) hnf g3
      have i4 := hK.out.cell (p := ⟨bl, o + k * 9 + 4, none⟩) hnf g4
      have i5 := hK.out.cell (p := ⟨bl, o + k * 9 + 5, none⟩) hnf g5
      have i6 := hK.out.cell (p := ⟨bl, o + k * 9 + 6, none⟩) hnf g6
      have i7 := hK.out.cell (p := ⟨bl, o + k * 9 + 7, none⟩) hnf g7
      have i8 := hK.out.cell (p := ⟨bl, o + k * 9 + 8, none⟩) hnf g8
      have HBT := hid (bytes_from hbt hK.out)
      have HSD := hid (show 0 < dm → ∀ x, (Value.slice da dm dc).ownBlock = some x → ¬ S3 b ao mo x from fun hd x e hx => by
        have h1 := hbt.lt hd x e
        have h2 := (HI.out.fr x hx).1
        omega)
      have hki : (k : Int) < (m : Int) := by omega
      rw [Nat.add_zero] at i0
      have hal := (Kept.refl none' wr).alloc (.cells #[.int .u64 0, .int .u64 0, .int .i64 0, .slice none 0 0] 50)
      have j0 := hal.cell (fun x => x) i0
      have j1 := hal.cell (fun x => x) i1
      have j2 := hal.cell (fun x => x) i2
      have j3 := hal.cell (fun x => x) i3
      have j4 := hal.cell (fun x => x) i4
      have j5 := hal.cell (fun x => x) i5
      have j6 := hal.cell (fun x => x) i6
      have j7 := hal.cell (fun x => x) i7
      have j8 := hal.cell (fun x => x) i8
      have s0 := hal.cell (fun x => x) t0
      have s1 := hal.cell (fun x => x) t1
      have s2 := hal.cell (fun x => x) t2
      have s3 := hal.cell (fun x => x) t3
      clear hopk g0 g1 g2 g3 g4 g5 g6 g7 g8 hbt hnf hi hI HOP hal
      have HTL := hid (show w4.heap.size < wr.heap.size from (Array.getElem?_eq_some_iff.1 HI.out.t).1)
      have hne : ¬ w4.heap.size = wr.heap.size := by have := HTL.out; omega
      have HSL := hid (fun x e => HI.out.st.lt x e)
      go_wp2
      go_region_with (first | (go_at_call 25; refine (played_any b base R l n cap P Q N V dm dc ao mo f gg kind a deny count da hP hQ hN hV _ (HI.out.st.keep (Kept.refl none' wr).drew) hc1 hc2 hdm (HBT.out.keep (Kept.refl none' wr).drew) HSD.out).mono ?_; rintro e w5 ⟨ao', mo', n', cap', f', rfl, hS, hK5, hfr⟩; have hKA := (show Kept (S3 b ao mo) wr w5 from ⟨hK5.os, hK5.tape, hK5.output, hK5.size, hK5.block⟩).alloc (.cells #[.int .u64 (base : Int), .int .u64 (R : Int), .int .i64 (l : Int), .slice (adr mo') n' cap'] 50); obtain ⟨c0, c1, c2, c3, z0, z1, z2, z3⟩ := HI.out.tc hKA; have HNX := hid (HI.out.next (hS.keep ((Kept.refl none' w5).alloc (.cells #[.int .u64 (base : Int), .int .u64 (R : Int), .int .i64 (l : Int), .slice (adr mo') n' cap'] 50))) hKA hfr); have HKX := hid hKA; clear hS hK5 hfr hKA) | (go_at_call 25; refine (played_any b base R l n cap P Q N V dm dc ao mo f gg kind a deny count da hP hQ hN hV _ (HI.out.st.keep ((Kept.refl none' wr).alloc (.cells #[.int .u64 0, .int .u64 0, .int .i64 0, .slice none 0 0] 50)).drew) hc1 hc2 hdm (HBT.out.keep ((Kept.refl none' wr).alloc (.cells #[.int .u64 0, .int .u64 0, .int .i64 0, .slice none 0 0] 50)).drew) HSD.out).mono ?_; rintro e w5 ⟨ao', mo', n', cap', f', rfl, hS, hK5, hfr⟩; obtain ⟨u0, u1, u2, u3, v0, v1, v2, v3⟩ := ucells hK5 (fun e => by have := HSL.out _ e; omega); have hKB := ((Kept.refl none' wr).alloc (.cells #[.int .u64 0, .int .u64 0, .int .i64 0, .slice none 0 0] 50)).trans (U := S3 b ao mo) (show Kept (S3 b ao mo) (wr.alloc (.cells #[.int .u64 0, .int .u64 0, .int .i64 0, .slice none 0 0] 50)) w5 from ⟨hK5.os, hK5.tape, hK5.output, hK5.size, hK5.block⟩) (fun _ _ x => x.elim) (fun _ _ x => x); obtain ⟨c0, c1, c2, c3, z0, z1, z2, z3⟩ := HI.out.tc hKB; have hfr2 : ∀ x, S3 b ao' mo' x → S3 b ao mo x ∨ wr.heap.size + 1 ≤ x := fun x e => (hfr x e).imp id (fun h => by simpa using h); have HNX := hid (HI.out.next (hS.set4 wr.heap.size (fun x e e2 => by rcases hfr2 x e with e3 | e3; exact absurd (HSL.out x e3) (by omega); omega) (.int .u64 (base : Int)) (.int .u64 (R : Int)) (.int .i64 (l : Int)) (.slice (adr mo') n' cap')) (hKB.set4S wr.heap.size (Nat.le_refl _) _ _ _ _) (fun x e => (hfr2 x e).imp id (fun h => by omega))); have HKX := hid (hKB.set4S wr.heap.size (Nat.le_refl _) (.int .u64 (base : Int)) (.int .u64 (R : Int)) (.int .i64 (l : Int)) (.slice (adr mo') n' cap')); clear hS hK5 hfr hfr2 hKB))
      all_goals go_wp2
      all_goals exact ⟨⟨k + 1, by omega, by simp, ⟨_, _, _, _, _, HNX.out⟩, (hK.out.then' (HKX.out.fresh (fun x e => Nat.le_of_lt (HI.out.fr x e).1))).set4F w4.heap.size (Nat.le_of_lt HI.out.tT) _ _ _ _⟩, by simp [intOf]; omega⟩
    · obtain rfl : k = m := by omega
      clear hi hI HOP t0 t1 t2 t3
      by_cases hn0 : n = 0
      · subst hn0
        have hbd := HI.out.st.bd
        have hR1 := hbd.2.2.1
        have hR2 := hbd.2.2.2.1
        have HBN := hid hbd.2.1
        have d0 : wr.cell? ⟨w.heap.size, 0, none⟩ = some (.int .u64 (base : Int)) := by
          have := HI.out.c
          simp [World.cell?, this]
        obtain ⟨t0, t1, t2, t3⟩ := HI.out.ct
        have HQQ := hid (show 0 / R = 0 from Nat.zero_div R)
        clear hbd
        go_wp2_with fail
        refine (Read_zero b _ _).mono ?_
        rintro e w5 ⟨rfl, hK5, -⟩
        have HI5 := hid (HI.out.keep hK5)
        have HKW := hid (hK.out.then' (hK5.fresh (fun x h => h.elim)))
        clear t0 t1 t2 t3
        obtain ⟨t0, t1, t2, t3⟩ := HI5.out.ct
        obtain ⟨y, hy⟩ : ∃ y, y = wr.heap.size + 1 := ⟨_, rfl⟩
        rw [← hy]
        clear hK5 d0 hy
        go_wp2
        go_region_held3 (fun w' => w'.cell? ⟨w4.heap.size, 0, none⟩ = some (.int .u64 (base : Int)) ∧ w'.cell? ⟨w4.heap.size, 1, none⟩ = some (.int .u64 (R : Int)) ∧ w'.cell? ⟨w4.heap.size, 2, none⟩ = some (.int .i64 (l : Int)) ∧ w'.cell? ⟨w4.heap.size, 3, none⟩ = some (.slice (adr mo) 0 cap)) (exact ⟨t0, t1, t2, t3⟩) (first | (go_at_call 19; refine (Same_true _ _ 0 (by decide) f _ (Bytes.empty _ _ _ _) (Bytes.empty _ _ _ _)).mono ?_; rintro e w6 ⟨rfl, hK6⟩; have HK6 := hid (show Kept none' w5 w6 from ⟨hK6.os, hK6.tape, hK6.output, hK6.size, hK6.block⟩); obtain ⟨t0, t1, t2, t3⟩ := (HI5.out.keep HK6.out).ct; clear hK6) | (go_at_call 13; refine (end_any b ao base R l _ f _ (HI5.out.keep HK6.out).st.s).mono ?_; rintro e w7 ⟨rfl, m7, hw7⟩; have hK7 : Kept none' w5 w7 := hw7 ▸ HK6.out.drewN m7; obtain ⟨t0, t1, t2, t3⟩ := (HI5.out.keep hK7).ct; have HK7 := hid hK7; clear hK7 hw7) | (go_at_call 26; refine (REnd_any base R l _ cap _ (by omega) HBN.out _).mono ?_; rintro e w8 ⟨rfl, hK8⟩; have HK8 := hid (HK7.out.trans (U := none') hK8 (fun _ _ x => x) (fun _ _ x => x)); obtain ⟨t0, t1, t2, t3⟩ := (HI5.out.keep HK8.out).ct; clear hK8) | (go_at_call 23; refine (regions_any b ao base R l _ f _ (HI5.out.keep HK8.out).st.s).mono ?_; rw [HQQ.out]; rintro e w9 ⟨rfl, m9, hw9⟩; have hK9 : Kept none' w5 w9 := hw9 ▸ HK8.out.drewN m9; obtain ⟨t0, t1, t2, t3⟩ := (HI5.out.keep hK9).ct; have HK9 := hid hK9; clear hK9 hw9) | (go_at_call 27; refine (RRegions_any base R l _ cap _ hR1 hR2 (by omega) _).mono ?_; rw [HQQ.out]; rintro e w10 ⟨rfl, hK10⟩; have HK10 := hid (HK9.out.trans (U := none') hK10 (fun _ _ x => x) (fun _ _ x => x)); obtain ⟨t0, t1, t2, t3⟩ := (HI5.out.keep HK10.out).ct; clear hK10))
        all_goals go_wp2
        all_goals go_ret
        all_goals exact ⟨rfl, (HKW.out.then' (HK10.out.fresh (fun x h => h.elim))).below (Nat.le_refl _) (fun x h => h)⟩
      · have hbd := HI.out.st.bd
        have hR1 := hbd.2.2.1
        have hR2 := hbd.2.2.2.1
        have hn4 := hbd.1
        have HBN := hid hbd.2.1
        have d0 : wr.cell? ⟨w.heap.size, 0, none⟩ = some (.int .u64 (base : Int)) := by
          have := HI.out.c
          simp [World.cell?, this]
        obtain ⟨t0, t1, t2, t3⟩ := HI.out.ct
        obtain ⟨qq, hqq⟩ : ∃ qq, qq = n / R := ⟨_, rfl⟩
        have HQQ := hid hqq.symm
        obtain ⟨g, h', rfl, rfl⟩ := HI.out.st.some (by omega)
        clear hbd hqq
        go_wp2_with fail
        refine (Read_in b g base R l n f base n _ HI.out.st.s (by omega) ⟨Nat.le_refl _, Nat.le_refl _⟩).mono ?_
        rintro e w5 ⟨rfl, hB5, hK5⟩
        have HI5 := hid (HI.out.keep hK5)
        have HKW := hid (hK.out.then' (hK5.fresh (fun x h => h.elim)))
        clear t0 t1 t2 t3
        obtain ⟨t0, t1, t2, t3⟩ := HI5.out.ct
        obtain ⟨y, hy⟩ : ∃ y, y = wr.heap.size + 1 := ⟨_, rfl⟩
        rw [← hy] at hB5 ⊢
        have HB5 := hid ((hB5.bytes n).congr (g' := f) (fun i hi => by show f (base - base + i) = f i; rw [Nat.sub_self, Nat.zero_add]))
        clear hK5 d0 hy hB5
        go_wp2
        go_region_held3 (fun w' => w'.cell? ⟨w4.heap.size, 0, none⟩ = some (.int .u64 (base : Int)) ∧ w'.cell? ⟨w4.heap.size, 1, none⟩ = some (.int .u64 (R : Int)) ∧ w'.cell? ⟨w4.heap.size, 2, none⟩ = some (.int .i64 (l : Int)) ∧ w'.cell? ⟨w4.heap.size, 3, none⟩ = some (.slice (adr (some h')) n cap)) (exact ⟨t0, t1, t2, t3⟩) (first | (go_at_call 19; refine (Same_true _ _ n (by omega) f _ (HB5.out.keep (Kept.refl none' w5).drew) (HI5.out.st.r.bytes.keep (Kept.refl none' w5).drew)).mono ?_; rintro e w6 ⟨rfl, hK6⟩; have HK6 := hid (show Kept none' w5 w6 from ⟨hK6.os, hK6.tape, hK6.output, hK6.size, hK6.block⟩); obtain ⟨t0, t1, t2, t3⟩ := (HI5.out.keep HK6.out).ct; clear hK6) | (go_at_call 13; refine (end_any b (some g) base R l _ f _ (HI5.out.keep HK6.out).st.s).mono ?_; rintro e w7 ⟨rfl, m7, hw7⟩; have hK7 : Kept none' w5 w7 := hw7 ▸ HK6.out.drewN m7; obtain ⟨t0, t1, t2, t3⟩ := (HI5.out.keep hK7).ct; have HK7 := hid hK7; clear hK7 hw7) | (go_at_call 26; refine (REnd_any base R l _ cap _ (by omega) HBN.out _).mono ?_; rintro e w8 ⟨rfl, hK8⟩; have HK8 := hid (HK7.out.trans (U := none') hK8 (fun _ _ x => x) (fun _ _ x => x)); obtain ⟨t0, t1, t2, t3⟩ := (HI5.out.keep HK8.out).ct; clear hK8) | (go_at_call 23; refine (regions_any b (some g) base R l _ f _ (HI5.out.keep HK8.out).st.s).mono ?_; rw [HQQ.out]; rintro e w9 ⟨rfl, m9, hw9⟩; have hK9 : Kept none' w5 w9 := hw9 ▸ HK8.out.drewN m9; obtain ⟨t0, t1, t2, t3⟩ := (HI5.out.keep hK9).ct; have HK9 := hid hK9; clear hK9 hw9) | (go_at_call 27; refine (RRegions_any base R l _ cap _ hR1 hR2 (by omega) _).mono ?_; rw [HQQ.out]; rintro e w10 ⟨rfl, hK10⟩; have HK10 := hid (HK9.out.trans (U := none') hK10 (fun _ _ x => x) (fun _ _ x => x)); obtain ⟨t0, t1, t2, t3⟩ := (HI5.out.keep HK10.out).ct; clear hK10))
        all_goals go_wp2
        all_goals go_ret
        all_goals exact ⟨rfl, (HKW.out.then' (HK10.out.fresh (fun x h => h.elim))).below (Nat.le_refl _) (fun x h => h)⟩

theorem plays_any (base : Nat) (hb64 : base < 18446744073709551616) (lim ord : Int) (hl1 : -9223372036854775808 ≤ lim) (hl2 : lim ≤ 9223372036854775807) (ho1 : -9223372036854775808 ≤ ord) (ho2 : ord ≤ 9223372036854775807) (oa : Option Addr) (m oc : Nat) (w : World) (hops : Ops w (.slice oa m oc) m) :
    Calls Try.prog 5 #[.agg #[.int .u64 (base : Int), .int .i64 lim, .int .i64 ord], .slice oa m oc] w fun e w' => e = .returned (.bool true) ∧ Below w.heap.size w w' := by
  cases h : mayB base lim ord with
  | false => exact plays_bad base hb64 lim ord hl1 hl2 ho1 ho2 h oa m oc w
  | true =>
    have hB := (mayB_cfg h).1
    unfold Bounds at hB
    obtain ⟨l, rfl⟩ := Int.eq_ofNat_of_zero_le (by omega : 0 ≤ lim)
    obtain ⟨k0, rfl⟩ := Int.eq_ofNat_of_zero_le hB.1
    exact plays_ok base hb64 l k0 (by omega) (by omega) h oa m oc w hops
end Go.Proofs.Ytanfdpangcgdhaa
