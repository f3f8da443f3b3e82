/- A list in memory; the links of an address; what is written. -/
import Derived.Test.YthglogiglimebaaMemI
import Derived.Test.YthglogiglimebaaHolds
namespace Go.Proofs.Ythglogiglimebaa.M
open Go.RowKit
set_option linter.unusedVariables false

instance (base n p k : Nat) : Decidable (In base n p k) := inferInstanceAs (Decidable (_ ∧ _))

/-- A list: its struct in block c. -/
structure ListAt (w : World) (c b hd : Nat) : Prop where
  hc : w.heap[c]? = some (.cells #[.pointer (some ⟨b, 0, none⟩), .int .u64 (hd : Int)] 110 (0, 0))
  h64 : hd < 18446744073709551616
theorem ListAt.lt {w c b hd} (h : ListAt w c b hd) : c < w.heap.size := (Array.getElem?_eq_some_iff.1 h.hc).1
theorem ListAt.c0 {w c b hd} (h : ListAt w c b hd) : w.cell? ⟨c, 0, none⟩ = some (.pointer (some ⟨b, 0, none⟩)) := by simp [World.cell?, h.hc]
theorem ListAt.c1 {w c b hd} (h : ListAt w c b hd) : w.cell? ⟨c, 1, none⟩ = some (.int .u64 (hd : Int)) := by simp [World.cell?, h.hc]
theorem ListAt.fz {w c b hd} (h : ListAt w c b hd) (i : Nat) : w.frozen? ⟨c, i, none⟩ = false := by simp [World.frozen?, h.hc]
theorem ListAt.kept {w w' c b hd} {S : Nat → Prop} (h : ListAt w c b hd) (k : Kept S w w') (hS : ¬ S c) : ListAt w' c b hd := ⟨(k.block c h.lt hS).trans h.hc, h.h64⟩
theorem ListAt.keep {w w' c b hd} (h : ListAt w c b hd) (k : Kept none' w w') : ListAt w' c b hd := h.kept k (fun x => x)
theorem heap_set {w : World} {k : Nat} {cs : Array Value} {t : TypeId} {z : Nat × Nat} (h : w.heap[k]? = some (.cells cs t z)) (i : Nat) (u : Value) : (w.setCell ⟨k, i, none⟩ u).heap[k]? = some (.cells (cs.setIfInBounds i u) t z) := by
  obtain ⟨hlt, hk⟩ := Array.getElem?_eq_some_iff.1 h
  show (w.heap.modify k _)[k]? = _
  rw [Array.getElem?_eq_getElem (by rw [Array.size_modify]; exact hlt), Array.getElem_modify_self, hk]
  rfl
theorem ListAt.set {w c b hd} (h : ListAt w c b hd) (hd' : Nat) (h' : hd' < 18446744073709551616) : ListAt (w.setCell ⟨c, 1, none⟩ (.int .u64 (hd' : Int))) c b hd' := ⟨heap_set h.hc 1 _, h'⟩

/-- The block of a pair of links that a call holds. -/
def PairB (w : World) (k : Nat) (x y : Nat) : Prop := w.heap[k]? = some (.cells #[.int .u64 (x : Int), .int .u64 (y : Int)] 123 (0, 0))
theorem PairB.lt {w k x y} (h : PairB w k x y) : k < w.heap.size := (Array.getElem?_eq_some_iff.1 h).1
theorem PairB.c0 {w k x y} (h : PairB w k x y) : w.cell? ⟨k, 0, none⟩ = some (.int .u64 (x : Int)) := by simp [World.cell?, show w.heap[k]? = _ from h]
theorem PairB.c1 {w k x y} (h : PairB w k x y) : w.cell? ⟨k, 1, none⟩ = some (.int .u64 (y : Int)) := by simp [World.cell?, show w.heap[k]? = _ from h]
theorem PairB.fz {w k x y} (h : PairB w k x y) (i : Nat) : w.frozen? ⟨k, i, none⟩ = false := by simp [World.frozen?, show w.heap[k]? = _ from h]
theorem PairB.kept {w w' k x y} {S : Nat → Prop} (h : PairB w k x y) (hk : Kept S w w') (hS : ¬ S k) : PairB w' k x y := (hk.block k h.lt hS).trans h
theorem PairB.keep {w w' k x y} (h : PairB w k x y) (hk : Kept none' w w') : PairB w' k x y := h.kept hk (fun x => x)
theorem PairB.new (w : World) : PairB (w.alloc (.cells #[.int .u64 0, .int .u64 0] 123)) w.heap.size 0 0 := heap_new _ _
theorem PairB.set {w k x y} (h : PairB w k x y) (x' y' : Nat) : PairB ((w.setCell ⟨k, 0, none⟩ (.int .u64 (x' : Int))).setCell ⟨k, 1, none⟩ (.int .u64 (y' : Int))) k x' y' := by
  exact heap_set (heap_set h 0 _) 1 _

/-- Next and prev of an address; the words of a space that one word is written into. -/
def nx (base : Nat) (f : Nat → Nat) (p : Nat) : Nat := word f (p - base)
def pv (base : Nat) (f : Nat → Nat) (p : Nat) : Nat := word f (p + 8 - base)
def stw (base : Nat) (f : Nat → Nat) (p v : Nat) : Nat → Nat := upd f (p - base) 8 (byteOf v)

theorem word_lt (f : Nat → Nat) (o : Nat) (h : ∀ i, i < 8 → f (o + i) < 256) : word f o < 18446744073709551616 := wordTo_lt (fun i => f (o + i)) 8 h
theorem SpaceAt.word_lt {w b ao base R lim n f} (h : SpaceAt w b ao base R lim n f) (o : Nat) (ho : o + 8 ≤ n) : word f o < 18446744073709551616 := by
  cases ao with
  | none =>
    obtain ⟨cap, _, h0, _⟩ := h.ex
    omega
  | some g => exact Go.Proofs.Ythglogiglimebaa.M.word_lt f o (fun i hi => h.f256 _ (by omega))
theorem SpaceAt.nx_lt {w b ao base R lim n f} (h : SpaceAt w b ao base R lim n f) (p : Nat) (hp : In base n p 16) : nx base f p < 18446744073709551616 := h.word_lt _ (by unfold In at hp; omega)
theorem SpaceAt.pv_lt {w b ao base R lim n f} (h : SpaceAt w b ao base R lim n f) (p : Nat) (hp : In base n p 16) : pv base f p < 18446744073709551616 := h.word_lt _ (by unfold In at hp; omega)
theorem SpaceAt.end_le {w b ao base R lim n f} (h : SpaceAt w b ao base R lim n f) : base + n ≤ 9223372036854775808 := by
  have := h.nle; have := h.cfg.be; omega
theorem SpaceAt.has {w b ao base R lim n f} (h : SpaceAt w b ao base R lim n f) {p k : Nat} (hk : 0 < k) (hp : In base n p k) : ∃ g, ao = Option.some g := by
  cases ao with
  | none =>
    obtain ⟨cap, _, h0, _⟩ := h.ex
    unfold In at hp
    omega
  | some g => exact ⟨g, rfl⟩

theorem Word_any (b ao base R lim n f) (p : Nat) (hp : p < 18446744073709551616) (w : World) (h : SpaceAt w b ao base R lim n f) :
    Calls Try.prog 94 #[.pointer (some ⟨b, 0, none⟩), .int .u64 (p : Int)] w fun e w' => e = .returned (.tuple #[.int .u64 ((if In base n p 8 then word f (p - base) else 0 : Nat) : Int), .int .i64 (if In base n p 8 then 0 else 4)]) ∧ Kept none' w w' := by
  by_cases hin : In base n p 8
  · obtain ⟨g, rfl⟩ := h.has (by decide) hin
    refine (Word_in b g base R lim n f p w h hin).mono ?_
    rintro e w' ⟨rfl, k⟩
    rw [if_pos hin, if_pos hin]
    exact ⟨rfl, k⟩
  · refine (Word_out b ao base R lim n f p 8 0 none 0 w h hp (by decide) (by decide) hin).mono ?_
    rintro e w' ⟨rfl, k⟩
    rw [if_neg hin, if_neg hin]
    exact ⟨rfl, k⟩

/-- What is new behind a call's beginning. -/
theorem Kept.new2 {w w' : World} (h : Kept none' w w') (k : Nat) (hk : w.heap.size ≤ k) (u v : Value) : Kept none' w ((w'.setCell ⟨k, 0, none⟩ u).setCell ⟨k, 1, none⟩ v) :=
  (h.setCell (fun e => absurd e (by simp; omega)) _).setCell (fun e => absurd e (by simp; omega)) _
theorem none_trans {a b c : World} (h : Kept none' a b) (k : Kept none' b c) : Kept none' a c := h.trans k (fun _ _ x => x) (fun _ _ x => x)

theorem at_there (c b ao base R lim n f hd) (p : Nat) (w : World) (hS : SpaceAt w b ao base R lim n f) (hL : ListAt w c b hd) (hin : In base n p 16) :
    Calls Try.prog 70 #[.pointer (some ⟨c, 0, none⟩), .int .u64 (p : Int)] w fun e w' => e = .returned (.tuple #[.agg #[.int .u64 (nx base f p : Int), .int .u64 (pv base f p : Int)], .bool true]) ∧ Kept none' w w' := by
  have hend := hS.end_le
  have hp64 : p + 8 < 18446744073709551616 := by unfold In at hin; omega
  have i1 : In base n p 8 := by unfold In at hin ⊢; omega
  have i2 : In base n (p + 8) 8 := by unfold In at hin ⊢; omega
  have W1 := hid (fun w' (k : Kept none' w w') => Word_any b ao base R lim n f p (by omega) w' (hS.keep k))
  have W2 := hid (fun w' (k : Kept none' w w') => Word_any b ao base R lim n f (p + 8) (by omega) w' (hS.keep k))
  rw [if_pos i1, if_pos i1] at W1
  rw [if_pos i2, if_pos i2] at W2
  have E8 := hid (show ((p + 8 : Nat) : Int) = (p : Int) + 8 by omega)
  obtain ⟨x, hx⟩ : ∃ x, x = nx base f p := ⟨_, rfl⟩
  obtain ⟨y, hy⟩ : ∃ y, y = pv base f p := ⟨_, rfl⟩
  have ex : word f (p - base) = x := hx.symm
  have ey : word f (p + 8 - base) = y := hy.symm
  rw [← hx, ← hy]
  rw [ex] at W1
  rw [ey, E8.out] at W2
  have HL := hid hL
  have hc0 := (hL.keep ((Kept.refl _ w).alloc (.cells #[.int .u64 0, .int .u64 0] 123))).c0
  clear hS hL hin i1 i2 ex ey hx hy E8 hend
  go_enter Try.func70, Try.ntmps70
  go_wp2_with fail
  refine (W1.out _ ((Kept.refl _ w).alloc _)).mono ?_
  rintro e w1 ⟨rfl, k1⟩
  have K1 := hid k1
  have hc1 := (HL.out.keep ((Kept.refl _ w).alloc _)).keep k1 |>.c0
  clear k1 hc0
  go_wp2_with fail
  refine (W2.out _ (none_trans ((Kept.refl _ w).alloc _) K1.out)).mono ?_
  rintro e w2 ⟨rfl, k2⟩
  have hP := ((PairB.new w).keep K1.out).keep k2
  have K2 := hid (none_trans (none_trans ((Kept.refl none' w).alloc _) K1.out) k2)
  have hz0 := hP.fz 0
  have hz1 := hP.fz 1
  have hd0 := hP.c0
  have hd1 := hP.c1
  have HP := hid hP
  clear k2 hP
  go_wp2_with fail
  have h2 := HP.out.set x y
  exact ⟨rfl, _, by simp [results, Try.results70, go_sem, h2.c0, h2.c1], rfl, K2.out.new2 w.heap.size (Nat.le_refl _) _ _⟩
end Go.Proofs.Ythglogiglimebaa.M
