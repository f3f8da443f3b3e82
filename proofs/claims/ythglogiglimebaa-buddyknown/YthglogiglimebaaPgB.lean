/- pagemap: has, Pages, blank, At, Head, Slab. -/
import Derived.Test.YthglogiglimebaaPgA
namespace Go.Proofs.Ythglogiglimebaa
open Go.RowKit
set_option linter.unusedVariables false

abbrev pval (p : Pg) : Value := .agg #[.int .i64 p.kd, .int .i64 p.od, .int .i64 p.cl, .int .i64 p.lv, .int .i64 p.nx, .int .i64 p.pv, .int .i64 p.fs, .int .u64 (p.b0 : Int), .int .u64 (p.b1 : Int), .int .u64 (p.b2 : Int), .int .u64 (p.b3 : Int)]
abbrev pobj (p : Pg) : Obj := .cells #[.int .i64 p.kd, .int .i64 p.od, .int .i64 p.cl, .int .i64 p.lv, .int .i64 p.nx, .int .i64 p.pv, .int .i64 p.fs, .int .u64 (p.b0 : Int), .int .u64 (p.b1 : Int), .int .u64 (p.b2 : Int), .int .u64 (p.b3 : Int)] 131
theorem has_any (b : Nat) (B : Bs) (m : Mp) (i : Int) (w : World) (h : MapAt w b B m) :
    Calls Try.prog 75 #[.pointer (some ⟨b, 0, none⟩), .int .i64 i] w fun e w' => e = .returned (.bool (inR m.n i)) ∧ w' = w := by
  obtain ⟨cq, c0, c1, c2⟩ := h.cb
  clear h
  by_cases h0 : 0 ≤ i
  · have hd : inR m.n i = decide (i < (m.n : Int)) := by simp [inR, h0]
    rw [hd]
    go_enter Try.func75, Try.ntmps75
    go_wp2
    go_ret
    exact ⟨rfl, rfl⟩
  · have hd : inR m.n i = false := by simp [inR]; omega
    rw [hd]
    go_enter Try.func75, Try.ntmps75
    go_wp2
    go_ret
    exact ⟨rfl, rfl⟩
theorem pages_any (b : Nat) (B : Bs) (m : Mp) (w : World) (h : MapAt w b B m) :
    Calls Try.prog 26 #[.pointer (some ⟨b, 0, none⟩)] w fun e w' => e = .returned (.int .i64 (m.n : Int)) ∧ w' = w := by
  obtain ⟨cq, c0, c1, c2⟩ := h.cb
  clear h
  go_enter Try.func26, Try.ntmps26
  go_wp2
  go_ret
  exact ⟨rfl, rfl⟩
/-- A page in a box of its own. -/
theorem box11 {w : World} {x : Nat} {p : Pg} (h : w.heap[x]? = some (pobj p)) : w.cell? ⟨x, 0, none⟩ = some (.int .i64 p.kd) ∧ w.cell? ⟨x, 1, none⟩ = some (.int .i64 p.od) ∧ w.cell? ⟨x, 2, none⟩ = some (.int .i64 p.cl) ∧ w.cell? ⟨x, 3, none⟩ = some (.int .i64 p.lv) ∧ w.cell? ⟨x, 4, none⟩ = some (.int .i64 p.nx) ∧ w.cell? ⟨x, 5, none⟩ = some (.int .i64 p.pv) ∧ w.cell? ⟨x, 6, none⟩ = some (.int .i64 p.fs) ∧ w.cell? ⟨x, 7, none⟩ = some (.int .u64 (p.b0 : Int)) ∧ w.cell? ⟨x, 8, none⟩ = some (.int .u64 (p.b1 : Int)) ∧ w.cell? ⟨x, 9, none⟩ = some (.int .u64 (p.b2 : Int)) ∧ w.cell? ⟨x, 10, none⟩ = some (.int .u64 (p.b3 : Int)) := by
  refine ⟨?_, ?_, ?_, ?_, ?_, ?_, ?_, ?_, ?_, ?_, ?_⟩ <;> simp [World.cell?, h]
theorem boxz {w : World} {x : Nat} {p : Pg} (h : w.heap[x]? = some (pobj p)) (i : Nat) : w.frozen? ⟨x, i, none⟩ = false := by simp [World.frozen?, h]
abbrev setB (w : World) (x : Nat) (p : Pg) : World := (((((((((((w.setCell ⟨x, 0, none⟩ (.int .i64 p.kd)).setCell ⟨x, 1, none⟩ (.int .i64 p.od)).setCell ⟨x, 2, none⟩ (.int .i64 p.cl)).setCell ⟨x, 3, none⟩ (.int .i64 p.lv)).setCell ⟨x, 4, none⟩ (.int .i64 p.nx)).setCell ⟨x, 5, none⟩ (.int .i64 p.pv)).setCell ⟨x, 6, none⟩ (.int .i64 p.fs)).setCell ⟨x, 7, none⟩ (.int .u64 (p.b0 : Int))).setCell ⟨x, 8, none⟩ (.int .u64 (p.b1 : Int))).setCell ⟨x, 9, none⟩ (.int .u64 (p.b2 : Int))).setCell ⟨x, 10, none⟩ (.int .u64 (p.b3 : Int)))
theorem setB_kept {S : Nat → Prop} {a w : World} (h : Kept S a w) (x : Nat) (hx : x < a.heap.size → S x) (p : Pg) : Kept S a (setB w x p) := (((((((((((h.setNew (p := ⟨x, 0, none⟩) hx _).setNew (p := ⟨x, 1, none⟩) hx _).setNew (p := ⟨x, 2, none⟩) hx _).setNew (p := ⟨x, 3, none⟩) hx _).setNew (p := ⟨x, 4, none⟩) hx _).setNew (p := ⟨x, 5, none⟩) hx _).setNew (p := ⟨x, 6, none⟩) hx _).setNew (p := ⟨x, 7, none⟩) hx _).setNew (p := ⟨x, 8, none⟩) hx _).setNew (p := ⟨x, 9, none⟩) hx _).setNew (p := ⟨x, 10, none⟩) hx _)
theorem blank_any (k o : Int) (w : World) :
    Calls Try.prog 76 #[.int .i64 k, .int .i64 o] w fun e w' => e = .returned (pval (blankP k o)) ∧ w' = w.alloc (pobj (blankP k o)) := by
  go_enter Try.func76, Try.ntmps76
  go_wp2
  exact ⟨rfl, _, by simp [results, Try.results76, go_sem, blankP], rfl, rfl⟩
def atP (m : Mp) (i : Int) : Pg := if inR m.n i = true then m.pg i.toNat else zeroP
theorem inR_nat {n : Nat} {i : Int} (h : inR n i = true) : ∃ k : Nat, i = k ∧ k < n := by
  have hi0 : 0 ≤ i ∧ i < (n : Int) := by simpa [inR] using h
  obtain ⟨k, rfl⟩ := Int.eq_ofNat_of_zero_le hi0.1
  exact ⟨k, rfl, by omega⟩
theorem inR_yes {n k : Nat} (h : k < n) : inR n (k : Int) = true := by simp [inR]; omega
theorem at_out (b : Nat) (B : Bs) (m : Mp) (i : Int) (w : World) (h : MapAt w b B m) (hi : inR m.n i = false) :
    Calls Try.prog 90 #[.pointer (some ⟨b, 0, none⟩), .int .i64 i] w fun e w' => e = .returned (.tuple #[pval zeroP, .bool false]) ∧ Kept none' w w' := by
  have K0 := hid ((Kept.refl none' w).alloc (pobj zeroP))
  have HM := hid (h.keep K0.out)
  have X0 := hid (heap_new w (pobj zeroP))
  have HI := hid hi
  clear h hi
  go_enter Try.func90, Try.ntmps90
  go_wp2_with fail
  refine (has_any b B m i _ HM.out).mono ?_
  rintro e w1 ⟨rfl, hw1⟩
  rw [show (w.alloc (pobj zeroP)) = w1 from hw1.symm] at K0 HM X0
  rw [HI.out]
  clear hw1
  obtain ⟨x0, x1, x2, x3, x4, x5, x6, x7, x8, x9, x10⟩ := box11 X0.out
  have z := boxz X0.out
  go_wp2_with fail
  exact ⟨rfl, _, by simp [results, Try.results90, go_sem, zeroP, x0, x1, x2, x3, x4, x5, x6, x7, x8, x9, x10], rfl, setB_kept (p := zeroP) K0.out _ (fun h => absurd h (Nat.lt_irrefl _))⟩
set_option maxRecDepth 4000 in
theorem at_in (b : Nat) (B : Bs) (m : Mp) (k : Nat) (w : World) (h : MapAt w b B m) (hk : k < m.n) :
    Calls Try.prog 90 #[.pointer (some ⟨b, 0, none⟩), .int .i64 (k : Int)] w fun e w' => e = .returned (.tuple #[pval (m.pg k), .bool true]) ∧ Kept none' w w' := by
  have K0 := hid ((Kept.refl none' w).alloc (pobj zeroP))
  have HM := hid (h.keep K0.out)
  have X0 := hid (heap_new w (pobj zeroP))
  have HI := hid (inR_yes hk)
  clear h
  go_enter Try.func90, Try.ntmps90
  go_wp2_with fail
  refine (has_any b B m k _ HM.out).mono ?_
  rintro e w1 ⟨rfl, hw1⟩
  rw [show (w.alloc (pobj zeroP)) = w1 from hw1.symm] at K0 HM X0
  rw [HI.out]
  clear hw1
  obtain ⟨g, hg, hr⟩ := HM.out.has_row (by omega)
  obtain ⟨d0, d1, d2, d3, d4, d5, d6, d7, d8, d9, d10⟩ := hr.cell k hk
  have c1 := HM.out.c1 hg
  have hki : (k : Int) < (m.n : Int) := by omega
  obtain ⟨x0, x1, x2, x3, x4, x5, x6, x7, x8, x9, x10⟩ := box11 X0.out
  have z := boxz X0.out
  clear hr hg
  go_wp2_with fail
  exact ⟨rfl, _, by simp [results, Try.results90, go_sem, x0, x1, x2, x3, x4, x5, x6, x7, x8, x9, x10], rfl, setB_kept (p := m.pg k) K0.out _ (fun h => absurd h (Nat.lt_irrefl _))⟩
theorem at_any (b : Nat) (B : Bs) (m : Mp) (i : Int) (w : World) (h : MapAt w b B m) :
    Calls Try.prog 90 #[.pointer (some ⟨b, 0, none⟩), .int .i64 i] w fun e w' => e = .returned (.tuple #[pval (atP m i), .bool (inR m.n i)]) ∧ Kept none' w w' := by
  cases hi : inR m.n i with
  | false =>
    rw [show atP m i = zeroP by simp [atP, hi]]
    exact at_out b B m i w h hi
  | true =>
    obtain ⟨k, rfl, hk⟩ := inR_nat hi
    rw [show atP m (k : Int) = m.pg k by simp [atP, hi]]
    exact at_in b B m k w h hk
end Go.Proofs.Ythglogiglimebaa
