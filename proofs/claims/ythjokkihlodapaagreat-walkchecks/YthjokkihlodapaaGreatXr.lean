import Derived.Deep.OwnRows
import Derived.Test.YthjokkihlodapaaGreatXs
import Derived.Laws.StructEq
set_option maxRecDepth 1000000
set_option maxHeartbeats 80000000
/- pagemap: Plain. -/
namespace Go.Proofs.YthjokkihlodapaaGreat.H
open Go.RowKit
set_option linter.unusedVariables false

theorem info_wsl : (Tryz.prog.info? 28).map (fun i => (i.zero, i.size, i.bytes)) = some (some (.slice none 0 0), 1, 24) := by kernel_rfl
abbrev wsl (D : Nat → Nat) (wd : Nat → List Nat) (j : Nat) : Value := .slice (some ⟨D j, 0, none⟩) (wd j).length (wd j).length
/-- What Plain tells, while it is made. -/
structure Told (w W : World) (gp gq : Nat) (m : Mp) (k : Nat) (D : Nat → Nat) : Prop where
  row : Row W gp m.n m.pg
  q : ∃ cs : Array Value, W.heap[gq]? = some (.cells cs 28 (0, 0)) ∧ cs.size = m.o ∧ ∀ j, j < k → cs[j]? = some (wsl D m.wd j)
  d : ∀ j, j < k → W.heap[D j]? = some (.cells (wcells (m.wd j)) 22 (0, 0))
  iD : ∀ i j, i < k → j < k → D i = D j → i = j
  fp : w.heap.size ≤ gp
  fq : w.heap.size ≤ gq
  fd : ∀ j, j < k → w.heap.size ≤ D j
  kp : Kept none' w W
theorem Told.cell {w W gp gq m k D} (h : Told w W gp gq m k D) (j : Nat) (hj : j < m.o) : ∃ v, W.cell? ⟨gq, j, none⟩ = some v := by
  obtain ⟨cs, hg, hs, _⟩ := h.q
  exact ⟨cs[j]'(by omega), by simp [World.cell?, hg, hs, hj]⟩
theorem Told.froz {w W gp gq m k D} (h : Told w W gp gq m k D) (j : Nat) : W.frozen? ⟨gq, j, none⟩ = false := by
  obtain ⟨cs, hg, hs, _⟩ := h.q
  simp [World.frozen?, hg]
theorem Told.keep {w W W' gp gq m k D} (h : Told w W gp gq m k D) (kp : Kept none' W W') : Told w W' gp gq m k D := by
  obtain ⟨cs, hg, hs⟩ := h.q
  exact ⟨Row.kept h.row kp (fun x => x), ⟨cs, (kp.block _ (heap_lt hg) (fun x => x)).trans hg, hs⟩, fun j hj => (kp.block _ (heap_lt (h.d j hj)) (fun x => x)).trans (h.d j hj), h.iD, h.fp, h.fq, h.fd, none_trans h.kp kp⟩
theorem Told.next {w W W2 gp gq m k D} (h : Told w W gp gq m k D) (hk : k < m.o) (kp : Kept none' W W2) (hx : W2.heap[W.heap.size]? = some (.cells (wcells (m.wd k)) 22 (0, 0))) :
    Told w (W2.setCell ⟨gq, k, none⟩ (.slice (some ⟨W.heap.size, 0, none⟩) (m.wd k).length (m.wd k).length)) gp gq m (k + 1) (fun j => if j = k then W.heap.size else D j) := by
  have h2 := h.keep kp
  obtain ⟨cs, hg, hs, hc⟩ := h2.q
  obtain ⟨rs, hrb, _⟩ := h2.row
  have ks : Kept (fun x => x = gq) W2 (W2.setCell ⟨gq, k, none⟩ (.slice (some ⟨W.heap.size, 0, none⟩) (m.wd k).length (m.wd k).length)) := (Kept.refl (fun x => x = gq) W2).setCell (p := ⟨gq, k, none⟩) rfl _
  have lt : ∀ j, j < k → D j < W.heap.size := fun j hj => heap_lt (h.d j hj)
  refine ⟨Row.kept h2.row ks (ty_ne hrb hg (by decide)), ⟨_, heap_set hg k _, by simpa using hs, fun j hj => ?_⟩, fun j hj => ?_, fun i j hi hj e => ?_, h.fp, h.fq, fun j hj => ?_, h2.kp.setNew (p := ⟨gq, k, none⟩) (fun e => absurd e (Nat.not_lt.2 h.fq)) _⟩
  · rw [Array.getElem?_setIfInBounds]
    by_cases e : j = k
    · subst e
      rw [if_pos rfl, if_pos (by omega)]
      simp [wsl]
    · rw [if_neg (by omega), hc j (by omega)]
      simp [wsl, e]
  · by_cases e : j = k
    · simp only [e, if_true]
      exact (ks.block _ (heap_lt hx) (ty_ne hx hg (by decide))).trans hx
    · simp only [e, if_false]
      exact (ks.block _ (heap_lt (h2.d j (by omega))) (ty_ne (h2.d j (by omega)) hg (by decide))).trans (h2.d j (by omega))
  · by_cases e1 : i = k <;> by_cases e2 : j = k <;> simp only [e1, e2, if_true, if_false] at e
    · omega
    · have := lt j (by omega); omega
    · have := lt i (by omega); omega
    · exact h.iD i j (by omega) (by omega) e
  · by_cases e : j = k
    · simp only [e, if_true]
      exact h.kp.size
    · simp only [e, if_false]
      exact h.fd j (by omega)
theorem make_wsl (o : Nat) (ho : o ≤ 8) (w : World) : ∃ w1, (Instr.makeSlice 27 (.int .i64 (o : Int)) (.int .i64 (o : Int))).run Tryz.prog w = .ok (.slice (some ⟨w.heap.size, 0, none⟩) o o) w1 ∧ (∃ cs : Array Value, w1.heap[w.heap.size]? = some (.cells cs 28 (0, 0)) ∧ cs.size = o) ∧ Kept none' w w1 ∧ w1.heap.size = w.heap.size + 1 := by
  have hr := run_make_row' (P := Tryz.prog) 27 28 (.slice none 0 0) 24 Tryz.underlying27 info_wsl rfl .i64 .i64 o (by omega) (by omega) w
  exact ⟨_, hr, ⟨_, heap_new _ _, size_madeCells _ _⟩, (Kept.refl none' w).alloc _, by simp⟩
end Go.Proofs.YthjokkihlodapaaGreat.H
/- PageOpens: data that came in. -/
namespace Go.Proofs.YthjokkihlodapaaGreat.H
open Go.RowKit
set_option linter.unusedVariables false

/-- Page i of a slice of pages at ⟨bl, o⟩. -/
def PgC (w : World) (bl o i : Nat) (p : Pg) : Prop := w.cell? ⟨bl, o + i * 11, none⟩ = some (.int .i64 p.kd) ∧ w.cell? ⟨bl, o + i * 11 + 1, none⟩ = some (.int .i64 p.od) ∧ w.cell? ⟨bl, o + i * 11 + 2, none⟩ = some (.int .i64 p.cl) ∧ w.cell? ⟨bl, o + i * 11 + 3, none⟩ = some (.int .i64 p.lv) ∧ w.cell? ⟨bl, o + i * 11 + 4, none⟩ = some (.int .i64 p.nx) ∧ w.cell? ⟨bl, o + i * 11 + 5, none⟩ = some (.int .i64 p.pv) ∧ w.cell? ⟨bl, o + i * 11 + 6, none⟩ = some (.int .i64 p.fs) ∧ w.cell? ⟨bl, o + i * 11 + 7, none⟩ = some (.int .u64 (p.b0 : Int)) ∧ w.cell? ⟨bl, o + i * 11 + 8, none⟩ = some (.int .u64 (p.b1 : Int)) ∧ w.cell? ⟨bl, o + i * 11 + 9, none⟩ = some (.int .u64 (p.b2 : Int)) ∧ w.cell? ⟨bl, o + i * 11 + 10, none⟩ = some (.int .u64 (p.b3 : Int))
def N64 (z : Int) : Prop := -9223372036854775808 ≤ z ∧ z ≤ 9223372036854775807
/-- What a page that came in may hold. -/
structure PgIn (p : Pg) : Prop where
  kd : N64 p.kd
  od : N64 p.od
  cl : N64 p.cl
  lv : N64 p.lv
  nx : N64 p.nx
  pv : N64 p.pv
  fs : N64 p.fs
  b0 : p.b0 < 18446744073709551616
  b1 : p.b1 < 18446744073709551616
  b2 : p.b2 < 18446744073709551616
  b3 : p.b3 < 18446744073709551616
/-- A slice of pages that came in. -/
def PagesIn (w : World) (v : Value) (n : Nat) (pg : Nat → Pg) : Prop :=
  n ≤ 9223372036854775807 ∧ ∃ oa oc, v = .slice oa n oc ∧ (n = 0 ∨ ∃ bl o, oa = some ⟨bl, o, none⟩ ∧ bl < w.heap.size ∧ ∀ i, i < n → PgIn (pg i) ∧ PgC w bl o i (pg i))
/-- A slice of slices of words that came in. -/
def PairsIn (w : World) (v : Value) (o : Nat) (ws : Nat → Value) (zs : Nat → List Nat) : Prop :=
  o ≤ 9223372036854775807 ∧ ∃ oa oc, v = .slice oa o oc ∧ (o = 0 ∨ ∃ bl f, oa = some ⟨bl, f, none⟩ ∧ bl < w.heap.size ∧ ∀ k, k < o → w.cell? ⟨bl, f + k, none⟩ = some (ws k) ∧ Src w (ws k) (zs k))
theorem PgC.kept {w w' : World} {bl o i : Nat} {p : Pg} (h : PgC w bl o i p) (k : Kept none' w w') : PgC w' bl o i p := by
  obtain ⟨d0, d1, d2, d3, d4, d5, d6, d7, d8, d9, d10⟩ := h
  exact ⟨k.cell (fun x => x) d0, k.cell (fun x => x) d1, k.cell (fun x => x) d2, k.cell (fun x => x) d3, k.cell (fun x => x) d4, k.cell (fun x => x) d5, k.cell (fun x => x) d6, k.cell (fun x => x) d7, k.cell (fun x => x) d8, k.cell (fun x => x) d9, k.cell (fun x => x) d10⟩
end Go.Proofs.YthjokkihlodapaaGreat.H
/- Pages are compared. -/
namespace Go.Proofs.YthjokkihlodapaaGreat.H
open Go.RowKit
set_option linter.unusedVariables false

/-- The four words. -/
theorem arr_eq (a0 a1 a2 a3 b0 b1 b2 b3 : Int) (w : World) :
    (Op.equalIn 9999 50 (.agg #[.int .u64 a0, .int .u64 a1, .int .u64 a2, .int .u64 a3]) (.agg #[.int .u64 b0, .int .u64 b1, .int .u64 b2, .int .u64 b3])).run Tryz.prog w = .ok (a0 == b0 && (a1 == b1 && (a2 == b2 && a3 == b3))) w := by
  have u3 := Tryz.underlying22
  have s3 := Tryz.isAgg22
  have z3 := Tryz.sizeOf22
  rw [show (9999 : Nat) = 9998 + 1 from rfl, Op.equalIn]
  simp only [Sem.run_bind, run_underlying Tryz.underlying50, Result.andThen_ok]
  simp only [Std.Legacy.Range.forIn_eq_forIn_range', Std.Legacy.Range.size, Nat.sub_zero, Nat.add_sub_cancel, Nat.div_one, List.range'_succ, List.range'_zero, List.forIn_cons, List.forIn_nil]
  go_simp
  by_cases h1 : a0 = b0 <;> by_cases h2 : a1 = b1 <;> by_cases h3 : a2 = b2 <;> by_cases h4 : a3 = b3 <;> simp [h1, h2, h3, h4]
end Go.Proofs.YthjokkihlodapaaGreat.H
