import Derived.Test.YtcgbefmjnhkdgaaWb
import Derived.Deep.OwnRows
import Derived.Test.YtcgbefmjnhkdgaaWe
import Derived.Test.YtcgbefmjnhkdgaaXo
set_option maxRecDepth 1000000
set_option maxHeartbeats 80000000
/- pagemap: Plain. -/
namespace Go.Proofs.Ytcgbefmjnhkdgaa.H
open Go.RowKit
set_option linter.unusedVariables false

theorem info_wsl : (Try.prog.info? 28).map (fun i => (i.zero, i.size, i.bytes)) = some (some (.slice none 0 0), 1, 24) := by kernel_rfl
abbrev wsl (D : Nat → Nat) (wd : Nat → List Nat) (j : Nat) : Value := .slice (some ⟨D j, 0, none⟩) (wd j).length (wd j).length
/-- What Plain tells, while it is made. -/
structure Told (w W : World) (gp gq : Nat) (m : Mp) (k : Nat) (D : Nat → Nat) : Prop where
  row : Row W gp m.n m.pg
  q : ∃ cs : Array Value, W.heap[gq]? = some (.cells cs 28 (0, 0)) ∧ cs.size = m.o ∧ ∀ j, j < k → cs[j]? = some (wsl D m.wd j)
  d : ∀ j, j < k → W.heap[D j]? = some (.cells (wcells (m.wd j)) 22 (0, 0))
  iD : ∀ i j, i < k → j < k → D i = D j → i = j
  fp : w.heap.size ≤ gp
  fq : w.heap.size ≤ gq
  fd : ∀ j, j < k → w.heap.size ≤ D j
  kp : Kept none' w W
theorem Told.cell {w W gp gq m k D} (h : Told w W gp gq m k D) (j : Nat) (hj : j < m.o) : ∃ v, W.cell? ⟨gq, j, none⟩ = some v := by
  obtain ⟨cs, hg, hs, _⟩ := h.q
  exact ⟨cs[j]'(by omega), by simp [World.cell?, hg, hs, hj]⟩
theorem Told.froz {w W gp gq m k D} (h : Told w W gp gq m k D) (j : Nat) : W.frozen? ⟨gq, j, none⟩ = false := by
  obtain ⟨cs, hg, hs, _⟩ := h.q
  simp [World.frozen?, hg]
theorem Told.keep {w W W' gp gq m k D} (h : Told w W gp gq m k D) (kp : Kept none' W W') : Told w W' gp gq m k D := by
  obtain ⟨cs, hg, hs⟩ := h.q
  exact ⟨Row.kept h.row kp (fun x => x), ⟨cs, (kp.block _ (heap_lt hg) (fun x => x)).trans hg, hs⟩, fun j hj => (kp.block _ (heap_lt (h.d j hj)) (fun x => x)).trans (h.d j hj), h.iD, h.fp, h.fq, h.fd, none_trans h.kp kp⟩
theorem Told.next {w W W2 gp gq m k D} (h : Told w W gp gq m k D) (hk : k < m.o) (kp : Kept none' W W2) (hx : W2.heap[W.heap.size]? = some (.cells (wcells (m.wd k)) 22 (0, 0))) :
    Told w (W2.setCell ⟨gq, k, none⟩ (.slice (some ⟨W.heap.size, 0, none⟩) (m.wd k).length (m.wd k).length)) gp gq m (k + 1) (fun j => if j = k then W.heap.size else D j) := by
  have h2 := h.keep kp
  obtain ⟨cs, hg, hs, hc⟩ := h2.q
  obtain ⟨rs, hrb, _⟩ := h2.row
  have ks : Kept (fun x => x = gq) W2 (W2.setCell ⟨gq, k, none⟩ (.slice (some ⟨W.heap.size, 0, none⟩) (m.wd k).length (m.wd k).length)) := (Kept.refl (fun x => x = gq) W2).setCell (p := ⟨gq, k, none⟩) rfl _
  have lt : ∀ j, j < k → D j < W.heap.size := fun j hj => heap_lt (h.d j hj)
  refine ⟨Row.kept h2.row ks (ty_ne hrb hg (by decide)), ⟨_, heap_set hg k _, by simpa using hs, fun j hj => ?_⟩, fun j hj => ?_, fun i j hi hj e => ?_, h.fp, h.fq, fun j hj => ?_, h2.kp.setNew (p := ⟨gq, k, none⟩) (fun e => absurd e (Nat.not_lt.2 h.fq)) _⟩
  · rw [Array.getElem?_setIfInBounds]
    by_cases e : j = k
    · subst e
      rw [if_pos rfl, if_pos (by omega)]
      simp [wsl]
    · rw [if_neg (by omega), hc j (by omega)]
      simp [wsl, e]
  · by_cases e : j = k
    · simp only [e, if_true]
      exact (ks.block _ (heap_lt hx) (ty_ne hx hg (by decide))).trans hx
    · simp only [e, if_false]
      exact (ks.block _ (heap_lt (h2.d j (by omega))) (ty_ne (h2.d j (by omega)) hg (by decide))).trans (h2.d j (by omega))
  · by_cases e1 : i = k <;> by_cases e2 : j = k <;> simp only [e1, e2, if_true, if_false] at e
    · omega
    · have := lt j (by omega); omega
    · have := lt i (by omega); omega
    · exact h.iD i j (by omega) (by omega) e
  · by_cases e : j = k
    · simp only [e, if_true]
      exact h.kp.size
    · simp only [e, if_false]
      exact h.fd j (by omega)
theorem make_wsl (o : Nat) (ho : o ≤ 8) (w : World) : ∃ w1, (Instr.makeSlice 27 (.int .i64 (o : Int)) (.int .i64 (o : Int))).run Try.prog w = .ok (.slice (some ⟨w.heap.size, 0, none⟩) o o) w1 ∧ (∃ cs : Array Value, w1.heap[w.heap.size]? = some (.cells cs 28 (0, 0)) ∧ cs.size = o) ∧ Kept none' w w1 ∧ w1.heap.size = w.heap.size + 1 := by
  have hr := run_make_row' (P := Try.prog) 27 28 (.slice none 0 0) 24 Try.underlying27 info_wsl rfl .i64 .i64 o (by omega) (by omega) w
  exact ⟨_, hr, ⟨_, heap_new _ _, size_madeCells _ _⟩, (Kept.refl none' w).alloc _, by simp⟩
end Go.Proofs.Ytcgbefmjnhkdgaa.H
/- PageOpens: data that came in. -/
namespace Go.Proofs.Ytcgbefmjnhkdgaa.H
open Go.RowKit
set_option linter.unusedVariables false

/-- Page i of a slice of pages at ⟨bl, o⟩. -/
def PgC (w : World) (bl o i : Nat) (p : Pg) : Prop := w.cell? ⟨bl, o + i * 11, none⟩ = some (.int .i64 p.kd) ∧ w.cell? ⟨bl, o + i * 11 + 1, none⟩ = some (.int .i64 p.od) ∧ w.cell? ⟨bl, o + i * 11 + 2, none⟩ = some (.int .i64 p.cl) ∧ w.cell? ⟨bl, o + i * 11 + 3, none⟩ = some (.int .i64 p.lv) ∧ w.cell? ⟨bl, o + i * 11 + 4, none⟩ = some (.int .i64 p.nx) ∧ w.cell? ⟨bl, o + i * 11 + 5, none⟩ = some (.int .i64 p.pv) ∧ w.cell? ⟨bl, o + i * 11 + 6, none⟩ = some (.int .i64 p.fs) ∧ w.cell? ⟨bl, o + i * 11 + 7, none⟩ = some (.int .u64 (p.b0 : Int)) ∧ w.cell? ⟨bl, o + i * 11 + 8, none⟩ = some (.int .u64 (p.b1 : Int)) ∧ w.cell? ⟨bl, o + i * 11 + 9, none⟩ = some (.int .u64 (p.b2 : Int)) ∧ w.cell? ⟨bl, o + i * 11 + 10, none⟩ = some (.int .u64 (p.b3 : Int))
def N64 (z : Int) : Prop := -9223372036854775808 ≤ z ∧ z ≤ 9223372036854775807
/-- What a page that came in may hold. -/
structure PgIn (p : Pg) : Prop where
  kd : N64 p.kd
  od : N64 p.od
  cl : N64 p.cl
  lv : N64 p.lv
  nx : N64 p.nx
  pv : N64 p.pv
  fs : N64 p.fs
  b0 : p.b0 < 18446744073709551616
  b1 : p.b1 < 18446744073709551616
  b2 : p.b2 < 18446744073709551616
  b3 : p.b3 < 18446744073709551616
/-- A slice of pages that came in. -/
def PagesIn (w : World) (v : Value) (n : Nat) (pg : Nat → Pg) : Prop :=
  n ≤ 9223372036854775807 ∧ ∃ oa oc, v = .slice oa n oc ∧ (n = 0 ∨ ∃ bl o, oa = some ⟨bl, o, none⟩ ∧ bl < w.heap.size ∧ ∀ i, i < n → PgIn (pg i) ∧ PgC w bl o i (pg i))
/-- A slice of slices of words that came in. -/
def PairsIn (w : World) (v : Value) (o : Nat) (ws : Nat → Value) (zs : Nat → List Nat) : Prop :=
  o ≤ 9223372036854775807 ∧ ∃ oa oc, v = .slice oa o oc ∧ (o = 0 ∨ ∃ bl f, oa = some ⟨bl, f, none⟩ ∧ bl < w.heap.size ∧ ∀ k, k < o → w.cell? ⟨bl, f + k, none⟩ = some (ws k) ∧ Src w (ws k) (zs k))
theorem PgC.kept {w w' : World} {bl o i : Nat} {p : Pg} (h : PgC w bl o i p) (k : Kept none' w w') : PgC w' bl o i p := by
  obtain ⟨d0, d1, d2, d3, d4, d5, d6, d7, d8, d9, d10⟩ := h
  exact ⟨k.cell (fun x => x) d0, k.cell (fun x => x) d1, k.cell (fun x => x) d2, k.cell (fun x => x) d3, k.cell (fun x => x) d4, k.cell (fun x => x) d5, k.cell (fun x => x) d6, k.cell (fun x => x) d7, k.cell (fun x => x) d8, k.cell (fun x => x) d9, k.cell (fun x => x) d10⟩
end Go.Proofs.Ytcgbefmjnhkdgaa.H
/- pagemap: Run. -/
namespace Go.Proofs.Ytcgbefmjnhkdgaa.H
open Go.RowKit
set_option linter.unusedVariables false

def runP (pg : Nat → Pg) (p o : Nat) (k : Int) : Nat → Pg := fun i => if i = p then blankP k o else if p < i ∧ i < p + 2 ^ o then blankP (k + 1) o else pg i
theorem run_fits {n mo p o r : Nat} (hn : n = r * 2 ^ mo) (ho : o ≤ mo) (hp : p < n) (hm : p % 2 ^ o = 0) : p + 2 ^ o ≤ n := by
  obtain ⟨d, rfl⟩ : ∃ d, mo = o + d := ⟨mo - o, by omega⟩
  obtain ⟨a, ha⟩ : ∃ a, p = a * 2 ^ o := ⟨p / 2 ^ o, by have := Nat.div_add_mod p (2 ^ o); rw [hm, Nat.add_zero, Nat.mul_comm] at this; exact this.symm⟩
  obtain ⟨b, hb⟩ : ∃ b, n = b * 2 ^ o := ⟨r * 2 ^ d, by rw [hn, Nat.pow_add, Nat.mul_comm (2 ^ o), Nat.mul_assoc]⟩
  have h0 : 0 < 2 ^ o := pw_pos o
  generalize 2 ^ o = z at *
  subst ha hb
  have : a < b := Nat.lt_of_mul_lt_mul_right hp
  calc a * z + z = (a + 1) * z := by rw [Nat.add_mul, Nat.one_mul]
    _ ≤ b * z := Nat.mul_le_mul_right _ this
end Go.Proofs.Ytcgbefmjnhkdgaa.H
/- pagemap: Run that is refused, Grow, Shrink. -/
namespace Go.Proofs.Ytcgbefmjnhkdgaa.H
open Go.RowKit
set_option linter.unusedVariables false

/-- May it run? -/
def canRun (m : Mp) (p o k : Int) : Bool := decide ((k = 0 ∨ k = 2) ∧ 0 ≤ o ∧ o ≤ m.o) && (inR m.n p && decide (p % 2 ^ o.toNat = 0))
def runM (m : Mp) (p o k : Int) : Mp := if canRun m p o k = true then { m with pg := runP m.pg p.toNat o.toNat k } else m
def runE (m : Mp) (p o k : Int) : Int := if canRun m p o k = true then 0 else 1
theorem From.kept {w w1 w2 : World} {b : Nat} {B B' : Bs} {o : Nat} (k : Kept (mown b B o) w w1) (f : From w b B B' o) (k2 : Kept (mown b B' o) w1 w2) : Kept (mown b B o) w w2 :=
  k.trans k2 (fun _ _ x => x) (fun x hx e => (f x e).resolve_right (by omega))
def growM (m : Mp) : Mp := if 1024 < m.n + 2 ^ m.o then m else { resizeM m (m.n + 2 ^ m.o) with pg := runP (resizeM m (m.n + 2 ^ m.o)).pg m.n m.o 2 }
theorem dv_add {n o : Nat} (h : ∃ r, n = r * 2 ^ o) : ∃ r, n + 2 ^ o = r * 2 ^ o := by
  obtain ⟨r, hr⟩ := h
  exact ⟨r + 1, by rw [hr, Nat.add_mul, Nat.one_mul]⟩
theorem dv_mod {n o : Nat} (h : ∃ r, n = r * 2 ^ o) : n % 2 ^ o = 0 := by
  obtain ⟨r, hr⟩ := h
  rw [hr]; exact Nat.mul_mod_left _ _
theorem From.refl (w : World) (b : Nat) (B : Bs) (o : Nat) : From w b B B o := fun _ h => .inl h
end Go.Proofs.Ytcgbefmjnhkdgaa.H
