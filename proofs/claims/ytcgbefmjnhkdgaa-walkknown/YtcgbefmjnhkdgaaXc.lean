import Derived.Test.YtcgbefmjnhkdgaaXa
import Derived.Deep.RegionHeld3
import Derived.Deep.QuietTactic
import Derived.BigQuiet
set_option maxRecDepth 1000000
set_option maxHeartbeats 80000000
/- Pages in memory; where a map lies. -/
namespace Go.Proofs.Ytcgbefmjnhkdgaa
open Go.RowKit
set_option linter.unusedVariables false

def none' : Nat → Prop := fun _ => False
theorem none_trans {a b c : World} (h : Kept none' a b) (k : Kept none' b c) : Kept none' a c := h.trans k (fun _ _ x => x) (fun _ _ x => x)
theorem Kept.setNew {S : Nat → Prop} {a b : World} (h : Kept S a b) {p : Addr} (hp : p.block < a.heap.size → S p.block) (u : Value) : Kept S a (b.setCell p u) :=
  ⟨h.os, h.tape, h.output, by simp; exact h.size, fun i hi hU => by rw [Below.heap_setCell b p u i (fun e => hU (by rw [e]; exact hp (e ▸ hi)))]; exact h.block i hi hU⟩
theorem Kept.drewN {S : Nat → Prop} {a b : World} (h : Kept S a b) (n : Nat) : Kept S a (b.drewN n) := ⟨h.os, h.tape, h.output, h.size, h.block⟩
theorem lt_of_cell {w : World} {p : Addr} {v : Value} (h : w.cell? p = some v) : p.block < w.heap.size := by
  rcases Nat.lt_or_ge p.block w.heap.size with h1 | h1
  · exact h1
  · exfalso
    simp [World.cell?, Array.getElem?_eq_none h1] at h
theorem Kept.cell {S : Nat → Prop} {a b : World} (h : Kept S a b) {p : Addr} {v : Value} (hp : ¬ S p.block) (hc : a.cell? p = some v) : b.cell? p = some v := by
  rw [← hc]
  exact World.cell?_of_block (h.block _ (lt_of_cell hc) hp)
theorem heap_set {w : World} {k : Nat} {cs : Array Value} {t : TypeId} {z : Nat × Nat} (h : w.heap[k]? = some (.cells cs t z)) (i : Nat) (u : Value) : (w.setCell ⟨k, i, none⟩ u).heap[k]? = some (.cells (cs.setIfInBounds i u) t z) := by
  obtain ⟨hlt, hk⟩ := Array.getElem?_eq_some_iff.1 h
  show (w.heap.modify k _)[k]? = _
  rw [Array.getElem?_eq_getElem (by rw [Array.size_modify]; exact hlt), Array.getElem_modify_self, hk]
  rfl
theorem heap_lt {w : World} {k : Nat} {o : Obj} (h : w.heap[k]? = some o) : k < w.heap.size := (Array.getElem?_eq_some_iff.1 h).1
theorem heap_new2 (w : World) (A B : Obj) : ((w.alloc A).alloc B).heap[w.heap.size + 1]? = some B := by
  have := heap_new (w.alloc A) B
  rwa [World.size_alloc] at this
/-- Blocks of different types are different blocks. -/
theorem ty_ne {w : World} {x y : Nat} {c d : Array Value} {s t : TypeId} {z u : Nat × Nat} (h : w.heap[x]? = some (.cells c s z)) (k : w.heap[y]? = some (.cells d t u)) (hst : s ≠ t) : x ≠ y := by
  rintro rfl
  rw [h] at k
  cases k
  exact hst rfl
def adr (ao : Option Nat) : Option Addr := ao.map fun g => ⟨g, 0, none⟩

/-- A page. -/
structure Pg where
  kd : Int
  od : Int
  cl : Int
  lv : Int
  nx : Int
  pv : Int
  fs : Int
  b0 : Nat
  b1 : Nat
  b2 : Nat
  b3 : Nat
deriving DecidableEq
def Pg.fld (p : Pg) : Nat → Value
  | 0 => .int .i64 p.kd
  | 1 => .int .i64 p.od
  | 2 => .int .i64 p.cl
  | 3 => .int .i64 p.lv
  | 4 => .int .i64 p.nx
  | 5 => .int .i64 p.pv
  | 6 => .int .i64 p.fs
  | 7 => .int .u64 (p.b0 : Int)
  | 8 => .int .u64 (p.b1 : Int)
  | 9 => .int .u64 (p.b2 : Int)
  | _ => .int .u64 (p.b3 : Int)
def blankP (k o : Int) : Pg := ⟨k, o, 0, 0, -1, -1, -1, 0, 0, 0, 0⟩
def zeroP : Pg := ⟨0, 0, 0, 0, 0, 0, 0, 0, 0, 0, 0⟩

/-- A row of pages, cell by cell. -/
def RowC (w : World) (g n : Nat) (c : Nat → Nat → Value) : Prop :=
  ∃ cs : Array Value, w.heap[g]? = some (.cells cs 39 (0, 0)) ∧ cs.size = n * 11 ∧ ∀ i, i < n → ∀ j, j < 11 → cs[i * 11 + j]? = some (c i j)
def Row (w : World) (g n : Nat) (pg : Nat → Pg) : Prop := RowC w g n (fun i j => (pg i).fld j)
def upc (c : Nat → Nat → Value) (i j : Nat) (v : Value) : Nat → Nat → Value := fun a b => if a = i ∧ b = j then v else c a b
def upp (pg : Nat → Pg) (i : Nat) (p : Pg) : Nat → Pg := fun a => if a = i then p else pg a
theorem RowC.lt {w g n c} (h : RowC w g n c) : g < w.heap.size := by
  obtain ⟨cs, hg, _⟩ := h
  exact heap_lt hg
theorem RowC.set {w g n c} (h : RowC w g n c) (i j : Nat) (hi : i < n) (hj : j < 11) (v : Value) : RowC (w.setCell ⟨g, i * 11 + j, none⟩ v) g n (upc c i j v) := by
  obtain ⟨cs, hg, hs, hc⟩ := h
  refine ⟨_, heap_set hg _ _, by simpa using hs, fun a ha b hb => ?_⟩
  rw [Array.getElem?_setIfInBounds]
  unfold upc
  by_cases e : a = i ∧ b = j
  · obtain ⟨rfl, rfl⟩ := e
    rw [if_pos rfl, if_pos (by omega), if_pos ⟨rfl, rfl⟩]
  · rw [if_neg (by omega), if_neg e]
    exact hc a ha b hb
theorem RowC.kept {w w' g n c} {S : Nat → Prop} (h : RowC w g n c) (k : Kept S w w') (hS : ¬ S g) : RowC w' g n c := by
  obtain ⟨cs, hg, hs, hc⟩ := h
  exact ⟨cs, (k.block g (heap_lt hg) hS).trans hg, hs, hc⟩
theorem RowC.congr {w g n c c'} (h : RowC w g n c) (he : ∀ i, i < n → ∀ j, j < 11 → c i j = c' i j) : RowC w g n c' := by
  obtain ⟨cs, hg, hs, hc⟩ := h
  exact ⟨cs, hg, hs, fun i hi j hj => (hc i hi j hj).trans (congrArg some (he i hi j hj))⟩
theorem Row.kept {w w' g n pg} {S : Nat → Prop} (h : Row w g n pg) (k : Kept S w w') (hS : ¬ S g) : Row w' g n pg := RowC.kept h k hS
theorem Row.congr {w g n pg pg'} (h : Row w g n pg) (he : ∀ i, i < n → pg i = pg' i) : Row w g n pg' := RowC.congr h (fun i hi j _ => by rw [he i hi])
theorem Row.cell {w g n pg} (h : Row w g n pg) (i : Nat) (hi : i < n) :
    w.cell? ⟨g, i * 11, none⟩ = some (.int .i64 (pg i).kd) ∧ w.cell? ⟨g, i * 11 + 1, none⟩ = some (.int .i64 (pg i).od) ∧ w.cell? ⟨g, i * 11 + 2, none⟩ = some (.int .i64 (pg i).cl) ∧ w.cell? ⟨g, i * 11 + 3, none⟩ = some (.int .i64 (pg i).lv) ∧ w.cell? ⟨g, i * 11 + 4, none⟩ = some (.int .i64 (pg i).nx) ∧ w.cell? ⟨g, i * 11 + 5, none⟩ = some (.int .i64 (pg i).pv) ∧ w.cell? ⟨g, i * 11 + 6, none⟩ = some (.int .i64 (pg i).fs) ∧ w.cell? ⟨g, i * 11 + 7, none⟩ = some (.int .u64 ((pg i).b0 : Int)) ∧ w.cell? ⟨g, i * 11 + 8, none⟩ = some (.int .u64 ((pg i).b1 : Int)) ∧ w.cell? ⟨g, i * 11 + 9, none⟩ = some (.int .u64 ((pg i).b2 : Int)) ∧ w.cell? ⟨g, i * 11 + 10, none⟩ = some (.int .u64 ((pg i).b3 : Int)) := by
  obtain ⟨cs, hg, _, hc⟩ := h
  have key : ∀ j, j < 11 → w.cell? ⟨g, i * 11 + j, none⟩ = some ((pg i).fld j) := fun j hj => by
    have := hc i hi j hj
    simpa [World.cell?, hg] using this
  exact ⟨key 0 (by decide), key 1 (by decide), key 2 (by decide), key 3 (by decide), key 4 (by decide), key 5 (by decide), key 6 (by decide), key 7 (by decide), key 8 (by decide), key 9 (by decide), key 10 (by decide)⟩
theorem RowC.froz {w g n c} (h : RowC w g n c) (i : Nat) : w.frozen? ⟨g, i, none⟩ = false := by
  obtain ⟨cs, hg, _, hc⟩ := h
  simp [World.frozen?, hg]
/-- A whole page is written. -/
abbrev setP (w : World) (g i : Nat) (p : Pg) : World :=
  ((((((((((w.setCell ⟨g, i * 11, none⟩ (.int .i64 p.kd)).setCell ⟨g, i * 11 + 1, none⟩ (.int .i64 p.od)).setCell ⟨g, i * 11 + 2, none⟩ (.int .i64 p.cl)).setCell ⟨g, i * 11 + 3, none⟩ (.int .i64 p.lv)).setCell ⟨g, i * 11 + 4, none⟩ (.int .i64 p.nx)).setCell ⟨g, i * 11 + 5, none⟩ (.int .i64 p.pv)).setCell ⟨g, i * 11 + 6, none⟩ (.int .i64 p.fs)).setCell ⟨g, i * 11 + 7, none⟩ (.int .u64 (p.b0 : Int))).setCell ⟨g, i * 11 + 8, none⟩ (.int .u64 (p.b1 : Int))).setCell ⟨g, i * 11 + 9, none⟩ (.int .u64 (p.b2 : Int))).setCell ⟨g, i * 11 + 10, none⟩ (.int .u64 (p.b3 : Int))
theorem setP_kept (w : World) (g i : Nat) (p : Pg) : Kept (fun x => x = g) w (setP w g i p) :=
  ((((((((((((Kept.refl (fun x => x = g) w).setCell (p := ⟨g, _, none⟩) rfl _).setCell (p := ⟨g, _, none⟩) rfl _).setCell (p := ⟨g, _, none⟩) rfl _).setCell (p := ⟨g, _, none⟩) rfl _).setCell (p := ⟨g, _, none⟩) rfl _).setCell (p := ⟨g, _, none⟩) rfl _).setCell (p := ⟨g, _, none⟩) rfl _).setCell (p := ⟨g, _, none⟩) rfl _).setCell (p := ⟨g, _, none⟩) rfl _).setCell (p := ⟨g, _, none⟩) rfl _).setCell (p := ⟨g, _, none⟩) rfl _)
theorem setP_size (w : World) (g i : Nat) (p : Pg) : (setP w g i p).heap.size = w.heap.size := by simp
theorem fld_up {c : Nat → Nat → Value} {pg : Nat → Pg} {i : Nat} {p : Pg} (a b : Nat) (hb : b < 11) (h : ∀ j, j < 11 → c i j = p.fld j) (h2 : a ≠ i → c a b = (pg a).fld b) : c a b = (upp pg i p a).fld b := by
  unfold upp
  by_cases e : a = i
  · rw [if_pos e, e]; exact h b hb
  · rw [if_neg e]; exact h2 e
theorem lt11 {P : Nat → Prop} (h0 : P 0) (h1 : P 1) (h2 : P 2) (h3 : P 3) (h4 : P 4) (h5 : P 5) (h6 : P 6) (h7 : P 7) (h8 : P 8) (h9 : P 9) (h10 : P 10) : ∀ j, j < 11 → P j
  | 0, _ => h0 | 1, _ => h1 | 2, _ => h2 | 3, _ => h3 | 4, _ => h4 | 5, _ => h5 | 6, _ => h6 | 7, _ => h7 | 8, _ => h8 | 9, _ => h9 | 10, _ => h10
  | _ + 11, h => absurd h (by omega)
theorem Row.put {w g n pg} (h : Row w g n pg) (i : Nat) (hi : i < n) (p : Pg) : Row (setP w g i p) g n (upp pg i p) := by
  have := ((((((((((RowC.set h i 0 hi (by decide) (.int .i64 p.kd)).set i 1 hi (by decide) (.int .i64 p.od)).set i 2 hi (by decide) (.int .i64 p.cl)).set i 3 hi (by decide) (.int .i64 p.lv)).set i 4 hi (by decide) (.int .i64 p.nx)).set i 5 hi (by decide) (.int .i64 p.pv)).set i 6 hi (by decide) (.int .i64 p.fs)).set i 7 hi (by decide) (.int .u64 (p.b0 : Int))).set i 8 hi (by decide) (.int .u64 (p.b1 : Int))).set i 9 hi (by decide) (.int .u64 (p.b2 : Int))).set i 10 hi (by decide) (.int .u64 (p.b3 : Int))
  refine RowC.congr this (fun a ha b hb => fld_up a b hb (fun j hj => ?_) (fun e => ?_))
  · revert j
    apply lt11 <;> simp [upc, Pg.fld]
  · simp [upc, e]

/-- A map as a thing: its order, how many pages, the pages, the pairs' words. -/
structure Mp where
  o : Nat
  n : Nat
  pg : Nat → Pg
  wd : Nat → List Nat
/-- Where it lies. -/
structure Bs where
  g : Option Nat
  P : Option Nat
  S : Nat → Nat
  C : Nat → Nat
/-- The row of the pairs' sets. -/
def Prs (w : World) (P : Option Nat) (o cq : Nat) (S : Nat → Nat) : Prop :=
  match P with
  | none => o = 0 ∧ cq = 0
  | some q => ∃ cs : Array Value, w.heap[q]? = some (.cells cs 83 (0, 0)) ∧ cs.size = cq ∧ o ≤ cq ∧ ∀ k, k < o → cs[k]? = some (.pointer (some ⟨S k, 0, none⟩))
def Rows (w : World) (g : Option Nat) (n : Nat) (pg : Nat → Pg) : Prop :=
  match g with
  | none => n = 0
  | some q => Row w q n pg
structure PgOk (p : Pg) : Prop where
  o0 : 0 ≤ p.od
  o8 : p.od ≤ 8
  c0 : 0 ≤ p.cl
  c7 : p.cl ≤ 7
  b0 : p.b0 < 18446744073709551616
  b1 : p.b1 < 18446744073709551616
  b2 : p.b2 < 18446744073709551616
  b3 : p.b3 < 18446744073709551616
theorem PgOk.blank (k o : Int) (h0 : 0 ≤ o) (h8 : o ≤ 8) : PgOk (blankP k o) := ⟨h0, h8, Int.le_refl 0, by show (0 : Int) ≤ 7; decide, by show 0 < _; decide, by show 0 < _; decide, by show 0 < _; decide, by show 0 < _; decide⟩
theorem PgOk.zero : PgOk zeroP := by constructor <;> decide
structure MapAt (w : World) (b : Nat) (B : Bs) (m : Mp) : Prop where
  o8 : m.o ≤ 8
  n1 : m.n ≤ 1024
  dv : ∃ r, m.n = r * 2 ^ m.o
  hb : ∃ cq, w.heap[b]? = some (.cells #[.int .i64 (m.o : Int), .slice (adr B.g) m.n m.n, .slice (adr B.P) m.o cq] 133 (0, 0)) ∧ Prs w B.P m.o cq B.S
  row : Rows w B.g m.n m.pg
  set : ∀ k, k < m.o → SetAt w (B.S k) (B.C k) (m.n / 2 ^ (k + 1)) (m.wd k)
  injS : ∀ j k, j < m.o → k < m.o → B.S j = B.S k → j = k
  injC : ∀ j k, j < m.o → k < m.o → B.C j = B.C k → j = k
  ok : ∀ i, i < m.n → PgOk (m.pg i)
/-- A map's blocks. -/
def mown (b : Nat) (B : Bs) (o : Nat) : Nat → Prop := fun x => x = b ∨ B.g = some x ∨ B.P = some x ∨ ∃ k, k < o ∧ (x = B.S k ∨ x = B.C k)
theorem Prs.kept {w w' P o cq S} {T : Nat → Prop} (h : Prs w P o cq S) (k : Kept T w w') (hS : ∀ x, P = some x → ¬ T x) : Prs w' P o cq S := by
  cases P with
  | none => exact h
  | some q =>
    obtain ⟨cs, hg, h2, h3, h4⟩ := h
    exact ⟨cs, (k.block q (heap_lt hg) (hS q rfl)).trans hg, h2, h3, h4⟩
theorem Rows.kept {w w' g n pg} {T : Nat → Prop} (h : Rows w g n pg) (k : Kept T w w') (hS : ∀ x, g = some x → ¬ T x) : Rows w' g n pg := by
  cases g with
  | none => exact h
  | some q => exact Row.kept h k (hS q rfl)
theorem Rows.congr {w g n pg pg'} (h : Rows w g n pg) (he : ∀ i, i < n → pg i = pg' i) : Rows w g n pg' := by
  cases g with
  | none => exact h
  | some q => exact Row.congr h he
theorem MapAt.kept {w w' b B m} {T : Nat → Prop} (h : MapAt w b B m) (k : Kept T w w') (hS : ∀ x, mown b B m.o x → ¬ T x) : MapAt w' b B m := by
  obtain ⟨cq, hb, hp⟩ := h.hb
  exact ⟨h.o8, h.n1, h.dv, ⟨cq, (k.block b (heap_lt hb) (hS b (.inl rfl))).trans hb, hp.kept k (fun x e => hS x (.inr (.inr (.inl e))))⟩, h.row.kept k (fun x e => hS x (.inr (.inl e))), fun i hi => (h.set i hi).kept k (hS _ (.inr (.inr (.inr ⟨i, hi, .inl rfl⟩)))) (hS _ (.inr (.inr (.inr ⟨i, hi, .inr rfl⟩)))), h.injS, h.injC, h.ok⟩
theorem MapAt.keep {w w' b B m} (h : MapAt w b B m) (k : Kept none' w w') : MapAt w' b B m := h.kept k (fun _ _ x => x)
theorem MapAt.own_lt {w b B m} (h : MapAt w b B m) (x : Nat) (hx : mown b B m.o x) : x < w.heap.size := by
  obtain ⟨cq, hb, hp⟩ := h.hb
  rcases hx with rfl | hx | hx | ⟨k, hk, rfl | rfl⟩
  · exact heap_lt hb
  · have := h.row
    rw [hx] at this
    exact RowC.lt this
  · rw [hx] at hp
    obtain ⟨cs, hg, _⟩ := hp
    exact heap_lt hg
  · exact heap_lt (h.set k hk).hb
  · exact heap_lt (h.set k hk).hc
/-- The struct's cells. -/
theorem MapAt.cb {w b B m} (h : MapAt w b B m) : ∃ cq, w.cell? ⟨b, 0, none⟩ = some (.int .i64 (m.o : Int)) ∧ w.cell? ⟨b, 1, none⟩ = some (.slice (adr B.g) m.n m.n) ∧ w.cell? ⟨b, 2, none⟩ = some (.slice (adr B.P) m.o cq) := by
  obtain ⟨cq, hb, _⟩ := h.hb
  exact ⟨cq, by simp [World.cell?, hb], by simp [World.cell?, hb], by simp [World.cell?, hb]⟩
theorem MapAt.c0 {w b B m} (h : MapAt w b B m) : w.cell? ⟨b, 0, none⟩ = some (.int .i64 (m.o : Int)) := by
  obtain ⟨cq, hb, _⟩ := h.hb
  simp [World.cell?, hb]
theorem MapAt.c1 {w b B m} {g : Nat} (h : MapAt w b B m) (hg : B.g = some g) : w.cell? ⟨b, 1, none⟩ = some (.slice (some ⟨g, 0, none⟩) m.n m.n) := by
  obtain ⟨cq, hb, _⟩ := h.hb
  simp [World.cell?, hb, hg, adr]
theorem MapAt.bz {w b B m} (h : MapAt w b B m) (i : Nat) : w.frozen? ⟨b, i, none⟩ = false := by
  obtain ⟨cq, hb, _⟩ := h.hb
  simp [World.frozen?, hb]
theorem MapAt.cp {w b B m} (h : MapAt w b B m) (k : Nat) (hk : k < m.o) : ∃ q, B.P = some q ∧ w.cell? ⟨q, k, none⟩ = some (.pointer (some ⟨B.S k, 0, none⟩)) := by
  obtain ⟨cq, hb, hp⟩ := h.hb
  cases hP : B.P with
  | none =>
    rw [hP] at hp
    obtain ⟨h1, _⟩ := hp
    omega
  | some q =>
    rw [hP] at hp
    obtain ⟨cs, hg, h2, h3, h4⟩ := hp
    exact ⟨q, rfl, by simp [World.cell?, hg, h4 k hk]⟩
theorem MapAt.has_row {w b B m} (h : MapAt w b B m) (hn : 0 < m.n) : ∃ g, B.g = some g ∧ Row w g m.n m.pg := by
  have hr := h.row
  cases hg : B.g with
  | none =>
    rw [hg] at hr
    have : m.n = 0 := hr
    omega
  | some q =>
    rw [hg] at hr
    exact ⟨q, rfl, hr⟩
/-- Only the pages that are there count. -/
theorem MapAt.congr {w b B m} {pg' : Nat → Pg} (h : MapAt w b B m) (he : ∀ i, i < m.n → m.pg i = pg' i) : MapAt w b B { m with pg := pg' } :=
  ⟨h.o8, h.n1, h.dv, h.hb, Rows.congr h.row he, h.set, h.injS, h.injC, fun i hi => (by show PgOk (pg' i); rw [← he i hi]; exact h.ok i hi)⟩
/-- The pages were written. -/
theorem MapAt.pages {w w' b B m g pg'} (h : MapAt w b B m) (hg : B.g = some g) (k : Kept (fun x => x = g) w w') (hr : Row w' g m.n pg') (ok : ∀ i, i < m.n → PgOk (pg' i)) : MapAt w' b B { m with pg := pg' } := by
  obtain ⟨cq, hb, hp⟩ := h.hb
  have hrow := h.row
  rw [hg] at hrow
  obtain ⟨cs, hgb, _⟩ := hrow
  refine ⟨h.o8, h.n1, h.dv, ⟨cq, (k.block b (heap_lt hb) (ty_ne hb hgb (by decide))).trans hb, hp.kept k (fun x e => ?_)⟩, ?_, fun i hi => (h.set i hi).kept k (ty_ne (h.set i hi).hb hgb (by decide)) (ty_ne (h.set i hi).hc hgb (by decide)), h.injS, h.injC, ok⟩
  · rw [e] at hp
    obtain ⟨ds, hq, _⟩ := hp
    exact ty_ne hq hgb (by decide)
  · show Rows w' B.g m.n pg'
    rw [hg]
    exact hr
end Go.Proofs.Ytcgbefmjnhkdgaa
/- First places; lists that are followed: with what is left, and by counting. -/
namespace Go.Proofs.Ytcgbefmjnhkdgaa
set_option linter.unusedVariables false

/-- The first i below n that is not ok. -/
def fst1 (n : Nat) (ok : Nat → Bool) : Option Nat := (List.range n).find? fun i => !ok i
theorem fst1_bad {n i : Nat} {ok : Nat → Bool} (hi : i < n) (h : ∀ a, a < i → ok a = true) (hb : ok i = false) : fst1 n ok = some i := by
  unfold fst1
  rw [List.find?_range_eq_some]
  exact ⟨by simp [hb], List.mem_range.2 hi, fun a ha => by simp [h a ha]⟩
theorem fst1_ok {n : Nat} {ok : Nat → Bool} (h : ∀ a, a < n → ok a = true) : fst1 n ok = none := by
  unfold fst1
  exact List.find?_eq_none.2 (fun a ha => by simp [h a (List.mem_range.1 ha)])
theorem fst1_none {n : Nat} {ok : Nat → Bool} (h : fst1 n ok = none) (a : Nat) (ha : a < n) : ok a = true := by
  have := List.find?_eq_none.1 h a (List.mem_range.2 ha)
  simpa using this
theorem fst1_some {n i : Nat} {ok : Nat → Bool} (h : fst1 n ok = some i) : i < n ∧ ok i = false ∧ ∀ a, a < i → ok a = true := by
  unfold fst1 at h
  rw [List.find?_range_eq_some] at h
  obtain ⟨h1, h2, h3⟩ := h
  exact ⟨List.mem_range.1 h2, by simpa using h1, fun a ha => by simpa using h3 a ha⟩
theorem fst1_congr {n : Nat} {ok ok' : Nat → Bool} (h : ∀ a, a < n → ok a = ok' a) : fst1 n ok = fst1 n ok' := by
  cases e : fst1 n ok' with
  | none => exact fst1_ok fun a ha => by rw [h a ha]; exact fst1_none e a ha
  | some i =>
    obtain ⟨h1, h2, h3⟩ := fst1_some e
    exact fst1_bad h1 (fun a ha => by rw [h a (by omega)]; exact h3 a ha) (by rw [h i h1]; exact h2)
/-- The first answer. -/
def fstO (n : Nat) (f : Nat → Option Nat) : Option Nat := (List.range n).findSome? f
theorem fstO_bad {n i p : Nat} {f : Nat → Option Nat} (hi : i < n) (h : ∀ a, a < i → f a = none) (hb : f i = some p) : fstO n f = some p := by
  unfold fstO
  obtain ⟨d, rfl⟩ : ∃ d, n = i + 1 + d := ⟨n - (i + 1), by omega⟩
  rw [List.range_add, List.findSome?_append, List.range_succ, List.findSome?_append, List.findSome?_eq_none_iff.2 (fun a ha => h a (List.mem_range.1 ha))]
  simp [hb]
theorem fstO_ok {n : Nat} {f : Nat → Option Nat} (h : ∀ a, a < n → f a = none) : fstO n f = none := by
  unfold fstO
  exact List.findSome?_eq_none_iff.2 fun a ha => h a (List.mem_range.1 ha)

section
variable {α : Type} [DecidableEq α] (dec : α → Option Nat) (nil : α) (nxt bk : Nat → α) (S : Nat → Bool)
/-- A list that is followed n steps: each is one of S, and knows where it was come from. -/
def refL : Nat → α → α → Bool
  | 0, p, _ => decide (p = nil)
  | n + 1, p, b => match dec p with
    | none => false
    | some i => S i && (decide (bk i = b) && refL n (nxt i) p)
/-- A list that is followed as long as there is something left. -/
def prgL : Nat → List Nat → α → α → Bool
  | 0, _, _, _ => false
  | n + 1, l, p, b => if p = nil then l.isEmpty else match dec p with
    | none => false
    | some i => decide (i ∈ l) && (decide (bk i = b) && prgL n (l.erase i) (nxt i) p)
/-- What has been met, the last first: each knows the one ahead. -/
def Chn9 (cod : Nat → α) : List Nat → Prop
  | [] => True
  | v :: t => bk v = (match t with | [] => nil | u :: _ => cod u) ∧ Chn9 cod t
variable {dec nil nxt bk S}
omit [DecidableEq α] in
theorem chn9_not {cod : Nat → α} (hn : ∀ i, cod i ≠ nil) (hi : ∀ i j, cod i = cod j → i = j) {x : Nat} {v : Nat} (hx : bk x = cod v) :
    ∀ (V : List Nat), Chn9 nil bk cod V → V.Nodup → v ∉ V.tail → x ∉ V := by
  intro V
  induction V with
  | nil => intro _ _ _ h; cases h
  | cons a t ih =>
    intro hc hd hv hm
    obtain ⟨h1, h2⟩ := hc
    rcases List.mem_cons.1 hm with e | e
    · subst e
      rw [hx] at h1
      cases t with
      | nil => exact hn _ h1
      | cons u t' =>
        have := hi _ _ h1
        exact hv (by rw [this]; exact List.mem_cons_self)
    · exact ih h2 (List.nodup_cons.1 hd).2 (fun h => hv (List.mem_of_mem_tail h)) e
theorem prgL_eq {cod : Nat → α} (hn : ∀ i, cod i ≠ nil) (hi : ∀ i j, cod i = cod j → i = j) (hdc : ∀ p i, dec p = some i → p = cod i) (hnl : dec nil = none) (l0 : List Nat) (h0 : l0.Nodup)
    (hS : ∀ p i, dec p = some i → (i ∈ l0 ↔ S i = true)) :
    ∀ (n : Nat) (l V : List Nat) (p b : α), l.length = n → l.Nodup → V.Nodup → (∀ i, i ∈ l0 ↔ i ∈ l ∨ i ∈ V) → (∀ i, i ∈ l → i ∉ V) → Chn9 nil bk cod V → b = (match V with | [] => nil | u :: _ => cod u) →
      prgL dec nil nxt bk (n + 1) l p b = refL dec nil nxt bk S n p b := by
  intro n
  induction n with
  | zero =>
    intro l V p b hl _ _ _ _ _ _
    have : l = [] := List.eq_nil_of_length_eq_zero hl
    subst this
    by_cases hp : p = nil
    · simp [prgL, refL, hp]
    · simp only [prgL, refL, hp, if_false, decide_false]
      cases dec p <;> simp
  | succ n ih =>
    intro l V p b hl hd hV hm hdis hc hb
    rw [prgL]
    by_cases hp : p = nil
    · rw [if_pos hp, hp]
      simp only [refL, hnl]
      cases l with
      | nil => simp at hl
      | cons => rfl
    · rw [if_neg hp]
      simp only [refL]
      cases hdp : dec p with
      | none => rfl
      | some i =>
        show (decide (i ∈ l) && _) = (S i && _)
        by_cases hbk : bk i = b
        · have hnV : i ∉ V := by
            cases V with
            | nil => intro h; cases h
            | cons v t =>
              refine chn9_not hn hi (x := i) (v := v) (by rw [hbk, hb]) (v :: t) hc hV ?_
              exact (List.nodup_cons.1 hV).1
          have hiff : i ∈ l ↔ S i = true := by
            rw [← hS p i hdp, hm i]
            exact ⟨Or.inl, fun h => h.resolve_right hnV⟩
          by_cases hil : i ∈ l
          · rw [decide_eq_true hil, hiff.1 hil]
            congr 2
            have hpc := hdc p i hdp
            refine ih (l.erase i) (i :: V) (nxt i) p ?_ (hd.erase i) (List.nodup_cons.2 ⟨hnV, hV⟩) ?_ ?_ ⟨by rw [hbk, hb], hc⟩ hpc
            · rw [List.length_erase_of_mem hil, hl]; rfl
            · intro j
              rw [hm j, hd.mem_erase_iff, List.mem_cons]
              by_cases e : j = i
              · subst e; simp [hil]
              · simp [e]
            · intro j hj
              rw [hd.mem_erase_iff] at hj
              rw [List.mem_cons]
              rintro (e | e)
              · exact hj.1 e
              · exact hdis j hj.2 e
          · rw [decide_eq_false hil]
            have : S i = false := by
              cases hs : S i with
              | false => rfl
              | true => exact absurd (hiff.2 hs) hil
            rw [this]
            rfl
        · rw [decide_eq_false hbk]
          simp
end
end Go.Proofs.Ytcgbefmjnhkdgaa
/- pagemap: has, Pages, blank, At, Head, Slab. -/
namespace Go.Proofs.Ytcgbefmjnhkdgaa.H
open Go.RowKit
set_option linter.unusedVariables false

abbrev pval (p : Pg) : Value := .agg #[.int .i64 p.kd, .int .i64 p.od, .int .i64 p.cl, .int .i64 p.lv, .int .i64 p.nx, .int .i64 p.pv, .int .i64 p.fs, .int .u64 (p.b0 : Int), .int .u64 (p.b1 : Int), .int .u64 (p.b2 : Int), .int .u64 (p.b3 : Int)]
abbrev pobj (p : Pg) : Obj := .cells #[.int .i64 p.kd, .int .i64 p.od, .int .i64 p.cl, .int .i64 p.lv, .int .i64 p.nx, .int .i64 p.pv, .int .i64 p.fs, .int .u64 (p.b0 : Int), .int .u64 (p.b1 : Int), .int .u64 (p.b2 : Int), .int .u64 (p.b3 : Int)] 39
theorem pages_any (b : Nat) (B : Bs) (m : Mp) (w : World) (h : MapAt w b B m) :
    Calls Try.prog 78 #[.pointer (some ⟨b, 0, none⟩)] w fun e w' => e = .returned (.int .i64 (m.n : Int)) ∧ w' = w := by
  obtain ⟨cq, c0, c1, c2⟩ := h.cb
  clear h
  go_enter Try.func78, Try.ntmps78
  go_wp2
  go_ret
  exact ⟨rfl, rfl⟩
/-- A page in a box of its own. -/
theorem box11 {w : World} {x : Nat} {p : Pg} (h : w.heap[x]? = some (pobj p)) : w.cell? ⟨x, 0, none⟩ = some (.int .i64 p.kd) ∧ w.cell? ⟨x, 1, none⟩ = some (.int .i64 p.od) ∧ w.cell? ⟨x, 2, none⟩ = some (.int .i64 p.cl) ∧ w.cell? ⟨x, 3, none⟩ = some (.int .i64 p.lv) ∧ w.cell? ⟨x, 4, none⟩ = some (.int .i64 p.nx) ∧ w.cell? ⟨x, 5, none⟩ = some (.int .i64 p.pv) ∧ w.cell? ⟨x, 6, none⟩ = some (.int .i64 p.fs) ∧ w.cell? ⟨x, 7, none⟩ = some (.int .u64 (p.b0 : Int)) ∧ w.cell? ⟨x, 8, none⟩ = some (.int .u64 (p.b1 : Int)) ∧ w.cell? ⟨x, 9, none⟩ = some (.int .u64 (p.b2 : Int)) ∧ w.cell? ⟨x, 10, none⟩ = some (.int .u64 (p.b3 : Int)) := by
  refine ⟨?_, ?_, ?_, ?_, ?_, ?_, ?_, ?_, ?_, ?_, ?_⟩ <;> simp [World.cell?, h]
theorem boxz {w : World} {x : Nat} {p : Pg} (h : w.heap[x]? = some (pobj p)) (i : Nat) : w.frozen? ⟨x, i, none⟩ = false := by simp [World.frozen?, h]
abbrev setB (w : World) (x : Nat) (p : Pg) : World := (((((((((((w.setCell ⟨x, 0, none⟩ (.int .i64 p.kd)).setCell ⟨x, 1, none⟩ (.int .i64 p.od)).setCell ⟨x, 2, none⟩ (.int .i64 p.cl)).setCell ⟨x, 3, none⟩ (.int .i64 p.lv)).setCell ⟨x, 4, none⟩ (.int .i64 p.nx)).setCell ⟨x, 5, none⟩ (.int .i64 p.pv)).setCell ⟨x, 6, none⟩ (.int .i64 p.fs)).setCell ⟨x, 7, none⟩ (.int .u64 (p.b0 : Int))).setCell ⟨x, 8, none⟩ (.int .u64 (p.b1 : Int))).setCell ⟨x, 9, none⟩ (.int .u64 (p.b2 : Int))).setCell ⟨x, 10, none⟩ (.int .u64 (p.b3 : Int)))
theorem setB_kept {S : Nat → Prop} {a w : World} (h : Kept S a w) (x : Nat) (hx : x < a.heap.size → S x) (p : Pg) : Kept S a (setB w x p) := (((((((((((h.setNew (p := ⟨x, 0, none⟩) hx _).setNew (p := ⟨x, 1, none⟩) hx _).setNew (p := ⟨x, 2, none⟩) hx _).setNew (p := ⟨x, 3, none⟩) hx _).setNew (p := ⟨x, 4, none⟩) hx _).setNew (p := ⟨x, 5, none⟩) hx _).setNew (p := ⟨x, 6, none⟩) hx _).setNew (p := ⟨x, 7, none⟩) hx _).setNew (p := ⟨x, 8, none⟩) hx _).setNew (p := ⟨x, 9, none⟩) hx _).setNew (p := ⟨x, 10, none⟩) hx _)
def atP (m : Mp) (i : Int) : Pg := if inR m.n i = true then m.pg i.toNat else zeroP
theorem inR_nat {n : Nat} {i : Int} (h : inR n i = true) : ∃ k : Nat, i = k ∧ k < n := by
  have hi0 : 0 ≤ i ∧ i < (n : Int) := by simpa [inR] using h
  obtain ⟨k, rfl⟩ := Int.eq_ofNat_of_zero_le hi0.1
  exact ⟨k, rfl, by omega⟩
theorem inR_yes {n k : Nat} (h : k < n) : inR n (k : Int) = true := by simp [inR]; omega
end Go.Proofs.Ytcgbefmjnhkdgaa.H
/- pagemap: pair bits. -/
namespace Go.Proofs.Ytcgbefmjnhkdgaa.H
open Go.RowKit
set_option linter.unusedVariables false

theorem pairCount_any (k c : Nat) (hk : k < 8) (hc : c ≤ 1024) (w : World) :
    Calls Try.prog 96 #[.int .i64 (k : Int), .int .i64 (c : Int)] w fun e w' => e = .returned (.int .i64 ((c / 2 ^ (k + 1) : Nat) : Int)) ∧ w' = w := by
  go_enter Try.func96, Try.ntmps96
  go_wp2_with fail
  go_ret
  exact ⟨ret_int (by simp), rfl⟩
theorem _root_.Go.Proofs.Ytcgbefmjnhkdgaa.MapAt.c2 {w b B m} {q : Nat} (h : MapAt w b B m) (hq : B.P = some q) : ∃ cq, w.cell? ⟨b, 2, none⟩ = some (.slice (some ⟨q, 0, none⟩) m.o cq) := by
  obtain ⟨cq, hb, _⟩ := h.hb
  exact ⟨cq, by simp [World.cell?, hb, hq, adr]⟩
theorem pw_pos (k : Nat) : 0 < 2 ^ k := Nat.pow_pos (by decide)
end Go.Proofs.Ytcgbefmjnhkdgaa.H
/- pagemap: the cells of a slab page: slab, hasCell, isLive, turned. -/
namespace Go.Proofs.Ytcgbefmjnhkdgaa.H
open Go.RowKit
set_option linter.unusedVariables false

def ncell (cl : Int) : Nat := 256 / 2 ^ cl.toNat
theorem live_eq (x r : Nat) (hx : x < 18446744073709551616) : ((bits BinOp.and IntKind.u64 ((x : Int) / 2 ^ r) 1) == 1) = (x / 2 ^ r % 2 == 1) := by
  have e : ((x : Int) / 2 ^ r) = ((x / 2 ^ r : Nat) : Int) := by simp
  rw [e]
  have hd2 : x / 2 ^ r < 2 ^ 64 := Nat.lt_of_le_of_lt (Nat.div_le_self _ _) hx
  have := u64_and_nat (x / 2 ^ r) 1 (by omega) (by decide)
  rw [nat_mask1] at this
  rw [show (1 : Int) = ((1 : Nat) : Int) from rfl, this, Bool.eq_iff_iff]
  simp only [beq_iff_eq]
  omega
theorem turn_eq (x r : Nat) (hx : x < 18446744073709551616) (hr : r < 64) : bits BinOp.xor IntKind.u64 (x : Int) (2 ^ r) = ((x ^^^ 2 ^ r : Nat) : Int) := by
  have hp : 2 ^ r < 2 ^ 64 := (pow_lt r 64).2 hr
  have := bits_xor_u64_nat x (2 ^ r) hx hp
  rw [← this]; simp
theorem wrap2_pow (r : Nat) (hr : r < 64) : IntKind.u64.wrap (2 ^ r) = 2 ^ r := by
  have hp : 2 ^ r < 2 ^ 64 := (pow_lt r 64).2 hr
  rw [wrap_u64]
  have : ((2 : Int) ^ r) = ((2 ^ r : Nat) : Int) := by simp
  rw [this]
  obtain ⟨p, hp2⟩ : ∃ p, p = 2 ^ r := ⟨_, rfl⟩
  rw [← hp2] at hp ⊢
  omega
theorem turn_lt (x r : Nat) (hx : x < 18446744073709551616) (hr : r < 64) : x ^^^ 2 ^ r < 18446744073709551616 := Nat.xor_lt_two_pow (n := 64) hx ((pow_lt r 64).2 hr)

/-- The word of a page's bits in which a cell's stands; the bit; the page with it turned. -/
def wP (p : Pg) : Nat → Nat
  | 0 => p.b0
  | 1 => p.b1
  | 2 => p.b2
  | _ => p.b3
def litP (p : Pg) (c : Nat) : Bool := wP p (c / 64) / 2 ^ (c % 64) % 2 == 1
def turnP (p : Pg) (c : Nat) : Pg :=
  match c / 64 with
  | 0 => { p with b0 := p.b0 ^^^ 2 ^ (c % 64) }
  | 1 => { p with b1 := p.b1 ^^^ 2 ^ (c % 64) }
  | 2 => { p with b2 := p.b2 ^^^ 2 ^ (c % 64) }
  | _ => { p with b3 := p.b3 ^^^ 2 ^ (c % 64) }
abbrev bval (p : Pg) : Value := .agg #[.int .u64 (p.b0 : Int), .int .u64 (p.b1 : Int), .int .u64 (p.b2 : Int), .int .u64 (p.b3 : Int)]
theorem lt4 {c : Nat} (hc : c < 256) : c / 64 = 0 ∨ c / 64 = 1 ∨ c / 64 = 2 ∨ c / 64 = 3 := by omega
theorem _root_.Go.Proofs.Ytcgbefmjnhkdgaa.PgOk.turn {p : Pg} (ok : PgOk p) (c : Nat) : PgOk (turnP p c) := by
  have hr : c % 64 < 64 := by omega
  unfold turnP
  split
  · exact ⟨ok.o0, ok.o8, ok.c0, ok.c7, turn_lt _ _ ok.b0 hr, ok.b1, ok.b2, ok.b3⟩
  · exact ⟨ok.o0, ok.o8, ok.c0, ok.c7, ok.b0, turn_lt _ _ ok.b1 hr, ok.b2, ok.b3⟩
  · exact ⟨ok.o0, ok.o8, ok.c0, ok.c7, ok.b0, ok.b1, turn_lt _ _ ok.b2 hr, ok.b3⟩
  · exact ⟨ok.o0, ok.o8, ok.c0, ok.c7, ok.b0, ok.b1, ok.b2, turn_lt _ _ ok.b3 hr⟩
/-- What is not its bits is as it was. -/
theorem turn_rest (p : Pg) (c : Nat) : (turnP p c).kd = p.kd ∧ (turnP p c).od = p.od ∧ (turnP p c).cl = p.cl ∧ (turnP p c).lv = p.lv ∧ (turnP p c).nx = p.nx ∧ (turnP p c).pv = p.pv ∧ (turnP p c).fs = p.fs := by
  unfold turnP
  split <;> exact ⟨rfl, rfl, rfl, rfl, rfl, rfl, rfl⟩
end Go.Proofs.Ytcgbefmjnhkdgaa.H
