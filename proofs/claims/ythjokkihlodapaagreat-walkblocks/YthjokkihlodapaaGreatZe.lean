import Derived.Test.YthjokkihlodapaaGreatZc
import Derived.Deep.RegionHeld3
import Derived.Deep.QuietTactic
import Derived.BigQuiet
set_option maxRecDepth 1000000
set_option maxHeartbeats 80000000
/- Pages in memory; where a map lies. -/
namespace Go.Proofs.YthjokkihlodapaaGreat
open Go.RowKit
set_option linter.unusedVariables false

def none' : Nat → Prop := fun _ => False
theorem none_trans {a b c : World} (h : Kept none' a b) (k : Kept none' b c) : Kept none' a c := h.trans k (fun _ _ x => x) (fun _ _ x => x)
theorem Kept.setNew {S : Nat → Prop} {a b : World} (h : Kept S a b) {p : Addr} (hp : p.block < a.heap.size → S p.block) (u : Value) : Kept S a (b.setCell p u) :=
  ⟨h.os, h.tape, h.output, by simp; exact h.size, fun i hi hU => by rw [Below.heap_setCell b p u i (fun e => hU (by rw [e]; exact hp (e ▸ hi)))]; exact h.block i hi hU⟩
theorem Kept.drewN {S : Nat → Prop} {a b : World} (h : Kept S a b) (n : Nat) : Kept S a (b.drewN n) := ⟨h.os, h.tape, h.output, h.size, h.block⟩
theorem lt_of_cell {w : World} {p : Addr} {v : Value} (h : w.cell? p = some v) : p.block < w.heap.size := by
  rcases Nat.lt_or_ge p.block w.heap.size with h1 | h1
  · exact h1
  · exfalso
    simp [World.cell?, Array.getElem?_eq_none h1] at h
theorem Kept.cell {S : Nat → Prop} {a b : World} (h : Kept S a b) {p : Addr} {v : Value} (hp : ¬ S p.block) (hc : a.cell? p = some v) : b.cell? p = some v := by
  rw [← hc]
  exact World.cell?_of_block (h.block _ (lt_of_cell hc) hp)
theorem heap_set {w : World} {k : Nat} {cs : Array Value} {t : TypeId} {z : Nat × Nat} (h : w.heap[k]? = some (.cells cs t z)) (i : Nat) (u : Value) : (w.setCell ⟨k, i, none⟩ u).heap[k]? = some (.cells (cs.setIfInBounds i u) t z) := by
  obtain ⟨hlt, hk⟩ := Array.getElem?_eq_some_iff.1 h
  show (w.heap.modify k _)[k]? = _
  rw [Array.getElem?_eq_getElem (by rw [Array.size_modify]; exact hlt), Array.getElem_modify_self, hk]
  rfl
theorem heap_lt {w : World} {k : Nat} {o : Obj} (h : w.heap[k]? = some o) : k < w.heap.size := (Array.getElem?_eq_some_iff.1 h).1
theorem heap_new2 (w : World) (A B : Obj) : ((w.alloc A).alloc B).heap[w.heap.size + 1]? = some B := by
  have := heap_new (w.alloc A) B
  rwa [World.size_alloc] at this
/-- Blocks of different types are different blocks. -/
theorem ty_ne {w : World} {x y : Nat} {c d : Array Value} {s t : TypeId} {z u : Nat × Nat} (h : w.heap[x]? = some (.cells c s z)) (k : w.heap[y]? = some (.cells d t u)) (hst : s ≠ t) : x ≠ y := by
  rintro rfl
  rw [h] at k
  cases k
  exact hst rfl
def adr (ao : Option Nat) : Option Addr := ao.map fun g => ⟨g, 0, none⟩

/-- A page. -/
structure Pg where
  kd : Int
  od : Int
  cl : Int
  lv : Int
  nx : Int
  pv : Int
  fs : Int
  b0 : Nat
  b1 : Nat
  b2 : Nat
  b3 : Nat
deriving DecidableEq
def Pg.fld (p : Pg) : Nat → Value
  | 0 => .int .i64 p.kd
  | 1 => .int .i64 p.od
  | 2 => .int .i64 p.cl
  | 3 => .int .i64 p.lv
  | 4 => .int .i64 p.nx
  | 5 => .int .i64 p.pv
  | 6 => .int .i64 p.fs
  | 7 => .int .u64 (p.b0 : Int)
  | 8 => .int .u64 (p.b1 : Int)
  | 9 => .int .u64 (p.b2 : Int)
  | _ => .int .u64 (p.b3 : Int)
def blankP (k o : Int) : Pg := ⟨k, o, 0, 0, -1, -1, -1, 0, 0, 0, 0⟩
def zeroP : Pg := ⟨0, 0, 0, 0, 0, 0, 0, 0, 0, 0, 0⟩

/-- A row of pages, cell by cell. -/
def RowC (w : World) (g n : Nat) (c : Nat → Nat → Value) : Prop :=
  ∃ cs : Array Value, w.heap[g]? = some (.cells cs 52 (0, 0)) ∧ cs.size = n * 11 ∧ ∀ i, i < n → ∀ j, j < 11 → cs[i * 11 + j]? = some (c i j)
def Row (w : World) (g n : Nat) (pg : Nat → Pg) : Prop := RowC w g n (fun i j => (pg i).fld j)
def upc (c : Nat → Nat → Value) (i j : Nat) (v : Value) : Nat → Nat → Value := fun a b => if a = i ∧ b = j then v else c a b
def upp (pg : Nat → Pg) (i : Nat) (p : Pg) : Nat → Pg := fun a => if a = i then p else pg a
theorem RowC.lt {w g n c} (h : RowC w g n c) : g < w.heap.size := by
  obtain ⟨cs, hg, _⟩ := h
  exact heap_lt hg
theorem RowC.set {w g n c} (h : RowC w g n c) (i j : Nat) (hi : i < n) (hj : j < 11) (v : Value) : RowC (w.setCell ⟨g, i * 11 + j, none⟩ v) g n (upc c i j v) := by
  obtain ⟨cs, hg, hs, hc⟩ := h
  refine ⟨_, heap_set hg _ _, by simpa using hs, fun a ha b hb => ?_⟩
  rw [Array.getElem?_setIfInBounds]
  unfold upc
  by_cases e : a = i ∧ b = j
  · obtain ⟨rfl, rfl⟩ := e
    rw [if_pos rfl, if_pos (by omega), if_pos ⟨rfl, rfl⟩]
  · rw [if_neg (by omega), if_neg e]
    exact hc a ha b hb
theorem RowC.kept {w w' g n c} {S : Nat → Prop} (h : RowC w g n c) (k : Kept S w w') (hS : ¬ S g) : RowC w' g n c := by
  obtain ⟨cs, hg, hs, hc⟩ := h
  exact ⟨cs, (k.block g (heap_lt hg) hS).trans hg, hs, hc⟩
theorem RowC.congr {w g n c c'} (h : RowC w g n c) (he : ∀ i, i < n → ∀ j, j < 11 → c i j = c' i j) : RowC w g n c' := by
  obtain ⟨cs, hg, hs, hc⟩ := h
  exact ⟨cs, hg, hs, fun i hi j hj => (hc i hi j hj).trans (congrArg some (he i hi j hj))⟩
theorem Row.kept {w w' g n pg} {S : Nat → Prop} (h : Row w g n pg) (k : Kept S w w') (hS : ¬ S g) : Row w' g n pg := RowC.kept h k hS
theorem Row.congr {w g n pg pg'} (h : Row w g n pg) (he : ∀ i, i < n → pg i = pg' i) : Row w g n pg' := RowC.congr h (fun i hi j _ => by rw [he i hi])
theorem Row.cell {w g n pg} (h : Row w g n pg) (i : Nat) (hi : i < n) :
    w.cell? ⟨g, i * 11, none⟩ = some (.int .i64 (pg i).kd) ∧ w.cell? ⟨g, i * 11 + 1, none⟩ = some (.int .i64 (pg i).od) ∧ w.cell? ⟨g, i * 11 + 2, none⟩ = some (.int .i64 (pg i).cl) ∧ w.cell? ⟨g, i * 11 + 3, none⟩ = some (.int .i64 (pg i).lv) ∧ w.cell? ⟨g, i * 11 + 4, none⟩ = some (.int .i64 (pg i).nx) ∧ w.cell? ⟨g, i * 11 + 5, none⟩ = some (.int .i64 (pg i).pv) ∧ w.cell? ⟨g, i * 11 + 6, none⟩ = some (.int .i64 (pg i).fs) ∧ w.cell? ⟨g, i * 11 + 7, none⟩ = some (.int .u64 ((pg i).b0 : Int)) ∧ w.cell? ⟨g, i * 11 + 8, none⟩ = some (.int .u64 ((pg i).b1 : Int)) ∧ w.cell? ⟨g, i * 11 + 9, none⟩ = some (.int .u64 ((pg i).b2 : Int)) ∧ w.cell? ⟨g, i * 11 + 10, none⟩ = some (.int .u64 ((pg i).b3 : Int)) := by
  obtain ⟨cs, hg, _, hc⟩ := h
  have key : ∀ j, j < 11 → w.cell? ⟨g, i * 11 + j, none⟩ = some ((pg i).fld j) := fun j hj => by
    have := hc i hi j hj
    simpa [World.cell?, hg] using this
  exact ⟨key 0 (by decide), key 1 (by decide), key 2 (by decide), key 3 (by decide), key 4 (by decide), key 5 (by decide), key 6 (by decide), key 7 (by decide), key 8 (by decide), key 9 (by decide), key 10 (by decide)⟩
theorem RowC.froz {w g n c} (h : RowC w g n c) (i : Nat) : w.frozen? ⟨g, i, none⟩ = false := by
  obtain ⟨cs, hg, _, hc⟩ := h
  simp [World.frozen?, hg]
/-- A whole page is written. -/
abbrev setP (w : World) (g i : Nat) (p : Pg) : World :=
  ((((((((((w.setCell ⟨g, i * 11, none⟩ (.int .i64 p.kd)).setCell ⟨g, i * 11 + 1, none⟩ (.int .i64 p.od)).setCell ⟨g, i * 11 + 2, none⟩ (.int .i64 p.cl)).setCell ⟨g, i * 11 + 3, none⟩ (.int .i64 p.lv)).setCell ⟨g, i * 11 + 4, none⟩ (.int .i64 p.nx)).setCell ⟨g, i * 11 + 5, none⟩ (.int .i64 p.pv)).setCell ⟨g, i * 11 + 6, none⟩ (.int .i64 p.fs)).setCell ⟨g, i * 11 + 7, none⟩ (.int .u64 (p.b0 : Int))).setCell ⟨g, i * 11 + 8, none⟩ (.int .u64 (p.b1 : Int))).setCell ⟨g, i * 11 + 9, none⟩ (.int .u64 (p.b2 : Int))).setCell ⟨g, i * 11 + 10, none⟩ (.int .u64 (p.b3 : Int))
theorem setP_kept (w : World) (g i : Nat) (p : Pg) : Kept (fun x => x = g) w (setP w g i p) :=
  ((((((((((((Kept.refl (fun x => x = g) w).setCell (p := ⟨g, _, none⟩) rfl _).setCell (p := ⟨g, _, none⟩) rfl _).setCell (p := ⟨g, _, none⟩) rfl _).setCell (p := ⟨g, _, none⟩) rfl _).setCell (p := ⟨g, _, none⟩) rfl _).setCell (p := ⟨g, _, none⟩) rfl _).setCell (p := ⟨g, _, none⟩) rfl _).setCell (p := ⟨g, _, none⟩) rfl _).setCell (p := ⟨g, _, none⟩) rfl _).setCell (p := ⟨g, _, none⟩) rfl _).setCell (p := ⟨g, _, none⟩) rfl _)
theorem setP_size (w : World) (g i : Nat) (p : Pg) : (setP w g i p).heap.size = w.heap.size := by simp
theorem fld_up {c : Nat → Nat → Value} {pg : Nat → Pg} {i : Nat} {p : Pg} (a b : Nat) (hb : b < 11) (h : ∀ j, j < 11 → c i j = p.fld j) (h2 : a ≠ i → c a b = (pg a).fld b) : c a b = (upp pg i p a).fld b := by
  unfold upp
  by_cases e : a = i
  · rw [if_pos e, e]; exact h b hb
  · rw [if_neg e]; exact h2 e
theorem lt11 {P : Nat → Prop} (h0 : P 0) (h1 : P 1) (h2 : P 2) (h3 : P 3) (h4 : P 4) (h5 : P 5) (h6 : P 6) (h7 : P 7) (h8 : P 8) (h9 : P 9) (h10 : P 10) : ∀ j, j < 11 → P j
  | 0, _ => h0 | 1, _ => h1 | 2, _ => h2 | 3, _ => h3 | 4, _ => h4 | 5, _ => h5 | 6, _ => h6 | 7, _ => h7 | 8, _ => h8 | 9, _ => h9 | 10, _ => h10
  | _ + 11, h => absurd h (by omega)
theorem Row.put {w g n pg} (h : Row w g n pg) (i : Nat) (hi : i < n) (p : Pg) : Row (setP w g i p) g n (upp pg i p) := by
  have := ((((((((((RowC.set h i 0 hi (by decide) (.int .i64 p.kd)).set i 1 hi (by decide) (.int .i64 p.od)).set i 2 hi (by decide) (.int .i64 p.cl)).set i 3 hi (by decide) (.int .i64 p.lv)).set i 4 hi (by decide) (.int .i64 p.nx)).set i 5 hi (by decide) (.int .i64 p.pv)).set i 6 hi (by decide) (.int .i64 p.fs)).set i 7 hi (by decide) (.int .u64 (p.b0 : Int))).set i 8 hi (by decide) (.int .u64 (p.b1 : Int))).set i 9 hi (by decide) (.int .u64 (p.b2 : Int))).set i 10 hi (by decide) (.int .u64 (p.b3 : Int))
  refine RowC.congr this (fun a ha b hb => fld_up a b hb (fun j hj => ?_) (fun e => ?_))
  · revert j
    apply lt11 <;> simp [upc, Pg.fld]
  · simp [upc, e]

/-- A map as a thing: its order, how many pages, the pages, the pairs' words. -/
structure Mp where
  o : Nat
  n : Nat
  pg : Nat → Pg
  wd : Nat → List Nat
/-- Where it lies. -/
structure Bs where
  g : Option Nat
  P : Option Nat
  S : Nat → Nat
  C : Nat → Nat
/-- The row of the pairs' sets. -/
def Prs (w : World) (P : Option Nat) (o cq : Nat) (S : Nat → Nat) : Prop :=
  match P with
  | none => o = 0 ∧ cq = 0
  | some q => ∃ cs : Array Value, w.heap[q]? = some (.cells cs 83 (0, 0)) ∧ cs.size = cq ∧ o ≤ cq ∧ ∀ k, k < o → cs[k]? = some (.pointer (some ⟨S k, 0, none⟩))
def Rows (w : World) (g : Option Nat) (n : Nat) (pg : Nat → Pg) : Prop :=
  match g with
  | none => n = 0
  | some q => Row w q n pg
structure PgOk (p : Pg) : Prop where
  o0 : 0 ≤ p.od
  o8 : p.od ≤ 8
  c0 : 0 ≤ p.cl
  c7 : p.cl ≤ 7
  b0 : p.b0 < 18446744073709551616
  b1 : p.b1 < 18446744073709551616
  b2 : p.b2 < 18446744073709551616
  b3 : p.b3 < 18446744073709551616
theorem PgOk.blank (k o : Int) (h0 : 0 ≤ o) (h8 : o ≤ 8) : PgOk (blankP k o) := ⟨h0, h8, Int.le_refl 0, by show (0 : Int) ≤ 7; decide, by show 0 < _; decide, by show 0 < _; decide, by show 0 < _; decide, by show 0 < _; decide⟩
theorem PgOk.zero : PgOk zeroP := by constructor <;> decide
structure MapAt (w : World) (b : Nat) (B : Bs) (m : Mp) : Prop where
  o8 : m.o ≤ 8
  n1 : m.n ≤ 1024
  dv : ∃ r, m.n = r * 2 ^ m.o
  hb : ∃ cq, w.heap[b]? = some (.cells #[.int .i64 (m.o : Int), .slice (adr B.g) m.n m.n, .slice (adr B.P) m.o cq] 125 (0, 0)) ∧ Prs w B.P m.o cq B.S
  row : Rows w B.g m.n m.pg
  set : ∀ k, k < m.o → SetAt w (B.S k) (B.C k) (m.n / 2 ^ (k + 1)) (m.wd k)
  injS : ∀ j k, j < m.o → k < m.o → B.S j = B.S k → j = k
  injC : ∀ j k, j < m.o → k < m.o → B.C j = B.C k → j = k
  ok : ∀ i, i < m.n → PgOk (m.pg i)
/-- A map's blocks. -/
def mown (b : Nat) (B : Bs) (o : Nat) : Nat → Prop := fun x => x = b ∨ B.g = some x ∨ B.P = some x ∨ ∃ k, k < o ∧ (x = B.S k ∨ x = B.C k)
theorem Prs.kept {w w' P o cq S} {T : Nat → Prop} (h : Prs w P o cq S) (k : Kept T w w') (hS : ∀ x, P = some x → ¬ T x) : Prs w' P o cq S := by
  cases P with
  | none => exact h
  | some q =>
    obtain ⟨cs, hg, h2, h3, h4⟩ := h
    exact ⟨cs, (k.block q (heap_lt hg) (hS q rfl)).trans hg, h2, h3, h4⟩
theorem Rows.kept {w w' g n pg} {T : Nat → Prop} (h : Rows w g n pg) (k : Kept T w w') (hS : ∀ x, g = some x → ¬ T x) : Rows w' g n pg := by
  cases g with
  | none => exact h
  | some q => exact Row.kept h k (hS q rfl)
theorem Rows.congr {w g n pg pg'} (h : Rows w g n pg) (he : ∀ i, i < n → pg i = pg' i) : Rows w g n pg' := by
  cases g with
  | none => exact h
  | some q => exact Row.congr h he
theorem MapAt.kept {w w' b B m} {T : Nat → Prop} (h : MapAt w b B m) (k : Kept T w w') (hS : ∀ x, mown b B m.o x → ¬ T x) : MapAt w' b B m := by
  obtain ⟨cq, hb, hp⟩ := h.hb
  exact ⟨h.o8, h.n1, h.dv, ⟨cq, (k.block b (heap_lt hb) (hS b (.inl rfl))).trans hb, hp.kept k (fun x e => hS x (.inr (.inr (.inl e))))⟩, h.row.kept k (fun x e => hS x (.inr (.inl e))), fun i hi => (h.set i hi).kept k (hS _ (.inr (.inr (.inr ⟨i, hi, .inl rfl⟩)))) (hS _ (.inr (.inr (.inr ⟨i, hi, .inr rfl⟩)))), h.injS, h.injC, h.ok⟩
theorem MapAt.keep {w w' b B m} (h : MapAt w b B m) (k : Kept none' w w') : MapAt w' b B m := h.kept k (fun _ _ x => x)
theorem MapAt.own_lt {w b B m} (h : MapAt w b B m) (x : Nat) (hx : mown b B m.o x) : x < w.heap.size := by
  obtain ⟨cq, hb, hp⟩ := h.hb
  rcases hx with rfl | hx | hx | ⟨k, hk, rfl | rfl⟩
  · exact heap_lt hb
  · have := h.row
    rw [hx] at this
    exact RowC.lt this
  · rw [hx] at hp
    obtain ⟨cs, hg, _⟩ := hp
    exact heap_lt hg
  · exact heap_lt (h.set k hk).hb
  · exact heap_lt (h.set k hk).hc
/-- The struct's cells. -/
theorem MapAt.cb {w b B m} (h : MapAt w b B m) : ∃ cq, w.cell? ⟨b, 0, none⟩ = some (.int .i64 (m.o : Int)) ∧ w.cell? ⟨b, 1, none⟩ = some (.slice (adr B.g) m.n m.n) ∧ w.cell? ⟨b, 2, none⟩ = some (.slice (adr B.P) m.o cq) := by
  obtain ⟨cq, hb, _⟩ := h.hb
  exact ⟨cq, by simp [World.cell?, hb], by simp [World.cell?, hb], by simp [World.cell?, hb]⟩
theorem MapAt.c0 {w b B m} (h : MapAt w b B m) : w.cell? ⟨b, 0, none⟩ = some (.int .i64 (m.o : Int)) := by
  obtain ⟨cq, hb, _⟩ := h.hb
  simp [World.cell?, hb]
theorem MapAt.c1 {w b B m} {g : Nat} (h : MapAt w b B m) (hg : B.g = some g) : w.cell? ⟨b, 1, none⟩ = some (.slice (some ⟨g, 0, none⟩) m.n m.n) := by
  obtain ⟨cq, hb, _⟩ := h.hb
  simp [World.cell?, hb, hg, adr]
theorem MapAt.bz {w b B m} (h : MapAt w b B m) (i : Nat) : w.frozen? ⟨b, i, none⟩ = false := by
  obtain ⟨cq, hb, _⟩ := h.hb
  simp [World.frozen?, hb]
theorem MapAt.cp {w b B m} (h : MapAt w b B m) (k : Nat) (hk : k < m.o) : ∃ q, B.P = some q ∧ w.cell? ⟨q, k, none⟩ = some (.pointer (some ⟨B.S k, 0, none⟩)) := by
  obtain ⟨cq, hb, hp⟩ := h.hb
  cases hP : B.P with
  | none =>
    rw [hP] at hp
    obtain ⟨h1, _⟩ := hp
    omega
  | some q =>
    rw [hP] at hp
    obtain ⟨cs, hg, h2, h3, h4⟩ := hp
    exact ⟨q, rfl, by simp [World.cell?, hg, h4 k hk]⟩
theorem MapAt.has_row {w b B m} (h : MapAt w b B m) (hn : 0 < m.n) : ∃ g, B.g = some g ∧ Row w g m.n m.pg := by
  have hr := h.row
  cases hg : B.g with
  | none =>
    rw [hg] at hr
    have : m.n = 0 := hr
    omega
  | some q =>
    rw [hg] at hr
    exact ⟨q, rfl, hr⟩
/-- Only the pages that are there count. -/
theorem MapAt.congr {w b B m} {pg' : Nat → Pg} (h : MapAt w b B m) (he : ∀ i, i < m.n → m.pg i = pg' i) : MapAt w b B { m with pg := pg' } :=
  ⟨h.o8, h.n1, h.dv, h.hb, Rows.congr h.row he, h.set, h.injS, h.injC, fun i hi => (by show PgOk (pg' i); rw [← he i hi]; exact h.ok i hi)⟩
/-- The pages were written. -/
theorem MapAt.pages {w w' b B m g pg'} (h : MapAt w b B m) (hg : B.g = some g) (k : Kept (fun x => x = g) w w') (hr : Row w' g m.n pg') (ok : ∀ i, i < m.n → PgOk (pg' i)) : MapAt w' b B { m with pg := pg' } := by
  obtain ⟨cq, hb, hp⟩ := h.hb
  have hrow := h.row
  rw [hg] at hrow
  obtain ⟨cs, hgb, _⟩ := hrow
  refine ⟨h.o8, h.n1, h.dv, ⟨cq, (k.block b (heap_lt hb) (ty_ne hb hgb (by decide))).trans hb, hp.kept k (fun x e => ?_)⟩, ?_, fun i hi => (h.set i hi).kept k (ty_ne (h.set i hi).hb hgb (by decide)) (ty_ne (h.set i hi).hc hgb (by decide)), h.injS, h.injC, ok⟩
  · rw [e] at hp
    obtain ⟨ds, hq, _⟩ := hp
    exact ty_ne hq hgb (by decide)
  · show Rows w' B.g m.n pg'
    rw [hg]
    exact hr
end Go.Proofs.YthjokkihlodapaaGreat
/- First places; lists that are followed: with what is left, and by counting. -/
namespace Go.Proofs.YthjokkihlodapaaGreat
set_option linter.unusedVariables false

/-- The first i below n that is not ok. -/
def fst1 (n : Nat) (ok : Nat → Bool) : Option Nat := (List.range n).find? fun i => !ok i
theorem fst1_bad {n i : Nat} {ok : Nat → Bool} (hi : i < n) (h : ∀ a, a < i → ok a = true) (hb : ok i = false) : fst1 n ok = some i := by
  unfold fst1
  rw [List.find?_range_eq_some]
  exact ⟨by simp [hb], List.mem_range.2 hi, fun a ha => by simp [h a ha]⟩
theorem fst1_ok {n : Nat} {ok : Nat → Bool} (h : ∀ a, a < n → ok a = true) : fst1 n ok = none := by
  unfold fst1
  exact List.find?_eq_none.2 (fun a ha => by simp [h a (List.mem_range.1 ha)])
theorem fst1_none {n : Nat} {ok : Nat → Bool} (h : fst1 n ok = none) (a : Nat) (ha : a < n) : ok a = true := by
  have := List.find?_eq_none.1 h a (List.mem_range.2 ha)
  simpa using this
theorem fst1_some {n i : Nat} {ok : Nat → Bool} (h : fst1 n ok = some i) : i < n ∧ ok i = false ∧ ∀ a, a < i → ok a = true := by
  unfold fst1 at h
  rw [List.find?_range_eq_some] at h
  obtain ⟨h1, h2, h3⟩ := h
  exact ⟨List.mem_range.1 h2, by simpa using h1, fun a ha => by simpa using h3 a ha⟩
theorem fst1_congr {n : Nat} {ok ok' : Nat → Bool} (h : ∀ a, a < n → ok a = ok' a) : fst1 n ok = fst1 n ok' := by
  cases e : fst1 n ok' with
  | none => exact fst1_ok fun a ha => by rw [h a ha]; exact fst1_none e a ha
  | some i =>
    obtain ⟨h1, h2, h3⟩ := fst1_some e
    exact fst1_bad h1 (fun a ha => by rw [h a (by omega)]; exact h3 a ha) (by rw [h i h1]; exact h2)
/-- The first answer. -/
def fstO (n : Nat) (f : Nat → Option Nat) : Option Nat := (List.range n).findSome? f
theorem fstO_bad {n i p : Nat} {f : Nat → Option Nat} (hi : i < n) (h : ∀ a, a < i → f a = none) (hb : f i = some p) : fstO n f = some p := by
  unfold fstO
  obtain ⟨d, rfl⟩ : ∃ d, n = i + 1 + d := ⟨n - (i + 1), by omega⟩
  rw [List.range_add, List.findSome?_append, List.range_succ, List.findSome?_append, List.findSome?_eq_none_iff.2 (fun a ha => h a (List.mem_range.1 ha))]
  simp [hb]
theorem fstO_ok {n : Nat} {f : Nat → Option Nat} (h : ∀ a, a < n → f a = none) : fstO n f = none := by
  unfold fstO
  exact List.findSome?_eq_none_iff.2 fun a ha => h a (List.mem_range.1 ha)

section
variable {α : Type} [DecidableEq α] (dec : α → Option Nat) (nil : α) (nxt bk : Nat → α) (S : Nat → Bool)
/-- A list that is followed n steps: each is one of S, and knows where it was come from. -/
def refL : Nat → α → α → Bool
  | 0, p, _ => decide (p = nil)
  | n + 1, p, b => match dec p with
    | none => false
    | some i => S i && (decide (bk i = b) && refL n (nxt i) p)
/-- A list that is followed as long as there is something left. -/
def prgL : Nat → List Nat → α → α → Bool
  | 0, _, _, _ => false
  | n + 1, l, p, b => if p = nil then l.isEmpty else match dec p with
    | none => false
    | some i => decide (i ∈ l) && (decide (bk i = b) && prgL n (l.erase i) (nxt i) p)
/-- What has been met, the last first: each knows the one ahead. -/
def Chn9 (cod : Nat → α) : List Nat → Prop
  | [] => True
  | v :: t => bk v = (match t with | [] => nil | u :: _ => cod u) ∧ Chn9 cod t
variable {dec nil nxt bk S}
omit [DecidableEq α] in
theorem chn9_not {cod : Nat → α} (hn : ∀ i, cod i ≠ nil) (hi : ∀ i j, cod i = cod j → i = j) {x : Nat} {v : Nat} (hx : bk x = cod v) :
    ∀ (V : List Nat), Chn9 nil bk cod V → V.Nodup → v ∉ V.tail → x ∉ V := by
  intro V
  induction V with
  | nil => intro _ _ _ h; cases h
  | cons a t ih =>
    intro hc hd hv hm
    obtain ⟨h1, h2⟩ := hc
    rcases List.mem_cons.1 hm with e | e
    · subst e
      rw [hx] at h1
      cases t with
      | nil => exact hn _ h1
      | cons u t' =>
        have := hi _ _ h1
        exact hv (by rw [this]; exact List.mem_cons_self)
    · exact ih h2 (List.nodup_cons.1 hd).2 (fun h => hv (List.mem_of_mem_tail h)) e
theorem prgL_eq {cod : Nat → α} (hn : ∀ i, cod i ≠ nil) (hi : ∀ i j, cod i = cod j → i = j) (hdc : ∀ p i, dec p = some i → p = cod i) (hnl : dec nil = none) (l0 : List Nat) (h0 : l0.Nodup)
    (hS : ∀ p i, dec p = some i → (i ∈ l0 ↔ S i = true)) :
    ∀ (n : Nat) (l V : List Nat) (p b : α), l.length = n → l.Nodup → V.Nodup → (∀ i, i ∈ l0 ↔ i ∈ l ∨ i ∈ V) → (∀ i, i ∈ l → i ∉ V) → Chn9 nil bk cod V → b = (match V with | [] => nil | u :: _ => cod u) →
      prgL dec nil nxt bk (n + 1) l p b = refL dec nil nxt bk S n p b := by
  intro n
  induction n with
  | zero =>
    intro l V p b hl _ _ _ _ _ _
    have : l = [] := List.eq_nil_of_length_eq_zero hl
    subst this
    by_cases hp : p = nil
    · simp [prgL, refL, hp]
    · simp only [prgL, refL, hp, if_false, decide_false]
      cases dec p <;> simp
  | succ n ih =>
    intro l V p b hl hd hV hm hdis hc hb
    rw [prgL]
    by_cases hp : p = nil
    · rw [if_pos hp, hp]
      simp only [refL, hnl]
      cases l with
      | nil => simp at hl
      | cons => rfl
    · rw [if_neg hp]
      simp only [refL]
      cases hdp : dec p with
      | none => rfl
      | some i =>
        show (decide (i ∈ l) && _) = (S i && _)
        by_cases hbk : bk i = b
        · have hnV : i ∉ V := by
            cases V with
            | nil => intro h; cases h
            | cons v t =>
              refine chn9_not hn hi (x := i) (v := v) (by rw [hbk, hb]) (v :: t) hc hV ?_
              exact (List.nodup_cons.1 hV).1
          have hiff : i ∈ l ↔ S i = true := by
            rw [← hS p i hdp, hm i]
            exact ⟨Or.inl, fun h => h.resolve_right hnV⟩
          by_cases hil : i ∈ l
          · rw [decide_eq_true hil, hiff.1 hil]
            congr 2
            have hpc := hdc p i hdp
            refine ih (l.erase i) (i :: V) (nxt i) p ?_ (hd.erase i) (List.nodup_cons.2 ⟨hnV, hV⟩) ?_ ?_ ⟨by rw [hbk, hb], hc⟩ hpc
            · rw [List.length_erase_of_mem hil, hl]; rfl
            · intro j
              rw [hm j, hd.mem_erase_iff, List.mem_cons]
              by_cases e : j = i
              · subst e; simp [hil]
              · simp [e]
            · intro j hj
              rw [hd.mem_erase_iff] at hj
              rw [List.mem_cons]
              rintro (e | e)
              · exact hj.1 e
              · exact hdis j hj.2 e
          · rw [decide_eq_false hil]
            have : S i = false := by
              cases hs : S i with
              | false => rfl
              | true => exact absurd (hiff.2 hs) hil
            rw [this]
            rfl
        · rw [decide_eq_false hbk]
          simp
end
end Go.Proofs.YthjokkihlodapaaGreat
/- A region that draws its order and whose last call never comes back. -/
namespace Go.Proofs.YthjokkihlodapaaGreat
open Go.RowKit
set_option linter.unusedVariables false
section
variable {P : Program} {ops : Array Oper} {md : Region.Mode} {C : World → Prop} {Q : Exit → Act → World → Prop}

/-- It goes out of the function, whatever the frame is. -/
def EndsAt (P : Program) (Q : Exit → Act → World → Prop) (o : Oper) (a : Act) (w : World) : Prop := o.wp P a w (fun _ _ => False) (fun e _ w' => ∀ a', a'.defers = a.defers → Q e a' w')
theorem EndsAt.other {o : Oper} {a b : Act} {w : World} (h : EndsAt P Q o a w) (he : execOp b.eval o = execOp a.eval o) (hd : b.defers = a.defers) : EndsAt P Q o b w := by
  unfold EndsAt Oper.wp at *
  rw [he, hd]
  generalize (execOp a.eval o).run P w = r at *
  cases r with
  | ok n w' => cases n <;> exact h
  | halt x w' => cases x <;> exact h
theorem EndsAt.wp {o : Oper} {a : Act} {w : World} {K : Act → World → Prop} (h : EndsAt P Q o a w) : o.wp P a w K Q := by
  unfold EndsAt Oper.wp at *
  generalize (execOp a.eval o).run P w = r at *
  cases r with
  | ok n w' =>
    cases n <;> simp only [Oper.upon] at * <;> try exact h.elim
    case enter f args =>
      refine h.mono ?_
      intro e w'' h2
      cases e with
      | returned v => exact h2.elim
      | panicked c => exact h2 a rfl
      | outgrown =>
        have h3 : LetsOut (fun (e : Exit) (_ : Act) (w' : World) => ∀ a', a'.defers = a.defers → Q e a' w') := h2
        obtain ⟨b, w1, h4⟩ := h3
        exact ⟨a, w1, h4 a rfl⟩
    case row r args => exact h.mono fun v w'' h2 => h2.elim
  | halt x w' =>
    cases x <;> simp only [Oper.upon] at * <;> first | exact h.elim | exact h a rfl
/-- It yields a value, or goes out. -/
def opD (P : Program) (ops : Array Oper) (C : World → Prop) (Q : Exit → Act → World → Prop) (i : Nat) (K : Act → Prop) (a : Act) : Prop :=
  qOp P ops C i K a ∨ ∃ o, ops[i]? = some o ∧ Region.wanted o (yielded ops a.tmps) = true ∧ ∀ w, C w → EndsAt P Q o a w
def anyD (P : Program) (md : Region.Mode) (ops : Array Oper) (C : World → Prop) (Q : Exit → Act → World → Prop) : Nat → Array Bool → Act → Prop
  | 0, ls, a => Region.ready md ops ls = [] ∧ ∀ w, C w → Q .normal a w
  | n + 1, ls, a => (Region.ready md ops ls = [] → ∀ w, C w → Q .normal a w) ∧ ∀ i ∈ Region.ready md ops ls, opD P ops C Q i (anyD P md ops C Q n (ls.setIfInBounds i true)) a
theorem opD_mono {i : Nat} {a : Act} {K K' : Act → Prop} (h : ∀ a, K a → K' a) (hh : opD P ops C Q i K a) : opD P ops C Q i K' a := hh.imp (qOp_mono h) id
theorem any_of_D : ∀ (n : Nat) (ls : Array Bool) (a : Act) (w : World), C w → anyD P md ops C Q n ls a → wpAny P md ops Q n ls a w
  | 0, _, _, _, hw, h => ⟨h.1, h.2 _ hw⟩
  | n + 1, _, _, _, hw, h => ⟨fun h0 => h.1 h0 _ hw, fun i hi => by
      rcases h.2 i hi with h1 | ⟨o, ho, hwt, hd⟩
      · exact wpOp_of_qOp hw (fun a' w' hw' => any_of_D n _ a' w' hw') h1
      · unfold wpOp
        simp only [ho, hwt, if_true]
        exact .inl (hd _ hw).wp⟩
theorem opD_put {j : Nat} {oi oj : Oper} {v : Value} (hj : ops[j]? = some oj) (hap : oi.apart ops oj = true) (hsi : ∀ cs b, oi.op ≠ .select cs b) (hsj : ∀ cs b, oj.op ≠ .select cs b) {K : Act → Prop} {a : Act}
    (hy : YieldsIn P ops C oi v a) (h : opD P ops C Q j K (a.put oi.dst v)) : opD P ops C Q j (fun a' => YieldsIn P ops C oi v a' ∧ K (a'.put oi.dst v)) a := by
  rcases h with h | ⟨o, ho, hwt, hd⟩
  · exact .inl (qOp_put hj hap hsi hsj hy h)
  · obtain rfl : oj = o := Option.some.inj (hj.symm.trans ho)
    obtain ⟨h1, h2, h3⟩ := Oper.apart_spec hap
    refine .inr ⟨oj, ho, by rw [← wanted_put oj a oi.dst v h1]; exact hwt, fun w hw => (hd w hw).other (execOp_put oj hsj a oi.dst v h1).symm (by cases oi.dst <;> rfl)⟩
theorem anyD_first {i : Nat} {oi : Oper} {v : Value} (hi : ops[i]? = some oi) (hsel : ∀ (j : Nat) (o : Oper) cs b, ops[j]? = some o → o.op ≠ .select cs b) : ∀ (n : Nat) (ls : Array Bool) (a : Act),
    (∀ j oj, ops[j]? = some oj → j ≠ i → ls.getD j true = false → (∀ e ∈ oj.after, Region.binds md e = true → e.on ≠ i) → oi.apart ops oj = true) → i ∈ Region.ready md ops ls → YieldsIn P ops C oi v a →
    anyD P md ops C Q n (ls.setIfInBounds i true) (a.put oi.dst v) → anyD P md ops C Q (n + 1) ls a := by
  intro n
  induction n with
  | zero =>
    intro ls a _ hr hy H
    refine ⟨fun h0 => (by rw [h0] at hr; cases hr), fun j hj => ?_⟩
    by_cases e : j = i
    · rw [e]; exact .inl (hy.qOp hi H)
    · have := ready_mono hj e
      rw [H.1] at this
      cases this
  | succ n ih =>
    intro ls a hf hr hy H
    refine ⟨fun h0 => (by rw [h0] at hr; cases hr), fun j hj => ?_⟩
    by_cases e : j = i
    · rw [e]; exact .inl (hy.qOp hi H)
    · obtain ⟨hun, oj, hoj, hall⟩ := mem_ready.1 hj
      have hno : ∀ e ∈ oj.after, Region.binds md e = true → e.on ≠ i := fun d hd hb hq => by
        have g1 := hall d hd hb
        have g0 := (mem_ready.1 hr).1
        rw [hq] at g1
        rcases Nat.lt_or_ge i ls.size with hl | hl
        · simp [hl] at g0 g1; rw [g0] at g1; cases g1
        · simp [Array.getElem?_eq_none hl] at g1
      have g2 := opD_put hoj (hf j oj hoj e hun hno) (fun cs b => hsel i oi cs b hi) (fun cs b => hsel j oj cs b hoj) hy (H.2 j (ready_mono hj e))
      refine opD_mono (fun a' g3 => ih (ls.setIfInBounds j true) a' (fun k ok hk hki hu hn => ?_) (ready_mono hr (Ne.symm e)) g3.1 ?_) g2
      · refine hf k ok hk hki ?_ hn
        by_cases e2 : j = k
        · rw [← e2]; exact hun
        · rwa [Go.getD_set_ne true e2] at hu
      · rw [Array.setIfInBounds_comm _ _ e]
        exact g3.2
/-- The lexical walk, up to the last. -/
theorem anyD_lex {o : Oper} (hs : Region.noSelect ops = true) : ∀ (l : List Oper) (k : Nat) (ls : Array Bool) (a : Act), (∀ j, (l ++ [o])[j]? = ops[k + j]?) → Region.lexFrom md ops (l ++ [o]).length k ls = true →
    wpQuiet P ops C (fun a' => Region.wanted o (yielded ops a'.tmps) = true ∧ ∀ w, C w → EndsAt P Q o a' w) l a → anyD P md ops C Q (l ++ [o]).length ls a
  | [], k, ls, a, hl, hB, h => by
    have h0 : ops[k]? = some o := by simpa using (hl 0).symm
    simp only [List.nil_append, List.length_cons, List.length_nil, Region.lexFrom, Bool.and_eq_true] at hB
    obtain ⟨⟨hr, hf⟩, hB'⟩ := hB
    have hr' : k ∈ Region.ready md ops ls := by simpa using hr
    refine ⟨fun h0 => (by rw [h0] at hr'; cases hr'), fun j hj => ?_⟩
    by_cases e : j = k
    · rw [e]; exact .inr ⟨o, h0, h.1, h.2⟩
    · have := ready_mono hj e
      rw [List.isEmpty_iff.1 hB'] at this
      cases this
  | x :: l, k, ls, a, hl, hB, h => by
    have h0 : ops[k]? = some x := by simpa using (hl 0).symm
    simp only [List.cons_append, List.length_cons, Region.lexFrom, Bool.and_eq_true] at hB
    obtain ⟨⟨hr, hf⟩, hB'⟩ := hB
    have hst : qOp P ops C k (wpQuiet P ops C (fun a' => Region.wanted o (yielded ops a'.tmps) = true ∧ ∀ w, C w → EndsAt P Q o a' w) l) a := by unfold qOp; simp only [h0]; exact h
    obtain ⟨v, hy, hK⟩ := yieldsIn_of_qOp h0 hst
    exact anyD_first h0 (Region.noSelect_spec hs) _ ls a (Region.free_spec h0 hf) (by simpa using hr) hy
      (anyD_lex hs l (k + 1) _ _ (fun j => by have := hl (j + 1); simpa [Nat.add_assoc, Nat.add_comm 1 j] using this) hB' hK)
end
theorem wp_region_ends {P : Program} {id : Nat} {Q : Exit → Act → World → Prop} {a : Act} {w : World} {l : List Oper} {C : World → Prop} (hm : P.follows .mixedOrders = true) (hB : Region.lexB .any l.toArray = true)
    (hl : l ≠ []) (hC : C w.drew) (h : wpQuiet P l.toArray C (fun a' => Region.wanted (l.getLast hl) (yielded l.toArray a'.tmps) = true ∧ ∀ w, C w → EndsAt P Q (l.getLast hl) a' w) l.dropLast a) : (Code.region id l.toArray true).wp P Q a w := by
  have e := List.dropLast_concat_getLast hl
  generalize l.dropLast = l' at *
  generalize l.getLast hl = o at *
  subst e
  simp only [Region.lexB, Bool.and_eq_true] at hB
  refine wp_region_any hm (any_of_D _ _ _ _ hC ?_)
  have := anyD_lex (P := P) (Q := Q) (C := C) (md := .any) hB.1 l' 0 (Array.replicate (l' ++ [o]).toArray.size false) a (by simp) (by simpa using hB.2) h
  simpa using this
/-- The last one is a call that throws. -/
theorem ends_call {P : Program} {Q : Exit → Act → World → Prop} {o : Oper} {a : Act} {w : World} {f : FuncId} {args : Array Operand} {ts : Array TypeId} (hc : ∀ xs w, Sem.run P (callFunc f xs) w = .ok (.enter f xs) w) (ho : o.op = .call { callee := .value (.func f), args := args, argTypes := ts })
    (h : Calls P f (args.map a.eval) w fun e w' => ∃ ch, e = .panicked ch ∧ ∀ a', a'.defers = a.defers → Q (.panic ch) a' w') : EndsAt P Q o a w := by
  have hr : (execOp a.eval o).run P w = .ok (.enter f (args.map a.eval)) w := by
    unfold execOp
    rw [ho]
    simp [go_sem, hc]
  unfold EndsAt Oper.wp
  rw [hr]
  refine h.mono ?_
  rintro e w' ⟨ch, rfl, h2⟩
  exact h2
theorem wp_region_ends_lit {P : Program} {id : Nat} {Q : Exit → Act → World → Prop} {a : Act} {w : World} {l : List Oper} (hm : P.follows .mixedOrders = true) (hB : Region.lexB .any l.toArray = true)
    (hl : l ≠ []) (h : wpQuiet P l.toArray (fun w' => ∃ n, w' = w.drewN n) (fun a' => Region.wanted (l.getLast hl) (yielded l.toArray a'.tmps) = true ∧ ∀ w', (∃ n, w' = w.drewN n) → EndsAt P Q (l.getLast hl) a' w') l.dropLast a) : (Code.region id l.toArray true).wp P Q a w :=
  wp_region_ends (C := fun w' => ∃ n, w' = w.drewN n) hm hB hl ⟨1, rfl⟩ h
end Go.Proofs.YthjokkihlodapaaGreat
