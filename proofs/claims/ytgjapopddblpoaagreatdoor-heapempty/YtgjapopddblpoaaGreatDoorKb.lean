import Derived.Test.YtgjapopddblpoaaGreatDoorKa
import Derived.WalkKit
import Derived.Deep.RegionHeld3
import Derived.Deep.QuietTactic
import Derived.BigQuiet
/- Pages in memory; where a map lies. -/
namespace Go.Proofs.YtgjapopddblpoaaGreatDoor
open Go.RowKit
set_option linter.unusedVariables false

def none' : Nat → Prop := fun _ => False
theorem none_trans {a b c : World} (h : Kept none' a b) (k : Kept none' b c) : Kept none' a c := h.trans k (fun _ _ x => x) (fun _ _ x => x)
theorem Kept.setNew {S : Nat → Prop} {a b : World} (h : Kept S a b) {p : Addr} (hp : p.block < a.heap.size → S p.block) (u : Value) : Kept S a (b.setCell p u) :=
  ⟨h.os, h.tape, h.output, by simp; exact h.size, fun i hi hU => by rw [Below.heap_setCell b p u i (fun e => hU (by rw [e]; exact hp (e ▸ hi)))]; exact h.block i hi hU⟩
theorem Kept.drewN {S : Nat → Prop} {a b : World} (h : Kept S a b) (n : Nat) : Kept S a (b.drewN n) := ⟨h.os, h.tape, h.output, h.size, h.block⟩
theorem lt_of_cell {w : World} {p : Addr} {v : Value} (h : w.cell? p = some v) : p.block < w.heap.size := by
  rcases Nat.lt_or_ge p.block w.heap.size with h1 | h1
  · exact h1
  · exfalso
    simp [World.cell?, Array.getElem?_eq_none h1] at h
theorem Kept.cell {S : Nat → Prop} {a b : World} (h : Kept S a b) {p : Addr} {v : Value} (hp : ¬ S p.block) (hc : a.cell? p = some v) : b.cell? p = some v := by
  rw [← hc]
  exact World.cell?_of_block (h.block _ (lt_of_cell hc) hp)
theorem heap_set {w : World} {k : Nat} {cs : Array Value} {t : TypeId} {z : Nat × Nat} (h : w.heap[k]? = some (.cells cs t z)) (i : Nat) (u : Value) : (w.setCell ⟨k, i, none⟩ u).heap[k]? = some (.cells (cs.setIfInBounds i u) t z) := by
  obtain ⟨hlt, hk⟩ := Array.getElem?_eq_some_iff.1 h
  show (w.heap.modify k _)[k]? = _
  rw [Array.getElem?_eq_getElem (by rw [Array.size_modify]; exact hlt), Array.getElem_modify_self, hk]
  rfl
theorem heap_lt {w : World} {k : Nat} {o : Obj} (h : w.heap[k]? = some o) : k < w.heap.size := (Array.getElem?_eq_some_iff.1 h).1
theorem heap_new2 (w : World) (A B : Obj) : ((w.alloc A).alloc B).heap[w.heap.size + 1]? = some B := by
  have := heap_new (w.alloc A) B
  rwa [World.size_alloc] at this
/-- Blocks of different types are different blocks. -/
theorem ty_ne {w : World} {x y : Nat} {c d : Array Value} {s t : TypeId} {z u : Nat × Nat} (h : w.heap[x]? = some (.cells c s z)) (k : w.heap[y]? = some (.cells d t u)) (hst : s ≠ t) : x ≠ y := by
  rintro rfl
  rw [h] at k
  cases k
  exact hst rfl
def adr (ao : Option Nat) : Option Addr := ao.map fun g => ⟨g, 0, none⟩

/-- A page. -/
structure Pg where
  kd : Int
  od : Int
  cl : Int
  lv : Int
  nx : Int
  pv : Int
  fs : Int
  b0 : Nat
  b1 : Nat
  b2 : Nat
  b3 : Nat
deriving DecidableEq
def Pg.fld (p : Pg) : Nat → Value
  | 0 => .int .i64 p.kd
  | 1 => .int .i64 p.od
  | 2 => .int .i64 p.cl
  | 3 => .int .i64 p.lv
  | 4 => .int .i64 p.nx
  | 5 => .int .i64 p.pv
  | 6 => .int .i64 p.fs
  | 7 => .int .u64 (p.b0 : Int)
  | 8 => .int .u64 (p.b1 : Int)
  | 9 => .int .u64 (p.b2 : Int)
  | _ => .int .u64 (p.b3 : Int)
def blankP (k o : Int) : Pg := ⟨k, o, 0, 0, -1, -1, -1, 0, 0, 0, 0⟩
def zeroP : Pg := ⟨0, 0, 0, 0, 0, 0, 0, 0, 0, 0, 0⟩

/-- A row of pages, cell by cell. -/
def RowC (w : World) (g n : Nat) (c : Nat → Nat → Value) : Prop :=
  ∃ cs : Array Value, w.heap[g]? = some (.cells cs 103 (0, 0)) ∧ cs.size = n * 11 ∧ ∀ i, i < n → ∀ j, j < 11 → cs[i * 11 + j]? = some (c i j)
def Row (w : World) (g n : Nat) (pg : Nat → Pg) : Prop := RowC w g n (fun i j => (pg i).fld j)
def upc (c : Nat → Nat → Value) (i j : Nat) (v : Value) : Nat → Nat → Value := fun a b => if a = i ∧ b = j then v else c a b
def upp (pg : Nat → Pg) (i : Nat) (p : Pg) : Nat → Pg := fun a => if a = i then p else pg a
theorem RowC.lt {w g n c} (h : RowC w g n c) : g < w.heap.size := by
  obtain ⟨cs, hg, _⟩ := h
  exact heap_lt hg
theorem RowC.set {w g n c} (h : RowC w g n c) (i j : Nat) (hi : i < n) (hj : j < 11) (v : Value) : RowC (w.setCell ⟨g, i * 11 + j, none⟩ v) g n (upc c i j v) := by
  obtain ⟨cs, hg, hs, hc⟩ := h
  refine ⟨_, heap_set hg _ _, by simpa using hs, fun a ha b hb => ?_⟩
  rw [Array.getElem?_setIfInBounds]
  unfold upc
  by_cases e : a = i ∧ b = j
  · obtain ⟨rfl, rfl⟩ := e
    rw [if_pos rfl, if_pos (by omega), if_pos ⟨rfl, rfl⟩]
  · rw [if_neg (by omega), if_neg e]
    exact hc a ha b hb
theorem RowC.kept {w w' g n c} {S : Nat → Prop} (h : RowC w g n c) (k : Kept S w w') (hS : ¬ S g) : RowC w' g n c := by
  obtain ⟨cs, hg, hs, hc⟩ := h
  exact ⟨cs, (k.block g (heap_lt hg) hS).trans hg, hs, hc⟩
theorem RowC.congr {w g n c c'} (h : RowC w g n c) (he : ∀ i, i < n → ∀ j, j < 11 → c i j = c' i j) : RowC w g n c' := by
  obtain ⟨cs, hg, hs, hc⟩ := h
  exact ⟨cs, hg, hs, fun i hi j hj => (hc i hi j hj).trans (congrArg some (he i hi j hj))⟩
theorem Row.kept {w w' g n pg} {S : Nat → Prop} (h : Row w g n pg) (k : Kept S w w') (hS : ¬ S g) : Row w' g n pg := RowC.kept h k hS
theorem Row.congr {w g n pg pg'} (h : Row w g n pg) (he : ∀ i, i < n → pg i = pg' i) : Row w g n pg' := RowC.congr h (fun i hi j _ => by rw [he i hi])
theorem Row.cell {w g n pg} (h : Row w g n pg) (i : Nat) (hi : i < n) :
    w.cell? ⟨g, i * 11, none⟩ = some (.int .i64 (pg i).kd) ∧ w.cell? ⟨g, i * 11 + 1, none⟩ = some (.int .i64 (pg i).od) ∧ w.cell? ⟨g, i * 11 + 2, none⟩ = some (.int .i64 (pg i).cl) ∧ w.cell? ⟨g, i * 11 + 3, none⟩ = some (.int .i64 (pg i).lv) ∧ w.cell? ⟨g, i * 11 + 4, none⟩ = some (.int .i64 (pg i).nx) ∧ w.cell? ⟨g, i * 11 + 5, none⟩ = some (.int .i64 (pg i).pv) ∧ w.cell? ⟨g, i * 11 + 6, none⟩ = some (.int .i64 (pg i).fs) ∧ w.cell? ⟨g, i * 11 + 7, none⟩ = some (.int .u64 ((pg i).b0 : Int)) ∧ w.cell? ⟨g, i * 11 + 8, none⟩ = some (.int .u64 ((pg i).b1 : Int)) ∧ w.cell? ⟨g, i * 11 + 9, none⟩ = some (.int .u64 ((pg i).b2 : Int)) ∧ w.cell? ⟨g, i * 11 + 10, none⟩ = some (.int .u64 ((pg i).b3 : Int)) := by
  obtain ⟨cs, hg, _, hc⟩ := h
  have key : ∀ j, j < 11 → w.cell? ⟨g, i * 11 + j, none⟩ = some ((pg i).fld j) := fun j hj => by
    have := hc i hi j hj
    simpa [World.cell?, hg] using this
  exact ⟨key 0 (by decide), key 1 (by decide), key 2 (by decide), key 3 (by decide), key 4 (by decide), key 5 (by decide), key 6 (by decide), key 7 (by decide), key 8 (by decide), key 9 (by decide), key 10 (by decide)⟩
theorem RowC.froz {w g n c} (h : RowC w g n c) (i : Nat) : w.frozen? ⟨g, i, none⟩ = false := by
  obtain ⟨cs, hg, _, hc⟩ := h
  simp [World.frozen?, hg]
/-- A whole page is written. -/
abbrev setP (w : World) (g i : Nat) (p : Pg) : World :=
  ((((((((((w.setCell ⟨g, i * 11, none⟩ (.int .i64 p.kd)).setCell ⟨g, i * 11 + 1, none⟩ (.int .i64 p.od)).setCell ⟨g, i * 11 + 2, none⟩ (.int .i64 p.cl)).setCell ⟨g, i * 11 + 3, none⟩ (.int .i64 p.lv)).setCell ⟨g, i * 11 + 4, none⟩ (.int .i64 p.nx)).setCell ⟨g, i * 11 + 5, none⟩ (.int .i64 p.pv)).setCell ⟨g, i * 11 + 6, none⟩ (.int .i64 p.fs)).setCell ⟨g, i * 11 + 7, none⟩ (.int .u64 (p.b0 : Int))).setCell ⟨g, i * 11 + 8, none⟩ (.int .u64 (p.b1 : Int))).setCell ⟨g, i * 11 + 9, none⟩ (.int .u64 (p.b2 : Int))).setCell ⟨g, i * 11 + 10, none⟩ (.int .u64 (p.b3 : Int))
theorem setP_kept (w : World) (g i : Nat) (p : Pg) : Kept (fun x => x = g) w (setP w g i p) :=
  ((((((((((((Kept.refl (fun x => x = g) w).setCell (p := ⟨g, _, none⟩) rfl _).setCell (p := ⟨g, _, none⟩) rfl _).setCell (p := ⟨g, _, none⟩) rfl _).setCell (p := ⟨g, _, none⟩) rfl _).setCell (p := ⟨g, _, none⟩) rfl _).setCell (p := ⟨g, _, none⟩) rfl _).setCell (p := ⟨g, _, none⟩) rfl _).setCell (p := ⟨g, _, none⟩) rfl _).setCell (p := ⟨g, _, none⟩) rfl _).setCell (p := ⟨g, _, none⟩) rfl _).setCell (p := ⟨g, _, none⟩) rfl _)
theorem setP_size (w : World) (g i : Nat) (p : Pg) : (setP w g i p).heap.size = w.heap.size := by simp
theorem fld_up {c : Nat → Nat → Value} {pg : Nat → Pg} {i : Nat} {p : Pg} (a b : Nat) (hb : b < 11) (h : ∀ j, j < 11 → c i j = p.fld j) (h2 : a ≠ i → c a b = (pg a).fld b) : c a b = (upp pg i p a).fld b := by
  unfold upp
  by_cases e : a = i
  · rw [if_pos e, e]; exact h b hb
  · rw [if_neg e]; exact h2 e
theorem lt11 {P : Nat → Prop} (h0 : P 0) (h1 : P 1) (h2 : P 2) (h3 : P 3) (h4 : P 4) (h5 : P 5) (h6 : P 6) (h7 : P 7) (h8 : P 8) (h9 : P 9) (h10 : P 10) : ∀ j, j < 11 → P j
  | 0, _ => h0 | 1, _ => h1 | 2, _ => h2 | 3, _ => h3 | 4, _ => h4 | 5, _ => h5 | 6, _ => h6 | 7, _ => h7 | 8, _ => h8 | 9, _ => h9 | 10, _ => h10
  | _ + 11, h => absurd h (by omega)
theorem Row.put {w g n pg} (h : Row w g n pg) (i : Nat) (hi : i < n) (p : Pg) : Row (setP w g i p) g n (upp pg i p) := by
  have := ((((((((((RowC.set h i 0 hi (by decide) (.int .i64 p.kd)).set i 1 hi (by decide) (.int .i64 p.od)).set i 2 hi (by decide) (.int .i64 p.cl)).set i 3 hi (by decide) (.int .i64 p.lv)).set i 4 hi (by decide) (.int .i64 p.nx)).set i 5 hi (by decide) (.int .i64 p.pv)).set i 6 hi (by decide) (.int .i64 p.fs)).set i 7 hi (by decide) (.int .u64 (p.b0 : Int))).set i 8 hi (by decide) (.int .u64 (p.b1 : Int))).set i 9 hi (by decide) (.int .u64 (p.b2 : Int))).set i 10 hi (by decide) (.int .u64 (p.b3 : Int))
  refine RowC.congr this (fun a ha b hb => fld_up a b hb (fun j hj => ?_) (fun e => ?_))
  · revert j
    apply lt11 <;> simp [upc, Pg.fld]
  · simp [upc, e]

/-- A map as a thing: its order, how many pages, the pages, the pairs' words. -/
structure Mp where
  o : Nat
  n : Nat
  pg : Nat → Pg
  wd : Nat → List Nat
/-- Where it lies. -/
structure Bs where
  g : Option Nat
  P : Option Nat
  S : Nat → Nat
  C : Nat → Nat
/-- The row of the pairs' sets. -/
def Prs (w : World) (P : Option Nat) (o cq : Nat) (S : Nat → Nat) : Prop :=
  match P with
  | none => o = 0 ∧ cq = 0
  | some q => ∃ cs : Array Value, w.heap[q]? = some (.cells cs 174 (0, 0)) ∧ cs.size = cq ∧ o ≤ cq ∧ ∀ k, k < o → cs[k]? = some (.pointer (some ⟨S k, 0, none⟩))
def Rows (w : World) (g : Option Nat) (n : Nat) (pg : Nat → Pg) : Prop :=
  match g with
  | none => n = 0
  | some q => Row w q n pg
structure PgOk (p : Pg) : Prop where
  o0 : 0 ≤ p.od
  o8 : p.od ≤ 8
  c0 : 0 ≤ p.cl
  c7 : p.cl ≤ 7
  b0 : p.b0 < 18446744073709551616
  b1 : p.b1 < 18446744073709551616
  b2 : p.b2 < 18446744073709551616
  b3 : p.b3 < 18446744073709551616
theorem PgOk.blank (k o : Int) (h0 : 0 ≤ o) (h8 : o ≤ 8) : PgOk (blankP k o) := ⟨h0, h8, Int.le_refl 0, by show (0 : Int) ≤ 7; decide, by show 0 < _; decide, by show 0 < _; decide, by show 0 < _; decide, by show 0 < _; decide⟩
theorem PgOk.zero : PgOk zeroP := by constructor <;> decide
structure MapAt (w : World) (b : Nat) (B : Bs) (m : Mp) : Prop where
  o8 : m.o ≤ 8
  n1 : m.n ≤ 1024
  dv : ∃ r, m.n = r * 2 ^ m.o
  hb : ∃ cq, w.heap[b]? = some (.cells #[.int .i64 (m.o : Int), .slice (adr B.g) m.n m.n, .slice (adr B.P) m.o cq] 141 (0, 0)) ∧ Prs w B.P m.o cq B.S
  row : Rows w B.g m.n m.pg
  set : ∀ k, k < m.o → SetAt w (B.S k) (B.C k) (m.n / 2 ^ (k + 1)) (m.wd k)
  injS : ∀ j k, j < m.o → k < m.o → B.S j = B.S k → j = k
  injC : ∀ j k, j < m.o → k < m.o → B.C j = B.C k → j = k
  ok : ∀ i, i < m.n → PgOk (m.pg i)
/-- A map's blocks. -/
def mown (b : Nat) (B : Bs) (o : Nat) : Nat → Prop := fun x => x = b ∨ B.g = some x ∨ B.P = some x ∨ ∃ k, k < o ∧ (x = B.S k ∨ x = B.C k)
theorem Prs.kept {w w' P o cq S} {T : Nat → Prop} (h : Prs w P o cq S) (k : Kept T w w') (hS : ∀ x, P = some x → ¬ T x) : Prs w' P o cq S := by
  cases P with
  | none => exact h
  | some q =>
    obtain ⟨cs, hg, h2, h3, h4⟩ := h
    exact ⟨cs, (k.block q (heap_lt hg) (hS q rfl)).trans hg, h2, h3, h4⟩
theorem Rows.kept {w w' g n pg} {T : Nat → Prop} (h : Rows w g n pg) (k : Kept T w w') (hS : ∀ x, g = some x → ¬ T x) : Rows w' g n pg := by
  cases g with
  | none => exact h
  | some q => exact Row.kept h k (hS q rfl)
theorem Rows.congr {w g n pg pg'} (h : Rows w g n pg) (he : ∀ i, i < n → pg i = pg' i) : Rows w g n pg' := by
  cases g with
  | none => exact h
  | some q => exact Row.congr h he
theorem MapAt.kept {w w' b B m} {T : Nat → Prop} (h : MapAt w b B m) (k : Kept T w w') (hS : ∀ x, mown b B m.o x → ¬ T x) : MapAt w' b B m := by
  obtain ⟨cq, hb, hp⟩ := h.hb
  exact ⟨h.o8, h.n1, h.dv, ⟨cq, (k.block b (heap_lt hb) (hS b (.inl rfl))).trans hb, hp.kept k (fun x e => hS x (.inr (.inr (.inl e))))⟩, h.row.kept k (fun x e => hS x (.inr (.inl e))), fun i hi => (h.set i hi).kept k (hS _ (.inr (.inr (.inr ⟨i, hi, .inl rfl⟩)))) (hS _ (.inr (.inr (.inr ⟨i, hi, .inr rfl⟩)))), h.injS, h.injC, h.ok⟩
theorem MapAt.keep {w w' b B m} (h : MapAt w b B m) (k : Kept none' w w') : MapAt w' b B m := h.kept k (fun _ _ x => x)
theorem MapAt.own_lt {w b B m} (h : MapAt w b B m) (x : Nat) (hx : mown b B m.o x) : x < w.heap.size := by
  obtain ⟨cq, hb, hp⟩ := h.hb
  rcases hx with rfl | hx | hx | ⟨k, hk, rfl | rfl⟩
  · exact heap_lt hb
  · have := h.row
    rw [hx] at this
    exact RowC.lt this
  · rw [hx] at hp
    obtain ⟨cs, hg, _⟩ := hp
    exact heap_lt hg
  · exact heap_lt (h.set k hk).hb
  · exact heap_lt (h.set k hk).hc
/-- The struct's cells. -/
theorem MapAt.cb {w b B m} (h : MapAt w b B m) : ∃ cq, w.cell? ⟨b, 0, none⟩ = some (.int .i64 (m.o : Int)) ∧ w.cell? ⟨b, 1, none⟩ = some (.slice (adr B.g) m.n m.n) ∧ w.cell? ⟨b, 2, none⟩ = some (.slice (adr B.P) m.o cq) := by
  obtain ⟨cq, hb, _⟩ := h.hb
  exact ⟨cq, by simp [World.cell?, hb], by simp [World.cell?, hb], by simp [World.cell?, hb]⟩
theorem MapAt.c0 {w b B m} (h : MapAt w b B m) : w.cell? ⟨b, 0, none⟩ = some (.int .i64 (m.o : Int)) := by
  obtain ⟨cq, hb, _⟩ := h.hb
  simp [World.cell?, hb]
theorem MapAt.c1 {w b B m} {g : Nat} (h : MapAt w b B m) (hg : B.g = some g) : w.cell? ⟨b, 1, none⟩ = some (.slice (some ⟨g, 0, none⟩) m.n m.n) := by
  obtain ⟨cq, hb, _⟩ := h.hb
  simp [World.cell?, hb, hg, adr]
theorem MapAt.bz {w b B m} (h : MapAt w b B m) (i : Nat) : w.frozen? ⟨b, i, none⟩ = false := by
  obtain ⟨cq, hb, _⟩ := h.hb
  simp [World.frozen?, hb]
theorem MapAt.cp {w b B m} (h : MapAt w b B m) (k : Nat) (hk : k < m.o) : ∃ q, B.P = some q ∧ w.cell? ⟨q, k, none⟩ = some (.pointer (some ⟨B.S k, 0, none⟩)) := by
  obtain ⟨cq, hb, hp⟩ := h.hb
  cases hP : B.P with
  | none =>
    rw [hP] at hp
    obtain ⟨h1, _⟩ := hp
    omega
  | some q =>
    rw [hP] at hp
    obtain ⟨cs, hg, h2, h3, h4⟩ := hp
    exact ⟨q, rfl, by simp [World.cell?, hg, h4 k hk]⟩
theorem MapAt.has_row {w b B m} (h : MapAt w b B m) (hn : 0 < m.n) : ∃ g, B.g = some g ∧ Row w g m.n m.pg := by
  have hr := h.row
  cases hg : B.g with
  | none =>
    rw [hg] at hr
    have : m.n = 0 := hr
    omega
  | some q =>
    rw [hg] at hr
    exact ⟨q, rfl, hr⟩
/-- Only the pages that are there count. -/
theorem MapAt.congr {w b B m} {pg' : Nat → Pg} (h : MapAt w b B m) (he : ∀ i, i < m.n → m.pg i = pg' i) : MapAt w b B { m with pg := pg' } :=
  ⟨h.o8, h.n1, h.dv, h.hb, Rows.congr h.row he, h.set, h.injS, h.injC, fun i hi => (by show PgOk (pg' i); rw [← he i hi]; exact h.ok i hi)⟩
/-- The pages were written. -/
theorem MapAt.pages {w w' b B m g pg'} (h : MapAt w b B m) (hg : B.g = some g) (k : Kept (fun x => x = g) w w') (hr : Row w' g m.n pg') (ok : ∀ i, i < m.n → PgOk (pg' i)) : MapAt w' b B { m with pg := pg' } := by
  obtain ⟨cq, hb, hp⟩ := h.hb
  have hrow := h.row
  rw [hg] at hrow
  obtain ⟨cs, hgb, _⟩ := hrow
  refine ⟨h.o8, h.n1, h.dv, ⟨cq, (k.block b (heap_lt hb) (ty_ne hb hgb (by decide))).trans hb, hp.kept k (fun x e => ?_)⟩, ?_, fun i hi => (h.set i hi).kept k (ty_ne (h.set i hi).hb hgb (by decide)) (ty_ne (h.set i hi).hc hgb (by decide)), h.injS, h.injC, ok⟩
  · rw [e] at hp
    obtain ⟨ds, hq, _⟩ := hp
    exact ty_ne hq hgb (by decide)
  · show Rows w' B.g m.n pg'
    rw [hg]
    exact hr
end Go.Proofs.YtgjapopddblpoaaGreatDoor
/- pagemap: has, Pages, blank, At, Head, Slab. -/
namespace Go.Proofs.YtgjapopddblpoaaGreatDoor
open Go.RowKit
set_option linter.unusedVariables false

abbrev pval (p : Pg) : Value := .agg #[.int .i64 p.kd, .int .i64 p.od, .int .i64 p.cl, .int .i64 p.lv, .int .i64 p.nx, .int .i64 p.pv, .int .i64 p.fs, .int .u64 (p.b0 : Int), .int .u64 (p.b1 : Int), .int .u64 (p.b2 : Int), .int .u64 (p.b3 : Int)]
abbrev pobj (p : Pg) : Obj := .cells #[.int .i64 p.kd, .int .i64 p.od, .int .i64 p.cl, .int .i64 p.lv, .int .i64 p.nx, .int .i64 p.pv, .int .i64 p.fs, .int .u64 (p.b0 : Int), .int .u64 (p.b1 : Int), .int .u64 (p.b2 : Int), .int .u64 (p.b3 : Int)] 103
theorem has_any (b : Nat) (B : Bs) (m : Mp) (i : Int) (w : World) (h : MapAt w b B m) :
    Calls Tryz.prog 77 #[.pointer (some ⟨b, 0, none⟩), .int .i64 i] w fun e w' => e = .returned (.bool (inR m.n i)) ∧ w' = w := by
  obtain ⟨cq, c0, c1, c2⟩ := h.cb
  clear h
  by_cases h0 : 0 ≤ i
  · have hd : inR m.n i = decide (i < (m.n : Int)) := by simp [inR, h0]
    rw [hd]
    go_enter Tryz.func77, Tryz.ntmps77
    go_wp2
    go_ret
    exact ⟨rfl, rfl⟩
  · have hd : inR m.n i = false := by simp [inR]; omega
    rw [hd]
    go_enter Tryz.func77, Tryz.ntmps77
    go_wp2
    go_ret
    exact ⟨rfl, rfl⟩
theorem pages_any (b : Nat) (B : Bs) (m : Mp) (w : World) (h : MapAt w b B m) :
    Calls Tryz.prog 41 #[.pointer (some ⟨b, 0, none⟩)] w fun e w' => e = .returned (.int .i64 (m.n : Int)) ∧ w' = w := by
  obtain ⟨cq, c0, c1, c2⟩ := h.cb
  clear h
  go_enter Tryz.func41, Tryz.ntmps41
  go_wp2
  go_ret
  exact ⟨rfl, rfl⟩
/-- A page in a box of its own. -/
theorem box11 {w : World} {x : Nat} {p : Pg} (h : w.heap[x]? = some (pobj p)) : w.cell? ⟨x, 0, none⟩ = some (.int .i64 p.kd) ∧ w.cell? ⟨x, 1, none⟩ = some (.int .i64 p.od) ∧ w.cell? ⟨x, 2, none⟩ = some (.int .i64 p.cl) ∧ w.cell? ⟨x, 3, none⟩ = some (.int .i64 p.lv) ∧ w.cell? ⟨x, 4, none⟩ = some (.int .i64 p.nx) ∧ w.cell? ⟨x, 5, none⟩ = some (.int .i64 p.pv) ∧ w.cell? ⟨x, 6, none⟩ = some (.int .i64 p.fs) ∧ w.cell? ⟨x, 7, none⟩ = some (.int .u64 (p.b0 : Int)) ∧ w.cell? ⟨x, 8, none⟩ = some (.int .u64 (p.b1 : Int)) ∧ w.cell? ⟨x, 9, none⟩ = some (.int .u64 (p.b2 : Int)) ∧ w.cell? ⟨x, 10, none⟩ = some (.int .u64 (p.b3 : Int)) := by
  refine ⟨?_, ?_, ?_, ?_, ?_, ?_, ?_, ?_, ?_, ?_, ?_⟩ <;> simp [World.cell?, h]
theorem boxz {w : World} {x : Nat} {p : Pg} (h : w.heap[x]? = some (pobj p)) (i : Nat) : w.frozen? ⟨x, i, none⟩ = false := by simp [World.frozen?, h]
abbrev setB (w : World) (x : Nat) (p : Pg) : World := (((((((((((w.setCell ⟨x, 0, none⟩ (.int .i64 p.kd)).setCell ⟨x, 1, none⟩ (.int .i64 p.od)).setCell ⟨x, 2, none⟩ (.int .i64 p.cl)).setCell ⟨x, 3, none⟩ (.int .i64 p.lv)).setCell ⟨x, 4, none⟩ (.int .i64 p.nx)).setCell ⟨x, 5, none⟩ (.int .i64 p.pv)).setCell ⟨x, 6, none⟩ (.int .i64 p.fs)).setCell ⟨x, 7, none⟩ (.int .u64 (p.b0 : Int))).setCell ⟨x, 8, none⟩ (.int .u64 (p.b1 : Int))).setCell ⟨x, 9, none⟩ (.int .u64 (p.b2 : Int))).setCell ⟨x, 10, none⟩ (.int .u64 (p.b3 : Int)))
theorem setB_kept {S : Nat → Prop} {a w : World} (h : Kept S a w) (x : Nat) (hx : x < a.heap.size → S x) (p : Pg) : Kept S a (setB w x p) := (((((((((((h.setNew (p := ⟨x, 0, none⟩) hx _).setNew (p := ⟨x, 1, none⟩) hx _).setNew (p := ⟨x, 2, none⟩) hx _).setNew (p := ⟨x, 3, none⟩) hx _).setNew (p := ⟨x, 4, none⟩) hx _).setNew (p := ⟨x, 5, none⟩) hx _).setNew (p := ⟨x, 6, none⟩) hx _).setNew (p := ⟨x, 7, none⟩) hx _).setNew (p := ⟨x, 8, none⟩) hx _).setNew (p := ⟨x, 9, none⟩) hx _).setNew (p := ⟨x, 10, none⟩) hx _)
theorem blank_any (k o : Int) (w : World) :
    Calls Tryz.prog 184 #[.int .i64 k, .int .i64 o] w fun e w' => e = .returned (pval (blankP k o)) ∧ w' = w.alloc (pobj (blankP k o)) := by
  go_enter Tryz.func184, Tryz.ntmps184
  go_wp2
  exact ⟨rfl, _, by simp [results, Tryz.results184, go_sem, blankP], rfl, rfl⟩
def atP (m : Mp) (i : Int) : Pg := if inR m.n i = true then m.pg i.toNat else zeroP
theorem inR_nat {n : Nat} {i : Int} (h : inR n i = true) : ∃ k : Nat, i = k ∧ k < n := by
  have hi0 : 0 ≤ i ∧ i < (n : Int) := by simpa [inR] using h
  obtain ⟨k, rfl⟩ := Int.eq_ofNat_of_zero_le hi0.1
  exact ⟨k, rfl, by omega⟩
theorem inR_yes {n k : Nat} (h : k < n) : inR n (k : Int) = true := by simp [inR]; omega
theorem at_out (b : Nat) (B : Bs) (m : Mp) (i : Int) (w : World) (h : MapAt w b B m) (hi : inR m.n i = false) :
    Calls Tryz.prog 42 #[.pointer (some ⟨b, 0, none⟩), .int .i64 i] w fun e w' => e = .returned (.tuple #[pval zeroP, .bool false]) ∧ Kept none' w w' := by
  have K0 := hid ((Kept.refl none' w).alloc (pobj zeroP))
  have HM := hid (h.keep K0.out)
  have X0 := hid (heap_new w (pobj zeroP))
  have HI := hid hi
  clear h hi
  go_enter Tryz.func42, Tryz.ntmps42
  go_wp2_with fail
  refine (has_any b B m i _ HM.out).mono ?_
  rintro e w1 ⟨rfl, hw1⟩
  rw [show (w.alloc (pobj zeroP)) = w1 from hw1.symm] at K0 HM X0
  rw [HI.out]
  clear hw1
  obtain ⟨x0, x1, x2, x3, x4, x5, x6, x7, x8, x9, x10⟩ := box11 X0.out
  have z := boxz X0.out
  go_wp2_with fail
  exact ⟨rfl, _, by simp [results, Tryz.results42, go_sem, zeroP, x0, x1, x2, x3, x4, x5, x6, x7, x8, x9, x10], rfl, setB_kept (p := zeroP) K0.out _ (fun h => absurd h (Nat.lt_irrefl _))⟩
set_option maxRecDepth 4000 in
theorem at_in (b : Nat) (B : Bs) (m : Mp) (k : Nat) (w : World) (h : MapAt w b B m) (hk : k < m.n) :
    Calls Tryz.prog 42 #[.pointer (some ⟨b, 0, none⟩), .int .i64 (k : Int)] w fun e w' => e = .returned (.tuple #[pval (m.pg k), .bool true]) ∧ Kept none' w w' := by
  have K0 := hid ((Kept.refl none' w).alloc (pobj zeroP))
  have HM := hid (h.keep K0.out)
  have X0 := hid (heap_new w (pobj zeroP))
  have HI := hid (inR_yes hk)
  clear h
  go_enter Tryz.func42, Tryz.ntmps42
  go_wp2_with fail
  refine (has_any b B m k _ HM.out).mono ?_
  rintro e w1 ⟨rfl, hw1⟩
  rw [show (w.alloc (pobj zeroP)) = w1 from hw1.symm] at K0 HM X0
  rw [HI.out]
  clear hw1
  obtain ⟨g, hg, hr⟩ := HM.out.has_row (by omega)
  obtain ⟨d0, d1, d2, d3, d4, d5, d6, d7, d8, d9, d10⟩ := hr.cell k hk
  have c1 := HM.out.c1 hg
  have hki : (k : Int) < (m.n : Int) := by omega
  obtain ⟨x0, x1, x2, x3, x4, x5, x6, x7, x8, x9, x10⟩ := box11 X0.out
  have z := boxz X0.out
  clear hr hg
  go_wp2_with fail
  exact ⟨rfl, _, by simp [results, Tryz.results42, go_sem, x0, x1, x2, x3, x4, x5, x6, x7, x8, x9, x10], rfl, setB_kept (p := m.pg k) K0.out _ (fun h => absurd h (Nat.lt_irrefl _))⟩
theorem at_any (b : Nat) (B : Bs) (m : Mp) (i : Int) (w : World) (h : MapAt w b B m) :
    Calls Tryz.prog 42 #[.pointer (some ⟨b, 0, none⟩), .int .i64 i] w fun e w' => e = .returned (.tuple #[pval (atP m i), .bool (inR m.n i)]) ∧ Kept none' w w' := by
  cases hi : inR m.n i with
  | false =>
    rw [show atP m i = zeroP by simp [atP, hi]]
    exact at_out b B m i w h hi
  | true =>
    obtain ⟨k, rfl, hk⟩ := inR_nat hi
    rw [show atP m (k : Int) = m.pg k by simp [atP, hi]]
    exact at_in b B m k w h hk
end Go.Proofs.YtgjapopddblpoaaGreatDoor
/- pagemap: Slab, Head. -/
namespace Go.Proofs.YtgjapopddblpoaaGreatDoor
open Go.RowKit
set_option linter.unusedVariables false

def slabP (c : Int) : Pg := { blankP 4 0 with cl := c }
theorem PgOk.slab (c : Nat) (h : c < 8) : PgOk (slabP c) := ⟨by show (0 : Int) ≤ 0; decide, by show (0 : Int) ≤ 8; decide, by show (0 : Int) ≤ c; omega, by show (c : Int) ≤ 7; omega, by show 0 < _; decide, by show 0 < _; decide, by show 0 < _; decide, by show 0 < _; decide⟩
def slabM (m : Mp) (i c : Int) : Mp := if inR m.n i = true ∧ 0 ≤ c ∧ c ≤ 7 then { m with pg := upp m.pg i.toNat (slabP c) } else m
def slabE (m : Mp) (i c : Int) : Int := if inR m.n i = true ∧ 0 ≤ c ∧ c ≤ 7 then 0 else 1
theorem slabM_n (m : Mp) (i c : Int) : (slabM m i c).n = m.n := by unfold slabM; split <;> rfl
set_option maxRecDepth 4000 in
theorem Slab_in (b : Nat) (B : Bs) (m : Mp) (k c : Nat) (w : World) (h : MapAt w b B m) (hk : k < m.n) (hc : c < 8) :
    Calls Tryz.prog 192 #[.pointer (some ⟨b, 0, none⟩), .int .i64 (k : Int), .int .i64 (c : Int)] w fun e w' => e = .returned (.int .i64 0) ∧ MapAt w' b B { m with pg := upp m.pg k (slabP c) } ∧ Kept (mown b B m.o) w w' := by
  have HM := hid h
  have HI := hid (inR_yes hk)
  have HK := hid hk
  have hc0 : ¬ (c : Int) < 0 := by omega
  have hc1 : ¬ 8 ≤ (c : Int) := by omega
  have hki : (k : Int) < (m.n : Int) := by omega
  obtain ⟨g, hg, hr⟩ := h.has_row (by omega)
  clear h hr hk
  go_enter Tryz.func192, Tryz.ntmps192
  go_wp2_with fail
  refine (has_any b B m k _ HM.out).mono ?_
  rintro e w1 ⟨rfl, rfl⟩
  rw [HI.out]
  go_wp2_with fail
  refine (blank_any 4 0 w1).mono ?_
  rintro e w2 ⟨rfl, hw2⟩
  have K2 := hid (show Kept none' w1 w2 by rw [hw2]; exact (Kept.refl none' w1).alloc _)
  have Z2 := hid (show w2.heap.size = w1.heap.size + 1 by rw [hw2]; simp)
  clear hw2
  go_wp2_with fail
  obtain ⟨W, hW⟩ : ∃ W, W = w2.alloc (.cells #[.int .i64 (blankP 4 0).kd, .int .i64 (blankP 4 0).od, .int .i64 (c : Int), .int .i64 (blankP 4 0).lv, .int .i64 (blankP 4 0).nx, .int .i64 (blankP 4 0).pv, .int .i64 (blankP 4 0).fs, .int .u64 ((blankP 4 0).b0 : Int), .int .u64 ((blankP 4 0).b1 : Int), .int .u64 ((blankP 4 0).b2 : Int), .int .u64 ((blankP 4 0).b3 : Int)] 103) := ⟨_, rfl⟩
  rw [← hW]
  have KW := hid (show Kept none' w1 W by rw [hW]; exact K2.out.alloc _)
  have XW := hid (show W.heap[w2.heap.size]? = some (pobj (slabP c)) by rw [hW]; exact heap_new _ _)
  have MW := hid (HM.out.keep KW.out)
  clear hW
  obtain ⟨x0, x1, x2, x3, x4, x5, x6, x7, x8, x9, x10⟩ := box11 XW.out
  have c1 := MW.out.c1 hg
  have hr := MW.out.row
  rw [hg] at hr
  have RW := hid (show Row W g m.n m.pg from hr)
  obtain ⟨d0, d1, d2, d3, d4, d5, d6, d7, d8, d9, d10⟩ := RW.out.cell k HK.out
  have z := RowC.froz RW.out
  have HG := hid hg
  clear hr hg
  go_region
  all_goals
    go_wp2_with fail
    go_ret
    have RP := (RW.out.put k HK.out (slabP c))
    have OKP : ∀ i, i < m.n → PgOk (upp m.pg k (slabP c) i) := fun i hi => by
      unfold upp
      split
      · exact PgOk.slab c (by omega)
      · exact MW.out.ok i hi
    have KP := setP_kept W g k (slabP c)
    exact ⟨rfl, (MW.out.pages HG.out KP RP OKP).keep (Kept.refl none' _).drew, (KW.out.trans KP (fun _ _ x => x.elim) (fun x _ e => .inr (.inl (e ▸ HG.out)))).drew⟩
end Go.Proofs.YtgjapopddblpoaaGreatDoor
/- pagemap: the cells of a slab page: slab, hasCell, isLive, turned. -/
namespace Go.Proofs.YtgjapopddblpoaaGreatDoor
open Go.RowKit
set_option linter.unusedVariables false

theorem slab_out (b : Nat) (B : Bs) (m : Mp) (i : Int) (w : World) (h : MapAt w b B m) (hi : inR m.n i = false) :
    Calls Tryz.prog 171 #[.pointer (some ⟨b, 0, none⟩), .int .i64 i] w fun e w' => e = .returned (.pointer none) ∧ w' = w := by
  have HM := hid h
  have HI := hid hi
  clear h hi
  go_enter Tryz.func171, Tryz.ntmps171
  go_wp2_with fail
  refine (has_any b B m i _ HM.out).mono ?_
  rintro e w1 ⟨rfl, rfl⟩
  rw [HI.out]
  go_wp2_with fail
  go_ret
  exact ⟨rfl, rfl⟩
theorem slab_in (b : Nat) (B : Bs) (m : Mp) (g k : Nat) (w : World) (h : MapAt w b B m) (hg : B.g = some g) (hk : k < m.n) :
    Calls Tryz.prog 171 #[.pointer (some ⟨b, 0, none⟩), .int .i64 (k : Int)] w fun e w' => e = .returned (.pointer (if (m.pg k).kd = 4 then some ⟨g, k * 11, none⟩ else none)) ∧ w' = w := by
  have HM := hid h
  have HI := hid (inR_yes hk)
  have hr := h.row
  rw [hg] at hr
  have hr : Row w g m.n m.pg := hr
  have d0 := (hr.cell k hk).1
  have c1 := h.c1 hg
  have hki : (k : Int) < (m.n : Int) := by omega
  clear h hr hg
  by_cases h4 : (m.pg k).kd = 4
  · rw [if_pos h4]
    rw [h4] at d0
    go_enter Tryz.func171, Tryz.ntmps171
    go_wp2_with fail
    refine (has_any b B m k _ HM.out).mono ?_
    rintro e w1 ⟨rfl, rfl⟩
    rw [HI.out]
    go_wp2_with fail
    go_ret
    exact ⟨rfl, rfl⟩
  · rw [if_neg h4]
    go_enter Tryz.func171, Tryz.ntmps171
    go_wp2_with fail
    refine (has_any b B m k _ HM.out).mono ?_
    rintro e w1 ⟨rfl, rfl⟩
    rw [HI.out]
    go_wp2_with fail
    go_ret
    exact ⟨rfl, rfl⟩
def ncell (cl : Int) : Nat := 256 / 2 ^ cl.toNat
theorem hasCell_any (g o : Nat) (cl : Int) (h0 : 0 ≤ cl) (h7 : cl ≤ 7) (c : Int) (w : World) (h : w.cell? ⟨g, o + 2, none⟩ = some (.int .i64 cl)) :
    Calls Tryz.prog 172 #[.pointer (some ⟨g, o, none⟩), .int .i64 c] w fun e w' => e = .returned (.bool (inR (ncell cl) c)) ∧ w' = w := by
  obtain ⟨k, rfl⟩ := Int.eq_ofNat_of_zero_le h0
  have hk : k ≤ 7 := by omega
  have hn : ncell (k : Int) = 256 / 2 ^ k := rfl
  rw [hn]
  by_cases hc : 0 ≤ c
  · have hd : inR (256 / 2 ^ k) c = decide (c < ((256 / 2 ^ k : Nat) : Int)) := by simp [inR, hc]
    rw [hd]
    go_enter Tryz.func172, Tryz.ntmps172
    go_wp2_with fail
    go_ret
    exact ⟨by simp, rfl⟩
  · have hd : inR (256 / 2 ^ k) c = false := by simp [inR]; omega
    rw [hd]
    go_enter Tryz.func172, Tryz.ntmps172
    go_wp2_with fail
    go_ret
    exact ⟨rfl, rfl⟩
theorem live_eq (x r : Nat) (hx : x < 18446744073709551616) : ((bits BinOp.and IntKind.u64 ((x : Int) / 2 ^ r) 1) == 1) = (x / 2 ^ r % 2 == 1) := by
  have e : ((x : Int) / 2 ^ r) = ((x / 2 ^ r : Nat) : Int) := by simp
  rw [e]
  have hd2 : x / 2 ^ r < 2 ^ 64 := Nat.lt_of_le_of_lt (Nat.div_le_self _ _) hx
  have := u64_and_nat (x / 2 ^ r) 1 (by omega) (by decide)
  rw [nat_mask1] at this
  rw [show (1 : Int) = ((1 : Nat) : Int) from rfl, this, Bool.eq_iff_iff]
  simp only [beq_iff_eq]
  omega
theorem turn_eq (x r : Nat) (hx : x < 18446744073709551616) (hr : r < 64) : bits BinOp.xor IntKind.u64 (x : Int) (2 ^ r) = ((x ^^^ 2 ^ r : Nat) : Int) := by
  have hp : 2 ^ r < 2 ^ 64 := (pow_lt r 64).2 hr
  have := bits_xor_u64_nat x (2 ^ r) hx hp
  rw [← this]; simp
theorem wrap2_pow (r : Nat) (hr : r < 64) : IntKind.u64.wrap (2 ^ r) = 2 ^ r := by
  have hp : 2 ^ r < 2 ^ 64 := (pow_lt r 64).2 hr
  rw [wrap_u64]
  have : ((2 : Int) ^ r) = ((2 ^ r : Nat) : Int) := by simp
  rw [this]
  obtain ⟨p, hp2⟩ : ∃ p, p = 2 ^ r := ⟨_, rfl⟩
  rw [← hp2] at hp ⊢
  omega
theorem turn_lt (x r : Nat) (hx : x < 18446744073709551616) (hr : r < 64) : x ^^^ 2 ^ r < 18446744073709551616 := Nat.xor_lt_two_pow (n := 64) hx ((pow_lt r 64).2 hr)

theorem isLive_0 (b0 b1 b2 b3 : Nat) (hx : b0 < 18446744073709551616) (c : Nat) (hq : c / 64 = 0) (w : World) :
    Calls Tryz.prog 173 #[.agg #[.int .u64 (b0 : Int), .int .u64 (b1 : Int), .int .u64 (b2 : Int), .int .u64 (b3 : Int)], .int .i64 (c : Int)] w fun e w' => e = .returned (.bool (b0 / 2 ^ (c % 64) % 2 == 1)) ∧ Kept none' w w' := by
  have hqi : (c : Int) / 64 = 0 := by omega
  have E := hid (live_eq b0 (c % 64) hx)
  clear hx
  go_enter Tryz.func173, Tryz.ntmps173
  go_wp2_with fail
  go_ret
  exact ⟨ret_bool E.out, (Kept.refl none' w).alloc _⟩
theorem turned_0 (b0 b1 b2 b3 : Nat) (hx : b0 < 18446744073709551616) (c : Nat) (hq : c / 64 = 0) (w : World) :
    Calls Tryz.prog 174 #[.agg #[.int .u64 (b0 : Int), .int .u64 (b1 : Int), .int .u64 (b2 : Int), .int .u64 (b3 : Int)], .int .i64 (c : Int)] w fun e w' => e = .returned (.agg #[.int .u64 ((b0 ^^^ 2 ^ (c % 64) : Nat) : Int), .int .u64 (b1 : Int), .int .u64 (b2 : Int), .int .u64 (b3 : Int)]) ∧ Kept none' w w' := by
  have hqi : (c : Int) / 64 = 0 := by omega
  have E := turn_eq b0 (c % 64) hx (by omega)
  have hw2 := wrap2_pow (c % 64) (by omega)
  generalize b0 ^^^ 2 ^ (c % 64) = y at *
  clear hx
  go_enter Tryz.func174, Tryz.ntmps174
  go_wp2_with fail
  go_region
  all_goals
    go_wp2_with fail
    exact ⟨rfl, _, by simp [results, Tryz.results174, go_sem], rfl, (((Kept.refl none' w).alloc _).alloc _).drew⟩

theorem isLive_1 (b0 b1 b2 b3 : Nat) (hx : b1 < 18446744073709551616) (c : Nat) (hq : c / 64 = 1) (w : World) :
    Calls Tryz.prog 173 #[.agg #[.int .u64 (b0 : Int), .int .u64 (b1 : Int), .int .u64 (b2 : Int), .int .u64 (b3 : Int)], .int .i64 (c : Int)] w fun e w' => e = .returned (.bool (b1 / 2 ^ (c % 64) % 2 == 1)) ∧ Kept none' w w' := by
  have hqi : (c : Int) / 64 = 1 := by omega
  have E := hid (live_eq b1 (c % 64) hx)
  clear hx
  go_enter Tryz.func173, Tryz.ntmps173
  go_wp2_with fail
  go_ret
  exact ⟨ret_bool E.out, (Kept.refl none' w).alloc _⟩
theorem turned_1 (b0 b1 b2 b3 : Nat) (hx : b1 < 18446744073709551616) (c : Nat) (hq : c / 64 = 1) (w : World) :
    Calls Tryz.prog 174 #[.agg #[.int .u64 (b0 : Int), .int .u64 (b1 : Int), .int .u64 (b2 : Int), .int .u64 (b3 : Int)], .int .i64 (c : Int)] w fun e w' => e = .returned (.agg #[.int .u64 (b0 : Int), .int .u64 ((b1 ^^^ 2 ^ (c % 64) : Nat) : Int), .int .u64 (b2 : Int), .int .u64 (b3 : Int)]) ∧ Kept none' w w' := by
  have hqi : (c : Int) / 64 = 1 := by omega
  have E := turn_eq b1 (c % 64) hx (by omega)
  have hw2 := wrap2_pow (c % 64) (by omega)
  generalize b1 ^^^ 2 ^ (c % 64) = y at *
  clear hx
  go_enter Tryz.func174, Tryz.ntmps174
  go_wp2_with fail
  go_region
  all_goals
    go_wp2_with fail
    exact ⟨rfl, _, by simp [results, Tryz.results174, go_sem], rfl, (((Kept.refl none' w).alloc _).alloc _).drew⟩

theorem isLive_2 (b0 b1 b2 b3 : Nat) (hx : b2 < 18446744073709551616) (c : Nat) (hq : c / 64 = 2) (w : World) :
    Calls Tryz.prog 173 #[.agg #[.int .u64 (b0 : Int), .int .u64 (b1 : Int), .int .u64 (b2 : Int), .int .u64 (b3 : Int)], .int .i64 (c : Int)] w fun e w' => e = .returned (.bool (b2 / 2 ^ (c % 64) % 2 == 1)) ∧ Kept none' w w' := by
  have hqi : (c : Int) / 64 = 2 := by omega
  have E := hid (live_eq b2 (c % 64) hx)
  clear hx
  go_enter Tryz.func173, Tryz.ntmps173
  go_wp2_with fail
  go_ret
  exact ⟨ret_bool E.out, (Kept.refl none' w).alloc _⟩
theorem turned_2 (b0 b1 b2 b3 : Nat) (hx : b2 < 18446744073709551616) (c : Nat) (hq : c / 64 = 2) (w : World) :
    Calls Tryz.prog 174 #[.agg #[.int .u64 (b0 : Int), .int .u64 (b1 : Int), .int .u64 (b2 : Int), .int .u64 (b3 : Int)], .int .i64 (c : Int)] w fun e w' => e = .returned (.agg #[.int .u64 (b0 : Int), .int .u64 (b1 : Int), .int .u64 ((b2 ^^^ 2 ^ (c % 64) : Nat) : Int), .int .u64 (b3 : Int)]) ∧ Kept none' w w' := by
  have hqi : (c : Int) / 64 = 2 := by omega
  have E := turn_eq b2 (c % 64) hx (by omega)
  have hw2 := wrap2_pow (c % 64) (by omega)
  generalize b2 ^^^ 2 ^ (c % 64) = y at *
  clear hx
  go_enter Tryz.func174, Tryz.ntmps174
  go_wp2_with fail
  go_region
  all_goals
    go_wp2_with fail
    exact ⟨rfl, _, by simp [results, Tryz.results174, go_sem], rfl, (((Kept.refl none' w).alloc _).alloc _).drew⟩

theorem isLive_3 (b0 b1 b2 b3 : Nat) (hx : b3 < 18446744073709551616) (c : Nat) (hq : c / 64 = 3) (w : World) :
    Calls Tryz.prog 173 #[.agg #[.int .u64 (b0 : Int), .int .u64 (b1 : Int), .int .u64 (b2 : Int), .int .u64 (b3 : Int)], .int .i64 (c : Int)] w fun e w' => e = .returned (.bool (b3 / 2 ^ (c % 64) % 2 == 1)) ∧ Kept none' w w' := by
  have hqi : (c : Int) / 64 = 3 := by omega
  have E := hid (live_eq b3 (c % 64) hx)
  clear hx
  go_enter Tryz.func173, Tryz.ntmps173
  go_wp2_with fail
  go_ret
  exact ⟨ret_bool E.out, (Kept.refl none' w).alloc _⟩
theorem turned_3 (b0 b1 b2 b3 : Nat) (hx : b3 < 18446744073709551616) (c : Nat) (hq : c / 64 = 3) (w : World) :
    Calls Tryz.prog 174 #[.agg #[.int .u64 (b0 : Int), .int .u64 (b1 : Int), .int .u64 (b2 : Int), .int .u64 (b3 : Int)], .int .i64 (c : Int)] w fun e w' => e = .returned (.agg #[.int .u64 (b0 : Int), .int .u64 (b1 : Int), .int .u64 (b2 : Int), .int .u64 ((b3 ^^^ 2 ^ (c % 64) : Nat) : Int)]) ∧ Kept none' w w' := by
  have hqi : (c : Int) / 64 = 3 := by omega
  have E := turn_eq b3 (c % 64) hx (by omega)
  have hw2 := wrap2_pow (c % 64) (by omega)
  generalize b3 ^^^ 2 ^ (c % 64) = y at *
  clear hx
  go_enter Tryz.func174, Tryz.ntmps174
  go_wp2_with fail
  go_region
  all_goals
    go_wp2_with fail
    exact ⟨rfl, _, by simp [results, Tryz.results174, go_sem], rfl, (((Kept.refl none' w).alloc _).alloc _).drew⟩

/-- The word of a page's bits in which a cell's stands; the bit; the page with it turned. -/
def wP (p : Pg) : Nat → Nat
  | 0 => p.b0
  | 1 => p.b1
  | 2 => p.b2
  | _ => p.b3
def litP (p : Pg) (c : Nat) : Bool := wP p (c / 64) / 2 ^ (c % 64) % 2 == 1
def turnP (p : Pg) (c : Nat) : Pg :=
  match c / 64 with
  | 0 => { p with b0 := p.b0 ^^^ 2 ^ (c % 64) }
  | 1 => { p with b1 := p.b1 ^^^ 2 ^ (c % 64) }
  | 2 => { p with b2 := p.b2 ^^^ 2 ^ (c % 64) }
  | _ => { p with b3 := p.b3 ^^^ 2 ^ (c % 64) }
abbrev bval (p : Pg) : Value := .agg #[.int .u64 (p.b0 : Int), .int .u64 (p.b1 : Int), .int .u64 (p.b2 : Int), .int .u64 (p.b3 : Int)]
theorem lt4 {c : Nat} (hc : c < 256) : c / 64 = 0 ∨ c / 64 = 1 ∨ c / 64 = 2 ∨ c / 64 = 3 := by omega
theorem isLive_any (p : Pg) (ok : PgOk p) (c : Nat) (hc : c < 256) (w : World) :
    Calls Tryz.prog 173 #[bval p, .int .i64 (c : Int)] w fun e w' => e = .returned (.bool (litP p c)) ∧ Kept none' w w' := by
  rcases lt4 hc with h | h | h | h
  · rw [show litP p c = (p.b0 / 2 ^ (c % 64) % 2 == 1) by simp [litP, h, wP]]
    exact isLive_0 _ _ _ _ ok.b0 c h w
  · rw [show litP p c = (p.b1 / 2 ^ (c % 64) % 2 == 1) by simp [litP, h, wP]]
    exact isLive_1 _ _ _ _ ok.b1 c h w
  · rw [show litP p c = (p.b2 / 2 ^ (c % 64) % 2 == 1) by simp [litP, h, wP]]
    exact isLive_2 _ _ _ _ ok.b2 c h w
  · rw [show litP p c = (p.b3 / 2 ^ (c % 64) % 2 == 1) by simp [litP, h, wP]]
    exact isLive_3 _ _ _ _ ok.b3 c h w
theorem turned_any (p : Pg) (ok : PgOk p) (c : Nat) (hc : c < 256) (w : World) :
    Calls Tryz.prog 174 #[bval p, .int .i64 (c : Int)] w fun e w' => e = .returned (bval (turnP p c)) ∧ Kept none' w w' := by
  rcases lt4 hc with h | h | h | h
  · rw [show turnP p c = { p with b0 := p.b0 ^^^ 2 ^ (c % 64) } by simp [turnP, h]]
    exact turned_0 _ _ _ _ ok.b0 c h w
  · rw [show turnP p c = { p with b1 := p.b1 ^^^ 2 ^ (c % 64) } by simp [turnP, h]]
    exact turned_1 _ _ _ _ ok.b1 c h w
  · rw [show turnP p c = { p with b2 := p.b2 ^^^ 2 ^ (c % 64) } by simp [turnP, h]]
    exact turned_2 _ _ _ _ ok.b2 c h w
  · rw [show turnP p c = { p with b3 := p.b3 ^^^ 2 ^ (c % 64) } by simp [turnP, h]]
    exact turned_3 _ _ _ _ ok.b3 c h w
theorem PgOk.turn {p : Pg} (ok : PgOk p) (c : Nat) : PgOk (turnP p c) := by
  have hr : c % 64 < 64 := by omega
  unfold turnP
  split
  · exact ⟨ok.o0, ok.o8, ok.c0, ok.c7, turn_lt _ _ ok.b0 hr, ok.b1, ok.b2, ok.b3⟩
  · exact ⟨ok.o0, ok.o8, ok.c0, ok.c7, ok.b0, turn_lt _ _ ok.b1 hr, ok.b2, ok.b3⟩
  · exact ⟨ok.o0, ok.o8, ok.c0, ok.c7, ok.b0, ok.b1, turn_lt _ _ ok.b2 hr, ok.b3⟩
  · exact ⟨ok.o0, ok.o8, ok.c0, ok.c7, ok.b0, ok.b1, ok.b2, turn_lt _ _ ok.b3 hr⟩
/-- What is not its bits is as it was. -/
theorem turn_rest (p : Pg) (c : Nat) : (turnP p c).kd = p.kd ∧ (turnP p c).od = p.od ∧ (turnP p c).cl = p.cl ∧ (turnP p c).lv = p.lv ∧ (turnP p c).nx = p.nx ∧ (turnP p c).pv = p.pv ∧ (turnP p c).fs = p.fs := by
  unfold turnP
  split <;> exact ⟨rfl, rfl, rfl, rfl, rfl, rfl, rfl⟩
end Go.Proofs.YtgjapopddblpoaaGreatDoor
/- pagemap: Own. -/
namespace Go.Proofs.YtgjapopddblpoaaGreatDoor
open Go.RowKit
set_option linter.unusedVariables false

theorem MapAt.rowg {w b B m} {g : Nat} (h : MapAt w b B m) (hg : B.g = some g) : Row w g m.n m.pg := by
  have hr := h.row
  rwa [hg] at hr
theorem ncell_le {c : Int} (h : 0 ≤ c) : ncell c ≤ 256 := Nat.div_le_self _ _
theorem inCell {cl c : Int} (h0 : 0 ≤ cl) (h : inR (ncell cl) c = true) : ∃ k : Nat, c = k ∧ k < 256 := by
  obtain ⟨k, rfl, hk⟩ := inR_nat h
  exact ⟨k, rfl, Nat.lt_of_lt_of_le hk (ncell_le h0)⟩
theorem Own_out (b : Nat) (B : Bs) (m : Mp) (i c : Int) (live : Bool) (w : World) (h : MapAt w b B m) (hi : inR m.n i = false) :
    Calls Tryz.prog 128 #[.pointer (some ⟨b, 0, none⟩), .int .i64 i, .int .i64 c, .bool live] w fun e w' => e = .returned (.int .i64 1) ∧ w' = w := by
  have HM := hid h
  have HI := hid hi
  clear h hi
  go_enter Tryz.func128, Tryz.ntmps128
  go_wp2_with fail
  refine (slab_out b B m i _ HM.out HI.out).mono ?_
  rintro e w1 ⟨rfl, rfl⟩
  go_wp2_with fail
  go_ret
  exact ⟨rfl, rfl⟩
theorem Own_kind (b : Nat) (B : Bs) (m : Mp) (k : Nat) (c : Int) (live : Bool) (w : World) (h : MapAt w b B m) (hk : k < m.n) (hkd : (m.pg k).kd ≠ 4) :
    Calls Tryz.prog 128 #[.pointer (some ⟨b, 0, none⟩), .int .i64 (k : Int), .int .i64 c, .bool live] w fun e w' => e = .returned (.int .i64 1) ∧ w' = w := by
  have HM := hid h
  obtain ⟨g, hg, hr⟩ := h.has_row (by omega)
  have S := hid (slab_in b B m g k w h hg hk)
  rw [if_neg hkd] at S
  clear h hr hg
  go_enter Tryz.func128, Tryz.ntmps128
  go_wp2_with fail
  refine S.out.mono ?_
  rintro e w1 ⟨rfl, rfl⟩
  go_wp2_with fail
  go_ret
  exact ⟨rfl, rfl⟩
theorem Own_cell (b : Nat) (B : Bs) (m : Mp) (k : Nat) (c : Int) (live : Bool) (w : World) (h : MapAt w b B m) (hk : k < m.n) (hkd : (m.pg k).kd = 4) (hc : inR (ncell (m.pg k).cl) c = false) :
    Calls Tryz.prog 128 #[.pointer (some ⟨b, 0, none⟩), .int .i64 (k : Int), .int .i64 c, .bool live] w fun e w' => e = .returned (.int .i64 1) ∧ w' = w := by
  have HM := hid h
  obtain ⟨g, hg, hr⟩ := h.has_row (by omega)
  have S := hid (slab_in b B m g k w h hg hk)
  rw [if_pos hkd] at S
  obtain ⟨d0, d1, d2, d3, d4, d5, d6, d7, d8, d9, d10⟩ := hr.cell k hk
  have HC := hid (hasCell_any g (k * 11) (m.pg k).cl (h.ok k hk).c0 (h.ok k hk).c7 c w d2)
  rw [hc] at HC
  clear h hr hg
  go_enter Tryz.func128, Tryz.ntmps128
  go_wp2_with fail
  refine S.out.mono ?_
  rintro e w1 ⟨rfl, rfl⟩
  go_wp2_with fail
  refine HC.out.mono ?_
  rintro e w1 ⟨rfl, rfl⟩
  go_wp2_with fail
  go_ret
  exact ⟨rfl, rfl⟩
theorem Own_same (b : Nat) (B : Bs) (m : Mp) (k c : Nat) (w : World) (h : MapAt w b B m) (hk : k < m.n) (hkd : (m.pg k).kd = 4) (hc : inR (ncell (m.pg k).cl) (c : Int) = true) (hc2 : c < 256) :
    Calls Tryz.prog 128 #[.pointer (some ⟨b, 0, none⟩), .int .i64 (k : Int), .int .i64 (c : Int), .bool (litP (m.pg k) c)] w fun e w' => e = .returned (.int .i64 1) ∧ Kept none' w w' := by
  have HM := hid h
  obtain ⟨g, hg, hr⟩ := h.has_row (by omega)
  have S := hid (slab_in b B m g k w h hg hk)
  rw [if_pos hkd] at S
  obtain ⟨d0, d1, d2, d3, d4, d5, d6, d7, d8, d9, d10⟩ := hr.cell k hk
  have HC := hid (hasCell_any g (k * 11) (m.pg k).cl (h.ok k hk).c0 (h.ok k hk).c7 c w d2)
  rw [hc] at HC
  have HL := hid (isLive_any (m.pg k) (h.ok k hk) c hc2 w)
  generalize litP (m.pg k) c = lv at *
  clear h hr hg
  go_enter Tryz.func128, Tryz.ntmps128
  go_wp2_with fail
  refine S.out.mono ?_
  rintro e w1 ⟨rfl, rfl⟩
  go_wp2_with fail
  refine HC.out.mono ?_
  rintro e w1 ⟨rfl, rfl⟩
  go_wp2_with fail
  refine HL.out.mono ?_
  rintro e w2 ⟨rfl, k2⟩
  have K2 := hid k2
  clear k2
  cases lv
  all_goals
    go_wp2_with fail
    go_ret
    exact ⟨rfl, K2.out⟩
theorem Row.bits {w g n pg} (h : Row w g n pg) (i : Nat) (hi : i < n) (t : Pg) (x : Int) (hr : t.kd = (pg i).kd ∧ t.od = (pg i).od ∧ t.cl = (pg i).cl ∧ t.lv = (pg i).lv ∧ t.nx = (pg i).nx ∧ t.pv = (pg i).pv ∧ t.fs = (pg i).fs) :
    Row (((((w.setCell ⟨g, i * 11 + 7, none⟩ (.int .u64 (t.b0 : Int))).setCell ⟨g, i * 11 + 7 + 1, none⟩ (.int .u64 (t.b1 : Int))).setCell ⟨g, i * 11 + 7 + 2, none⟩ (.int .u64 (t.b2 : Int))).setCell ⟨g, i * 11 + 7 + 3, none⟩ (.int .u64 (t.b3 : Int))).setCell ⟨g, i * 11 + 3, none⟩ (.int .i64 x)) g n (upp pg i { t with lv := x }) := by
  have := (((((RowC.set h i 7 hi (by decide) (.int .u64 (t.b0 : Int))).set i 8 hi (by decide) (.int .u64 (t.b1 : Int))).set i 9 hi (by decide) (.int .u64 (t.b2 : Int))).set i 10 hi (by decide) (.int .u64 (t.b3 : Int))).set i 3 hi (by decide) (.int .i64 x))
  obtain ⟨e0, e1, e2, e3, e4, e5, e6⟩ := hr
  refine RowC.congr this (fun a ha b hb => fld_up a b hb (fun j hj => ?_) (fun e => ?_))
  · revert j
    apply lt11 <;> simp [upc, Pg.fld, e0, e1, e2, e4, e5, e6]
  · simp [upc, e]
def ownP (p : Pg) (c : Nat) : Pg := { turnP p c with lv := wrap64 (if litP p c = true then p.lv - 1 else p.lv + 1) }
theorem Own_turn (b : Nat) (B : Bs) (m : Mp) (k c : Nat) (w : World) (h : MapAt w b B m) (hk : k < m.n) (hkd : (m.pg k).kd = 4) (hc : inR (ncell (m.pg k).cl) (c : Int) = true) (hc2 : c < 256) :
    Calls Tryz.prog 128 #[.pointer (some ⟨b, 0, none⟩), .int .i64 (k : Int), .int .i64 (c : Int), .bool (!litP (m.pg k) c)] w fun e w' => e = .returned (.int .i64 0) ∧ MapAt w' b B { m with pg := upp m.pg k (ownP (m.pg k) c) } ∧ Kept (mown b B m.o) w w' := by
  have HM := hid h
  obtain ⟨g, hg, hr⟩ := h.has_row (by omega)
  have S := hid (slab_in b B m g k w h hg hk)
  rw [if_pos hkd] at S
  obtain ⟨d0, d1, d2, d3, d4, d5, d6, d7, d8, d9, d10⟩ := hr.cell k hk
  have HC := hid (hasCell_any g (k * 11) (m.pg k).cl (h.ok k hk).c0 (h.ok k hk).c7 c w d2)
  rw [hc] at HC
  have HL := hid (isLive_any (m.pg k) (h.ok k hk) c hc2 w)
  have HT := hid (turned_any (m.pg k) (h.ok k hk) c hc2)
  have OP := hid (show ownP (m.pg k) c = { turnP (m.pg k) c with lv := wrap64 (if litP (m.pg k) c = true then (m.pg k).lv - 1 else (m.pg k).lv + 1) } from rfl)
  have HG := hid hg
  have HK := hid hk
  have OK := hid ((h.ok k hk).turn c)
  have TR := hid (turn_rest (m.pg k) c)
  generalize turnP (m.pg k) c = tp at *
  generalize litP (m.pg k) c = lv at *
  clear h hr hg hk
  go_enter Tryz.func128, Tryz.ntmps128
  go_wp2_with fail
  refine S.out.mono ?_
  rintro e w1 ⟨rfl, rfl⟩
  go_wp2_with fail
  refine HC.out.mono ?_
  rintro e w1 ⟨rfl, rfl⟩
  go_wp2_with fail
  refine HL.out.mono ?_
  rintro e w2 ⟨rfl, k2⟩
  have M2 := hid (HM.out.keep k2)
  have K2 := hid k2
  clear k2 d0 d1 d2 d3 d4 d5 d6 d7 d8 d9 d10
  obtain ⟨d0, d1, d2, d3, d4, d5, d6, d7, d8, d9, d10⟩ := (M2.out.rowg HG.out).cell k HK.out
  cases lv
  all_goals
    go_wp2_with fail
    refine (HT.out _).mono ?_
    rintro e w3 ⟨rfl, k3⟩
    have M3 := hid (M2.out.keep k3)
    have K3 := hid (none_trans K2.out k3)
    clear k3 d0 d1 d2 d3 d4 d5 d6 d7 d8 d9 d10
    obtain ⟨d0, d1, d2, d3, d4, d5, d6, d7, d8, d9, d10⟩ := (M3.out.rowg HG.out).cell k HK.out
    have z := RowC.froz (M3.out.rowg HG.out)
    go_wp2_with fail
    go_ret
    rw [OP.out]
    refine ⟨rfl, M3.out.pages HG.out ?_ ((M3.out.rowg HG.out).bits k HK.out tp _ TR.out) (fun i hi => ?_), ?_⟩
    · exact (((((Kept.refl (fun x => x = g) w3).setCell (p := ⟨g, _, none⟩) rfl _).setCell (p := ⟨g, _, none⟩) rfl _).setCell (p := ⟨g, _, none⟩) rfl _).setCell (p := ⟨g, _, none⟩) rfl _).setCell (p := ⟨g, _, none⟩) rfl _
    · unfold upp
      split
      · exact ⟨OK.out.o0, OK.out.o8, OK.out.c0, OK.out.c7, OK.out.b0, OK.out.b1, OK.out.b2, OK.out.b3⟩
      · exact M3.out.ok i hi
    · exact ((((((K3.out.mono (fun _ _ x => x.elim)).setCell (p := ⟨g, _, none⟩) (.inr (.inl HG.out)) _).setCell (p := ⟨g, _, none⟩) (.inr (.inl HG.out)) _).setCell (p := ⟨g, _, none⟩) (.inr (.inl HG.out)) _).setCell (p := ⟨g, _, none⟩) (.inr (.inl HG.out)) _).setCell (p := ⟨g, _, none⟩) (.inr (.inl HG.out)) _)
end Go.Proofs.YtgjapopddblpoaaGreatDoor
/- pagemap: First, Head. -/
namespace Go.Proofs.YtgjapopddblpoaaGreatDoor
open Go.RowKit
set_option linter.unusedVariables false

theorem shl_back (k o : Nat) (ho : o ≤ 8) (hk : k < 1024) : wrap64 ((k : Int) / 2 ^ o * 2 ^ o) = ((k / 2 ^ o * 2 ^ o : Nat) : Int) := by
  have h1 : k / 2 ^ o * 2 ^ o ≤ k := Nat.div_mul_le_self _ _
  have h2 : ((k : Int) / 2 ^ o * 2 ^ o) = ((k / 2 ^ o * 2 ^ o : Nat) : Int) := by simp
  rw [h2]
  generalize k / 2 ^ o * 2 ^ o = z at *
  unfold wrap64
  omega
def headV (m : Mp) (i : Int) : Int := if inR m.n i = true then ((i.toNat / 2 ^ (m.pg i.toNat).od.toNat * 2 ^ (m.pg i.toNat).od.toNat : Nat) : Int) else -1
theorem Head_out (b : Nat) (B : Bs) (m : Mp) (i : Int) (w : World) (h : MapAt w b B m) (hi : inR m.n i = false) :
    Calls Tryz.prog 125 #[.pointer (some ⟨b, 0, none⟩), .int .i64 i] w fun e w' => e = .returned (.int .i64 (-1)) ∧ w' = w := by
  have HM := hid h
  have HI := hid hi
  clear h hi
  go_enter Tryz.func125, Tryz.ntmps125
  go_wp2_with fail
  refine (has_any b B m i _ HM.out).mono ?_
  rintro e w1 ⟨rfl, rfl⟩
  rw [HI.out]
  go_wp2_with fail
  go_ret
  exact ⟨rfl, rfl⟩
theorem Head_in (b : Nat) (B : Bs) (m : Mp) (k o : Nat) (w : World) (h : MapAt w b B m) (hk : k < m.n) (ho : (m.pg k).od = o) :
    Calls Tryz.prog 125 #[.pointer (some ⟨b, 0, none⟩), .int .i64 (k : Int)] w fun e w' => e = .returned (.int .i64 ((k / 2 ^ o * 2 ^ o : Nat) : Int)) ∧ w' = w := by
  have HM := hid h
  have HI := hid (inR_yes hk)
  have ho8 : o ≤ 8 := by have := (h.ok k hk).o8; omega
  have hkn : k < 1024 := by have := h.n1; omega
  obtain ⟨g, hg, hr⟩ := h.has_row (by omega)
  have d1 := (hr.cell k hk).2.1
  rw [ho] at d1
  have c1 := h.c1 hg
  have hki : (k : Int) < (m.n : Int) := by omega
  have HE := hid (shl_back k o ho8 hkn)
  clear h hr hg
  go_enter Tryz.func125, Tryz.ntmps125
  go_wp2_with fail
  refine (has_any b B m k _ HM.out).mono ?_
  rintro e w1 ⟨rfl, rfl⟩
  rw [HI.out]
  go_wp2_with fail
  go_ret
  exact ⟨ret_int HE.out, rfl⟩
theorem Row.f6 {w g n pg} (h : Row w g n pg) (i : Nat) (hi : i < n) (x : Int) : Row (w.setCell ⟨g, i * 11 + 6, none⟩ (.int .i64 x)) g n (upp pg i { pg i with fs := x }) := by
  have := RowC.set h i 6 hi (by decide) (.int .i64 x)
  refine RowC.congr this (fun a ha b hb => fld_up a b hb (fun j hj => ?_) (fun e => ?_))
  · revert j
    apply lt11 <;> simp [upc, Pg.fld]
  · simp [upc, e]
theorem First_out (b : Nat) (B : Bs) (m : Mp) (i c : Int) (w : World) (h : MapAt w b B m) (hi : inR m.n i = false) :
    Calls Tryz.prog 179 #[.pointer (some ⟨b, 0, none⟩), .int .i64 i, .int .i64 c] w fun e w' => e = .returned (.int .i64 1) ∧ w' = w := by
  have HM := hid h
  have HI := hid hi
  clear h hi
  go_enter Tryz.func179, Tryz.ntmps179
  go_wp2_with fail
  refine (slab_out b B m i _ HM.out HI.out).mono ?_
  rintro e w1 ⟨rfl, rfl⟩
  go_wp2_with fail
  go_ret
  exact ⟨rfl, rfl⟩
theorem First_kind (b : Nat) (B : Bs) (m : Mp) (k : Nat) (c : Int) (w : World) (h : MapAt w b B m) (hk : k < m.n) (hkd : (m.pg k).kd ≠ 4) :
    Calls Tryz.prog 179 #[.pointer (some ⟨b, 0, none⟩), .int .i64 (k : Int), .int .i64 c] w fun e w' => e = .returned (.int .i64 1) ∧ w' = w := by
  have HM := hid h
  obtain ⟨g, hg, hr⟩ := h.has_row (by omega)
  have S := hid (slab_in b B m g k w h hg hk)
  rw [if_neg hkd] at S
  clear h hr hg
  go_enter Tryz.func179, Tryz.ntmps179
  go_wp2_with fail
  refine S.out.mono ?_
  rintro e w1 ⟨rfl, rfl⟩
  go_wp2_with fail
  go_ret
  exact ⟨rfl, rfl⟩
theorem First_cell (b : Nat) (B : Bs) (m : Mp) (k : Nat) (c : Int) (w : World) (h : MapAt w b B m) (hk : k < m.n) (hkd : (m.pg k).kd = 4) (hm1 : c ≠ -1) (hc : inR (ncell (m.pg k).cl) c = false) :
    Calls Tryz.prog 179 #[.pointer (some ⟨b, 0, none⟩), .int .i64 (k : Int), .int .i64 c] w fun e w' => e = .returned (.int .i64 1) ∧ w' = w := by
  have HM := hid h
  obtain ⟨g, hg, hr⟩ := h.has_row (by omega)
  have S := hid (slab_in b B m g k w h hg hk)
  rw [if_pos hkd] at S
  obtain ⟨d0, d1, d2, d3, d4, d5, d6, d7, d8, d9, d10⟩ := hr.cell k hk
  have HC := hid (hasCell_any g (k * 11) (m.pg k).cl (h.ok k hk).c0 (h.ok k hk).c7 c w d2)
  rw [hc] at HC
  clear h hr hg
  go_enter Tryz.func179, Tryz.ntmps179
  go_wp2_with fail
  refine S.out.mono ?_
  rintro e w1 ⟨rfl, rfl⟩
  go_wp2_with fail
  refine HC.out.mono ?_
  rintro e w1 ⟨rfl, rfl⟩
  go_wp2_with fail
  go_ret
  exact ⟨rfl, rfl⟩
theorem First_ok (b : Nat) (B : Bs) (m : Mp) (k : Nat) (c : Int) (w : World) (h : MapAt w b B m) (hk : k < m.n) (hkd : (m.pg k).kd = 4) (hc : c = -1 ∨ inR (ncell (m.pg k).cl) c = true) :
    Calls Tryz.prog 179 #[.pointer (some ⟨b, 0, none⟩), .int .i64 (k : Int), .int .i64 c] w fun e w' => e = .returned (.int .i64 0) ∧ MapAt w' b B { m with pg := upp m.pg k { m.pg k with fs := c } } ∧ Kept (mown b B m.o) w w' := by
  have HM := hid h
  obtain ⟨g, hg, hr⟩ := h.has_row (by omega)
  have S := hid (slab_in b B m g k w h hg hk)
  rw [if_pos hkd] at S
  obtain ⟨d0, d1, d2, d3, d4, d5, d6, d7, d8, d9, d10⟩ := hr.cell k hk
  have HC := hid (hasCell_any g (k * 11) (m.pg k).cl (h.ok k hk).c0 (h.ok k hk).c7 c w d2)
  have z := RowC.froz hr
  have FIN := hid (show MapAt (w.setCell ⟨g, k * 11 + 6, none⟩ (.int .i64 c)) b B { m with pg := upp m.pg k { m.pg k with fs := c } } ∧ Kept (mown b B m.o) w (w.setCell ⟨g, k * 11 + 6, none⟩ (.int .i64 c)) from
    ⟨h.pages hg ((Kept.refl (fun x => x = g) w).setCell (p := ⟨g, _, none⟩) rfl _) (hr.f6 k hk c) (fun i hi => by
      unfold upp
      split
      · exact ⟨(h.ok k hk).o0, (h.ok k hk).o8, (h.ok k hk).c0, (h.ok k hk).c7, (h.ok k hk).b0, (h.ok k hk).b1, (h.ok k hk).b2, (h.ok k hk).b3⟩
      · exact h.ok i hi), (Kept.refl (mown b B m.o) w).setCell (p := ⟨g, _, none⟩) (.inr (.inl hg)) _⟩)
  clear h hr hg
  by_cases h1 : c = -1
  · subst h1
    clear hc
    go_enter Tryz.func179, Tryz.ntmps179
    go_wp2_with fail
    refine S.out.mono ?_
    rintro e w1 ⟨rfl, rfl⟩
    go_wp2_with fail
    go_ret
    exact ⟨rfl, FIN.out⟩
  · rw [hc.resolve_left h1] at HC
    clear hc
    go_enter Tryz.func179, Tryz.ntmps179
    go_wp2_with fail
    refine S.out.mono ?_
    rintro e w1 ⟨rfl, rfl⟩
    go_wp2_with fail
    refine HC.out.mono ?_
    rintro e w1 ⟨rfl, rfl⟩
    go_wp2_with fail
    go_ret
    exact ⟨rfl, FIN.out⟩
end Go.Proofs.YtgjapopddblpoaaGreatDoor
/- pagemap: Chain. -/
namespace Go.Proofs.YtgjapopddblpoaaGreatDoor
open Go.RowKit
set_option linter.unusedVariables false

def lnk (n : Nat) (x : Int) : Bool := x == -1 || inR n x
theorem Row.f45 {w g n pg} (h : Row w g n pg) (i : Nat) (hi : i < n) (x y : Int) : Row ((w.setCell ⟨g, i * 11 + 4, none⟩ (.int .i64 x)).setCell ⟨g, i * 11 + 5, none⟩ (.int .i64 y)) g n (upp pg i { pg i with nx := x, pv := y }) := by
  have := (RowC.set h i 4 hi (by decide) (.int .i64 x)).set i 5 hi (by decide) (.int .i64 y)
  refine RowC.congr this (fun a ha b hb => fld_up a b hb (fun j hj => ?_) (fun e => ?_))
  · revert j
    apply lt11 <;> simp [upc, Pg.fld]
  · simp [upc, e]
theorem Chain_out (b : Nat) (B : Bs) (m : Mp) (i x y : Int) (w : World) (h : MapAt w b B m) (hi : inR m.n i = false) :
    Calls Tryz.prog 177 #[.pointer (some ⟨b, 0, none⟩), .int .i64 i, .int .i64 x, .int .i64 y] w fun e w' => e = .returned (.int .i64 1) ∧ w' = w := by
  have HM := hid h
  have HI := hid hi
  clear h hi
  go_enter Tryz.func177, Tryz.ntmps177
  go_wp2_with fail
  refine (slab_out b B m i _ HM.out HI.out).mono ?_
  rintro e w1 ⟨rfl, rfl⟩
  go_wp2_with fail
  go_ret
  exact ⟨rfl, rfl⟩
theorem Chain_kind (b : Nat) (B : Bs) (m : Mp) (k : Nat) (x y : Int) (w : World) (h : MapAt w b B m) (hk : k < m.n) (hkd : (m.pg k).kd ≠ 4) :
    Calls Tryz.prog 177 #[.pointer (some ⟨b, 0, none⟩), .int .i64 (k : Int), .int .i64 x, .int .i64 y] w fun e w' => e = .returned (.int .i64 1) ∧ w' = w := by
  have HM := hid h
  obtain ⟨g, hg, hr⟩ := h.has_row (by omega)
  have S := hid (slab_in b B m g k w h hg hk)
  rw [if_neg hkd] at S
  clear h hr hg
  go_enter Tryz.func177, Tryz.ntmps177
  go_wp2_with fail
  refine S.out.mono ?_
  rintro e w1 ⟨rfl, rfl⟩
  go_wp2_with fail
  go_ret
  exact ⟨rfl, rfl⟩
theorem Chain_next (b : Nat) (B : Bs) (m : Mp) (k : Nat) (x y : Int) (w : World) (h : MapAt w b B m) (hk : k < m.n) (hkd : (m.pg k).kd = 4) (hx : x ≠ -1) (hx2 : inR m.n x = false) :
    Calls Tryz.prog 177 #[.pointer (some ⟨b, 0, none⟩), .int .i64 (k : Int), .int .i64 x, .int .i64 y] w fun e w' => e = .returned (.int .i64 1) ∧ w' = w := by
  have HM := hid h
  obtain ⟨g, hg, hr⟩ := h.has_row (by omega)
  have S := hid (slab_in b B m g k w h hg hk)
  rw [if_pos hkd] at S
  have HX := hid hx2
  clear h hr hg hx2
  go_enter Tryz.func177, Tryz.ntmps177
  go_wp2_with fail
  refine S.out.mono ?_
  rintro e w1 ⟨rfl, rfl⟩
  go_wp2_with fail
  refine (has_any b B m x _ HM.out).mono ?_
  rintro e w1 ⟨rfl, rfl⟩
  rw [HX.out]
  go_wp2_with fail
  go_ret
  exact ⟨rfl, rfl⟩
theorem Chain_rest (b : Nat) (B : Bs) (m : Mp) (k : Nat) (x y : Int) (w : World) (h : MapAt w b B m) (hk : k < m.n) (hkd : (m.pg k).kd = 4) (hx : lnk m.n x = true) (R : Int) (W : World)
    (hR : (lnk m.n y = false ∧ R = 1 ∧ W = w) ∨ (lnk m.n y = true ∧ R = 0 ∧ ∃ g, B.g = some g ∧ W = (w.setCell ⟨g, k * 11 + 4, none⟩ (.int .i64 x)).setCell ⟨g, k * 11 + 5, none⟩ (.int .i64 y))) :
    Calls Tryz.prog 177 #[.pointer (some ⟨b, 0, none⟩), .int .i64 (k : Int), .int .i64 x, .int .i64 y] w fun e w' => e = .returned (.int .i64 R) ∧ w' = W := by
  have HM := hid h
  obtain ⟨g, hg, hr⟩ := h.has_row (by omega)
  have S := hid (slab_in b B m g k w h hg hk)
  rw [if_pos hkd] at S
  have HX := hid hx
  obtain ⟨d0, d1, d2, d3, d4, d5, d6, d7, d8, d9, d10⟩ := hr.cell k hk
  have z := RowC.froz hr
  have hR2 : (lnk m.n y = false ∧ R = 1 ∧ W = w) ∨ (lnk m.n y = true ∧ R = 0 ∧ W = (w.setCell ⟨g, k * 11 + 4, none⟩ (.int .i64 x)).setCell ⟨g, k * 11 + 5, none⟩ (.int .i64 y)) := by
    rcases hR with h | ⟨h1, h2, g', hg', h3⟩
    · exact .inl h
    · rw [hg] at hg'
      cases hg'
      exact .inr ⟨h1, h2, h3⟩
  have HR := hid hR2
  clear h hr hg hx hR hR2 d0 d1 d2 d3 d6 d7 d8 d9 d10
  by_cases hx1 : x = -1
  all_goals by_cases hy1 : y = -1
  · subst hx1 hy1
    have hR3 := (HR.out.resolve_left (fun h => by simp [lnk] at h)).2
    obtain ⟨rfl, rfl⟩ := hR3
    clear HR
    go_enter Tryz.func177, Tryz.ntmps177
    go_wp2_with fail
    refine S.out.mono ?_
    rintro e w1 ⟨rfl, rfl⟩
    go_wp2_with fail
    go_ret
    exact ⟨rfl, rfl⟩
  · subst hx1
    go_enter Tryz.func177, Tryz.ntmps177
    go_wp2_with fail
    refine S.out.mono ?_
    rintro e w1 ⟨rfl, rfl⟩
    go_wp2_with fail
    refine (has_any b B m y _ HM.out).mono ?_
    rintro e w2 ⟨rfl, rfl⟩
    rcases HR.out with ⟨h1, rfl, rfl⟩ | ⟨h1, rfl, rfl⟩
    · rw [show inR m.n y = false by simpa [lnk, hy1] using h1]
      clear h1 HR
      go_wp2_with fail
      go_ret
      exact ⟨rfl, rfl⟩
    · rw [show inR m.n y = true by simpa [lnk, hy1] using h1]
      clear h1 HR
      go_wp2_with fail
      go_ret
      exact ⟨rfl, rfl⟩
  · subst hy1
    have hR3 := (HR.out.resolve_left (fun h => by simp [lnk] at h)).2
    obtain ⟨rfl, rfl⟩ := hR3
    have HX2 := hid (show inR m.n x = true by simpa [lnk, hx1] using HX.out)
    clear HR
    go_enter Tryz.func177, Tryz.ntmps177
    go_wp2_with fail
    refine S.out.mono ?_
    rintro e w1 ⟨rfl, rfl⟩
    go_wp2_with fail
    refine (has_any b B m x _ HM.out).mono ?_
    rintro e w2 ⟨rfl, rfl⟩
    rw [HX2.out]
    go_wp2_with fail
    go_ret
    exact ⟨rfl, rfl⟩
  · have HX2 := hid (show inR m.n x = true by simpa [lnk, hx1] using HX.out)
    go_enter Tryz.func177, Tryz.ntmps177
    go_wp2_with fail
    refine S.out.mono ?_
    rintro e w1 ⟨rfl, rfl⟩
    go_wp2_with fail
    refine (has_any b B m x _ HM.out).mono ?_
    rintro e w2 ⟨rfl, rfl⟩
    rw [HX2.out]
    go_wp2_with fail
    refine (has_any b B m y _ HM.out).mono ?_
    rintro e w2 ⟨rfl, rfl⟩
    rcases HR.out with ⟨h1, rfl, rfl⟩ | ⟨h1, rfl, rfl⟩
    · rw [show inR m.n y = false by simpa [lnk, hy1] using h1]
      clear h1 HR
      go_wp2_with fail
      go_ret
      exact ⟨rfl, rfl⟩
    · rw [show inR m.n y = true by simpa [lnk, hy1] using h1]
      clear h1 HR
      go_wp2_with fail
      go_ret
      exact ⟨rfl, rfl⟩
end Go.Proofs.YtgjapopddblpoaaGreatDoor
/- pagemap: pair bits. -/
namespace Go.Proofs.YtgjapopddblpoaaGreatDoor
open Go.RowKit
set_option linter.unusedVariables false

theorem pairCount_any (k c : Nat) (hk : k < 8) (hc : c ≤ 1024) (w : World) :
    Calls Tryz.prog 219 #[.int .i64 (k : Int), .int .i64 (c : Int)] w fun e w' => e = .returned (.int .i64 ((c / 2 ^ (k + 1) : Nat) : Int)) ∧ w' = w := by
  go_enter Tryz.func219, Tryz.ntmps219
  go_wp2_with fail
  go_ret
  exact ⟨ret_int (by simp), rfl⟩
theorem hasPair_any (b : Nat) (B : Bs) (m : Mp) (k i : Int) (w : World) (h : MapAt w b B m) :
    Calls Tryz.prog 223 #[.pointer (some ⟨b, 0, none⟩), .int .i64 k, .int .i64 i] w fun e w' => e = .returned (.bool (inR m.o k && inR m.n i)) ∧ w' = w := by
  have HM := hid h
  have c0 := h.c0
  clear h
  cases hk : inR m.o k with
  | true =>
    obtain ⟨j, rfl, hj⟩ := inR_nat hk
    rw [Bool.true_and]
    have hji : (j : Int) < (m.o : Int) := by omega
    clear hk
    go_enter Tryz.func223, Tryz.ntmps223
    go_wp2_with fail
    refine (has_any b B m i _ HM.out).mono ?_
    rintro e w1 ⟨rfl, rfl⟩
    go_wp2_with fail
    go_ret
    exact ⟨rfl, rfl⟩
  | false =>
    rw [Bool.false_and]
    by_cases h0 : 0 ≤ k
    · have h1 : ¬ k < (m.o : Int) := by simp [inR, h0] at hk; omega
      clear hk
      go_enter Tryz.func223, Tryz.ntmps223
      go_wp2_with fail
      go_ret
      exact ⟨rfl, rfl⟩
    · clear hk
      go_enter Tryz.func223, Tryz.ntmps223
      go_wp2_with fail
      go_ret
      exact ⟨rfl, rfl⟩
theorem Pair_no (b : Nat) (B : Bs) (m : Mp) (k i : Int) (w : World) (h : MapAt w b B m) (hp : (inR m.o k && inR m.n i) = false) :
    Calls Tryz.prog 222 #[.pointer (some ⟨b, 0, none⟩), .int .i64 k, .int .i64 i] w fun e w' => e = .returned (.bool false) ∧ Kept none' w w' := by
  have HQ := hid (fun q => hasPair_any b B m k i (w.drewN q) (h.keep ((Kept.refl none' w).drewN q)))
  rw [hp] at HQ
  clear h hp
  go_enter Tryz.func222, Tryz.ntmps222
  go_wp2_with fail
  go_quiet ((go_at_call 223; exact Calls.quiet_of_same (HQ.out _)))
  go_wp2_with fail
  go_ret
  exact ⟨rfl, (Kept.refl none' w).drewN _⟩
theorem MapAt.c2 {w b B m} {q : Nat} (h : MapAt w b B m) (hq : B.P = some q) : ∃ cq, w.cell? ⟨b, 2, none⟩ = some (.slice (some ⟨q, 0, none⟩) m.o cq) := by
  obtain ⟨cq, hb, _⟩ := h.hb
  exact ⟨cq, by simp [World.cell?, hb, hq, adr]⟩
theorem pw_pos (k : Nat) : 0 < 2 ^ k := Nat.pow_pos (by decide)
theorem Pair_in (b : Nat) (B : Bs) (m : Mp) (k i : Nat) (w : World) (h : MapAt w b B m) (hk : k < m.o) (hi : i < m.n) :
    Calls Tryz.prog 222 #[.pointer (some ⟨b, 0, none⟩), .int .i64 (k : Int), .int .i64 (i : Int)] w fun e w' => e = .returned (.bool (inS (m.n / 2 ^ (k + 1)) (m.wd k) ((i / 2 ^ (k + 1) : Nat) : Int))) ∧ Kept none' w w' := by
  have HQ := hid (fun q => hasPair_any b B m k i (w.drewN q) (h.keep ((Kept.refl none' w).drewN q)))
  rw [show (inR m.o (k : Int) && inR m.n (i : Int)) = true by rw [inR_yes hk, inR_yes hi]; rfl] at HQ
  obtain ⟨q, hq, cp⟩ := h.cp k hk
  obtain ⟨cq, c2⟩ := h.c2 hq
  have HG := hid (fun z => get_any (B.S k) (B.C k) _ (m.wd k) ((i / 2 ^ (k + 1) : Nat) : Int) (w.drewN z) ((h.set k hk).kept ((Kept.refl none' w).drewN z) (fun x => x) (fun x => x)))
  have hk8 : k < 8 := by have := h.o8; omega
  have hi10 : i < 1024 := by have := h.n1; omega
  have hki : (k : Int) < (m.o : Int) := by omega
  clear h hq
  go_enter Tryz.func222, Tryz.ntmps222
  go_wp2_with fail
  go_quiet (first | (go_at_call 223; exact Calls.quiet_of_same (HQ.out _)) | (go_at_call 229; exact Calls.quiet_of_same (HG.out _)))
  go_wp2_with fail
  go_ret
  exact ⟨rfl, (Kept.refl none' w).drewN _⟩
end Go.Proofs.YtgjapopddblpoaaGreatDoor
