import Derived.Test.YtcgbefmjnhkdgaaXc
import Derived.Test.YtcgbefmjnhkdgaaXb
import Derived.Laws.StructEq
set_option maxRecDepth 1000000
set_option maxHeartbeats 80000000
/- An image in memory; walk.must, within, mayBe. -/
namespace Go.Proofs.Ytcgbefmjnhkdgaa
open Go.RowKit
set_option linter.unusedVariables false

/-- A world that keeps all that was there in w. -/
def KW (w : World) : Type := { W : World // Kept none' w W }
def KW.v {w : World} (x : KW w) : World := x.1
theorem KW.k {w : World} (x : KW w) : Kept none' w x.v := x.2
instance (w : World) : Nonempty (KW w) := ⟨⟨w, Kept.refl _ _⟩⟩
/-- One walk of the lexical order serves every order, where all that was there is kept. -/
theorem wp_region_kept {P : Program} {id : Nat} {Q : Exit → Act → World → Prop} {a : Act} {w : World} {l : List Oper} (hm : P.follows .mixedOrders = true) (hB : Region.lexB .any l.toArray = true)
    (h : wpQuiet P l.toArray (fun w' => ∃ x : KW w, w' = x.v) (fun a' => ∀ x : KW w, Q .normal a' x.v) l a) : (Code.region id l.toArray true).wp P Q a w := by
  refine wp_region_quiet (C := fun w' => ∃ x : KW w, w' = x.v) hm hB ⟨⟨w.drew, (Kept.refl _ w).drew⟩, rfl⟩ ?_
  have e : (fun a' => ∀ w', (∃ x : KW w, w' = x.v) → Q .normal a' w') = (fun a' => ∀ x : KW w, Q .normal a' x.v) := by
    funext a'
    exact propext ⟨fun h x => h _ ⟨x, rfl⟩, fun h w' ⟨x, hx⟩ => hx ▸ h x⟩
  rw [e]
  simpa using h
/-- A callee's contract, met in such a world. -/
theorem Calls.kept_of {P : Program} {f : FuncId} {args : Array Value} {w : World} {x : KW w} {v : Value}
    (h : Calls P f args x.v fun e w' => e = .returned v ∧ Kept none' x.v w') : Calls P f args x.v fun e w'' => e = .returned v ∧ ∃ y : KW w, w'' = y.v :=
  h.mono fun _ w1 ⟨he, hk⟩ => ⟨he, ⟨w1, none_trans x.k hk⟩, rfl⟩

/-- What is thrown at a place. -/
abbrev thrE (p : Int) : Ending := .panicked [{ v := .iface 87 (.int .i64 p), recovered := false }]
/-- How a rule's call ends. -/
def askE : Option Nat → Ending
  | none => .returned (.tuple #[])
  | some p => thrE (p : Int)

theorem must_yes (p : Int) (w : World) : Calls Try.prog 56 #[.bool true, .int .i64 p] w fun e w' => e = .returned (.tuple #[]) ∧ w' = w := by
  go_enter Try.func56, Try.ntmps56
  go_wp2
  first | go_end0 | go_ret
  exact ⟨rfl, rfl⟩
theorem must_no (p : Int) (w : World) : Calls Try.prog 56 #[.bool false, .int .i64 p] w fun e w' => e = thrE p ∧ w' = w := by
  go_enter Try.func56, Try.ntmps56
  go_wp2
  exact ⟨rfl, rfl, rfl⟩
theorem must_enter (xs : Array Value) (w : World) : Sem.run Try.prog (callFunc 56 xs) w = .ok (.enter 56 xs) w := by
  simp [callFunc, go_sem, Try.func56]
  rfl
/-- Is a number from a to b? -/
def wiB (x a b : Int) : Bool := decide (a ≤ x ∧ x ≤ b)
theorem within_any (x a b : Int) (w : World) : Calls Try.prog 58 #[.int .i64 x, .int .i64 a, .int .i64 b] w fun e w' => e = .returned (.bool (wiB x a b)) ∧ w' = w := by
  by_cases h : a ≤ x
  · go_enter Try.func58, Try.ntmps58
    go_wp2
    go_ret
    exact ⟨ret_bool (by simp [wiB, h]), rfl⟩
  · go_enter Try.func58, Try.ntmps58
    go_wp2
    go_ret
    exact ⟨ret_bool (decide_eq_false (by omega)).symm, rfl⟩

/-- An image. -/
structure Img where
  base : Nat
  lim : Int
  ord : Int
  reg : Int
  nm : Nat
  mem : Nat → Nat
  np : Nat
  pg : Nat → Pg
  no : Nat
  pr : Nat → List Nat
  hd : List Nat
  pt : List Int
/-- Its slices. -/
structure ImV where
  m : Value
  p : Value
  r : Value
  h : Value
  t : Value
abbrev N64 (x : Int) : Prop := -9223372036854775808 ≤ x ∧ x ≤ 9223372036854775807
/-- Page i of a slice of pages. -/
def PgC (w : World) (bl o i : Nat) (p : Pg) : Prop := ∀ j, j < 11 → w.cell? ⟨bl, o + i * 11 + j, none⟩ = some (p.fld j)
/-- What a page may hold. -/
structure PgIn (p : Pg) : Prop where
  kd : N64 p.kd
  od : N64 p.od
  cl : N64 p.cl
  lv : N64 p.lv
  nx : N64 p.nx
  pv : N64 p.pv
  fs : N64 p.fs
  b0 : p.b0 < 18446744073709551616
  b1 : p.b1 < 18446744073709551616
  b2 : p.b2 < 18446744073709551616
  b3 : p.b3 < 18446744073709551616
/-- A slice of n elements of c cells. -/
def SlIn (w : World) (v : Value) (n : Nat) (C : Nat → Nat → Nat → Prop) : Prop :=
  n ≤ 9223372036854775807 ∧ ∃ oa oc, v = .slice oa n oc ∧ (n = 0 ∨ ∃ bl o, oa = some ⟨bl, o, none⟩ ∧ bl < w.heap.size ∧ ∀ i, i < n → C bl o i)
/-- Bytes. -/
def ByC (w : World) (f : Nat → Nat) (bl o i : Nat) : Prop := f i < 256 ∧ w.cell? ⟨bl, o + i, none⟩ = some (.int .u8 (f i : Int))
/-- Ints. -/
def InC (w : World) (l : List Int) (bl o i : Nat) : Prop := N64 (l.getD i 0) ∧ w.cell? ⟨bl, o + i, none⟩ = some (.int .i64 (l.getD i 0))
/-- Words. -/
def WdC (w : World) (l : List Nat) (bl o i : Nat) : Prop := l.getD i 0 < 18446744073709551616 ∧ w.cell? ⟨bl, o + i, none⟩ = some (.int .u64 ((l.getD i 0 : Nat) : Int))
/-- An image's data in memory. -/
structure ImD (w : World) (I : Img) (V : ImV) : Prop where
  b64 : I.base < 18446744073709551616
  lim : N64 I.lim
  ord : N64 I.ord
  reg : N64 I.reg
  mem : SlIn w V.m I.nm (ByC w I.mem)
  mcp : ∀ a n c, V.m = .slice a n c → n ≤ c
  pgs : SlIn w V.p I.np fun bl o i => PgIn (I.pg i) ∧ PgC w bl o i (I.pg i)
  prs : ∃ ws : Nat → Value, SlIn w V.r I.no fun bl o i => w.cell? ⟨bl, o + i, none⟩ = some (ws i) ∧ Src w (ws i) (I.pr i)
  hds : SlIn w V.h I.hd.length (WdC w I.hd)
  pts : SlIn w V.t I.pt.length (InC w I.pt)
/-- Its cells. -/
abbrev imO (I : Img) (V : ImV) : Obj := .cells #[.int .u64 (I.base : Int), .int .i64 I.lim, .int .i64 I.ord, .int .i64 I.reg, V.m, V.p, V.r, V.h, V.t] 31 (0, 0)
/-- As a value. -/
abbrev imA (I : Img) (V : ImV) : Value := .agg #[.int .u64 (I.base : Int), .int .i64 I.lim, .int .i64 I.ord, .int .i64 I.reg, V.m, V.p, V.r, V.h, V.t]
/-- An image in a box. -/
structure ImAt (w : World) (b : Nat) (I : Img) (V : ImV) : Prop where
  bx : w.heap[b]? = some (imO I V)
  d : ImD w I V
theorem SlIn.keep {w W : World} {v : Value} {n : Nat} {C D : Nat → Nat → Nat → Prop} (h : SlIn w v n C) (hk : Kept none' w W) (hcd : ∀ bl o i, C bl o i → D bl o i) : SlIn W v n D := by
  obtain ⟨h1, oa, oc, h2, h3⟩ := h
  refine ⟨h1, oa, oc, h2, ?_⟩
  rcases h3 with h3 | ⟨bl, o, e, hl, hc⟩
  · exact .inl h3
  · exact .inr ⟨bl, o, e, Nat.lt_of_lt_of_le hl hk.size, fun i hi => hcd _ _ _ (hc i hi)⟩
theorem PgC.keep {w W : World} {bl o i : Nat} {p : Pg} (h : PgC w bl o i p) (hk : Kept none' w W) : PgC W bl o i p := fun j hj => hk.cell (fun x => x) (h j hj)
theorem ImD.keep {w W : World} {I : Img} {V : ImV} (h : ImD w I V) (hk : Kept none' w W) : ImD W I V := by
  refine ⟨h.b64, h.lim, h.ord, h.reg, h.mem.keep hk fun bl o i hc => ⟨hc.1, hk.cell (fun x => x) hc.2⟩, h.mcp, h.pgs.keep hk fun bl o i hc => ⟨hc.1, hc.2.keep hk⟩, ?_, h.hds.keep hk fun bl o i hc => ⟨hc.1, hk.cell (fun x => x) hc.2⟩, h.pts.keep hk fun bl o i hc => ⟨hc.1, hk.cell (fun x => x) hc.2⟩⟩
  obtain ⟨ws, hp⟩ := h.prs
  exact ⟨ws, hp.keep hk fun bl o i hc => ⟨hk.cell (fun x => x) hc.1, hc.2.kept hk (fun _ _ x => x)⟩⟩
theorem ImAt.keep {w W : World} {b : Nat} {I : Img} {V : ImV} (h : ImAt w b I V) (hk : Kept none' w W) : ImAt W b I V :=
  ⟨(hk.block _ (heap_lt h.bx) (fun x => x)).trans h.bx, h.d.keep hk⟩
theorem ImAt.cells {w : World} {b : Nat} {I : Img} {V : ImV} (h : ImAt w b I V) : w.cell? ⟨b, 0, none⟩ = some (.int .u64 (I.base : Int)) ∧ w.cell? ⟨b, 1, none⟩ = some (.int .i64 I.lim) ∧ w.cell? ⟨b, 2, none⟩ = some (.int .i64 I.ord) ∧ w.cell? ⟨b, 3, none⟩ = some (.int .i64 I.reg) ∧ w.cell? ⟨b, 4, none⟩ = some V.m ∧ w.cell? ⟨b, 5, none⟩ = some V.p ∧ w.cell? ⟨b, 6, none⟩ = some V.r ∧ w.cell? ⟨b, 7, none⟩ = some V.h ∧ w.cell? ⟨b, 8, none⟩ = some V.t := by
  refine ⟨?_, ?_, ?_, ?_, ?_, ?_, ?_, ?_, ?_⟩ <;> simp [World.cell?, h.bx]
theorem ImAt.all {w : World} {b : Nat} {I : Img} {V : ImV} (h : ImAt w b I V) : (∀ x : KW w, x.v.cell? ⟨b, 0, none⟩ = some (.int .u64 (I.base : Int))) ∧ (∀ x : KW w, x.v.cell? ⟨b, 1, none⟩ = some (.int .i64 I.lim)) ∧ (∀ x : KW w, x.v.cell? ⟨b, 2, none⟩ = some (.int .i64 I.ord)) ∧ (∀ x : KW w, x.v.cell? ⟨b, 3, none⟩ = some (.int .i64 I.reg)) ∧ (∀ x : KW w, x.v.cell? ⟨b, 4, none⟩ = some V.m) ∧ (∀ x : KW w, x.v.cell? ⟨b, 5, none⟩ = some V.p) ∧ (∀ x : KW w, x.v.cell? ⟨b, 6, none⟩ = some V.r) ∧ (∀ x : KW w, x.v.cell? ⟨b, 7, none⟩ = some V.h) ∧ (∀ x : KW w, x.v.cell? ⟨b, 8, none⟩ = some V.t) :=
  ⟨fun x => (h.keep x.k).cells.1, fun x => (h.keep x.k).cells.2.1, fun x => (h.keep x.k).cells.2.2.1, fun x => (h.keep x.k).cells.2.2.2.1, fun x => (h.keep x.k).cells.2.2.2.2.1, fun x => (h.keep x.k).cells.2.2.2.2.2.1, fun x => (h.keep x.k).cells.2.2.2.2.2.2.1, fun x => (h.keep x.k).cells.2.2.2.2.2.2.2.1, fun x => (h.keep x.k).cells.2.2.2.2.2.2.2.2⟩
end Go.Proofs.Ytcgbefmjnhkdgaa
