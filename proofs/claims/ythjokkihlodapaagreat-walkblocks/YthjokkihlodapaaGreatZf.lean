import Derived.Test.YthjokkihlodapaaGreatZe
import Derived.Test.YthjokkihlodapaaGreatZd
import Derived.Laws.StructEq
set_option maxRecDepth 1000000
set_option maxHeartbeats 80000000
/- An image in memory; walk.must, within, mayBe. -/
namespace Go.Proofs.YthjokkihlodapaaGreat
open Go.RowKit
set_option linter.unusedVariables false

/-- A world that keeps all that was there in w. -/
def KW (w : World) : Type := { W : World // Kept none' w W }
def KW.v {w : World} (x : KW w) : World := x.1
theorem KW.k {w : World} (x : KW w) : Kept none' w x.v := x.2
instance (w : World) : Nonempty (KW w) := ⟨⟨w, Kept.refl _ _⟩⟩
/-- One walk of the lexical order serves every order, where all that was there is kept. -/
theorem wp_region_kept {P : Program} {id : Nat} {Q : Exit → Act → World → Prop} {a : Act} {w : World} {l : List Oper} (hm : P.follows .mixedOrders = true) (hB : Region.lexB .any l.toArray = true)
    (h : wpQuiet P l.toArray (fun w' => ∃ x : KW w, w' = x.v) (fun a' => ∀ x : KW w, Q .normal a' x.v) l a) : (Code.region id l.toArray true).wp P Q a w := by
  refine wp_region_quiet (C := fun w' => ∃ x : KW w, w' = x.v) hm hB ⟨⟨w.drew, (Kept.refl _ w).drew⟩, rfl⟩ ?_
  have e : (fun a' => ∀ w', (∃ x : KW w, w' = x.v) → Q .normal a' w') = (fun a' => ∀ x : KW w, Q .normal a' x.v) := by
    funext a'
    exact propext ⟨fun h x => h _ ⟨x, rfl⟩, fun h w' ⟨x, hx⟩ => hx ▸ h x⟩
  rw [e]
  simpa using h
/-- A callee's contract, met in such a world. -/
theorem Calls.kept_of {P : Program} {f : FuncId} {args : Array Value} {w : World} {x : KW w} {v : Value}
    (h : Calls P f args x.v fun e w' => e = .returned v ∧ Kept none' x.v w') : Calls P f args x.v fun e w'' => e = .returned v ∧ ∃ y : KW w, w'' = y.v :=
  h.mono fun _ w1 ⟨he, hk⟩ => ⟨he, ⟨w1, none_trans x.k hk⟩, rfl⟩

/-- What is thrown at a place. -/
abbrev thrE (p : Int) : Ending := .panicked [{ v := .iface 114 (.int .i64 p), recovered := false }]
/-- How a rule's call ends. -/
def askE : Option Nat → Ending
  | none => .returned (.tuple #[])
  | some p => thrE (p : Int)

theorem must_yes (p : Int) (w : World) : Calls Tryz.prog 91 #[.bool true, .int .i64 p] w fun e w' => e = .returned (.tuple #[]) ∧ w' = w := by
  go_enter Tryz.func91, Tryz.ntmps91
  go_wp2
  first | go_end0 | go_ret
  exact ⟨rfl, rfl⟩
theorem must_no (p : Int) (w : World) : Calls Tryz.prog 91 #[.bool false, .int .i64 p] w fun e w' => e = thrE p ∧ w' = w := by
  go_enter Tryz.func91, Tryz.ntmps91
  go_wp2
  exact ⟨rfl, rfl, rfl⟩
theorem must_enter (xs : Array Value) (w : World) : Sem.run Tryz.prog (callFunc 91 xs) w = .ok (.enter 91 xs) w := by
  simp [callFunc, go_sem, Tryz.func91]
  rfl
/-- Is a number from a to b? -/
def wiB (x a b : Int) : Bool := decide (a ≤ x ∧ x ≤ b)
theorem within_any (x a b : Int) (w : World) : Calls Tryz.prog 93 #[.int .i64 x, .int .i64 a, .int .i64 b] w fun e w' => e = .returned (.bool (wiB x a b)) ∧ w' = w := by
  by_cases h : a ≤ x
  · go_enter Tryz.func93, Tryz.ntmps93
    go_wp2
    go_ret
    exact ⟨ret_bool (by simp [wiB, h]), rfl⟩
  · go_enter Tryz.func93, Tryz.ntmps93
    go_wp2
    go_ret
    exact ⟨ret_bool (decide_eq_false (by omega)).symm, rfl⟩

/-- An image. -/
structure Img where
  base : Nat
  lim : Int
  ord : Int
  reg : Int
  nm : Nat
  mem : Nat → Nat
  np : Nat
  pg : Nat → Pg
  no : Nat
  pr : Nat → List Nat
  hd : List Nat
  pt : List Int
/-- Its slices. -/
structure ImV where
  m : Value
  p : Value
  r : Value
  h : Value
  t : Value
abbrev N64 (x : Int) : Prop := -9223372036854775808 ≤ x ∧ x ≤ 9223372036854775807
/-- Page i of a slice of pages. -/
def PgC (w : World) (bl o i : Nat) (p : Pg) : Prop := ∀ j, j < 11 → w.cell? ⟨bl, o + i * 11 + j, none⟩ = some (p.fld j)
/-- What a page may hold. -/
structure PgIn (p : Pg) : Prop where
  kd : N64 p.kd
  od : N64 p.od
  cl : N64 p.cl
  lv : N64 p.lv
  nx : N64 p.nx
  pv : N64 p.pv
  fs : N64 p.fs
  b0 : p.b0 < 18446744073709551616
  b1 : p.b1 < 18446744073709551616
  b2 : p.b2 < 18446744073709551616
  b3 : p.b3 < 18446744073709551616
/-- A slice of n elements of c cells. -/
def SlIn (w : World) (v : Value) (n : Nat) (C : Nat → Nat → Nat → Prop) : Prop :=
  n ≤ 9223372036854775807 ∧ ∃ oa oc, v = .slice oa n oc ∧ (n = 0 ∨ ∃ bl o, oa = some ⟨bl, o, none⟩ ∧ bl < w.heap.size ∧ ∀ i, i < n → C bl o i)
/-- Bytes. -/
def ByC (w : World) (f : Nat → Nat) (bl o i : Nat) : Prop := f i < 256 ∧ w.cell? ⟨bl, o + i, none⟩ = some (.int .u8 (f i : Int))
/-- Ints. -/
def InC (w : World) (l : List Int) (bl o i : Nat) : Prop := N64 (l.getD i 0) ∧ w.cell? ⟨bl, o + i, none⟩ = some (.int .i64 (l.getD i 0))
/-- Words. -/
def WdC (w : World) (l : List Nat) (bl o i : Nat) : Prop := l.getD i 0 < 18446744073709551616 ∧ w.cell? ⟨bl, o + i, none⟩ = some (.int .u64 ((l.getD i 0 : Nat) : Int))
/-- An image's data in memory. -/
structure ImD (w : World) (I : Img) (V : ImV) : Prop where
  b64 : I.base < 18446744073709551616
  lim : N64 I.lim
  ord : N64 I.ord
  reg : N64 I.reg
  mem : SlIn w V.m I.nm (ByC w I.mem)
  mcp : ∀ a n c, V.m = .slice a n c → n ≤ c
  pgs : SlIn w V.p I.np fun bl o i => PgIn (I.pg i) ∧ PgC w bl o i (I.pg i)
  prs : ∃ ws : Nat → Value, SlIn w V.r I.no fun bl o i => w.cell? ⟨bl, o + i, none⟩ = some (ws i) ∧ Src w (ws i) (I.pr i)
  hds : SlIn w V.h I.hd.length (WdC w I.hd)
  pts : SlIn w V.t I.pt.length (InC w I.pt)
/-- Its cells. -/
abbrev imO (I : Img) (V : ImV) : Obj := .cells #[.int .u64 (I.base : Int), .int .i64 I.lim, .int .i64 I.ord, .int .i64 I.reg, V.m, V.p, V.r, V.h, V.t] 31 (0, 0)
/-- As a value. -/
abbrev imA (I : Img) (V : ImV) : Value := .agg #[.int .u64 (I.base : Int), .int .i64 I.lim, .int .i64 I.ord, .int .i64 I.reg, V.m, V.p, V.r, V.h, V.t]
/-- An image in a box. -/
structure ImAt (w : World) (b : Nat) (I : Img) (V : ImV) : Prop where
  bx : w.heap[b]? = some (imO I V)
  d : ImD w I V
theorem SlIn.keep {w W : World} {v : Value} {n : Nat} {C D : Nat → Nat → Nat → Prop} (h : SlIn w v n C) (hk : Kept none' w W) (hcd : ∀ bl o i, C bl o i → D bl o i) : SlIn W v n D := by
  obtain ⟨h1, oa, oc, h2, h3⟩ := h
  refine ⟨h1, oa, oc, h2, ?_⟩
  rcases h3 with h3 | ⟨bl, o, e, hl, hc⟩
  · exact .inl h3
  · exact .inr ⟨bl, o, e, Nat.lt_of_lt_of_le hl hk.size, fun i hi => hcd _ _ _ (hc i hi)⟩
theorem PgC.keep {w W : World} {bl o i : Nat} {p : Pg} (h : PgC w bl o i p) (hk : Kept none' w W) : PgC W bl o i p := fun j hj => hk.cell (fun x => x) (h j hj)
theorem ImD.keep {w W : World} {I : Img} {V : ImV} (h : ImD w I V) (hk : Kept none' w W) : ImD W I V := by
  refine ⟨h.b64, h.lim, h.ord, h.reg, h.mem.keep hk fun bl o i hc => ⟨hc.1, hk.cell (fun x => x) hc.2⟩, h.mcp, h.pgs.keep hk fun bl o i hc => ⟨hc.1, hc.2.keep hk⟩, ?_, h.hds.keep hk fun bl o i hc => ⟨hc.1, hk.cell (fun x => x) hc.2⟩, h.pts.keep hk fun bl o i hc => ⟨hc.1, hk.cell (fun x => x) hc.2⟩⟩
  obtain ⟨ws, hp⟩ := h.prs
  exact ⟨ws, hp.keep hk fun bl o i hc => ⟨hk.cell (fun x => x) hc.1, hc.2.kept hk (fun _ _ x => x)⟩⟩
theorem ImAt.keep {w W : World} {b : Nat} {I : Img} {V : ImV} (h : ImAt w b I V) (hk : Kept none' w W) : ImAt W b I V :=
  ⟨(hk.block _ (heap_lt h.bx) (fun x => x)).trans h.bx, h.d.keep hk⟩
theorem ImAt.cells {w : World} {b : Nat} {I : Img} {V : ImV} (h : ImAt w b I V) : w.cell? ⟨b, 0, none⟩ = some (.int .u64 (I.base : Int)) ∧ w.cell? ⟨b, 1, none⟩ = some (.int .i64 I.lim) ∧ w.cell? ⟨b, 2, none⟩ = some (.int .i64 I.ord) ∧ w.cell? ⟨b, 3, none⟩ = some (.int .i64 I.reg) ∧ w.cell? ⟨b, 4, none⟩ = some V.m ∧ w.cell? ⟨b, 5, none⟩ = some V.p ∧ w.cell? ⟨b, 6, none⟩ = some V.r ∧ w.cell? ⟨b, 7, none⟩ = some V.h ∧ w.cell? ⟨b, 8, none⟩ = some V.t := by
  refine ⟨?_, ?_, ?_, ?_, ?_, ?_, ?_, ?_, ?_⟩ <;> simp [World.cell?, h.bx]
theorem ImAt.all {w : World} {b : Nat} {I : Img} {V : ImV} (h : ImAt w b I V) : (∀ x : KW w, x.v.cell? ⟨b, 0, none⟩ = some (.int .u64 (I.base : Int))) ∧ (∀ x : KW w, x.v.cell? ⟨b, 1, none⟩ = some (.int .i64 I.lim)) ∧ (∀ x : KW w, x.v.cell? ⟨b, 2, none⟩ = some (.int .i64 I.ord)) ∧ (∀ x : KW w, x.v.cell? ⟨b, 3, none⟩ = some (.int .i64 I.reg)) ∧ (∀ x : KW w, x.v.cell? ⟨b, 4, none⟩ = some V.m) ∧ (∀ x : KW w, x.v.cell? ⟨b, 5, none⟩ = some V.p) ∧ (∀ x : KW w, x.v.cell? ⟨b, 6, none⟩ = some V.r) ∧ (∀ x : KW w, x.v.cell? ⟨b, 7, none⟩ = some V.h) ∧ (∀ x : KW w, x.v.cell? ⟨b, 8, none⟩ = some V.t) :=
  ⟨fun x => (h.keep x.k).cells.1, fun x => (h.keep x.k).cells.2.1, fun x => (h.keep x.k).cells.2.2.1, fun x => (h.keep x.k).cells.2.2.2.1, fun x => (h.keep x.k).cells.2.2.2.2.1, fun x => (h.keep x.k).cells.2.2.2.2.2.1, fun x => (h.keep x.k).cells.2.2.2.2.2.2.1, fun x => (h.keep x.k).cells.2.2.2.2.2.2.2.1, fun x => (h.keep x.k).cells.2.2.2.2.2.2.2.2⟩
end Go.Proofs.YthjokkihlodapaaGreat
/- Rule 3. -/
namespace Go.Proofs.YthjokkihlodapaaGreat
open Go.RowKit
set_option linter.unusedVariables false

/-- The last call of a region is must, and it does not hold. -/
theorem ends_must {Q : Exit → Act → World → Prop} {o : Oper} {a : Act} {w : World} {x y : Operand} {ts : Array TypeId} {p : Int} (ho : o.op = .call { callee := .value (.func 91), args := #[x, y], argTypes := ts })
    (hx : a.eval x = .bool false) (hy : a.eval y = .int .i64 p) (h : ∀ a', a'.defers = a.defers → Q (.panic [{ v := .iface 114 (.int .i64 p), recovered := false }]) a' w) : EndsAt Tryz.prog Q o a w := by
  refine ends_call must_enter ho ?_
  have e : (#[x, y] : Array Operand).map a.eval = #[.bool false, .int .i64 p] := by simp [hx, hy]
  rw [e]
  refine (must_no p w).mono ?_
  rintro e w1 ⟨rfl, rfl⟩
  exact ⟨_, rfl, h⟩
/-- Are a page's numbers in range? -/
def rngB (k np : Int) (p : Pg) : Bool := wiB p.kd 0 4 && (wiB p.od 0 k && (wiB p.cl 0 7 && (wiB p.lv 0 256 && (wiB p.nx (-1) (np - 1) && (wiB p.pv (-1) (np - 1) && wiB p.fs (-1) 255)))))
/-- A page in a box. -/
abbrev pgO (p : Pg) : Obj := .cells #[.int .i64 p.kd, .int .i64 p.od, .int .i64 p.cl, .int .i64 p.lv, .int .i64 p.nx, .int .i64 p.pv, .int .i64 p.fs, .int .u64 (p.b0 : Int), .int .u64 (p.b1 : Int), .int .u64 (p.b2 : Int), .int .u64 (p.b3 : Int)] 52 (0, 0)
theorem pgO_cells {w : World} {g : Nat} {p : Pg} (h : w.heap[g]? = some (pgO p)) : w.cell? ⟨g, 0, none⟩ = some (.int .i64 p.kd) ∧ w.cell? ⟨g, 1, none⟩ = some (.int .i64 p.od) ∧ w.cell? ⟨g, 2, none⟩ = some (.int .i64 p.cl) ∧ w.cell? ⟨g, 3, none⟩ = some (.int .i64 p.lv) ∧ w.cell? ⟨g, 4, none⟩ = some (.int .i64 p.nx) ∧ w.cell? ⟨g, 5, none⟩ = some (.int .i64 p.pv) ∧ w.cell? ⟨g, 6, none⟩ = some (.int .i64 p.fs) := by
  refine ⟨?_, ?_, ?_, ?_, ?_, ?_, ?_⟩ <;> simp [World.cell?, h]
theorem ImAt.page {w : World} {b : Nat} {I : Img} {V : ImV} (h : ImAt w b I V) (i : Nat) (hi : i < I.np) : ∃ bl o oc, V.p = .slice (some ⟨bl, o, none⟩) I.np oc ∧ PgIn (I.pg i) ∧ PgC w bl o i (I.pg i) := by
  obtain ⟨h1, oa, oc, h2, h3⟩ := h.d.pgs
  rcases h3 with h3 | ⟨bl, o, e, hl, hc⟩
  · omega
  · subst e
    exact ⟨bl, o, oc, h2, hc i hi⟩
theorem PgC.c {w : World} {bl o i : Nat} {p : Pg} (h : PgC w bl o i p) : w.cell? ⟨bl, o + i * 11, none⟩ = some (.int .i64 p.kd) ∧ w.cell? ⟨bl, o + i * 11 + 1, none⟩ = some (.int .i64 p.od) ∧ w.cell? ⟨bl, o + i * 11 + 2, none⟩ = some (.int .i64 p.cl) ∧ w.cell? ⟨bl, o + i * 11 + 3, none⟩ = some (.int .i64 p.lv) ∧ w.cell? ⟨bl, o + i * 11 + 4, none⟩ = some (.int .i64 p.nx) ∧ w.cell? ⟨bl, o + i * 11 + 5, none⟩ = some (.int .i64 p.pv) ∧ w.cell? ⟨bl, o + i * 11 + 6, none⟩ = some (.int .i64 p.fs) ∧ w.cell? ⟨bl, o + i * 11 + 7, none⟩ = some (.int .u64 (p.b0 : Int)) ∧ w.cell? ⟨bl, o + i * 11 + 8, none⟩ = some (.int .u64 (p.b1 : Int)) ∧ w.cell? ⟨bl, o + i * 11 + 9, none⟩ = some (.int .u64 (p.b2 : Int)) ∧ w.cell? ⟨bl, o + i * 11 + 10, none⟩ = some (.int .u64 (p.b3 : Int)) :=
  ⟨h 0 (by decide), h 1 (by decide), h 2 (by decide), h 3 (by decide), h 4 (by decide), h 5 (by decide), h 6 (by decide), h 7 (by decide), h 8 (by decide), h 9 (by decide), h 10 (by decide)⟩

set_option maxRecDepth 6000 in
set_option maxHeartbeats 8000000 in
theorem askRanges_any (b : Nat) (I : Img) (V : ImV) (w : World) (hI : ImAt w b I V) (hnp : I.np ≤ 1024) :
    Calls Tryz.prog 61 #[.pointer (some ⟨b, 0, none⟩)] w fun e w' => e = askE (fst1 I.np fun i => rngB I.ord I.np (I.pg i)) ∧ Kept none' w w' := by
  have HI := hid hI
  obtain ⟨h1, oa, oc, hv, h3⟩ := hI.d.pgs
  obtain ⟨c0, c1, c2, c3, c4, c5, c6, c7, c8⟩ := hI.cells
  rw [hv] at c5
  obtain ⟨n, hn⟩ : ∃ n, n = I.np := ⟨_, rfl⟩
  rw [← hn] at c5 hv h1 hnp
  have HN := hid hn
  have FB := hid (show ∀ i, i < n → (∀ a, a < i → rngB I.ord I.np (I.pg a) = true) → rngB I.ord I.np (I.pg i) = false → thrE (i : Int) = askE (fst1 I.np fun i => rngB I.ord I.np (I.pg i)) from fun i h1 h2 h3 => by rw [fst1_bad (by omega) h2 h3]; rfl)
  have FG := hid (show (∀ a, a < n → rngB I.ord I.np (I.pg a) = true) → Ending.returned (.tuple #[]) = askE (fst1 I.np fun i => rngB I.ord I.np (I.pg i)) from fun h1 => by rw [fst1_ok (fun a ha => h1 a (by rw [hn]; exact ha))]; rfl)
  generalize askE (fst1 I.np fun i => rngB I.ord I.np (I.pg i)) = EE at *
  have HV := hid hv
  clear hn hv hI h3
  go_enter Tryz.func61, Tryz.ntmps61
  go_wp2_with fail
  go_loopw [16] (fun i W => ∃ a : Nat, a ≤ n ∧ i = .int .i64 a ∧ Hid (Kept none' w W ∧ ∀ x, x < a → rngB I.ord I.np (I.pg x) = true)) (fun i _ => n - (intOf i).toNat)
  case atStart => exact ⟨0, Nat.zero_le _, rfl, hid ⟨Kept.refl _ _, fun x hx => by omega⟩⟩
  case round =>
    obtain ⟨a, ha, rfl, hR⟩ := hrel
    by_cases hlt : a < n
    · have hai : (a : Int) < (n : Int) := by omega
      obtain ⟨bl, o, oc', hv', hpi, hpc⟩ := (HI.out.keep hR.out.1).page a (by rw [← HN.out]; exact hlt)
      rw [HV.out] at hv'
      injection hv' with e1 e2 e3
      subst e1
      obtain ⟨d0, d1, d2, d3, d4, d5, d6, d7, d8, d9, d10⟩ := hpc.c
      have FA := hid (show rngB I.ord (n : Int) (I.pg a) = false → thrE (a : Int) = EE from fun h => FB.out a hlt hR.out.2 (by rw [← HN.out]; exact h))
      have GA := hid (show rngB I.ord (n : Int) (I.pg a) = true → ∀ x, x < a + 1 → rngB I.ord I.np (I.pg x) = true from fun h x hx => by
        by_cases e : x = a
        · rw [e, ← HN.out]; exact h
        · exact hR.out.2 x (by omega))
      have HW := hid (show (wr.alloc (pgO (I.pg a))).heap[wr.heap.size]? = some (pgO (I.pg a)) from heap_new _ _)
      have HK := hid (show Kept none' wr (wr.alloc (pgO (I.pg a))) from (Kept.refl _ _).alloc _)
      have HO := hid (((HI.out.keep hR.out.1).keep HK.out).cells.2.2.1)
      generalize I.pg a = p at *
      clear hpi hpc e2 e3
      go_wp2_with fail
      generalize wr.alloc (pgO p) = W1 at *
      generalize wr.heap.size = g at *
      clear d0 d1 d2 d3 d4 d5 d6 d7 d8 d9 d10 c0 c1 c2 c3 c4 c5 c6 c7 c8
      obtain ⟨p0, p1, p2, p3, p4, p5, p6⟩ := pgO_cells HW.out
      have c2 := HO.out
      refine (within_any _ _ _ _).mono ?_
      rintro e w1 ⟨rfl, rfl⟩
      go_wp2_with fail
      cases hb0 : wiB p.kd 0 4 with
      | false =>
        refine (must_no _ _).mono ?_
        rintro e w1 ⟨rfl, rfl⟩
        exact ⟨rfl, FA.out (by simp [rngB, hb0]), none_trans hR.out.1 HK.out⟩
      | true =>
        refine (must_yes _ _).mono ?_
        rintro e w1 ⟨rfl, rfl⟩
        go_wp2_with fail
        cases hb1 : wiB p.od 0 I.ord with
        | false =>
          have HWI := hid (fun W => within_any p.od 0 I.ord W)
          rw [hb1] at HWI
          refine wp_region_ends_lit (by kernel_rfl) (by kernel_rfl) (by exact List.cons_ne_nil _ _) ?_; dsimp only [List.dropLast, List.getLast]
          repeat (go_big_quiet_step (first | (go_at_call 93; exact Calls.quiet_of_same (HWI.out _))))
          refine wpQuiet_nil ?_
          refine ⟨rfl, ?_⟩
          rintro _ ⟨nq, rfl⟩
          exact ends_must (p := (a : Int)) rfl rfl rfl fun _ hd => ⟨hd, FA.out (by simp [rngB, hb0, hb1]), (none_trans hR.out.1 HK.out).drewN nq⟩
        | true =>
          have HWI := hid (fun W => within_any p.od 0 I.ord W)
          rw [hb1] at HWI
          have HMY := hid (fun W => must_yes (a : Int) W)
          go_quiet (first | (go_at_call 93; exact Calls.quiet_of_same (HWI.out _)) | (go_at_call 91; exact Calls.quiet_of_same (HMY.out _)))
          clear HWI HMY
          go_wp2_with fail
          refine (within_any _ _ _ _).mono ?_
          rintro e w1 ⟨rfl, rfl⟩
          go_wp2_with fail
          cases hb2 : wiB p.cl 0 7 with
          | false =>
            refine (must_no _ _).mono ?_
            rintro e w1 ⟨rfl, rfl⟩
            exact ⟨rfl, FA.out (by simp [rngB, hb0, hb1, hb2]), (none_trans hR.out.1 HK.out).drewN nq⟩
          | true =>
            refine (must_yes _ _).mono ?_
            rintro e w1 ⟨rfl, rfl⟩
            go_wp2_with fail
            refine (within_any _ _ _ _).mono ?_
            rintro e w1 ⟨rfl, rfl⟩
            go_wp2_with fail
            cases hb3 : wiB p.lv 0 256 with
            | false =>
              refine (must_no _ _).mono ?_
              rintro e w1 ⟨rfl, rfl⟩
              exact ⟨rfl, FA.out (by simp [rngB, hb0, hb1, hb2, hb3]), (none_trans hR.out.1 HK.out).drewN nq⟩
            | true =>
              refine (must_yes _ _).mono ?_
              rintro e w1 ⟨rfl, rfl⟩
              go_wp2_with fail
              refine (within_any _ _ _ _).mono ?_
              rintro e w1 ⟨rfl, rfl⟩
              go_wp2_with fail
              cases hb4 : wiB p.nx (-1) ((n : Int) - 1) with
              | false =>
                refine (must_no _ _).mono ?_
                rintro e w1 ⟨rfl, rfl⟩
                exact ⟨rfl, FA.out (by simp [rngB, hb0, hb1, hb2, hb3, hb4]), (none_trans hR.out.1 HK.out).drewN nq⟩
              | true =>
                refine (must_yes _ _).mono ?_
                rintro e w1 ⟨rfl, rfl⟩
                go_wp2_with fail
                refine (within_any _ _ _ _).mono ?_
                rintro e w1 ⟨rfl, rfl⟩
                go_wp2_with fail
                cases hb5 : wiB p.pv (-1) ((n : Int) - 1) with
                | false =>
                  refine (must_no _ _).mono ?_
                  rintro e w1 ⟨rfl, rfl⟩
                  exact ⟨rfl, FA.out (by simp [rngB, hb0, hb1, hb2, hb3, hb4, hb5]), (none_trans hR.out.1 HK.out).drewN nq⟩
                | true =>
                  refine (must_yes _ _).mono ?_
                  rintro e w1 ⟨rfl, rfl⟩
                  go_wp2_with fail
                  refine (within_any _ _ _ _).mono ?_
                  rintro e w1 ⟨rfl, rfl⟩
                  go_wp2_with fail
                  cases hb6 : wiB p.fs (-1) 255 with
                  | false =>
                    refine (must_no _ _).mono ?_
                    rintro e w1 ⟨rfl, rfl⟩
                    exact ⟨rfl, FA.out (by simp [rngB, hb0, hb1, hb2, hb3, hb4, hb5, hb6]), (none_trans hR.out.1 HK.out).drewN nq⟩
                  | true =>
                    refine (must_yes _ _).mono ?_
                    rintro e w1 ⟨rfl, rfl⟩
                    go_wp2_with fail
                    have R2 := hid (show Kept none' w _ ∧ _ from ⟨(none_trans hR.out.1 HK.out).drewN nq, GA.out (by simp [rngB, hb0, hb1, hb2, hb3, hb4, hb5, hb6])⟩)
                    go_round
                    case rel => exact ⟨a + 1, by omega, by go_num, R2⟩
                    case measure => simp [intOf]; omega
    · have hae : a = n := by omega
      have hai : ¬ (a : Int) < (n : Int) := by omega
      go_wp2_with fail
      first | go_end0 | go_ret
      exact ⟨FG.out (fun x hx => hR.out.2 x (by omega)), hR.out.1⟩
end Go.Proofs.YthjokkihlodapaaGreat
