import Derived.Test.YthjokkihlodapaaGreatProg
import Derived.WalkKit
import Derived.WalkSpells
import Derived.WalkLawsBesides
import Derived.Outline
import Derived.Laws.CopyOwn
import Derived.RegionTactic
import Derived.ChangeAlike
import Derived.Deep.QuietTactic
import Derived.BigQuiet
import Derived.Defers
import Derived.Recover
import Derived.Lib.AppendZerosOnto
import Derived.Deep.RegionLaw
import Derived.Laws.Bits64b
set_option maxRecDepth 1000000
set_option maxHeartbeats 80000000
/- What is kept of memory; rows of bytes; where a space lies; the contracts of Regions and End. -/
namespace Go.Proofs.YthjokkihlodapaaGreat.M
open Go.RowKit
set_option linter.unusedVariables false

theorem hid {p : Prop} (h : p) : Hid p := h
theorem ret_int {k : IntKind} {a b : Int} (h : a = b) : Ending.returned (.int k a) = .returned (.int k b) := by rw [h]
theorem ret_bool {a b : Bool} (h : a = b) : Ending.returned (.bool a) = .returned (.bool b) := by rw [h]
theorem wrap_u8 (n : Int) : IntKind.u8.wrap n = n % 2 ^ 8 := IntKind.wrap_u8' n
theorem wrap_u64 (n : Int) : IntKind.u64.wrap n = n % 2 ^ 64 := IntKind.wrap_u64 n

/-- Of the blocks that were there all but those of S are as they were. -/
structure Kept (S : Nat → Prop) (w w' : World) : Prop where
  os : w'.os = w.os
  tape : w'.tape = w.tape
  output : w'.output = w.output
  size : w.heap.size ≤ w'.heap.size
  block : ∀ k, k < w.heap.size → ¬ S k → w'.heap[k]? = w.heap[k]?

theorem Kept.refl (S : Nat → Prop) (w : World) : Kept S w w := ⟨rfl, rfl, rfl, Nat.le_refl _, fun _ _ _ => rfl⟩
theorem Kept.trans {S T U : Nat → Prop} {a b c : World} (h : Kept S a b) (k : Kept T b c) (hS : ∀ x, x < a.heap.size → S x → U x) (hT : ∀ x, x < a.heap.size → T x → U x) : Kept U a c :=
  ⟨k.os.trans h.os, k.tape.trans h.tape, k.output.trans h.output, Nat.le_trans h.size k.size, fun i hi hU => (k.block i (Nat.lt_of_lt_of_le hi h.size) (fun x => hU (hT i hi x))).trans (h.block i hi (fun x => hU (hS i hi x)))⟩
theorem Kept.mono {S T : Nat → Prop} {a b : World} (h : Kept S a b) (hS : ∀ x, x < a.heap.size → S x → T x) : Kept T a b :=
  ⟨h.os, h.tape, h.output, h.size, fun i hi hU => h.block i hi (fun x => hU (hS i hi x))⟩
theorem Kept.below {S : Nat → Prop} {B : Nat} {a b : World} (h : Kept S a b) (hB : B ≤ a.heap.size) (hS : ∀ x, S x → B ≤ x) : Below B a b :=
  ⟨h.os, h.tape, h.output, h.size, fun i hi => h.block i (by omega) (fun x => by have := hS i x; omega)⟩
theorem Kept.drew {S : Nat → Prop} {a b : World} (h : Kept S a b) : Kept S a b.drew := ⟨h.os, h.tape, h.output, h.size, h.block⟩
theorem Kept.drewN {S : Nat → Prop} {a b : World} (h : Kept S a b) (n : Nat) : Kept S a (b.drewN n) := ⟨h.os, h.tape, h.output, h.size, h.block⟩
theorem Kept.alloc {S : Nat → Prop} {a b : World} (h : Kept S a b) (o : Obj) : Kept S a (b.alloc o) :=
  ⟨h.os, h.tape, h.output, by simp; have := h.size; omega, fun i hi hU => by rw [Below.heap_alloc _ _ _ (by have := h.size; omega)]; exact h.block i hi hU⟩
theorem Kept.setCell {S : Nat → Prop} {a b : World} (h : Kept S a b) {p : Addr} (hp : p.block < a.heap.size → S p.block) (u : Value) : Kept S a (b.setCell p u) :=
  ⟨h.os, h.tape, h.output, by simp; exact h.size, fun i hi hU => by rw [Below.heap_setCell b p u i (fun e => hU (by rw [e]; exact hp (e ▸ hi)))]; exact h.block i hi hU⟩
theorem Kept.setRow {S : Nat → Prop} {a b : World} (h : Kept S a b) {g : Nat} (hg : g < a.heap.size → S g) (cs : Array Value) : Kept S a (b.setRow g cs) :=
  ⟨h.os, h.tape, h.output, by simp [World.setRow]; exact h.size, fun i hi hU => by rw [setRow_other b g i _ (fun e => hU (by rw [e]; exact hg (e ▸ hi)))]; exact h.block i hi hU⟩

theorem lt_of_cell {w : World} {p : Addr} {v : Value} (h : w.cell? p = some v) : p.block < w.heap.size := by
  rcases Nat.lt_or_ge p.block w.heap.size with h1 | h1
  · exact h1
  · exfalso
    simp [World.cell?, Array.getElem?_eq_none h1] at h
theorem Kept.cell {S : Nat → Prop} {a b : World} (h : Kept S a b) {p : Addr} {v : Value} (hp : ¬ S p.block) (hc : a.cell? p = some v) : b.cell? p = some v := by
  rw [← hc]
  exact World.cell?_of_block (h.block _ (lt_of_cell hc) hp)

theorem heap_new (w : World) (o : Obj) : (w.alloc o).heap[w.heap.size]? = some o := by
  show (w.heap.push o)[w.heap.size]? = _
  simp

/-- The cells of a row of bytes. -/
def bcells (rs : List Nat) : Array Value := (rs.map fun (x : Nat) => Value.int .u8 (x : Int)).toArray
theorem bcells_size (rs : List Nat) : (bcells rs).size = rs.length := by simp [bcells]

/-- The blocks of a space. -/
def own (b : Nat) (ao : Option Nat) : Nat → Prop := fun x => x = b ∨ ao = some x
def none' : Nat → Prop := fun _ => False

structure Cfg (base R lim : Nat) : Prop where
  b1 : 1 ≤ base
  l1 : 1 ≤ lim
  l2 : lim ≤ 64
  r1 : 4096 ≤ R
  r2 : R ≤ 1048576
  lr : lim * R ≤ 4194304
  be : base + lim * R ≤ 9223372036854775808

/-- The row of a space's bytes: n of them are committed, f tells them. -/
def RowAt (w : World) (b : Nat) (ao : Option Nat) (n cap : Nat) (f : Nat → Nat) : Prop :=
  match ao with
  | none => n = 0 ∧ cap = 0
  | some g => g ≠ b ∧ ∃ rs : List Nat, rs.length = cap ∧ w.heap[g]? = some (.cells (bcells rs) 5 (0, 0)) ∧ n ≤ cap ∧ (∀ i, i < n → rs.getD i 0 = f i) ∧ ∀ i, rs.getD i 0 < 256

def adr (ao : Option Nat) : Option Addr := ao.map fun g => ⟨g, 0, none⟩

/-- A space: its struct in block b, its bytes in block ao. -/
structure SpaceAt (w : World) (b : Nat) (ao : Option Nat) (base R lim n : Nat) (f : Nat → Nat) : Prop where
  cfg : Cfg base R lim
  kn : ∃ k, n = k * R ∧ k ≤ lim
  ex : ∃ cap, w.heap[b]? = some (.cells #[.int .u64 (base : Int), .int .u64 (R : Int), .int .i64 (lim : Int), .slice (adr ao) n cap] 122 (0, 0)) ∧ RowAt w b ao n cap f

theorem SpaceAt.blt {w b ao base R lim n f} (h : SpaceAt w b ao base R lim n f) : b < w.heap.size := by
  obtain ⟨cap, hb, _⟩ := h.ex
  exact (Array.getElem?_eq_some_iff.1 hb).1
theorem SpaceAt.glt {w b g base R lim n f} (h : SpaceAt w b (some g) base R lim n f) : g < w.heap.size := by
  obtain ⟨cap, _, _, rs, _, hg, _⟩ := h.ex
  exact (Array.getElem?_eq_some_iff.1 hg).1
theorem SpaceAt.own_lt {w b ao base R lim n f} (h : SpaceAt w b ao base R lim n f) (x : Nat) (hx : own b ao x) : x < w.heap.size := by
  rcases hx with rfl | rfl
  · exact h.blt
  · exact h.glt
theorem SpaceAt.nle {w b ao base R lim n f} (h : SpaceAt w b ao base R lim n f) : n ≤ lim * R := by
  obtain ⟨k, rfl, hk⟩ := h.kn
  exact Nat.mul_le_mul_right _ hk
theorem SpaceAt.kept {w w' b ao base R lim n f} {S : Nat → Prop} (h : SpaceAt w b ao base R lim n f) (k : Kept S w w') (hS : ∀ x, own b ao x → ¬ S x) : SpaceAt w' b ao base R lim n f := by
  have hl := h.own_lt
  obtain ⟨cap, hb, hr⟩ := h.ex
  refine ⟨h.cfg, h.kn, cap, (k.block b (hl b (Or.inl rfl)) (hS b (Or.inl rfl))).trans hb, ?_⟩
  cases ao with
  | none => exact hr
  | some g =>
    obtain ⟨hne, rs, h1, h2, h3⟩ := hr
    exact ⟨hne, rs, h1, (k.block g (hl g (Or.inr rfl)) (hS g (Or.inr rfl))).trans h2, h3⟩
theorem SpaceAt.keep {w w' b ao base R lim n f} (h : SpaceAt w b ao base R lim n f) (k : Kept none' w w') : SpaceAt w' b ao base R lim n f :=
  h.kept k (fun _ _ x => x)
theorem SpaceAt.c0 {w b ao base R lim n f} (h : SpaceAt w b ao base R lim n f) : w.cell? ⟨b, 0, none⟩ = some (.int .u64 (base : Int)) := by
  obtain ⟨cap, hb, _⟩ := h.ex
  simp [World.cell?, hb]
theorem SpaceAt.c1 {w b ao base R lim n f} (h : SpaceAt w b ao base R lim n f) : w.cell? ⟨b, 1, none⟩ = some (.int .u64 (R : Int)) := by
  obtain ⟨cap, hb, _⟩ := h.ex
  simp [World.cell?, hb]
theorem SpaceAt.c2 {w b ao base R lim n f} (h : SpaceAt w b ao base R lim n f) : w.cell? ⟨b, 2, none⟩ = some (.int .i64 (lim : Int)) := by
  obtain ⟨cap, hb, _⟩ := h.ex
  simp [World.cell?, hb]
theorem SpaceAt.c3 {w b ao base R lim n f} (h : SpaceAt w b ao base R lim n f) : ∃ cap, w.cell? ⟨b, 3, none⟩ = some (.slice (adr ao) n cap) := by
  obtain ⟨cap, hb, _⟩ := h.ex
  exact ⟨cap, by simp [World.cell?, hb]⟩
theorem SpaceAt.fb {w b ao base R lim n f} (h : SpaceAt w b ao base R lim n f) (i : Nat) : w.frozen? ⟨b, i, none⟩ = false := by
  obtain ⟨cap, hb, _⟩ := h.ex
  simp [World.frozen?, hb]

theorem regions_any (b ao base R lim n f) (w : World) (h : SpaceAt w b ao base R lim n f) :
    Calls Tryz.prog 87 #[.pointer (some ⟨b, 0, none⟩)] w fun e w' => e = .returned (.int .i64 ((n / R : Nat) : Int)) ∧ ∃ m, w' = w.drewN m := by
  obtain ⟨cap, h3⟩ := h.c3
  have h1 := h.c1
  have hn := h.nle
  have hc := h.cfg
  have r1 := hc.r1
  have r2 := hc.r2
  have hn2 : n ≤ 4194304 := Nat.le_trans hn hc.lr
  have r0 : ¬ (R : Int) = 0 := by omega
  have E := hid (show wrap64 ((n : Int) / (R : Int)) = ((n / R : Nat) : Int) by
    have hq : n / R ≤ n := Nat.div_le_self _ _
    rw [← Int.natCast_ediv]
    generalize n / R = q at hq
    unfold wrap64
    omega)
  clear h hc hn
  go_enter Tryz.func87, Tryz.ntmps87
  go_wp2
  go_quiet (fail)
  go_wp2
  go_ret
  exact ⟨ret_int E.out, _, rfl⟩

theorem end_any (b ao base R lim n f) (w : World) (h : SpaceAt w b ao base R lim n f) :
    Calls Tryz.prog 82 #[.pointer (some ⟨b, 0, none⟩)] w fun e w' => e = .returned (.int .u64 ((base + n : Nat) : Int)) ∧ ∃ m, w' = w.drewN m := by
  obtain ⟨cap, h3⟩ := h.c3
  have h0 := h.c0
  have hn := h.nle
  have hc := h.cfg
  have be := hc.be
  have lr := hc.lr
  have hn2 : n ≤ 4194304 := Nat.le_trans hn hc.lr
  have hbn : base + n ≤ 9223372036854775808 := by omega
  have E := hid (show (base : Int) + (n : Int) = ((base + n : Nat) : Int) by simp)
  clear h hc hn lr be
  go_enter Tryz.func82, Tryz.ntmps82
  go_wp2
  go_quiet (fail)
  go_wp2
  go_ret
  exact ⟨ret_int E.out, _, rfl⟩
end Go.Proofs.YthjokkihlodapaaGreat.M
/- The place of bytes; what is thrown is caught; Byte, SetByte. -/
namespace Go.Proofs.YthjokkihlodapaaGreat.M
open Go.RowKit
set_option linter.unusedVariables false

theorem at_zero (b : Nat) (p : Int) (w : World) :
    Calls Tryz.prog 90 #[.pointer (some ⟨b, 0, none⟩), .int .u64 p, .int .u64 0] w fun e w' => e = .returned (.slice none 0 0) ∧ w' = w := by
  go_enter Tryz.func90, Tryz.ntmps90
  go_wp2
  go_ret
  exact ⟨rfl, rfl⟩

/-- The k bytes from p on are there (k is not 0). -/
def In (base n p k : Nat) : Prop := base ≤ p ∧ p + k ≤ base + n

theorem at_in (b g base R lim n f) (p k : Nat) (w : World) (h : SpaceAt w b (some g) base R lim n f) (hk : 0 < k) (hin : In base n p k) :
    Calls Tryz.prog 90 #[.pointer (some ⟨b, 0, none⟩), .int .u64 (p : Int), .int .u64 (k : Int)] w fun e w' => (∃ c, e = .returned (.slice (some ⟨g, p - base, none⟩) k c)) ∧ ∃ m, w' = w.drewN m := by
  have hH := h
  have h0 := h.c0
  have hn := h.nle
  have hc := h.cfg
  have be := hc.be
  have lr := hc.lr
  obtain ⟨cap, hb, _, rs, hrl, hg, hnc, _, _⟩ := h.ex
  have h3 : w.cell? ⟨b, 3, none⟩ = some (.slice (some ⟨g, 0, none⟩) n cap) := by simp [World.cell?, hb, adr]
  obtain ⟨hp1, hp2⟩ := hin
  have HH := hid hH
  obtain ⟨o, rfl⟩ : ∃ o, p = base + o := ⟨p - base, by omega⟩
  have e1 : base + o - base = o := by omega
  rw [e1]
  have ho : o + k ≤ n := by omega
  have hoc : o + k ≤ cap := by omega
  have hn2 : n ≤ 4194304 := by omega
  have hbn : base + n ≤ 9223372036854775808 := by omega
  clear h hc hH lr be hn hg hrl hb hp1 hp2 e1
  go_enter Tryz.func90, Tryz.ntmps90
  go_wp2_with (go_at_call 82; refine (end_any b (some g) base R lim n f _ HH.out).mono ?_; rintro e w' ⟨rfl, m, rfl⟩)
  go_ret
  refine ⟨⟨cap - o, ?_⟩, _, rfl⟩
  show Ending.returned (.slice (some ⟨g, base + o - base, none⟩) (base + o - base + k - (base + o - base)) (cap - (base + o - base))) = _
  have e1 : base + o - base = o := by omega
  have e2 : o + k - o = k := by omega
  rw [e1, e2]

/-- What the place of bytes that are not there throws. -/
def thrown : List PanicEntry := [{ v := .iface 42 (.int .i64 4), recovered := false }]

theorem at_out (b ao base R lim n f) (p k : Nat) (w : World) (h : SpaceAt w b ao base R lim n f) (hp64 : p < 18446744073709551616) (hk64 : k < 18446744073709551616) (hk : 0 < k) (hin : ¬ In base n p k) :
    Calls Tryz.prog 90 #[.pointer (some ⟨b, 0, none⟩), .int .u64 (p : Int), .int .u64 (k : Int)] w fun e w' => e = .panicked thrown ∧ ∃ m, w' = w.drewN m := by
  have h0 := h.c0
  have hn := h.nle
  have hc := h.cfg
  have be := hc.be
  have lr := hc.lr
  have HH := hid h
  have hn2 : n ≤ 4194304 := by omega
  have hbn : base + n ≤ 9223372036854775808 := by omega
  by_cases h1 : p < base
  · clear h hc lr be hn hin
    go_enter Tryz.func90, Tryz.ntmps90
    go_wp2_with (go_at_call 82; refine (end_any b ao base R lim n f _ HH.out).mono ?_; rintro e w' ⟨rfl, m, rfl⟩)
    exact ⟨rfl, rfl, _, rfl⟩
  · by_cases h2 : base + n < p
    · clear h hc lr be hn hin
      go_enter Tryz.func90, Tryz.ntmps90
      go_wp2_with (go_at_call 82; refine (end_any b ao base R lim n f _ HH.out).mono ?_; rintro e w' ⟨rfl, m, rfl⟩)
      exact ⟨rfl, rfl, _, rfl⟩
    · have h3 : base + n - p < k := by unfold In at hin; omega
      have h4 : (base : Int) + n - p < k := by omega
      clear h hc lr be hn hin h3
      go_enter Tryz.func90, Tryz.ntmps90
      go_wp2_with (go_at_call 82; refine (end_any b ao base R lim n f _ HH.out).mono ?_; rintro e w' ⟨rfl, m, rfl⟩)
      exact ⟨rfl, rfl, _, rfl⟩

theorem caught_nil (w : World) : Calls Tryz.prog 89 #[.nilIface] w fun e w' => e = .returned (.int .i64 0) ∧ w' = w := by
  go_enter Tryz.func89, Tryz.ntmps89
  go_wp2
  go_ret
  exact ⟨rfl, rfl⟩
theorem caught_some (t : TypeId) (v : Value) (w : World) : Calls Tryz.prog 89 #[.iface t v] w fun e w' => e = .returned (.int .i64 4) ∧ w' = w := by
  go_enter Tryz.func89, Tryz.ntmps89
  go_wp2
  go_ret
  exact ⟨rfl, rfl⟩

theorem cpWrite (p : Addr) (x : Int) (u : TypeId) (pv : Value) (older : List PanicEntry) (w : World) (hc : w.cell? p = some (.int .i64 x)) (hz : w.frozen? p = false) :
    CallsD Tryz.prog 88 #[.pointer (some p)] (.panicking ({ v := .iface u pv, recovered := false } :: older)) w fun e u' w' =>
      e = .returned (.tuple #[]) ∧ u' = .panicking ({ v := .iface u pv, recovered := true } :: older) ∧ w' = w.setCell p (.int .i64 4) := by
  refine callsD_of_wpS Tryz.func88 rfl fun c₀ cs hu => ?_
  apply wpS_region
  simp [wpOpsS, go_sem, recoverD, hu, Tryz.ntmps88]
  refine (caught_some _ _ _).mono ?_
  rintro e w' ⟨rfl, rfl⟩
  simp [go_sem, hc, hz, bodyPostS, results, Tryz.results88]

theorem ciWrite (p : Addr) (x : Int) (w : World) (hc : w.cell? p = some (.int .i64 x)) (hz : w.frozen? p = false) :
    CallsD Tryz.prog 88 #[.pointer (some p)] .returning w fun e u' w' => e = .returned (.tuple #[]) ∧ u' = .returning ∧ w' = w.setCell p (.int .i64 0) := by
  refine callsD_of_wpS Tryz.func88 rfl fun c₀ cs hu => ?_
  apply wpS_region
  simp [wpOpsS, go_sem, recoverD, hu, Tryz.ntmps88]
  refine (caught_nil _).mono ?_
  rintro e w' ⟨rfl, rfl⟩
  cases c₀
  simp_all [go_sem, bodyPostS, results, Tryz.results88]

/-- The variable of a call's error: in the block that is new. -/
structure Err (S : Nat → Prop) (w w1 : World) : Prop where
  k : Kept S w w1
  he : w1.heap[w.heap.size]? = some (.cells #[.int .i64 0] 42 (0, 0))
  sz : w1.heap.size = w.heap.size + 1
theorem Err.mk' (S : Nat → Prop) (w : World) : Err S w (w.alloc (.cells #[.int .i64 0] 42)) := ⟨(Kept.refl _ w).alloc _, heap_new _ _, by simp⟩
theorem Err.drewN {S : Nat → Prop} {w w1 : World} (h : Err S w w1) (m : Nat) : Err S w (w1.drewN m) := ⟨h.k.drewN m, h.he, h.sz⟩
theorem Err.c {S : Nat → Prop} {w w1 : World} (h : Err S w w1) : w1.cell? ⟨w.heap.size, 0, none⟩ = some (.int .i64 0) := by simp [World.cell?, h.he]
theorem Err.f {S : Nat → Prop} {w w1 : World} (h : Err S w w1) : w1.frozen? ⟨w.heap.size, 0, none⟩ = false := by simp [World.frozen?, h.he]
theorem Err.mono {S T : Nat → Prop} {w w1 : World} (h : Err S w w1) (hST : ∀ x, S x → T x) : Err T w w1 := ⟨h.k.mono (fun x _ => hST x), h.he, h.sz⟩
theorem Err.setCell {S : Nat → Prop} {w w1 : World} (h : Err S w w1) {g : Nat} (hg : g < w.heap.size) (hS : S g) (i : Nat) (u : Value) : Err S w (w1.setCell ⟨g, i, none⟩ u) :=
  ⟨h.k.setCell (fun _ => hS) u, by rw [Below.heap_setCell _ _ _ _ (by simp; omega)]; exact h.he, by simp; exact h.sz⟩
theorem Err.setRow {S : Nat → Prop} {w w1 : World} (h : Err S w w1) {g : Nat} (hg : g < w.heap.size) (hS : S g) (cs : Array Value) : Err S w (w1.setRow g cs) :=
  ⟨h.k.setRow (fun _ => hS) cs, by rw [setRow_other _ _ _ _ (by omega)]; exact h.he, by simp [World.setRow]; exact h.sz⟩
/-- Behind the deferred call. -/
theorem Err.done {S : Nat → Prop} {w w1 : World} (h : Err S w w1) (u : Value) : Kept S w (w1.setCell ⟨w.heap.size, 0, none⟩ u) := h.k.setCell (fun h => absurd h (Nat.lt_irrefl _)) _
theorem Err.done2 {S : Nat → Prop} {w w1 : World} (h : Err S w w1) (u v : Value) : Kept S w ((w1.setCell ⟨w.heap.size, 0, none⟩ u).setCell ⟨w.heap.size, 0, none⟩ v) := (h.done u).setCell (fun h => absurd h (Nat.lt_irrefl _)) _

theorem SpaceAt.cg {w b g base R lim n f} (h : SpaceAt w b (some g) base R lim n f) (i : Nat) (hi : i < n) : w.cell? ⟨g, i, none⟩ = some (.int .u8 ((f i : Nat) : Int)) := by
  obtain ⟨cap, hb, _, rs, hrl, hg, hnc, hf, _⟩ := h.ex
  rw [← hf i hi]
  simp [World.cell?, hg, bcells, show i < rs.length by omega]
theorem SpaceAt.fg {w b g base R lim n f} (h : SpaceAt w b (some g) base R lim n f) (i : Nat) : w.frozen? ⟨g, i, none⟩ = false := by
  obtain ⟨cap, hb, _, rs, hrl, hg, hnc, hf, _⟩ := h.ex
  simp [World.frozen?, hg]

end Go.Proofs.YthjokkihlodapaaGreat.M
/- Byte, SetByte, Word, SetWord, Fill, Copy, Read, Write where their bytes are not there, or are none. -/
namespace Go.Proofs.YthjokkihlodapaaGreat.M
open Go.RowKit
set_option linter.unusedVariables false

theorem mkf : ∀ (fn : Fn) (first cap : Array Value) (w : World), (Instr.makeFunc fn first cap).run Tryz.prog w = .ok (.func fn first cap) w := fun _ _ _ _ => rfl

theorem Write_out (b ao base R lim n f) (p k : Nat) (v : Int) (va : Option Addr) (vc : Nat) (w : World) (h : SpaceAt w b ao base R lim n f) (hp : p < 18446744073709551616) (hk : k < 9223372036854775808) (hk0 : 0 < k) (hin : ¬ In base n p k) :
    Calls Tryz.prog 51 #[.pointer (some ⟨b, 0, none⟩), .int .u64 (p : Int), .slice va k vc] w fun e w' => e = .returned (.int .i64 4) ∧ Kept none' w w' := by
  have hmf := mkf
  have HH := hid h
  have HI := hid hin
  clear h hin
  go_enter_defers Tryz.func51, Tryz.ntmps51
  go_wp2_with fail
  refine (at_out b ao base R lim n f p k _ (HH.out.keep (Err.mk' none' w).k) hp (by omega) (by omega) HI.out).mono ?_
  rintro e w1 ⟨rfl, m, hw⟩
  have hE : Err none' w w1 := by rw [hw]; exact (Err.mk' none' w).drewN m
  have hec := hE.c
  have hef := hE.f
  have HE := hid hE
  clear hE hw
  refine leaves_cons (f := 88) (args := #[.pointer (some ⟨w.heap.size, 0, none⟩)]) (by simp) (by simp [go_sem]) ?_
  refine (cpWrite ⟨w.heap.size, 0, none⟩ 0 _ _ [] w1 hec hef).mono ?_
  rintro e u' w'' ⟨rfl, rfl, rfl⟩
  refine ⟨(.int .i64 4), ?_, rfl, HE.out.done _⟩
  simp [results, Tryz.results51, go_sem, hec]
end Go.Proofs.YthjokkihlodapaaGreat.M
/- What is written; Byte, SetByte, Word, SetWord, Fill where their bytes are there. -/
namespace Go.Proofs.YthjokkihlodapaaGreat.M
open Go.RowKit
set_option linter.unusedVariables false

/-- k bytes from o on are g's. -/
def upd (f : Nat → Nat) (o k : Nat) (g : Nat → Nat) : Nat → Nat := fun i => if o ≤ i ∧ i < o + k then g (i - o) else f i
theorem upd_zero (f : Nat → Nat) (o : Nat) (g : Nat → Nat) : upd f o 0 g = f := by
  funext i
  simp only [upd]
  rw [if_neg (by omega)]
theorem upd_succ (f : Nat → Nat) (o k : Nat) (g : Nat → Nat) : upd (upd f o k g) (o + k) 1 (fun _ => g k) = upd f o (k + 1) g := by
  funext i
  simp only [upd]
  by_cases h1 : i = o + k
  · subst h1
    rw [if_pos (by omega), if_pos (by omega), Nat.add_sub_cancel_left]
  · rw [if_neg (by omega)]
    by_cases h2 : o ≤ i ∧ i < o + k
    · rw [if_pos h2, if_pos (by omega)]
    · rw [if_neg h2, if_neg (by omega)]

/-- A row with k bytes of g laid over it from o on. -/
def lay (rs : List Nat) (o k : Nat) (g : Nat → Nat) : List Nat := rs.take o ++ ((List.range k).map g ++ rs.drop (o + k))
theorem lay_len (rs : List Nat) (o k : Nat) (g : Nat → Nat) (h : o + k ≤ rs.length) : (lay rs o k g).length = rs.length := by simp [lay]; omega
theorem lay_get (rs : List Nat) (o k : Nat) (g : Nat → Nat) (h : o + k ≤ rs.length) (i : Nat) : (lay rs o k g).getD i 0 = if o ≤ i ∧ i < o + k then g (i - o) else rs.getD i 0 := by
  simp only [lay, List.getD, List.getElem?_append, List.length_take, List.length_map, List.length_range, List.getElem?_take, List.getElem?_drop, List.getElem?_map]
  have e : min o rs.length = o := by omega
  rw [e]
  by_cases h1 : i < o
  · have h3 : ¬ (o ≤ i ∧ i < o + k) := by omega
    simp only [h1, h3, if_true, if_false]
  · rw [if_neg h1]
    by_cases h2 : i - o < k
    · rw [if_pos h2, if_pos (by omega), List.getElem?_range h2]
      rfl
    · rw [if_neg h2, if_neg (by omega)]
      congr 2
      omega
theorem lay_cells (rs : List Nat) (o k : Nat) (g : Nat → Nat) (cs : List Value) (hcs : cs = (List.range k).map fun i => Value.int .u8 ((g i : Nat) : Int)) :
    ((bcells rs).toList.take o ++ cs ++ (bcells rs).toList.drop (o + cs.length)).toArray = bcells (lay rs o k g) := by
  subst hcs
  simp only [bcells, lay, List.length_map, List.length_range, List.map_append, List.map_map, List.append_assoc, ← List.map_take, ← List.map_drop]
  rfl

theorem SpaceAt.lay {w b g base R lim n f} (h : SpaceAt w b (some g) base R lim n f) (o k : Nat) (gg : Nat → Nat) (ho : o + k ≤ n) (h256 : ∀ i, i < k → gg i < 256) (cs : List Value) (hcs : cs = (List.range k).map fun i => Value.int .u8 ((gg i : Nat) : Int)) :
    ∃ cur, w.heap[g]? = some (.cells cur 5 (0, 0)) ∧ o + cs.length ≤ cur.size ∧ SpaceAt (w.setRow g (cur.toList.take o ++ cs ++ cur.toList.drop (o + cs.length)).toArray) b (some g) base R lim n (upd f o k gg) := by
  obtain ⟨cap, hb, hne, rs, hrl, hg, hnc, hf, hr⟩ := h.ex
  refine ⟨bcells rs, hg, by rw [bcells_size, hcs]; simp; omega, h.cfg, h.kn, cap, ?_, hne, Go.Proofs.YthjokkihlodapaaGreat.M.lay rs o k gg, ?_, ?_, hnc, ?_, ?_⟩
  · rw [setRow_other _ _ _ _ (fun e => hne e.symm)]; exact hb
  · rw [lay_len _ _ _ _ (by omega)]; exact hrl
  · rw [setRow_heap w g _ _ _ _ hg, lay_cells rs o k gg cs hcs]
  · intro i hi
    rw [lay_get _ _ _ _ (by omega)]
    simp only [upd]
    split
    · rfl
    · exact hf i hi
  · intro i
    rw [lay_get _ _ _ _ (by omega)]
    split
    · exact h256 _ (by omega)
    · exact hr i

theorem SpaceAt.write {w b g base R lim n f} (h : SpaceAt w b (some g) base R lim n f) (o y : Nat) (ho : o < n) (hy : y < 256) : SpaceAt (w.setCell ⟨g, o, none⟩ (.int .u8 (y : Int))) b (some g) base R lim n (upd f o 1 fun _ => y) := by
  obtain ⟨cap, hb, hne, rs, hrl, hg, hnc, hf, hr⟩ := h.ex
  refine ⟨h.cfg, h.kn, cap, ?_, hne, rs.set o y, ?_, ?_, hnc, ?_, ?_⟩
  · rw [Below.heap_setCell _ _ _ _ (fun e => hne e.symm)]; exact hb
  · simpa using hrl
  · simp only [World.setCell]
    rw [Array.getElem?_modify, if_pos rfl, hg]
    simp [bcells, List.map_set]
  · intro i hi
    simp only [upd]
    by_cases e : i = o
    · subst e
      rw [if_pos (by omega)]
      simp [List.getD, show i < rs.length by omega]
    · rw [if_neg (by omega), ← hf i hi]
      simp [List.getD, Ne.symm e]
  · intro i
    by_cases e : i = o
    · subst e
      simp [List.getD, show i < rs.length by omega, hy]
    · have := hr i
      simpa [List.getD, Ne.symm e] using this
theorem SpaceAt.f256 {w b g base R lim n f} (h : SpaceAt w b (some g) base R lim n f) (i : Nat) (hi : i < n) : f i < 256 := by
  obtain ⟨cap, hb, hne, rs, hrl, hg, hnc, hf, hr⟩ := h.ex
  rw [← hf i hi]
  exact hr i
theorem SpaceAt.congr {w b ao base R lim n f} (h : SpaceAt w b ao base R lim n f) {f' : Nat → Nat} (hf : ∀ i, i < n → f i = f' i) : SpaceAt w b ao base R lim n f' := by
  obtain ⟨cap, hb, hr⟩ := h.ex
  refine ⟨h.cfg, h.kn, cap, hb, ?_⟩
  cases ao with
  | none => exact hr
  | some g =>
    obtain ⟨h1, rs, h2, h3, h4, h5, h6⟩ := hr
    exact ⟨h1, rs, h2, h3, h4, fun i hi => (h5 i hi).trans (hf i hi), h6⟩
theorem SpaceAt.eg {w b g base R lim n f} (h : SpaceAt w b (some g) base R lim n f) : g ≠ b := by
  obtain ⟨cap, hb, hne, _⟩ := h.ex
  exact hne

theorem Err.space {S : Nat → Prop} {w w1 : World} {b ao base R lim n f f'} (hE : Err S w w1) (h : SpaceAt w b ao base R lim n f) (hS : SpaceAt w1 b ao base R lim n f') (u v : Value) : SpaceAt ((w1.setCell ⟨w.heap.size, 0, none⟩ u).setCell ⟨w.heap.size, 0, none⟩ v) b ao base R lim n f' :=
  hS.kept (((Kept.refl (fun x => x = w.heap.size) w1).setCell (fun _ => rfl) u).setCell (fun _ => rfl) v) (fun x hx e => by have := h.own_lt x hx; omega)

/-- The number that k bytes are, the lowest first. -/
def wordTo (f : Nat → Nat) : Nat → Nat
  | 0 => 0
  | k + 1 => wordTo f k + f k * 256 ^ k
theorem wordTo_lt (f : Nat → Nat) (k : Nat) (h : ∀ i, i < k → f i < 256) : wordTo f k < 256 ^ k := by
  induction k with
  | zero => simp [wordTo]
  | succ k ih =>
    have h1 := ih (fun i hi => h i (by omega))
    have h2 := h k (by omega)
    have h3 : f k * 256 ^ k ≤ 255 * 256 ^ k := Nat.mul_le_mul_right _ (by omega)
    simp only [wordTo, Nat.pow_succ]
    omega
def word (f : Nat → Nat) (o : Nat) : Nat := wordTo (fun i => f (o + i)) 8

theorem pow256 (k : Nat) : 256 ^ k = 2 ^ (8 * k) := by rw [Nat.pow_mul]
theorem word_step (a k x : Nat) (hk : k < 8) (hx : x < 256) (ha : a < 256 ^ k) : bits BinOp.or IntKind.u64 (a : Int) (IntKind.u64.wrap (IntKind.u64.wrap (x : Int) * 2 ^ (8 * k))) = ((a + x * 256 ^ k : Nat) : Int) := by
  have hp : 2 ^ (8 * k) ≤ 2 ^ 56 := Nat.pow_le_pow_right (by decide) (by omega)
  have h1 : x * 2 ^ (8 * k) ≤ 255 * 2 ^ (8 * k) := Nat.mul_le_mul_right _ (by omega)
  have e1 : IntKind.u64.wrap (x : Int) = (x : Int) := by rw [wrap_u64]; omega
  have e2 : (x : Int) * 2 ^ (8 * k) = ((x * 2 ^ (8 * k) : Nat) : Int) := by simp
  have e3 : IntKind.u64.wrap ((x * 2 ^ (8 * k) : Nat) : Int) = ((x * 2 ^ (8 * k) : Nat) : Int) := by
    rw [wrap_u64]
    generalize x * 2 ^ (8 * k) = y at h1
    omega
  rw [e1, e2, e3]
  rw [pow256] at ha ⊢
  rw [bits_or_u64_nat _ _ (by omega) (by omega)]
  congr 1
  have := Nat.shiftLeft_add_eq_or_of_lt ha x
  rw [Nat.shiftLeft_eq] at this
  rw [Nat.or_comm, ← this, Nat.add_comm]

/-- A number's byte. -/
def byteOf (v i : Nat) : Nat := v / 256 ^ i % 256

theorem byteOf_int (v k : Nat) : (v : Int) / 2 ^ (8 * k) % 256 = ((byteOf v k : Nat) : Int) := by
  unfold byteOf
  rw [pow256]
  simp

end Go.Proofs.YthjokkihlodapaaGreat.M
/- Slices of bytes that can be read; Copy, Read, Write. -/
namespace Go.Proofs.YthjokkihlodapaaGreat.M
open Go.RowKit
set_option linter.unusedVariables false

/-- A slice of m bytes that can be read. -/
def Bytes (w : World) (v : Value) (m : Nat) (g : Nat → Nat) : Prop :=
  (∀ i, i < m → g i < 256) ∧ ∃ ao cap, v = .slice ao m cap ∧ (m = 0 ∨ ∃ a : Addr, ao = some a ∧ a.block < w.heap.size ∧ ∀ j, j < m → w.cell? (a.add j) = some (.int .u8 ((g j : Nat) : Int)))

theorem addr_add_block (a : Addr) (j : Nat) : (a.add j).block = a.block := by unfold Addr.add; split <;> rfl

theorem Bytes.kept {w w' : World} {S : Nat → Prop} {v : Value} {m : Nat} {g : Nat → Nat} (h : Bytes w v m g) (k : Kept S w w') (hS : ∀ b, v.ownBlock = some b → ¬ S b) : Bytes w' v m g := by
  obtain ⟨h1, ao, cap, rfl, h2⟩ := h
  refine ⟨h1, ao, cap, rfl, ?_⟩
  rcases h2 with h2 | ⟨a, rfl, hb, hc⟩
  · exact Or.inl h2
  · refine Or.inr ⟨a, rfl, Nat.lt_of_lt_of_le hb k.size, fun j hj => ?_⟩
    rw [← hc j hj]
    exact World.cell?_of_block (by rw [addr_add_block]; exact k.block _ hb (hS a.block rfl))
theorem Bytes.keep {w w' : World} {v : Value} {m : Nat} {g : Nat → Nat} (h : Bytes w v m g) (k : Kept none' w w') : Bytes w' v m g := h.kept k (fun _ _ x => x)

theorem info_u8 : (Tryz.prog.info? 5).map (fun i => (i.zero, i.size, i.bytes)) = some (some (.int .u8 0), 1, 1) := by kernel_rfl

/-- m bytes of g. -/
def told (m : Nat) (g : Nat → Nat) : List Nat := (List.range m).map g
theorem told_len (m : Nat) (g : Nat → Nat) : (told m g).length = m := by simp [told]
theorem told_get (m : Nat) (g : Nat → Nat) (i : Nat) (hi : i < m) : (told m g).getD i 0 = g i := by simp [told, List.getD, hi]

/-- A block of m bytes. -/
def Blk (w : World) (h m : Nat) (g : Nat → Nat) : Prop := (∀ i, i < m → g i < 256) ∧ w.heap[h]? = some (.cells (bcells (told m g)) 5 (0, 0))
theorem Blk.lt {w h m g} (H : Blk w h m g) : h < w.heap.size := (Array.getElem?_eq_some_iff.1 H.2).1
theorem Blk.cell {w h m g} (H : Blk w h m g) (i : Nat) (hi : i < m) : w.cell? ⟨h, i, none⟩ = some (.int .u8 ((g i : Nat) : Int)) := by
  have := told_get m g i hi
  rw [← this]
  simp [World.cell?, H.2, bcells, told_len, hi]
theorem Blk.frozen {w h m g} (H : Blk w h m g) (i : Nat) : w.frozen? ⟨h, i, none⟩ = false := by simp [World.frozen?, H.2]
theorem Blk.kept {w w' h m g} {S : Nat → Prop} (H : Blk w h m g) (k : Kept S w w') (hS : ¬ S h) : Blk w' h m g := ⟨H.1, (k.block h H.lt hS).trans H.2⟩
theorem Blk.bytes {w h m g} (H : Blk w h m g) (cap : Nat) : Bytes w (.slice (some ⟨h, 0, none⟩) m cap) m g :=
  ⟨H.1, some ⟨h, 0, none⟩, cap, rfl, Or.inr ⟨⟨h, 0, none⟩, rfl, H.lt, fun j hj => by rw [Addr.add_lit]; simpa using H.cell j hj⟩⟩

theorem made_bytes (m : Nat) : madeCells (Value.int .u8 0).cells (m * 1) = bcells (told m fun _ => 0) := by
  simp only [madeCells, bcells, told]
  apply Array.ext
  · simp
  · intro i h1 h2
    have : i % 1 = 0 := Nat.mod_one i
    simp [Value.cells, this]

theorem make_bytes (m : Nat) (hm : m ≤ 1073741824) (w : World) :
    (Instr.makeSlice 25 (.int .i64 (m : Int)) (.int .i64 (m : Int))).run Tryz.prog w = .ok (.slice (some ⟨w.heap.size, 0, none⟩) m m) (w.alloc (.cells (bcells (told m fun _ => 0)) 5)) := by
  obtain ⟨i, hi, hz0, hz1, hz2⟩ := info_parts info_u8
  have := run_make (P := Tryz.prog) w 25 5 i (.int .u8 0) Tryz.underlying25 hi hz0 .i64 .i64 (m : Int) (m : Int) (by omega) (by omega) (by rw [hz2]; omega) (by omega)
  rw [hz1] at this
  simp only [Int.toNat_natCast, made_bytes] at this
  exact this

def byteVs (k : Nat) (g : Nat → Nat) : List Value := (List.range k).map fun i => Value.int .u8 ((g i : Nat) : Int)
theorem byteVs_len (k : Nat) (g : Nat → Nat) : (byteVs k g).length = k := by simp [byteVs]
theorem byteVs_get (k : Nat) (g : Nat → Nat) (j : Nat) (u : Value) (h : (byteVs k g)[j]? = some u) : j < k ∧ u = .int .u8 ((g j : Nat) : Int) := by
  have hj : j < k := by
    rcases Nat.lt_or_ge j k with h1 | h1
    · exact h1
    · rw [List.getElem?_eq_none (by rw [byteVs_len]; exact h1)] at h; cases h
  refine ⟨hj, ?_⟩
  simp [byteVs, hj] at h
  exact h.symm

theorem copy_run (w : World) (g o k dc : Nat) (a : Addr) (sc : Nat) (cur : Array Value) (gg : Nat → Nat) (hg : w.heap[g]? = some (.cells cur 5 (0, 0))) (hfit : o + k ≤ cur.size)
    (hsrc : ∀ j, j < k → w.cell? (a.add j) = some (.int .u8 ((gg j : Nat) : Int))) (ty : TypeId) :
    (Builtin.copy_ #[25, 25] ty #[.slice (some ⟨g, o, none⟩) k dc, .slice (some a) k sc]).run Tryz.prog w = .ok (goInt k) (w.setRow g (cur.toList.take o ++ byteVs k gg ++ cur.toList.drop (o + (byteVs k gg).length)).toArray) := by
  obtain ⟨i, hi, hz0, hz1, hz2⟩ := info_parts info_u8
  have := run_copy_row (P := Tryz.prog) w 25 25 ty 5 g o k dc a k sc cur 5 (byteVs k gg) Tryz.underlying25 (by rw [hi]; simp [hz1]) hg (by rw [byteVs_len]; exact (Nat.min_self k).symm) ?_ ?_ ?_
  · rw [this, byteVs_len]
  · intro j u hj
    obtain ⟨h1, rfl⟩ := byteVs_get k gg j u hj
    exact hsrc j h1
  · rw [byteVs_len]; exact hfit
  · intro u hu
    obtain ⟨_, _, rfl⟩ := List.mem_map.1 hu
    rfl
theorem copy_nil (w : World) (k dc : Nat) (dp sp : Option Addr) (sc : Nat) (hk : k = 0) (ty : TypeId) :
    (Builtin.copy_ #[25, 25] ty #[.slice dp k dc, .slice sp k sc]).run Tryz.prog w = .ok (goInt 0) w := by
  obtain ⟨i, hi, hz0, hz1, hz2⟩ := info_parts info_u8
  subst hk
  exact run_copy_none (P := Tryz.prog) w 25 25 ty 5 dp sp 0 dc 0 sc Tryz.underlying25 (by rw [hi]; simp [hz1]) rfl

theorem Write_in (b g base R lim n f) (p k : Nat) (v : Value) (gg : Nat → Nat) (w : World) (h : SpaceAt w b (some g) base R lim n f) (hk0 : 0 < k) (hin : In base n p k) (hv : Bytes w v k gg) :
    Calls Tryz.prog 51 #[.pointer (some ⟨b, 0, none⟩), .int .u64 (p : Int), v] w fun e w' => e = .returned (.int .i64 0) ∧ SpaceAt w' b (some g) base R lim n (upd f (p - base) k gg) ∧ Kept (own b (some g)) w w' := by
  have hmf := mkf
  obtain ⟨o, ho⟩ : ∃ o, o = p - base := ⟨_, rfl⟩
  have hol : o + k ≤ n := by obtain ⟨h1, h2⟩ := hin; omega
  have hn := h.nle
  have lr := h.cfg.lr
  have hkm : k ≤ 4194304 := by omega
  rw [← ho]
  have HV := hid hv
  obtain ⟨h256, ao, vc, rfl, hva⟩ := hv
  obtain ⟨a, rfl, -, -⟩ := hva.resolve_left (by omega)
  have HO := hid ho
  have HH := hid h
  have HI := hid hin
  clear h ho hin hva hn lr
  have H256 := hid h256
  clear h256
  go_enter_defers Tryz.func51, Tryz.ntmps51
  go_wp2_with fail
  refine (at_in b g base R lim n f p k _ (HH.out.keep (Err.mk' none' w).k) hk0 HI.out).mono ?_
  rintro e w2 ⟨⟨c, rfl⟩, m, hw⟩
  have hE : Err none' w w2 := by rw [hw]; exact (Err.mk' none' w).drewN m
  rw [← HO.out]
  have hS := HH.out.keep hE.k
  obtain ⟨-, ao', vc', e1, hva⟩ := HV.out.keep hE.k
  injection e1 with e1 e2 e3
  subst e1
  obtain ⟨a', e4, -, hac⟩ := hva.resolve_left (by omega)
  injection e4 with e4
  subst e4
  obtain ⟨cur, hg, hfit, hS3⟩ := hS.lay o k gg hol H256.out (byteVs k gg) rfl
  have hcp := copy_run w2 g o k c a vc cur gg hg (by rw [byteVs_len] at hfit; exact hfit) hac
  have hE3 := (hE.mono (T := own b (some g)) (fun _ x => x.elim)).setRow HH.out.glt (Or.inr rfl) (cur.toList.take o ++ byteVs k gg ++ cur.toList.drop (o + (byteVs k gg).length)).toArray
  obtain ⟨w3, hw3⟩ : ∃ w3, w3 = w2.setRow g (cur.toList.take o ++ byteVs k gg ++ cur.toList.drop (o + (byteVs k gg).length)).toArray := ⟨_, rfl⟩
  rw [← hw3] at hS3 hcp hE3
  have hec := hE3.c
  have hef := hE3.f
  have HE3 := hid hE3
  have HS3 := hid hS3
  clear hE hS hg hfit hS3 hE3 hw hw3 hva hac HV e2 e3
  go_wp2
  refine leaves_cons (f := 88) (args := #[.pointer (some ⟨w.heap.size, 0, none⟩)]) (by simp) (by simp [go_sem]) ?_
  refine (ciWrite ⟨w.heap.size, 0, none⟩ 0 _ ?_ ?_).mono ?_
  · simp [go_sem, hec]
  · simp [go_sem, hef]
  rintro e u' w'' ⟨rfl, rfl, rfl⟩
  refine ⟨.int .i64 0, ?_, rfl, ?_, HE3.out.done2 _ _⟩
  · simp [results, Tryz.results51, go_sem, hec]
  · exact HE3.out.space HH.out HS3.out _ _

theorem Write_zero (b : Nat) (p : Int) (va : Option Addr) (vc : Nat) (w : World) :
    Calls Tryz.prog 51 #[.pointer (some ⟨b, 0, none⟩), .int .u64 p, .slice va 0 vc] w fun e w' => e = .returned (.int .i64 0) ∧ Kept none' w w' := by
  have hmf := mkf
  go_enter_defers Tryz.func51, Tryz.ntmps51
  go_wp2_with fail
  refine (at_zero b p _).mono ?_
  rintro e w2 ⟨rfl, hw⟩
  have hE : Err none' w w2 := by rw [hw]; exact Err.mk' none' w
  have hec := hE.c
  have hef := hE.f
  have HE2 := hid hE
  have hcp := copy_nil w2 0 0 none va vc rfl
  clear hE hw
  go_wp2
  refine leaves_cons (f := 88) (args := #[.pointer (some ⟨w.heap.size, 0, none⟩)]) (by simp) (by simp [go_sem]) ?_
  refine (ciWrite ⟨w.heap.size, 0, none⟩ 0 _ ?_ ?_).mono ?_
  · simp [go_sem, hec]
  · simp [go_sem, hef]
  rintro e u' w'' ⟨rfl, rfl, rfl⟩
  refine ⟨.int .i64 0, ?_, rfl, HE2.out.done2 _ _⟩
  simp [results, Tryz.results51, go_sem, hec]
end Go.Proofs.YthjokkihlodapaaGreat.M
/- Read; Commit, Decommit. -/
namespace Go.Proofs.YthjokkihlodapaaGreat.M
open Go.RowKit
set_option linter.unusedVariables false

theorem Blk.new (w : World) (m : Nat) : Blk (w.alloc (.cells (bcells (told m fun _ => 0)) 5)) w.heap.size m fun _ => 0 := ⟨fun _ _ => Nat.zero_lt_succ 255, heap_new _ _⟩
theorem Blk.lay {w h m g} (H : Blk w h m g) (gg : Nat → Nat) (h256 : ∀ i, i < m → gg i < 256) :
    Blk (w.setRow h ((bcells (told m g)).toList.take 0 ++ byteVs m gg ++ (bcells (told m g)).toList.drop (0 + (byteVs m gg).length)).toArray) h m gg := by
  refine ⟨h256, ?_⟩
  rw [setRow_heap w h _ _ _ _ H.2, lay_cells (told m g) 0 m gg (byteVs m gg) rfl]
  have : Go.Proofs.YthjokkihlodapaaGreat.M.lay (told m g) 0 m gg = told m gg := by
    simp [Go.Proofs.YthjokkihlodapaaGreat.M.lay, told]
  rw [this]

/-- append(s, make([]byte, R)...) where there is room. -/
theorem append_room (w : World) (g n cap R : Nat) (cur : Array Value) (hg : w.heap[g]? = some (.cells cur 5 (0, 0))) (hcur : cur.size = cap) (hR0 : 0 < R) (hR : R ≤ 1048576) (hfit : n + R ≤ cap) (ty : TypeId) :
    (Builtin.append_ #[25, 22] ty #[.slice (some ⟨g, 0, none⟩) n cap, .int .u64 (R : Int)]).run Tryz.prog w = .ok (.slice (some ⟨g, 0, none⟩) (n + R) cap) (w.setRow g (cur.toList.take n ++ byteVs R (fun _ => 0) ++ cur.toList.drop (n + (byteVs R fun _ => 0).length)).toArray) := by
  obtain ⟨i, hi, hz0, hz1, hz2⟩ := info_parts info_u8
  have hw : IntKind.i64.wrap (R : Int) = R := by rw [IntKind.wrap_i64]; omega
  have hneg : ¬ ((R : Int) < 0) := by omega
  have h48i : ¬ (281474976710656 < (R : Int) * (i.bytes : Int)) := by rw [hz2]; omega
  have hzc : (Builtin.zeroCells (Value.int .u8 0).cells R).toList = byteVs R fun _ => 0 := by
    simp only [Builtin.zeroCells, byteVs]
    apply List.ext_getElem
    · simp [Value.cells]
    · intro j h1 h2
      have : j % 1 = 0 := Nat.mod_one j
      simp [Value.cells, this]
  have hst := run_storeCells_at Tryz.prog g n 5 (byteVs R fun _ => 0) 0 cur w hg (by rw [byteVs_len]; omega) (by
    intro v hv
    obtain ⟨_, _, rfl⟩ := List.mem_map.1 hv
    rfl)
  simp only [Nat.add_zero] at hst
  simp [Builtin.append_, run_underlying Tryz.underlying25, run_underlying Tryz.underlying22, sizeOf, typeInfo, zeroValue, hi, hz0, hz1, asInt, asIntOf, hw, hneg, h48i, hfit, Addr.add_lit, hzc, hst]
  intro h
  omega

/-- What is told behind a region that came: it is 0. -/
def more (f : Nat → Nat) (n : Nat) : Nat → Nat := fun i => if i < n then f i else 0

/-- Behind the append, ahead of its store. -/
structure After (w w' : World) (b : Nat) (ao : Option Nat) (g' cap' base R lim n : Nat) (f : Nat → Nat) : Prop where
  sp : SpaceAt (w'.setCell ⟨b, 3, none⟩ (.slice (some ⟨g', 0, none⟩) (n + R) cap')) b (some g') base R lim (n + R) (more f n)
  k : Kept (own b ao) w w'
  g : ao = some g' ∨ w.heap.size ≤ g'

theorem after_mk {w w' : World} {b ao g' cap' base R lim n f cap} (hc : Cfg base R lim) (hkn : ∃ k, n = k * R ∧ k + 1 ≤ lim)
    (hb : w'.heap[b]? = some (.cells #[.int .u64 (base : Int), .int .u64 (R : Int), .int .i64 (lim : Int), .slice (adr ao) n cap] 122 (0, 0)))
    (hne : g' ≠ b) (rs : List Nat) (hrl : rs.length = cap') (hg : w'.heap[g']? = some (.cells (bcells rs) 5 (0, 0))) (hn : n + R ≤ cap') (hf : ∀ i, i < n + R → rs.getD i 0 = more f n i) (h256 : ∀ i, rs.getD i 0 < 256)
    (k : Kept (own b ao) w w') (hG : ao = some g' ∨ w.heap.size ≤ g') : After w w' b ao g' cap' base R lim n f := by
  refine ⟨⟨hc, ?_, cap', ?_, hne, rs, hrl, ?_, hn, hf, h256⟩, k, hG⟩
  · obtain ⟨k, rfl, hk⟩ := hkn
    exact ⟨k + 1, by rw [Nat.add_mul, Nat.one_mul], hk⟩
  · simp only [World.setCell]
    rw [Array.getElem?_modify, if_pos rfl, hb]
    simp [adr]
  · rw [Below.heap_setCell _ _ _ _ hne]; exact hg

theorem zero_cells (m : Nat) : (Builtin.zeroCells (Value.int .u8 0).cells m) = bcells (List.replicate m 0) := by
  simp only [Builtin.zeroCells, bcells]
  apply Array.ext
  · simp [Value.cells]
  · intro j h1 h2
    have : j % 1 = 0 := Nat.mod_one j
    simp [Value.cells, this]
theorem rep_get (m i : Nat) : (List.replicate m 0).getD i 0 = 0 := by
  simp [List.getD, List.getElem?_replicate]; split <;> rfl

theorem append_zeros (w : World) (b ao base R lim n f cap) (hc : Cfg base R lim) (hkn : ∃ k, n = k * R ∧ k + 1 ≤ lim)
    (hb : w.heap[b]? = some (.cells #[.int .u64 (base : Int), .int .u64 (R : Int), .int .i64 (lim : Int), .slice (adr ao) n cap] 122 (0, 0))) (hr : RowAt w b ao n cap f) :
    ∃ g' cap' w', (∀ ty, (Builtin.append_ #[25, 22] ty #[.slice (adr ao) n cap, .int .u64 (R : Int)]).run Tryz.prog w = .ok (.slice (some ⟨g', 0, none⟩) (n + R) cap') w') ∧ After w w' b ao g' cap' base R lim n f ∧
      w'.heap[b]? = some (.cells #[.int .u64 (base : Int), .int .u64 (R : Int), .int .i64 (lim : Int), .slice (adr ao) n cap] 122 (0, 0)) := by
  obtain ⟨i, hi, hz0, hz1, hz2⟩ := info_parts info_u8
  have r1 := hc.r1
  have r2 := hc.r2
  have hnl : n + R ≤ 4194304 := by
    obtain ⟨k, rfl, hk⟩ := hkn
    have h1 := hc.lr
    have h2 : (k + 1) * R ≤ lim * R := Nat.mul_le_mul_right _ hk
    rw [Nat.add_mul, Nat.one_mul] at h2
    omega
  have hblt : b < w.heap.size := (Array.getElem?_eq_some_iff.1 hb).1
  -- a new row
  have grow : ∀ (olds : List Nat), (Builtin.firstCells i.size n (.slice (adr ao) n cap)).run Tryz.prog w.drew = .ok (bcells olds) w.drew → olds.length = n → (∀ j, j < n → olds.getD j 0 = f j) → (∀ j, olds.getD j 0 < 256) → cap < n + R →
      ∃ g' cap' w', (∀ ty, (Builtin.append_ #[25, 22] ty #[.slice (adr ao) n cap, .int .u64 (R : Int)]).run Tryz.prog w = .ok (.slice (some ⟨g', 0, none⟩) (n + R) cap') w') ∧ After w w' b ao g' cap' base R lim n f ∧
      w'.heap[b]? = some (.cells #[.int .u64 (base : Int), .int .u64 (R : Int), .int .i64 (lim : Int), .slice (adr ao) n cap] 122 (0, 0)) := by
    intro olds hold hlen hof ho256 hcap
    have hge := grownCap_ge w (n + R) cap 5
    have hrow : (bcells olds) ++ Builtin.zeroCells (Value.int .u8 0).cells R ++ Builtin.zeroCells (Value.int .u8 0).cells (grownCap w (n + R) cap 5 - (n + R)) = bcells (olds ++ (List.replicate R 0 ++ List.replicate (grownCap w (n + R) cap 5 - (n + R)) 0)) := by
      rw [zero_cells, zero_cells]
      simp [bcells]
    have hget : ∀ j, (olds ++ (List.replicate R 0 ++ List.replicate (grownCap w (n + R) cap 5 - (n + R)) 0)).getD j 0 = if j < n then olds.getD j 0 else 0 := by
      intro j
      rw [List.replicate_append_replicate]
      simp only [List.getD, List.getElem?_append, hlen]
      split
      · rfl
      · exact rep_get _ _
    refine ⟨w.heap.size, grownCap w (n + R) cap 5, w.drew.alloc (.cells (bcells (olds ++ (List.replicate R 0 ++ List.replicate (grownCap w (n + R) cap 5 - (n + R)) 0))) 5), fun ty => ?_, ?_, ?_⟩
    · have := Lib.run_append_grow_zeros (P := Tryz.prog) w 25 22 ty 5 i (.int .u8 0) .u64 .u64 Tryz.underlying25 Tryz.underlying22 hi hz0 (adr ao) n cap (bcells olds).toList (by rw [hold]) R (by omega) (by omega) hcap (by omega) (by rw [hz2]; omega) (growslice_fits hcap (by rw [hz2]; omega))
      rw [this, ← hrow]
    · refine after_mk (cap := cap) hc hkn ?_ (by omega) _ ?_ (heap_new w.drew _) hge ?_ ?_ (((Kept.refl _ w).drew).alloc _) (Or.inr (Nat.le_refl _))
      · rw [Below.heap_alloc w.drew _ b hblt]; exact hb
      · simp [hlen]; omega
      · intro j hj
        rw [hget j]
        unfold more
        split
        · rename_i h; exact hof j h
        · rfl
      · intro j
        rw [hget j]
        split
        · exact ho256 j
        · decide
    · rw [Below.heap_alloc w.drew _ b hblt]; exact hb
  cases ao with
  | none =>
    obtain ⟨rfl, rfl⟩ := hr
    exact grow [] (by simp [adr, run_firstCells_none, bcells]) rfl (fun j hj => by omega) (fun j => by simp) (by omega)
  | some g =>
    obtain ⟨hne, rs, hrl, hg, hnc, hf, h256⟩ := hr
    by_cases hroom : n + R ≤ cap
    · have hap := append_room w g n cap R (bcells rs) hg (by rw [bcells_size]; exact hrl) (by omega) (by omega) hroom
      have hw : (bcells rs).toList.take n ++ byteVs R (fun _ => 0) ++ (bcells rs).toList.drop (n + (byteVs R fun _ => 0).length) = (bcells (Go.Proofs.YthjokkihlodapaaGreat.M.lay rs n R fun _ => 0)).toList := by
        rw [← lay_cells rs n R (fun _ => 0) (byteVs R fun _ => 0) rfl]
      refine ⟨g, cap, _, hap, ?_, ?_⟩
      · refine after_mk (cap := cap) hc hkn ?_ hne (Go.Proofs.YthjokkihlodapaaGreat.M.lay rs n R fun _ => 0) ?_ ?_ hroom ?_ ?_ ((Kept.refl _ w).setRow (fun _ => Or.inr rfl) _) (Or.inl rfl)
        · rw [setRow_other _ _ _ _ (fun e => hne e.symm)]; exact hb
        · rw [lay_len _ _ _ _ (by omega)]; exact hrl
        · rw [setRow_heap w g _ _ _ _ hg, hw]
        · intro j hj
          rw [lay_get _ _ _ _ (by omega)]
          unfold more
          by_cases h1 : j < n
          · rw [if_neg (by omega), if_pos h1]; exact hf j h1
          · rw [if_pos (by omega), if_neg h1]
        · intro j
          rw [lay_get _ _ _ _ (by omega)]
          split
          · decide
          · exact h256 j
      · rw [setRow_other _ _ _ _ (fun e => hne e.symm)]; exact hb
    · have hlt : (rs.take n).length = n := by simp; omega
      have hgt : ∀ j, (rs.take n).getD j 0 = if j < n then rs.getD j 0 else 0 := by
        intro j
        simp only [List.getD, List.getElem?_take]
        split <;> rfl
      refine grow (rs.take n) ?_ hlt ?_ ?_ (by omega)
      · have := run_firstCells_some (P := Tryz.prog) w.drew i.size n ⟨g, 0, none⟩ n cap (bcells (rs.take n)).toList (by rw [hz1]; simp [bcells]; omega) ?_
        · simpa [adr] using this
        · intro j v hj
          rw [Addr.add_lit]
          simp [bcells, List.getElem?_take] at hj
          obtain ⟨hjn, x, hx, rfl⟩ := hj
          have : w.cell? ⟨g, 0 + j, none⟩ = some (.int .u8 (x : Int)) := by simp [World.cell?, hg, bcells, hx]
          exact this
      · intro j hj
        rw [hgt j, if_pos hj]; exact hf j hj
      · intro j
        rw [hgt j]
        split
        · exact h256 j
        · decide

/-- The same as one step of a region that draws. -/
theorem step_append_zeros {ops : Array Oper} {o : Oper} {a : Act} {w : World} {K : Act → World → Prop} {Q : Exit → Act → World → Prop} {E : Prop} (hgd : o.guard = none) (s x : Operand)
    (hop : o.op = Op.call { callee := Callee.builtin Builtin.append, args := #[s, x], argTypes := #[25, 22] }) (b ao base R lim n f cap) (hc : Cfg base R lim) (hkn : ∃ k, n = k * R ∧ k + 1 ≤ lim)
    (hb : w.heap[b]? = some (.cells #[.int .u64 (base : Int), .int .u64 (R : Int), .int .i64 (lim : Int), .slice (adr ao) n cap] 122 (0, 0))) (hr : RowAt w b ao n cap f)
    (hs : a.eval s = .slice (adr ao) n cap) (hx : a.eval x = .int .u64 (R : Int))
    (hK : ∀ g' cap' w', Hid (After w w' b ao g' cap' base R lim n f) → w'.cell? ⟨b, 3, none⟩ = some (.slice (adr ao) n cap) → w'.frozen? ⟨b, 3, none⟩ = false → K (a.put o.dst (.slice (some ⟨g', 0, none⟩) (n + R) cap')) w') :
    if Region.wanted o (yielded ops a.tmps) = true then Oper.wp Tryz.prog o a w K Q else E := by
  have hw : Region.wanted o (yielded ops a.tmps) = true := by simp [Region.wanted, hgd]
  rw [if_pos hw]
  obtain ⟨g', cap', w', hrun, hA, hb'⟩ := append_zeros w b ao base R lim n f cap hc hkn hb hr
  have hrun := hrun o.type
  unfold Oper.wp
  simp [execOp, hop, resolve, invoke, builtin, hs, hx, hrun, Result.andThen]
  exact hK g' cap' w' hA (by simp [World.cell?, hb']) (by simp [World.frozen?, hb'])
end Go.Proofs.YthjokkihlodapaaGreat.M
/- Commit, Decommit. -/
namespace Go.Proofs.YthjokkihlodapaaGreat.M
open Go.RowKit
set_option linter.unusedVariables false

theorem div_k (k R : Nat) (hR : 4096 ≤ R) : k * R / R = k := Nat.mul_div_cancel _ (by omega)

theorem ret_pair64 {a b : Int} {c d : Int} (h : a = b) (h2 : c = d) : Ending.returned (.tuple #[.int .u64 a, .int .i64 c]) = .returned (.tuple #[.int .u64 b, .int .i64 d]) := by rw [h, h2]

theorem Commit_deny (b ao base R lim n f) (w : World) (h : SpaceAt w b ao base R lim n f) :
    Calls Tryz.prog 50 #[.pointer (some ⟨b, 0, none⟩), .bool true] w fun e w' => e = .returned (.tuple #[.int .u64 0, .int .i64 2]) ∧ Kept none' w w' := by
  have h2 := h.c2
  clear h
  go_enter Tryz.func50, Tryz.ntmps50
  go_wp2
  go_quiet (fail)
  go_wp2
  go_ret2
  exact ⟨rfl, (Kept.refl _ w).drewN _⟩

theorem Commit_full (b ao base R lim n f) (w : World) (h : SpaceAt w b ao base R lim n f) (hn : n = lim * R) :
    Calls Tryz.prog 50 #[.pointer (some ⟨b, 0, none⟩), .bool false] w fun e w' => e = .returned (.tuple #[.int .u64 0, .int .i64 2]) ∧ Kept none' w w' := by
  have h2 := h.c2
  have hreg := fun m => regions_any b ao base R lim n f (w.drewN m) ⟨h.cfg, h.kn, h.ex⟩
  have e1 : n / R = lim := by rw [hn]; exact div_k lim R h.cfg.r1
  rw [e1] at hreg
  have HR := hid hreg
  clear h hreg e1 hn
  go_enter Tryz.func50, Tryz.ntmps50
  go_wp2
  go_quiet ((go_at_call 87; exact Calls.quiet_of (HR.out _)))
  go_wp2
  go_ret2
  exact ⟨rfl, (Kept.refl _ w).drewN _⟩

theorem Commit_ok (b ao base R lim n f) (w : World) (h : SpaceAt w b ao base R lim n f) (hkn : ∃ k, n = k * R ∧ k + 1 ≤ lim) :
    Calls Tryz.prog 50 #[.pointer (some ⟨b, 0, none⟩), .bool false] w fun e w' => e = .returned (.tuple #[.int .u64 ((base + n : Nat) : Int), .int .i64 0]) ∧ ∃ g', SpaceAt w' b (some g') base R lim (n + R) (more f n) ∧ Kept (own b ao) w w' ∧ (ao = some g' ∨ w.heap.size ≤ g') := by
  have h2 := h.c2
  have hreg := fun m => regions_any b ao base R lim n f (w.drewN m) ⟨h.cfg, h.kn, h.ex⟩
  have hend := fun m => end_any b ao base R lim n f (w.drewN m) ⟨h.cfg, h.kn, h.ex⟩
  obtain ⟨q, hq⟩ : ∃ q, q = n / R := ⟨_, rfl⟩
  have hql : q < lim ∧ q ≤ 64 := by
    obtain ⟨k, rfl, hk⟩ := hkn
    rw [hq, div_k k R h.cfg.r1]
    have := h.cfg.l2
    omega
  have hqne : ((q : Int) == (lim : Int)) = false := by rw [beq_eq_false_iff_ne]; omega
  rw [← hq] at hreg
  have HR := hid hreg
  have HE := hid hend
  have hc := h.cfg
  obtain ⟨cap, hb, hr⟩ := h.ex
  have h3 : w.cell? ⟨b, 3, none⟩ = some (.slice (adr ao) n cap) := by simp [World.cell?, hb]
  have h1 := h.c1
  have HC := hid hc
  have HN := hid hkn
  have HB := hid hb
  have HRW := hid hr
  clear h hreg hend hq hql hc hb hr hkn
  go_enter Tryz.func50, Tryz.ntmps50
  go_wp2
  go_quiet ((go_at_call 87; exact Calls.quiet_of (HR.out _)))
  go_wp2_with fail
  refine (HE.out _).mono ?_
  rintro e w' ⟨rfl, m, rfl⟩
  go_wp2
  go_region_law ((refine step_append_zeros rfl (.tmp 23) (.tmp 27) rfl b ao base R lim n f cap HC.out HN.out HB.out HRW.out rfl rfl ?_; intro g' cap' w' hA hc3 hf3))
  all_goals (go_wp2; go_ret2)
  all_goals exact ⟨ret_pair64 (by simp) rfl, g', hA.out.sp, (show Kept (own b ao) w w' from ⟨hA.out.k.os, hA.out.k.tape, hA.out.k.output, hA.out.k.size, hA.out.k.block⟩).setCell (fun _ => Or.inl rfl) _, hA.out.g⟩

theorem SpaceAt.less {w b ao base R lim n f} (h : SpaceAt w b ao base R lim n f) (n' cap : Nat) (h3 : w.cell? ⟨b, 3, none⟩ = some (.slice (adr ao) n cap)) (hn : ∃ k, n' = k * R ∧ k ≤ lim) (hle : n' ≤ n) :
    SpaceAt (w.setCell ⟨b, 3, none⟩ (.slice (adr ao) n' cap)) b ao base R lim n' f := by
  obtain ⟨cap', hb, hr⟩ := h.ex
  have e : cap' = cap := by
    have : w.cell? ⟨b, 3, none⟩ = some (.slice (adr ao) n cap') := by simp [World.cell?, hb]
    rw [this] at h3
    injection h3 with h3
    injection h3
  subst e
  refine ⟨h.cfg, hn, cap', ?_, ?_⟩
  · simp only [World.setCell]
    rw [Array.getElem?_modify, if_pos rfl, hb]
    simp
  · cases ao with
    | none => exact ⟨by have := hr.1; omega, hr.2⟩
    | some g =>
      obtain ⟨h1, rs, h2, h3, h4, h5, h6⟩ := hr
      exact ⟨h1, rs, h2, by rw [Below.heap_setCell _ _ _ _ h1]; exact h3, by omega, fun i hi => h5 i (by omega), h6⟩

end Go.Proofs.YthjokkihlodapaaGreat.M
