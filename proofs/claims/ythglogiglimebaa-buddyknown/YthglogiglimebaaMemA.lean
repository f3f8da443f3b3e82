/- What is kept of memory; rows of bytes; where a space lies; the contracts of Regions and End. -/
import Derived.Test.YthglogiglimebaaProg
import Derived.WalkKit
import Derived.WalkSpells
import Derived.WalkLawsBesides
import Derived.Outline
import Derived.Laws.CopyOwn
import Derived.RegionTactic
import Derived.ChangeAlike
import Derived.Deep.QuietTactic
import Derived.BigQuiet
import Derived.Defers
import Derived.Recover
import Derived.Lib.AppendZerosOnto
import Derived.Deep.RegionLaw
namespace Go.Proofs.Ythglogiglimebaa.M
open Go.RowKit
set_option linter.unusedVariables false

theorem hid {p : Prop} (h : p) : Hid p := h
theorem ret_int {k : IntKind} {a b : Int} (h : a = b) : Ending.returned (.int k a) = .returned (.int k b) := by rw [h]
theorem ret_bool {a b : Bool} (h : a = b) : Ending.returned (.bool a) = .returned (.bool b) := by rw [h]
theorem wrap_u8 (n : Int) : IntKind.u8.wrap n = n % 2 ^ 8 := IntKind.wrap_u8' n
theorem wrap_u64 (n : Int) : IntKind.u64.wrap n = n % 2 ^ 64 := IntKind.wrap_u64 n

/-- Of the blocks that were there all but those of S are as they were. -/
structure Kept (S : Nat → Prop) (w w' : World) : Prop where
  os : w'.os = w.os
  tape : w'.tape = w.tape
  output : w'.output = w.output
  size : w.heap.size ≤ w'.heap.size
  block : ∀ k, k < w.heap.size → ¬ S k → w'.heap[k]? = w.heap[k]?

theorem Kept.refl (S : Nat → Prop) (w : World) : Kept S w w := ⟨rfl, rfl, rfl, Nat.le_refl _, fun _ _ _ => rfl⟩
theorem Kept.trans {S T U : Nat → Prop} {a b c : World} (h : Kept S a b) (k : Kept T b c) (hS : ∀ x, x < a.heap.size → S x → U x) (hT : ∀ x, x < a.heap.size → T x → U x) : Kept U a c :=
  ⟨k.os.trans h.os, k.tape.trans h.tape, k.output.trans h.output, Nat.le_trans h.size k.size, fun i hi hU => (k.block i (Nat.lt_of_lt_of_le hi h.size) (fun x => hU (hT i hi x))).trans (h.block i hi (fun x => hU (hS i hi x)))⟩
theorem Kept.mono {S T : Nat → Prop} {a b : World} (h : Kept S a b) (hS : ∀ x, x < a.heap.size → S x → T x) : Kept T a b :=
  ⟨h.os, h.tape, h.output, h.size, fun i hi hU => h.block i hi (fun x => hU (hS i hi x))⟩
theorem Kept.below {S : Nat → Prop} {B : Nat} {a b : World} (h : Kept S a b) (hB : B ≤ a.heap.size) (hS : ∀ x, S x → B ≤ x) : Below B a b :=
  ⟨h.os, h.tape, h.output, h.size, fun i hi => h.block i (by omega) (fun x => by have := hS i x; omega)⟩
theorem Kept.drew {S : Nat → Prop} {a b : World} (h : Kept S a b) : Kept S a b.drew := ⟨h.os, h.tape, h.output, h.size, h.block⟩
theorem Kept.drewN {S : Nat → Prop} {a b : World} (h : Kept S a b) (n : Nat) : Kept S a (b.drewN n) := ⟨h.os, h.tape, h.output, h.size, h.block⟩
theorem Kept.alloc {S : Nat → Prop} {a b : World} (h : Kept S a b) (o : Obj) : Kept S a (b.alloc o) :=
  ⟨h.os, h.tape, h.output, by simp; have := h.size; omega, fun i hi hU => by rw [Below.heap_alloc _ _ _ (by have := h.size; omega)]; exact h.block i hi hU⟩
theorem Kept.setCell {S : Nat → Prop} {a b : World} (h : Kept S a b) {p : Addr} (hp : p.block < a.heap.size → S p.block) (u : Value) : Kept S a (b.setCell p u) :=
  ⟨h.os, h.tape, h.output, by simp; exact h.size, fun i hi hU => by rw [Below.heap_setCell b p u i (fun e => hU (by rw [e]; exact hp (e ▸ hi)))]; exact h.block i hi hU⟩
theorem Kept.setRow {S : Nat → Prop} {a b : World} (h : Kept S a b) {g : Nat} (hg : g < a.heap.size → S g) (cs : Array Value) : Kept S a (b.setRow g cs) :=
  ⟨h.os, h.tape, h.output, by simp [World.setRow]; exact h.size, fun i hi hU => by rw [setRow_other b g i _ (fun e => hU (by rw [e]; exact hg (e ▸ hi)))]; exact h.block i hi hU⟩

theorem lt_of_cell {w : World} {p : Addr} {v : Value} (h : w.cell? p = some v) : p.block < w.heap.size := by
  rcases Nat.lt_or_ge p.block w.heap.size with h1 | h1
  · exact h1
  · exfalso
    simp [World.cell?, Array.getElem?_eq_none h1] at h
theorem Kept.cell {S : Nat → Prop} {a b : World} (h : Kept S a b) {p : Addr} {v : Value} (hp : ¬ S p.block) (hc : a.cell? p = some v) : b.cell? p = some v := by
  rw [← hc]
  exact World.cell?_of_block (h.block _ (lt_of_cell hc) hp)

theorem heap_new (w : World) (o : Obj) : (w.alloc o).heap[w.heap.size]? = some o := by
  show (w.heap.push o)[w.heap.size]? = _
  simp

/-- The cells of a row of bytes. -/
def bcells (rs : List Nat) : Array Value := (rs.map fun (x : Nat) => Value.int .u8 (x : Int)).toArray
theorem bcells_size (rs : List Nat) : (bcells rs).size = rs.length := by simp [bcells]

/-- The blocks of a space. -/
def own (b : Nat) (ao : Option Nat) : Nat → Prop := fun x => x = b ∨ ao = some x
def none' : Nat → Prop := fun _ => False

structure Cfg (base R lim : Nat) : Prop where
  b1 : 1 ≤ base
  l1 : 1 ≤ lim
  l2 : lim ≤ 64
  r1 : 4096 ≤ R
  r2 : R ≤ 1048576
  lr : lim * R ≤ 4194304
  be : base + lim * R ≤ 9223372036854775808

/-- The row of a space's bytes: n of them are committed, f tells them. -/
def RowAt (w : World) (b : Nat) (ao : Option Nat) (n cap : Nat) (f : Nat → Nat) : Prop :=
  match ao with
  | none => n = 0 ∧ cap = 0
  | some g => g ≠ b ∧ ∃ rs : List Nat, rs.length = cap ∧ w.heap[g]? = some (.cells (bcells rs) 5 (0, 0)) ∧ n ≤ cap ∧ (∀ i, i < n → rs.getD i 0 = f i) ∧ ∀ i, rs.getD i 0 < 256

def adr (ao : Option Nat) : Option Addr := ao.map fun g => ⟨g, 0, none⟩

/-- A space: its struct in block b, its bytes in block ao. -/
structure SpaceAt (w : World) (b : Nat) (ao : Option Nat) (base R lim n : Nat) (f : Nat → Nat) : Prop where
  cfg : Cfg base R lim
  kn : ∃ k, n = k * R ∧ k ≤ lim
  ex : ∃ cap, w.heap[b]? = some (.cells #[.int .u64 (base : Int), .int .u64 (R : Int), .int .i64 (lim : Int), .slice (adr ao) n cap] 98 (0, 0)) ∧ RowAt w b ao n cap f

theorem SpaceAt.blt {w b ao base R lim n f} (h : SpaceAt w b ao base R lim n f) : b < w.heap.size := by
  obtain ⟨cap, hb, _⟩ := h.ex
  exact (Array.getElem?_eq_some_iff.1 hb).1
theorem SpaceAt.glt {w b g base R lim n f} (h : SpaceAt w b (some g) base R lim n f) : g < w.heap.size := by
  obtain ⟨cap, _, _, rs, _, hg, _⟩ := h.ex
  exact (Array.getElem?_eq_some_iff.1 hg).1
theorem SpaceAt.own_lt {w b ao base R lim n f} (h : SpaceAt w b ao base R lim n f) (x : Nat) (hx : own b ao x) : x < w.heap.size := by
  rcases hx with rfl | rfl
  · exact h.blt
  · exact h.glt
theorem SpaceAt.nle {w b ao base R lim n f} (h : SpaceAt w b ao base R lim n f) : n ≤ lim * R := by
  obtain ⟨k, rfl, hk⟩ := h.kn
  exact Nat.mul_le_mul_right _ hk
theorem SpaceAt.kept {w w' b ao base R lim n f} {S : Nat → Prop} (h : SpaceAt w b ao base R lim n f) (k : Kept S w w') (hS : ∀ x, own b ao x → ¬ S x) : SpaceAt w' b ao base R lim n f := by
  have hl := h.own_lt
  obtain ⟨cap, hb, hr⟩ := h.ex
  refine ⟨h.cfg, h.kn, cap, (k.block b (hl b (Or.inl rfl)) (hS b (Or.inl rfl))).trans hb, ?_⟩
  cases ao with
  | none => exact hr
  | some g =>
    obtain ⟨hne, rs, h1, h2, h3⟩ := hr
    exact ⟨hne, rs, h1, (k.block g (hl g (Or.inr rfl)) (hS g (Or.inr rfl))).trans h2, h3⟩
theorem SpaceAt.keep {w w' b ao base R lim n f} (h : SpaceAt w b ao base R lim n f) (k : Kept none' w w') : SpaceAt w' b ao base R lim n f :=
  h.kept k (fun _ _ x => x)
theorem SpaceAt.c0 {w b ao base R lim n f} (h : SpaceAt w b ao base R lim n f) : w.cell? ⟨b, 0, none⟩ = some (.int .u64 (base : Int)) := by
  obtain ⟨cap, hb, _⟩ := h.ex
  simp [World.cell?, hb]
theorem SpaceAt.c1 {w b ao base R lim n f} (h : SpaceAt w b ao base R lim n f) : w.cell? ⟨b, 1, none⟩ = some (.int .u64 (R : Int)) := by
  obtain ⟨cap, hb, _⟩ := h.ex
  simp [World.cell?, hb]
theorem SpaceAt.c2 {w b ao base R lim n f} (h : SpaceAt w b ao base R lim n f) : w.cell? ⟨b, 2, none⟩ = some (.int .i64 (lim : Int)) := by
  obtain ⟨cap, hb, _⟩ := h.ex
  simp [World.cell?, hb]
theorem SpaceAt.c3 {w b ao base R lim n f} (h : SpaceAt w b ao base R lim n f) : ∃ cap, w.cell? ⟨b, 3, none⟩ = some (.slice (adr ao) n cap) := by
  obtain ⟨cap, hb, _⟩ := h.ex
  exact ⟨cap, by simp [World.cell?, hb]⟩
theorem SpaceAt.fb {w b ao base R lim n f} (h : SpaceAt w b ao base R lim n f) (i : Nat) : w.frozen? ⟨b, i, none⟩ = false := by
  obtain ⟨cap, hb, _⟩ := h.ex
  simp [World.frozen?, hb]

theorem regions_any (b ao base R lim n f) (w : World) (h : SpaceAt w b ao base R lim n f) :
    Calls Try.prog 49 #[.pointer (some ⟨b, 0, none⟩)] w fun e w' => e = .returned (.int .i64 ((n / R : Nat) : Int)) ∧ ∃ m, w' = w.drewN m := by
  obtain ⟨cap, h3⟩ := h.c3
  have h1 := h.c1
  have hn := h.nle
  have hc := h.cfg
  have r1 := hc.r1
  have r2 := hc.r2
  have hn2 : n ≤ 4194304 := Nat.le_trans hn hc.lr
  have r0 : ¬ (R : Int) = 0 := by omega
  have E := hid (show wrap64 ((n : Int) / (R : Int)) = ((n / R : Nat) : Int) by
    have hq : n / R ≤ n := Nat.div_le_self _ _
    rw [← Int.natCast_ediv]
    generalize n / R = q at hq
    unfold wrap64
    omega)
  clear h hc hn
  go_enter Try.func49, Try.ntmps49
  go_wp2
  go_quiet (fail)
  go_wp2
  go_ret
  exact ⟨ret_int E.out, _, rfl⟩

theorem end_any (b ao base R lim n f) (w : World) (h : SpaceAt w b ao base R lim n f) :
    Calls Try.prog 57 #[.pointer (some ⟨b, 0, none⟩)] w fun e w' => e = .returned (.int .u64 ((base + n : Nat) : Int)) ∧ ∃ m, w' = w.drewN m := by
  obtain ⟨cap, h3⟩ := h.c3
  have h0 := h.c0
  have hn := h.nle
  have hc := h.cfg
  have be := hc.be
  have lr := hc.lr
  have hn2 : n ≤ 4194304 := Nat.le_trans hn hc.lr
  have hbn : base + n ≤ 9223372036854775808 := by omega
  have E := hid (show (base : Int) + (n : Int) = ((base + n : Nat) : Int) by simp)
  clear h hc hn lr be
  go_enter Try.func57, Try.ntmps57
  go_wp2
  go_quiet (fail)
  go_wp2
  go_ret
  exact ⟨ret_int E.out, _, rfl⟩
end Go.Proofs.Ythglogiglimebaa.M
