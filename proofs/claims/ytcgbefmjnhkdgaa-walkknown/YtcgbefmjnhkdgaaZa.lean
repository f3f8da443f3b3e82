import Derived.Test.YtcgbefmjnhkdgaaProg
import Derived.WalkKit
import Derived.WalkSpells
import Derived.WalkLawsBesides
import Derived.Outline
import Derived.Laws.CopyOwn
import Derived.RegionTactic
import Derived.ChangeAlike
import Derived.Deep.QuietTactic
import Derived.BigQuiet
import Derived.Defers
import Derived.Recover
import Derived.Lib.AppendZerosOnto
import Derived.Deep.RegionLaw
set_option maxRecDepth 1000000
set_option maxHeartbeats 80000000
/- What is kept of memory; rows of bytes; where a space lies; the contracts of Regions and End. -/
namespace Go.Proofs.Ytcgbefmjnhkdgaa.M
open Go.RowKit
set_option linter.unusedVariables false

theorem hid {p : Prop} (h : p) : Hid p := h
theorem ret_int {k : IntKind} {a b : Int} (h : a = b) : Ending.returned (.int k a) = .returned (.int k b) := by rw [h]
theorem ret_bool {a b : Bool} (h : a = b) : Ending.returned (.bool a) = .returned (.bool b) := by rw [h]
theorem wrap_u8 (n : Int) : IntKind.u8.wrap n = n % 2 ^ 8 := IntKind.wrap_u8' n
theorem wrap_u64 (n : Int) : IntKind.u64.wrap n = n % 2 ^ 64 := IntKind.wrap_u64 n

/-- Of the blocks that were there all but those of S are as they were. -/
structure Kept (S : Nat → Prop) (w w' : World) : Prop where
  os : w'.os = w.os
  tape : w'.tape = w.tape
  output : w'.output = w.output
  size : w.heap.size ≤ w'.heap.size
  block : ∀ k, k < w.heap.size → ¬ S k → w'.heap[k]? = w.heap[k]?

theorem Kept.refl (S : Nat → Prop) (w : World) : Kept S w w := ⟨rfl, rfl, rfl, Nat.le_refl _, fun _ _ _ => rfl⟩
theorem Kept.trans {S T U : Nat → Prop} {a b c : World} (h : Kept S a b) (k : Kept T b c) (hS : ∀ x, x < a.heap.size → S x → U x) (hT : ∀ x, x < a.heap.size → T x → U x) : Kept U a c :=
  ⟨k.os.trans h.os, k.tape.trans h.tape, k.output.trans h.output, Nat.le_trans h.size k.size, fun i hi hU => (k.block i (Nat.lt_of_lt_of_le hi h.size) (fun x => hU (hT i hi x))).trans (h.block i hi (fun x => hU (hS i hi x)))⟩
theorem Kept.mono {S T : Nat → Prop} {a b : World} (h : Kept S a b) (hS : ∀ x, x < a.heap.size → S x → T x) : Kept T a b :=
  ⟨h.os, h.tape, h.output, h.size, fun i hi hU => h.block i hi (fun x => hU (hS i hi x))⟩
theorem Kept.below {S : Nat → Prop} {B : Nat} {a b : World} (h : Kept S a b) (hB : B ≤ a.heap.size) (hS : ∀ x, S x → B ≤ x) : Below B a b :=
  ⟨h.os, h.tape, h.output, h.size, fun i hi => h.block i (by omega) (fun x => by have := hS i x; omega)⟩
theorem Kept.drew {S : Nat → Prop} {a b : World} (h : Kept S a b) : Kept S a b.drew := ⟨h.os, h.tape, h.output, h.size, h.block⟩
theorem Kept.drewN {S : Nat → Prop} {a b : World} (h : Kept S a b) (n : Nat) : Kept S a (b.drewN n) := ⟨h.os, h.tape, h.output, h.size, h.block⟩
theorem Kept.alloc {S : Nat → Prop} {a b : World} (h : Kept S a b) (o : Obj) : Kept S a (b.alloc o) :=
  ⟨h.os, h.tape, h.output, by simp; have := h.size; omega, fun i hi hU => by rw [Below.heap_alloc _ _ _ (by have := h.size; omega)]; exact h.block i hi hU⟩
theorem Kept.setCell {S : Nat → Prop} {a b : World} (h : Kept S a b) {p : Addr} (hp : p.block < a.heap.size → S p.block) (u : Value) : Kept S a (b.setCell p u) :=
  ⟨h.os, h.tape, h.output, by simp; exact h.size, fun i hi hU => by rw [Below.heap_setCell b p u i (fun e => hU (by rw [e]; exact hp (e ▸ hi)))]; exact h.block i hi hU⟩
theorem Kept.setRow {S : Nat → Prop} {a b : World} (h : Kept S a b) {g : Nat} (hg : g < a.heap.size → S g) (cs : Array Value) : Kept S a (b.setRow g cs) :=
  ⟨h.os, h.tape, h.output, by simp [World.setRow]; exact h.size, fun i hi hU => by rw [setRow_other b g i _ (fun e => hU (by rw [e]; exact hg (e ▸ hi)))]; exact h.block i hi hU⟩

theorem lt_of_cell {w : World} {p : Addr} {v : Value} (h : w.cell? p = some v) : p.block < w.heap.size := by
  rcases Nat.lt_or_ge p.block w.heap.size with h1 | h1
  · exact h1
  · exfalso
    simp [World.cell?, Array.getElem?_eq_none h1] at h
theorem Kept.cell {S : Nat → Prop} {a b : World} (h : Kept S a b) {p : Addr} {v : Value} (hp : ¬ S p.block) (hc : a.cell? p = some v) : b.cell? p = some v := by
  rw [← hc]
  exact World.cell?_of_block (h.block _ (lt_of_cell hc) hp)

theorem heap_new (w : World) (o : Obj) : (w.alloc o).heap[w.heap.size]? = some o := by
  show (w.heap.push o)[w.heap.size]? = _
  simp

/-- The cells of a row of bytes. -/
def bcells (rs : List Nat) : Array Value := (rs.map fun (x : Nat) => Value.int .u8 (x : Int)).toArray
theorem bcells_size (rs : List Nat) : (bcells rs).size = rs.length := by simp [bcells]

/-- The blocks of a space. -/
def own (b : Nat) (ao : Option Nat) : Nat → Prop := fun x => x = b ∨ ao = some x
def none' : Nat → Prop := fun _ => False

structure Cfg (base R lim : Nat) : Prop where
  b1 : 1 ≤ base
  l1 : 1 ≤ lim
  l2 : lim ≤ 64
  r1 : 4096 ≤ R
  r2 : R ≤ 1048576
  lr : lim * R ≤ 4194304
  be : base + lim * R ≤ 9223372036854775808

/-- The row of a space's bytes: n of them are committed, f tells them. -/
def RowAt (w : World) (b : Nat) (ao : Option Nat) (n cap : Nat) (f : Nat → Nat) : Prop :=
  match ao with
  | none => n = 0 ∧ cap = 0
  | some g => g ≠ b ∧ ∃ rs : List Nat, rs.length = cap ∧ w.heap[g]? = some (.cells (bcells rs) 5 (0, 0)) ∧ n ≤ cap ∧ (∀ i, i < n → rs.getD i 0 = f i) ∧ ∀ i, rs.getD i 0 < 256

def adr (ao : Option Nat) : Option Addr := ao.map fun g => ⟨g, 0, none⟩

/-- A space: its struct in block b, its bytes in block ao. -/
structure SpaceAt (w : World) (b : Nat) (ao : Option Nat) (base R lim n : Nat) (f : Nat → Nat) : Prop where
  cfg : Cfg base R lim
  kn : ∃ k, n = k * R ∧ k ≤ lim
  ex : ∃ cap, w.heap[b]? = some (.cells #[.int .u64 (base : Int), .int .u64 (R : Int), .int .i64 (lim : Int), .slice (adr ao) n cap] 130 (0, 0)) ∧ RowAt w b ao n cap f

theorem SpaceAt.blt {w b ao base R lim n f} (h : SpaceAt w b ao base R lim n f) : b < w.heap.size := by
  obtain ⟨cap, hb, _⟩ := h.ex
  exact (Array.getElem?_eq_some_iff.1 hb).1
theorem SpaceAt.glt {w b g base R lim n f} (h : SpaceAt w b (some g) base R lim n f) : g < w.heap.size := by
  obtain ⟨cap, _, _, rs, _, hg, _⟩ := h.ex
  exact (Array.getElem?_eq_some_iff.1 hg).1
theorem SpaceAt.own_lt {w b ao base R lim n f} (h : SpaceAt w b ao base R lim n f) (x : Nat) (hx : own b ao x) : x < w.heap.size := by
  rcases hx with rfl | rfl
  · exact h.blt
  · exact h.glt
theorem SpaceAt.nle {w b ao base R lim n f} (h : SpaceAt w b ao base R lim n f) : n ≤ lim * R := by
  obtain ⟨k, rfl, hk⟩ := h.kn
  exact Nat.mul_le_mul_right _ hk
theorem SpaceAt.kept {w w' b ao base R lim n f} {S : Nat → Prop} (h : SpaceAt w b ao base R lim n f) (k : Kept S w w') (hS : ∀ x, own b ao x → ¬ S x) : SpaceAt w' b ao base R lim n f := by
  have hl := h.own_lt
  obtain ⟨cap, hb, hr⟩ := h.ex
  refine ⟨h.cfg, h.kn, cap, (k.block b (hl b (Or.inl rfl)) (hS b (Or.inl rfl))).trans hb, ?_⟩
  cases ao with
  | none => exact hr
  | some g =>
    obtain ⟨hne, rs, h1, h2, h3⟩ := hr
    exact ⟨hne, rs, h1, (k.block g (hl g (Or.inr rfl)) (hS g (Or.inr rfl))).trans h2, h3⟩
theorem SpaceAt.keep {w w' b ao base R lim n f} (h : SpaceAt w b ao base R lim n f) (k : Kept none' w w') : SpaceAt w' b ao base R lim n f :=
  h.kept k (fun _ _ x => x)
theorem SpaceAt.c0 {w b ao base R lim n f} (h : SpaceAt w b ao base R lim n f) : w.cell? ⟨b, 0, none⟩ = some (.int .u64 (base : Int)) := by
  obtain ⟨cap, hb, _⟩ := h.ex
  simp [World.cell?, hb]
theorem SpaceAt.c1 {w b ao base R lim n f} (h : SpaceAt w b ao base R lim n f) : w.cell? ⟨b, 1, none⟩ = some (.int .u64 (R : Int)) := by
  obtain ⟨cap, hb, _⟩ := h.ex
  simp [World.cell?, hb]
theorem SpaceAt.c2 {w b ao base R lim n f} (h : SpaceAt w b ao base R lim n f) : w.cell? ⟨b, 2, none⟩ = some (.int .i64 (lim : Int)) := by
  obtain ⟨cap, hb, _⟩ := h.ex
  simp [World.cell?, hb]
theorem SpaceAt.c3 {w b ao base R lim n f} (h : SpaceAt w b ao base R lim n f) : ∃ cap, w.cell? ⟨b, 3, none⟩ = some (.slice (adr ao) n cap) := by
  obtain ⟨cap, hb, _⟩ := h.ex
  exact ⟨cap, by simp [World.cell?, hb]⟩
theorem SpaceAt.fb {w b ao base R lim n f} (h : SpaceAt w b ao base R lim n f) (i : Nat) : w.frozen? ⟨b, i, none⟩ = false := by
  obtain ⟨cap, hb, _⟩ := h.ex
  simp [World.frozen?, hb]

theorem regions_any (b ao base R lim n f) (w : World) (h : SpaceAt w b ao base R lim n f) :
    Calls Try.prog 85 #[.pointer (some ⟨b, 0, none⟩)] w fun e w' => e = .returned (.int .i64 ((n / R : Nat) : Int)) ∧ ∃ m, w' = w.drewN m := by
  obtain ⟨cap, h3⟩ := h.c3
  have h1 := h.c1
  have hn := h.nle
  have hc := h.cfg
  have r1 := hc.r1
  have r2 := hc.r2
  have hn2 : n ≤ 4194304 := Nat.le_trans hn hc.lr
  have r0 : ¬ (R : Int) = 0 := by omega
  have E := hid (show wrap64 ((n : Int) / (R : Int)) = ((n / R : Nat) : Int) by
    have hq : n / R ≤ n := Nat.div_le_self _ _
    rw [← Int.natCast_ediv]
    generalize n / R = q at hq
    unfold wrap64
    omega)
  clear h hc hn
  go_enter Try.func85, Try.ntmps85
  go_wp2
  go_quiet (fail)
  go_wp2
  go_ret
  exact ⟨ret_int E.out, _, rfl⟩

theorem end_any (b ao base R lim n f) (w : World) (h : SpaceAt w b ao base R lim n f) :
    Calls Try.prog 80 #[.pointer (some ⟨b, 0, none⟩)] w fun e w' => e = .returned (.int .u64 ((base + n : Nat) : Int)) ∧ ∃ m, w' = w.drewN m := by
  obtain ⟨cap, h3⟩ := h.c3
  have h0 := h.c0
  have hn := h.nle
  have hc := h.cfg
  have be := hc.be
  have lr := hc.lr
  have hn2 : n ≤ 4194304 := Nat.le_trans hn hc.lr
  have hbn : base + n ≤ 9223372036854775808 := by omega
  have E := hid (show (base : Int) + (n : Int) = ((base + n : Nat) : Int) by simp)
  clear h hc hn lr be
  go_enter Try.func80, Try.ntmps80
  go_wp2
  go_quiet (fail)
  go_wp2
  go_ret
  exact ⟨ret_int E.out, _, rfl⟩
end Go.Proofs.Ytcgbefmjnhkdgaa.M
/- The place of bytes; what is thrown is caught; Byte, SetByte. -/
namespace Go.Proofs.Ytcgbefmjnhkdgaa.M
open Go.RowKit
set_option linter.unusedVariables false

theorem at_zero (b : Nat) (p : Int) (w : World) :
    Calls Try.prog 88 #[.pointer (some ⟨b, 0, none⟩), .int .u64 p, .int .u64 0] w fun e w' => e = .returned (.slice none 0 0) ∧ w' = w := by
  go_enter Try.func88, Try.ntmps88
  go_wp2
  go_ret
  exact ⟨rfl, rfl⟩

/-- The k bytes from p on are there (k is not 0). -/
def In (base n p k : Nat) : Prop := base ≤ p ∧ p + k ≤ base + n

theorem at_in (b g base R lim n f) (p k : Nat) (w : World) (h : SpaceAt w b (some g) base R lim n f) (hk : 0 < k) (hin : In base n p k) :
    Calls Try.prog 88 #[.pointer (some ⟨b, 0, none⟩), .int .u64 (p : Int), .int .u64 (k : Int)] w fun e w' => (∃ c, e = .returned (.slice (some ⟨g, p - base, none⟩) k c)) ∧ ∃ m, w' = w.drewN m := by
  have hH := h
  have h0 := h.c0
  have hn := h.nle
  have hc := h.cfg
  have be := hc.be
  have lr := hc.lr
  obtain ⟨cap, hb, _, rs, hrl, hg, hnc, _, _⟩ := h.ex
  have h3 : w.cell? ⟨b, 3, none⟩ = some (.slice (some ⟨g, 0, none⟩) n cap) := by simp [World.cell?, hb, adr]
  obtain ⟨hp1, hp2⟩ := hin
  have HH := hid hH
  obtain ⟨o, rfl⟩ : ∃ o, p = base + o := ⟨p - base, by omega⟩
  have e1 : base + o - base = o := by omega
  rw [e1]
  have ho : o + k ≤ n := by omega
  have hoc : o + k ≤ cap := by omega
  have hn2 : n ≤ 4194304 := by omega
  have hbn : base + n ≤ 9223372036854775808 := by omega
  clear h hc hH lr be hn hg hrl hb hp1 hp2 e1
  go_enter Try.func88, Try.ntmps88
  go_wp2_with (go_at_call 80; refine (end_any b (some g) base R lim n f _ HH.out).mono ?_; rintro e w' ⟨rfl, m, rfl⟩)
  go_ret
  refine ⟨⟨cap - o, ?_⟩, _, rfl⟩
  show Ending.returned (.slice (some ⟨g, base + o - base, none⟩) (base + o - base + k - (base + o - base)) (cap - (base + o - base))) = _
  have e1 : base + o - base = o := by omega
  have e2 : o + k - o = k := by omega
  rw [e1, e2]

/-- What the place of bytes that are not there throws. -/
def thrown : List PanicEntry := [{ v := .iface 51 (.int .i64 4), recovered := false }]

theorem at_out (b ao base R lim n f) (p k : Nat) (w : World) (h : SpaceAt w b ao base R lim n f) (hp64 : p < 18446744073709551616) (hk64 : k < 18446744073709551616) (hk : 0 < k) (hin : ¬ In base n p k) :
    Calls Try.prog 88 #[.pointer (some ⟨b, 0, none⟩), .int .u64 (p : Int), .int .u64 (k : Int)] w fun e w' => e = .panicked thrown ∧ ∃ m, w' = w.drewN m := by
  have h0 := h.c0
  have hn := h.nle
  have hc := h.cfg
  have be := hc.be
  have lr := hc.lr
  have HH := hid h
  have hn2 : n ≤ 4194304 := by omega
  have hbn : base + n ≤ 9223372036854775808 := by omega
  by_cases h1 : p < base
  · clear h hc lr be hn hin
    go_enter Try.func88, Try.ntmps88
    go_wp2_with (go_at_call 80; refine (end_any b ao base R lim n f _ HH.out).mono ?_; rintro e w' ⟨rfl, m, rfl⟩)
    exact ⟨rfl, rfl, _, rfl⟩
  · by_cases h2 : base + n < p
    · clear h hc lr be hn hin
      go_enter Try.func88, Try.ntmps88
      go_wp2_with (go_at_call 80; refine (end_any b ao base R lim n f _ HH.out).mono ?_; rintro e w' ⟨rfl, m, rfl⟩)
      exact ⟨rfl, rfl, _, rfl⟩
    · have h3 : base + n - p < k := by unfold In at hin; omega
      have h4 : (base : Int) + n - p < k := by omega
      clear h hc lr be hn hin h3
      go_enter Try.func88, Try.ntmps88
      go_wp2_with (go_at_call 80; refine (end_any b ao base R lim n f _ HH.out).mono ?_; rintro e w' ⟨rfl, m, rfl⟩)
      exact ⟨rfl, rfl, _, rfl⟩

theorem caught_nil (w : World) : Calls Try.prog 87 #[.nilIface] w fun e w' => e = .returned (.int .i64 0) ∧ w' = w := by
  go_enter Try.func87, Try.ntmps87
  go_wp2
  go_ret
  exact ⟨rfl, rfl⟩
theorem caught_some (t : TypeId) (v : Value) (w : World) : Calls Try.prog 87 #[.iface t v] w fun e w' => e = .returned (.int .i64 4) ∧ w' = w := by
  go_enter Try.func87, Try.ntmps87
  go_wp2
  go_ret
  exact ⟨rfl, rfl⟩

theorem cpWrite (p : Addr) (x : Int) (u : TypeId) (pv : Value) (older : List PanicEntry) (w : World) (hc : w.cell? p = some (.int .i64 x)) (hz : w.frozen? p = false) :
    CallsD Try.prog 86 #[.pointer (some p)] (.panicking ({ v := .iface u pv, recovered := false } :: older)) w fun e u' w' =>
      e = .returned (.tuple #[]) ∧ u' = .panicking ({ v := .iface u pv, recovered := true } :: older) ∧ w' = w.setCell p (.int .i64 4) := by
  refine callsD_of_wpS Try.func86 rfl fun c₀ cs hu => ?_
  apply wpS_region
  simp [wpOpsS, go_sem, recoverD, hu, Try.ntmps86]
  refine (caught_some _ _ _).mono ?_
  rintro e w' ⟨rfl, rfl⟩
  simp [go_sem, hc, hz, bodyPostS, results, Try.results86]

theorem ciWrite (p : Addr) (x : Int) (w : World) (hc : w.cell? p = some (.int .i64 x)) (hz : w.frozen? p = false) :
    CallsD Try.prog 86 #[.pointer (some p)] .returning w fun e u' w' => e = .returned (.tuple #[]) ∧ u' = .returning ∧ w' = w.setCell p (.int .i64 0) := by
  refine callsD_of_wpS Try.func86 rfl fun c₀ cs hu => ?_
  apply wpS_region
  simp [wpOpsS, go_sem, recoverD, hu, Try.ntmps86]
  refine (caught_nil _).mono ?_
  rintro e w' ⟨rfl, rfl⟩
  cases c₀
  simp_all [go_sem, bodyPostS, results, Try.results86]

/-- The variable of a call's error: in the block that is new. -/
structure Err (S : Nat → Prop) (w w1 : World) : Prop where
  k : Kept S w w1
  he : w1.heap[w.heap.size]? = some (.cells #[.int .i64 0] 51 (0, 0))
  sz : w1.heap.size = w.heap.size + 1
theorem Err.mk' (S : Nat → Prop) (w : World) : Err S w (w.alloc (.cells #[.int .i64 0] 51)) := ⟨(Kept.refl _ w).alloc _, heap_new _ _, by simp⟩
theorem Err.drewN {S : Nat → Prop} {w w1 : World} (h : Err S w w1) (m : Nat) : Err S w (w1.drewN m) := ⟨h.k.drewN m, h.he, h.sz⟩
theorem Err.c {S : Nat → Prop} {w w1 : World} (h : Err S w w1) : w1.cell? ⟨w.heap.size, 0, none⟩ = some (.int .i64 0) := by simp [World.cell?, h.he]
theorem Err.f {S : Nat → Prop} {w w1 : World} (h : Err S w w1) : w1.frozen? ⟨w.heap.size, 0, none⟩ = false := by simp [World.frozen?, h.he]
theorem Err.mono {S T : Nat → Prop} {w w1 : World} (h : Err S w w1) (hST : ∀ x, S x → T x) : Err T w w1 := ⟨h.k.mono (fun x _ => hST x), h.he, h.sz⟩
theorem Err.setCell {S : Nat → Prop} {w w1 : World} (h : Err S w w1) {g : Nat} (hg : g < w.heap.size) (hS : S g) (i : Nat) (u : Value) : Err S w (w1.setCell ⟨g, i, none⟩ u) :=
  ⟨h.k.setCell (fun _ => hS) u, by rw [Below.heap_setCell _ _ _ _ (by simp; omega)]; exact h.he, by simp; exact h.sz⟩
theorem Err.setRow {S : Nat → Prop} {w w1 : World} (h : Err S w w1) {g : Nat} (hg : g < w.heap.size) (hS : S g) (cs : Array Value) : Err S w (w1.setRow g cs) :=
  ⟨h.k.setRow (fun _ => hS) cs, by rw [setRow_other _ _ _ _ (by omega)]; exact h.he, by simp [World.setRow]; exact h.sz⟩
/-- Behind the deferred call. -/
theorem Err.done {S : Nat → Prop} {w w1 : World} (h : Err S w w1) (u : Value) : Kept S w (w1.setCell ⟨w.heap.size, 0, none⟩ u) := h.k.setCell (fun h => absurd h (Nat.lt_irrefl _)) _
theorem Err.done2 {S : Nat → Prop} {w w1 : World} (h : Err S w w1) (u v : Value) : Kept S w ((w1.setCell ⟨w.heap.size, 0, none⟩ u).setCell ⟨w.heap.size, 0, none⟩ v) := (h.done u).setCell (fun h => absurd h (Nat.lt_irrefl _)) _

theorem SpaceAt.cg {w b g base R lim n f} (h : SpaceAt w b (some g) base R lim n f) (i : Nat) (hi : i < n) : w.cell? ⟨g, i, none⟩ = some (.int .u8 ((f i : Nat) : Int)) := by
  obtain ⟨cap, hb, _, rs, hrl, hg, hnc, hf, _⟩ := h.ex
  rw [← hf i hi]
  simp [World.cell?, hg, bcells, show i < rs.length by omega]
theorem SpaceAt.fg {w b g base R lim n f} (h : SpaceAt w b (some g) base R lim n f) (i : Nat) : w.frozen? ⟨g, i, none⟩ = false := by
  obtain ⟨cap, hb, _, rs, hrl, hg, hnc, hf, _⟩ := h.ex
  simp [World.frozen?, hg]

end Go.Proofs.Ytcgbefmjnhkdgaa.M
