/- The place of bytes; what is thrown is caught; Byte, SetByte. -/
import Derived.Test.YthglogiglimebaaMemA
namespace Go.Proofs.Ythglogiglimebaa.M
open Go.RowKit
set_option linter.unusedVariables false

theorem at_zero (b : Nat) (p : Int) (w : World) :
    Calls Try.prog 85 #[.pointer (some ⟨b, 0, none⟩), .int .u64 p, .int .u64 0] w fun e w' => e = .returned (.slice none 0 0) ∧ w' = w := by
  go_enter Try.func85, Try.ntmps85
  go_wp2
  go_ret
  exact ⟨rfl, rfl⟩

/-- The k bytes from p on are there (k is not 0). -/
def In (base n p k : Nat) : Prop := base ≤ p ∧ p + k ≤ base + n

theorem at_in (b g base R lim n f) (p k : Nat) (w : World) (h : SpaceAt w b (some g) base R lim n f) (hk : 0 < k) (hin : In base n p k) :
    Calls Try.prog 85 #[.pointer (some ⟨b, 0, none⟩), .int .u64 (p : Int), .int .u64 (k : Int)] w fun e w' => (∃ c, e = .returned (.slice (some ⟨g, p - base, none⟩) k c)) ∧ ∃ m, w' = w.drewN m := by
  have hH := h
  have h0 := h.c0
  have hn := h.nle
  have hc := h.cfg
  have be := hc.be
  have lr := hc.lr
  obtain ⟨cap, hb, _, rs, hrl, hg, hnc, _, _⟩ := h.ex
  have h3 : w.cell? ⟨b, 3, none⟩ = some (.slice (some ⟨g, 0, none⟩) n cap) := by simp [World.cell?, hb, adr]
  obtain ⟨hp1, hp2⟩ := hin
  have HH := hid hH
  obtain ⟨o, rfl⟩ : ∃ o, p = base + o := ⟨p - base, by omega⟩
  have e1 : base + o - base = o := by omega
  rw [e1]
  have ho : o + k ≤ n := by omega
  have hoc : o + k ≤ cap := by omega
  have hn2 : n ≤ 4194304 := by omega
  have hbn : base + n ≤ 9223372036854775808 := by omega
  clear h hc hH lr be hn hg hrl hb hp1 hp2 e1
  go_enter Try.func85, Try.ntmps85
  go_wp2_with (go_at_call 57; refine (end_any b (some g) base R lim n f _ HH.out).mono ?_; rintro e w' ⟨rfl, m, rfl⟩)
  go_ret
  refine ⟨⟨cap - o, ?_⟩, _, rfl⟩
  show Ending.returned (.slice (some ⟨g, base + o - base, none⟩) (base + o - base + k - (base + o - base)) (cap - (base + o - base))) = _
  have e1 : base + o - base = o := by omega
  have e2 : o + k - o = k := by omega
  rw [e1, e2]

/-- What the place of bytes that are not there throws. -/
def thrown : List PanicEntry := [{ v := .iface 28 (.int .i64 4), recovered := false }]

theorem at_out (b ao base R lim n f) (p k : Nat) (w : World) (h : SpaceAt w b ao base R lim n f) (hp64 : p < 18446744073709551616) (hk64 : k < 18446744073709551616) (hk : 0 < k) (hin : ¬ In base n p k) :
    Calls Try.prog 85 #[.pointer (some ⟨b, 0, none⟩), .int .u64 (p : Int), .int .u64 (k : Int)] w fun e w' => e = .panicked thrown ∧ ∃ m, w' = w.drewN m := by
  have h0 := h.c0
  have hn := h.nle
  have hc := h.cfg
  have be := hc.be
  have lr := hc.lr
  have HH := hid h
  have hn2 : n ≤ 4194304 := by omega
  have hbn : base + n ≤ 9223372036854775808 := by omega
  by_cases h1 : p < base
  · clear h hc lr be hn hin
    go_enter Try.func85, Try.ntmps85
    go_wp2_with (go_at_call 57; refine (end_any b ao base R lim n f _ HH.out).mono ?_; rintro e w' ⟨rfl, m, rfl⟩)
    exact ⟨rfl, rfl, _, rfl⟩
  · by_cases h2 : base + n < p
    · clear h hc lr be hn hin
      go_enter Try.func85, Try.ntmps85
      go_wp2_with (go_at_call 57; refine (end_any b ao base R lim n f _ HH.out).mono ?_; rintro e w' ⟨rfl, m, rfl⟩)
      exact ⟨rfl, rfl, _, rfl⟩
    · have h3 : base + n - p < k := by unfold In at hin; omega
      have h4 : (base : Int) + n - p < k := by omega
      clear h hc lr be hn hin h3
      go_enter Try.func85, Try.ntmps85
      go_wp2_with (go_at_call 57; refine (end_any b ao base R lim n f _ HH.out).mono ?_; rintro e w' ⟨rfl, m, rfl⟩)
      exact ⟨rfl, rfl, _, rfl⟩

theorem caught_nil (w : World) : Calls Try.prog 84 #[.nilIface] w fun e w' => e = .returned (.int .i64 0) ∧ w' = w := by
  go_enter Try.func84, Try.ntmps84
  go_wp2
  go_ret
  exact ⟨rfl, rfl⟩
theorem caught_some (t : TypeId) (v : Value) (w : World) : Calls Try.prog 84 #[.iface t v] w fun e w' => e = .returned (.int .i64 4) ∧ w' = w := by
  go_enter Try.func84, Try.ntmps84
  go_wp2
  go_ret
  exact ⟨rfl, rfl⟩

theorem cpByte (p : Addr) (x : Int) (u : TypeId) (pv : Value) (older : List PanicEntry) (w : World) (hc : w.cell? p = some (.int .i64 x)) (hz : w.frozen? p = false) :
    CallsD Try.prog 83 #[.pointer (some p)] (.panicking ({ v := .iface u pv, recovered := false } :: older)) w fun e u' w' =>
      e = .returned (.tuple #[]) ∧ u' = .panicking ({ v := .iface u pv, recovered := true } :: older) ∧ w' = w.setCell p (.int .i64 4) := by
  refine callsD_of_wpS Try.func83 rfl fun c₀ cs hu => ?_
  apply wpS_region
  simp [wpOpsS, go_sem, recoverD, hu, Try.ntmps83]
  refine (caught_some _ _ _).mono ?_
  rintro e w' ⟨rfl, rfl⟩
  simp [go_sem, hc, hz, bodyPostS, results, Try.results83]

theorem ciByte (p : Addr) (x : Int) (w : World) (hc : w.cell? p = some (.int .i64 x)) (hz : w.frozen? p = false) :
    CallsD Try.prog 83 #[.pointer (some p)] .returning w fun e u' w' => e = .returned (.tuple #[]) ∧ u' = .returning ∧ w' = w.setCell p (.int .i64 0) := by
  refine callsD_of_wpS Try.func83 rfl fun c₀ cs hu => ?_
  apply wpS_region
  simp [wpOpsS, go_sem, recoverD, hu, Try.ntmps83]
  refine (caught_nil _).mono ?_
  rintro e w' ⟨rfl, rfl⟩
  cases c₀
  simp_all [go_sem, bodyPostS, results, Try.results83]
theorem cpWord (p : Addr) (x : Int) (u : TypeId) (pv : Value) (older : List PanicEntry) (w : World) (hc : w.cell? p = some (.int .i64 x)) (hz : w.frozen? p = false) :
    CallsD Try.prog 101 #[.pointer (some p)] (.panicking ({ v := .iface u pv, recovered := false } :: older)) w fun e u' w' =>
      e = .returned (.tuple #[]) ∧ u' = .panicking ({ v := .iface u pv, recovered := true } :: older) ∧ w' = w.setCell p (.int .i64 4) := by
  refine callsD_of_wpS Try.func101 rfl fun c₀ cs hu => ?_
  apply wpS_region
  simp [wpOpsS, go_sem, recoverD, hu, Try.ntmps101]
  refine (caught_some _ _ _).mono ?_
  rintro e w' ⟨rfl, rfl⟩
  simp [go_sem, hc, hz, bodyPostS, results, Try.results101]

theorem ciWord (p : Addr) (x : Int) (w : World) (hc : w.cell? p = some (.int .i64 x)) (hz : w.frozen? p = false) :
    CallsD Try.prog 101 #[.pointer (some p)] .returning w fun e u' w' => e = .returned (.tuple #[]) ∧ u' = .returning ∧ w' = w.setCell p (.int .i64 0) := by
  refine callsD_of_wpS Try.func101 rfl fun c₀ cs hu => ?_
  apply wpS_region
  simp [wpOpsS, go_sem, recoverD, hu, Try.ntmps101]
  refine (caught_nil _).mono ?_
  rintro e w' ⟨rfl, rfl⟩
  cases c₀
  simp_all [go_sem, bodyPostS, results, Try.results101]
theorem cpSetWord (p : Addr) (x : Int) (u : TypeId) (pv : Value) (older : List PanicEntry) (w : World) (hc : w.cell? p = some (.int .i64 x)) (hz : w.frozen? p = false) :
    CallsD Try.prog 102 #[.pointer (some p)] (.panicking ({ v := .iface u pv, recovered := false } :: older)) w fun e u' w' =>
      e = .returned (.tuple #[]) ∧ u' = .panicking ({ v := .iface u pv, recovered := true } :: older) ∧ w' = w.setCell p (.int .i64 4) := by
  refine callsD_of_wpS Try.func102 rfl fun c₀ cs hu => ?_
  apply wpS_region
  simp [wpOpsS, go_sem, recoverD, hu, Try.ntmps102]
  refine (caught_some _ _ _).mono ?_
  rintro e w' ⟨rfl, rfl⟩
  simp [go_sem, hc, hz, bodyPostS, results, Try.results102]

theorem ciSetWord (p : Addr) (x : Int) (w : World) (hc : w.cell? p = some (.int .i64 x)) (hz : w.frozen? p = false) :
    CallsD Try.prog 102 #[.pointer (some p)] .returning w fun e u' w' => e = .returned (.tuple #[]) ∧ u' = .returning ∧ w' = w.setCell p (.int .i64 0) := by
  refine callsD_of_wpS Try.func102 rfl fun c₀ cs hu => ?_
  apply wpS_region
  simp [wpOpsS, go_sem, recoverD, hu, Try.ntmps102]
  refine (caught_nil _).mono ?_
  rintro e w' ⟨rfl, rfl⟩
  cases c₀
  simp_all [go_sem, bodyPostS, results, Try.results102]
/-- The variable of a call's error: in the block that is new. -/
structure Err (S : Nat → Prop) (w w1 : World) : Prop where
  k : Kept S w w1
  he : w1.heap[w.heap.size]? = some (.cells #[.int .i64 0] 28 (0, 0))
  sz : w1.heap.size = w.heap.size + 1
theorem Err.mk' (S : Nat → Prop) (w : World) : Err S w (w.alloc (.cells #[.int .i64 0] 28)) := ⟨(Kept.refl _ w).alloc _, heap_new _ _, by simp⟩
theorem Err.drewN {S : Nat → Prop} {w w1 : World} (h : Err S w w1) (m : Nat) : Err S w (w1.drewN m) := ⟨h.k.drewN m, h.he, h.sz⟩
theorem Err.c {S : Nat → Prop} {w w1 : World} (h : Err S w w1) : w1.cell? ⟨w.heap.size, 0, none⟩ = some (.int .i64 0) := by simp [World.cell?, h.he]
theorem Err.f {S : Nat → Prop} {w w1 : World} (h : Err S w w1) : w1.frozen? ⟨w.heap.size, 0, none⟩ = false := by simp [World.frozen?, h.he]
theorem Err.mono {S T : Nat → Prop} {w w1 : World} (h : Err S w w1) (hST : ∀ x, S x → T x) : Err T w w1 := ⟨h.k.mono (fun x _ => hST x), h.he, h.sz⟩
theorem Err.setCell {S : Nat → Prop} {w w1 : World} (h : Err S w w1) {g : Nat} (hg : g < w.heap.size) (hS : S g) (i : Nat) (u : Value) : Err S w (w1.setCell ⟨g, i, none⟩ u) :=
  ⟨h.k.setCell (fun _ => hS) u, by rw [Below.heap_setCell _ _ _ _ (by simp; omega)]; exact h.he, by simp; exact h.sz⟩
theorem Err.setRow {S : Nat → Prop} {w w1 : World} (h : Err S w w1) {g : Nat} (hg : g < w.heap.size) (hS : S g) (cs : Array Value) : Err S w (w1.setRow g cs) :=
  ⟨h.k.setRow (fun _ => hS) cs, by rw [setRow_other _ _ _ _ (by omega)]; exact h.he, by simp [World.setRow]; exact h.sz⟩
/-- Behind the deferred call. -/
theorem Err.done {S : Nat → Prop} {w w1 : World} (h : Err S w w1) (u : Value) : Kept S w (w1.setCell ⟨w.heap.size, 0, none⟩ u) := h.k.setCell (fun h => absurd h (Nat.lt_irrefl _)) _
theorem Err.done2 {S : Nat → Prop} {w w1 : World} (h : Err S w w1) (u v : Value) : Kept S w ((w1.setCell ⟨w.heap.size, 0, none⟩ u).setCell ⟨w.heap.size, 0, none⟩ v) := (h.done u).setCell (fun h => absurd h (Nat.lt_irrefl _)) _

theorem SpaceAt.cg {w b g base R lim n f} (h : SpaceAt w b (some g) base R lim n f) (i : Nat) (hi : i < n) : w.cell? ⟨g, i, none⟩ = some (.int .u8 ((f i : Nat) : Int)) := by
  obtain ⟨cap, hb, _, rs, hrl, hg, hnc, hf, _⟩ := h.ex
  rw [← hf i hi]
  simp [World.cell?, hg, bcells, show i < rs.length by omega]
theorem SpaceAt.fg {w b g base R lim n f} (h : SpaceAt w b (some g) base R lim n f) (i : Nat) : w.frozen? ⟨g, i, none⟩ = false := by
  obtain ⟨cap, hb, _, rs, hrl, hg, hnc, hf, _⟩ := h.ex
  simp [World.frozen?, hg]

end Go.Proofs.Ythglogiglimebaa.M
