/- croftref2.Commit, Decommit. -/
import Derived.Test.YtnkoheanjaapjaaRefD
import Derived.Test.YtnkoheanjaapjaaRefN
namespace Go.Proofs.Ytnkoheanjaapjaa
open Go.RowKit
set_option linter.unusedVariables false

theorem make_u64 (m : Nat) (hm : m ≤ 1073741824) (w : World) :
    ∃ w', (Instr.makeSlice 42 (.int .u64 (m : Int)) (.int .u64 (m : Int))).run Try.prog w = .ok (.slice (some ⟨w.heap.size, 0, none⟩) m m) w' ∧ MemAt w' w.heap.size m m (fun _ => 0) ∧ Kept none' w w' ∧ w'.heap.size = w.heap.size + 1 := by
  obtain ⟨i, hi, hz0, hz1, hz2⟩ := info_parts info_u8
  have := run_make (P := Try.prog) w 42 5 i (.int .u8 0) Try.underlying42 hi hz0 .u64 .u64 (m : Int) (m : Int) (by omega) (by omega) (by rw [hz2]; omega) (by omega)
  rw [hz1] at this
  simp only [Int.toNat_natCast, made_bytes] at this
  refine ⟨_, this, ⟨told m fun _ => 0, told_len _ _, heap_new _ _, Nat.le_refl _, fun i hi => told_get _ _ _ hi, fun i => ?_⟩, (Kept.refl _ w).alloc _, by simp⟩
  by_cases hi : i < m
  · rw [told_get _ _ _ hi]; decide
  · have : (told m fun _ => 0).getD i 0 = 0 := by simp [List.getD, told_len, Nat.not_lt.1 hi]
    rw [this]; decide

/-- The document's own bytes: none yet, or a row. -/
def RefAt (w : World) (mo : Option Nat) (n cap : Nat) (f : Nat → Nat) : Prop :=
  match mo with
  | none => n = 0 ∧ cap = 0
  | some h => MemAt w h n cap f
theorem RefAt.bytes {w mo n cap f} (H : RefAt w mo n cap f) : Bytes w (.slice (adr mo) n cap) n f := by
  cases mo with
  | none =>
    obtain ⟨rfl, rfl⟩ := H
    exact ⟨fun i hi => by omega, none, 0, rfl, Or.inl rfl⟩
  | some h => exact MemAt.bytes H
theorem RefAt.kept {w w' mo n cap f} {S : Nat → Prop} (H : RefAt w mo n cap f) (k : Kept S w w') (hS : ∀ h, mo = some h → ¬ S h) : RefAt w' mo n cap f := by
  cases mo with
  | none => exact H
  | some h => exact MemAt.kept H k (hS h rfl)
theorem RefAt.keep {w w' mo n cap f} (H : RefAt w mo n cap f) (k : Kept none' w w') : RefAt w' mo n cap f := H.kept k (fun _ _ x => x)

/-- Two blocks of the document's own space: the boxed argument and the result. -/
structure Two (w w' : World) (c0 c1 c2 c3 : Value) : Prop where
  k : Kept none' w w'
  a : w'.heap[w.heap.size]? = some (.cells #[c0, c1, c2, c3] 44 (0, 0))
  b : w'.heap[w.heap.size + 1]? = some (.cells #[.int .u64 0, .int .u64 0, .int .i64 0, .slice none 0 0] 44 (0, 0))
theorem Two.new (w : World) (c0 c1 c2 c3 : Value) : Two w ((w.alloc (.cells #[c0, c1, c2, c3] 44)).alloc (.cells #[.int .u64 0, .int .u64 0, .int .i64 0, .slice none 0 0] 44)) c0 c1 c2 c3 :=
  ⟨((Kept.refl _ w).alloc _).alloc _, (Below.heap_alloc (w.alloc _) _ w.heap.size (by simp)).trans (heap_new w _), two_new w _ _⟩
theorem Two.keep {w w' w'' : World} {c0 c1 c2 c3 : Value} (h : Two w w' c0 c1 c2 c3) (k : Kept none' w' w'') : Two w w'' c0 c1 c2 c3 :=
  ⟨h.k.trans k (fun _ _ x => x) (fun _ _ x => x), (k.block _ (Array.getElem?_eq_some_iff.1 h.a).1 (fun x => x)).trans h.a, (k.block _ (Array.getElem?_eq_some_iff.1 h.b).1 (fun x => x)).trans h.b⟩
theorem Two.kept' {w w' w'' : World} {c0 c1 c2 c3 : Value} {S : Nat → Prop} (h : Two w w' c0 c1 c2 c3) (k : Kept S w' w'') (h1 : ¬ S w.heap.size) (h2 : ¬ S (w.heap.size + 1)) (h3 : ∀ x, S x → w.heap.size ≤ x) : Two w w'' c0 c1 c2 c3 :=
  ⟨h.k.trans k (fun _ _ x => x) (fun x hx e => absurd (h3 x e) (by omega)), (k.block _ (Array.getElem?_eq_some_iff.1 h.a).1 h1).trans h.a, (k.block _ (Array.getElem?_eq_some_iff.1 h.b).1 h2).trans h.b⟩
theorem Two.cells {w w' : World} {c0 c1 c2 c3 : Value} (h : Two w w' c0 c1 c2 c3) :
    w'.cell? ⟨w.heap.size, 0, none⟩ = some c0 ∧ w'.cell? ⟨w.heap.size, 1, none⟩ = some c1 ∧ w'.cell? ⟨w.heap.size, 2, none⟩ = some c2 ∧ w'.cell? ⟨w.heap.size, 3, none⟩ = some c3 ∧ w'.frozen? ⟨w.heap.size, 3, none⟩ = false := by
  have := h.a
  refine ⟨?_, ?_, ?_, ?_, ?_⟩
  · simp [World.cell?, this]
  · simp [World.cell?, this]
  · simp [World.cell?, this]
  · simp [World.cell?, this]
  · simp [World.frozen?, this]
theorem Two.cellsB {w w' : World} {c0 c1 c2 c3 : Value} (h : Two w w' c0 c1 c2 c3) :
    w'.cell? ⟨w.heap.size + 1, 0, none⟩ = some (.int .u64 0) ∧ w'.cell? ⟨w.heap.size + 1, 1, none⟩ = some (.int .u64 0) ∧ w'.cell? ⟨w.heap.size + 1, 2, none⟩ = some (.int .i64 0) ∧ w'.cell? ⟨w.heap.size + 1, 3, none⟩ = some (.slice none 0 0) ∧
    w'.frozen? ⟨w.heap.size + 1, 0, none⟩ = false ∧ w'.frozen? ⟨w.heap.size + 1, 1, none⟩ = false ∧ w'.frozen? ⟨w.heap.size + 1, 2, none⟩ = false ∧ w'.frozen? ⟨w.heap.size + 1, 3, none⟩ = false := by
  have := h.b
  refine ⟨?_, ?_, ?_, ?_, ?_, ?_, ?_, ?_⟩
  · simp [World.cell?, this]
  · simp [World.cell?, this]
  · simp [World.cell?, this]
  · simp [World.cell?, this]
  · simp [World.frozen?, this]
  · simp [World.frozen?, this]
  · simp [World.frozen?, this]
  · simp [World.frozen?, this]
theorem Kept.set4 {w w' : World} (h : Kept none' w w') (b : Nat) (hb : w.heap.size ≤ b) (u0 u1 u2 u3 : Value) : Kept none' w ((((w'.setCell ⟨b, 0, none⟩ u0).setCell ⟨b, 1, none⟩ u1).setCell ⟨b, 2, none⟩ u2).setCell ⟨b, 3, none⟩ u3) :=
  (((h.setCell (fun e => absurd e (by simp; omega)) _).setCell (fun e => absurd e (by simp; omega)) _).setCell (fun e => absurd e (by simp; omega)) _).setCell (fun e => absurd e (by simp; omega)) _

theorem RCommit_deny (base R lim n cap : Nat) (ao : Option Addr) (w : World) :
    Calls Try.prog 21 #[.agg #[.int .u64 (base : Int), .int .u64 (R : Int), .int .i64 (lim : Int), .slice ao n cap], .bool true] w fun e w' => e = .returned (.tuple #[.agg #[.int .u64 (base : Int), .int .u64 (R : Int), .int .i64 (lim : Int), .slice ao n cap], .int .u64 0, .int .i64 2]) ∧ Kept none' w w' := by
  have HT := hid (Two.new w (.int .u64 (base : Int)) (.int .u64 (R : Int)) (.int .i64 (lim : Int)) (.slice ao n cap))
  go_enter Try.func21, Try.ntmps21
  go_wp2
  go_quiet (fail)
  go_wp2
  exact ⟨rfl, _, by simp [results, Try.results21, go_sem], rfl, (HT.out.k.drewN nq).set4 (w.heap.size + 1) (by omega) _ _ _ _⟩

theorem RCommit_full (base R lim n cap : Nat) (ao : Option Addr) (hR : 4096 ≤ R) (hR2 : R ≤ 1048576) (hn : n ≤ 4194304) (hl : lim ≤ n / R) (w : World) :
    Calls Try.prog 21 #[.agg #[.int .u64 (base : Int), .int .u64 (R : Int), .int .i64 (lim : Int), .slice ao n cap], .bool false] w fun e w' => e = .returned (.tuple #[.agg #[.int .u64 (base : Int), .int .u64 (R : Int), .int .i64 (lim : Int), .slice ao n cap], .int .u64 0, .int .i64 2]) ∧ Kept none' w w' := by
  have HT := hid (Two.new w (.int .u64 (base : Int)) (.int .u64 (R : Int)) (.int .i64 (lim : Int)) (.slice ao n cap))
  have HRG := hid (RRegions_any base R lim n cap ao hR hR2 hn)
  obtain ⟨q, hq⟩ : ∃ q, q = n / R := ⟨_, rfl⟩
  rw [← hq] at HRG hl
  have hli : (lim : Int) ≤ (q : Int) := by omega
  clear hq hl
  go_enter Try.func21, Try.ntmps21
  go_wp2
  go_region_with ((go_at_call 44; refine (HRG.out _).mono ?_; rintro e w2 ⟨rfl, hK2⟩; have hT2 := (HT.out.keep (Kept.refl none' _).drew).keep hK2; obtain ⟨d0, d1, d2, d3, d4⟩ := hT2.cells; obtain ⟨e0, e1, e2, e3, f0, f1, f2, f3⟩ := hT2.cellsB; have HT2 := hid hT2; clear hT2 hK2))
  all_goals go_wp2
  all_goals exact ⟨rfl, _, by simp [results, Try.results21, go_sem, e0, e1, e2, e3], rfl, HT2.out.k.set4 (w.heap.size + 1) (by omega) _ _ _ _⟩

end Go.Proofs.Ytnkoheanjaapjaa
