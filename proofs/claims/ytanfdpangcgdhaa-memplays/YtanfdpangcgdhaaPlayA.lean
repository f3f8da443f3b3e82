/- MemPlays: both spaces side by side; the blocks of a call's own variables. -/
import Derived.Test.YtanfdpangcgdhaaRefF
import Derived.Test.YtanfdpangcgdhaaRefG
namespace Go.Proofs.Ytanfdpangcgdhaa
open Go.RowKit
set_option linter.unusedVariables false

/-- The blocks of both spaces. -/
def S3 (b : Nat) (ao mo : Option Nat) : Nat → Prop := fun x => own b ao x ∨ mo = some x

/-- Both spaces hold the same bytes, apart. -/
structure St (w : World) (b : Nat) (ao mo : Option Nat) (base R lim n cap : Nat) (f : Nat → Nat) : Prop where
  s : SpaceAt w b ao base R lim n f
  r : RefAt w mo n cap f
  sep : ∀ h, mo = some h → ¬ own b ao h

theorem St.lt {w b ao mo base R lim n cap f} (h : St w b ao mo base R lim n cap f) (x : Nat) (hx : S3 b ao mo x) : x < w.heap.size := by
  rcases hx with hx | rfl
  · exact h.s.own_lt x hx
  · exact MemAt.lt h.r
theorem St.kept {w w' b ao mo base R lim n cap f} {S : Nat → Prop} (h : St w b ao mo base R lim n cap f) (k : Kept S w w') (hS : ∀ x, S3 b ao mo x → ¬ S x) : St w' b ao mo base R lim n cap f :=
  ⟨h.s.kept k (fun x hx => hS x (Or.inl hx)), h.r.kept k (fun x hx => hS x (Or.inr hx)), h.sep⟩
theorem St.keep {w w' b ao mo base R lim n cap f} (h : St w b ao mo base R lim n cap f) (k : Kept none' w w') : St w' b ao mo base R lim n cap f := h.kept k (fun _ _ x => x)
theorem St.bd {w b ao mo base R lim n cap f} (h : St w b ao mo base R lim n cap f) : n ≤ 4194304 ∧ base + n ≤ 9223372036854775808 ∧ 4096 ≤ R ∧ R ≤ 1048576 ∧ lim ≤ 64 ∧ base < 18446744073709551616 := by
  have h1 := h.s.nle
  have h2 := h.s.cfg
  have h3 := h2.lr
  have h4 := h2.be
  have h5 := h2.r1
  have h6 := h2.r2
  have h7 := h2.l2
  omega

/-- The blocks of a call's own variables: the document's space, the call, the answer. -/
structure Loc (w w' : World) (t3 : Value) (base R lim : Nat) (o0 o1 o2 o3 o4 o5 o6 o7 o8 : Value) : Prop where
  a : w'.heap[w.heap.size]? = some (.cells #[.int .u64 (base : Int), .int .u64 (R : Int), .int .i64 (lim : Int), t3] 50 (0, 0))
  o : w'.heap[w.heap.size + 1]? = some (.cells #[o0, o1, o2, o3, o4, o5, o6, o7, o8] 55 (0, 0))
  r : w'.heap[w.heap.size + 2]? = some (.cells #[.int .u64 0, .int .u64 0, .int .i64 0, .slice none 0 0] 50 (0, 0))
theorem Loc.new (w : World) (t3 : Value) (base R lim : Nat) (o0 o1 o2 o3 o4 o5 o6 o7 o8 : Value) :
    Loc w (((w.alloc (.cells #[.int .u64 (base : Int), .int .u64 (R : Int), .int .i64 (lim : Int), t3] 50)).alloc (.cells #[o0, o1, o2, o3, o4, o5, o6, o7, o8] 55)).alloc (.cells #[.int .u64 0, .int .u64 0, .int .i64 0, .slice none 0 0] 50)) t3 base R lim o0 o1 o2 o3 o4 o5 o6 o7 o8 := by
  refine ⟨?_, ?_, ?_⟩
  · rw [Below.heap_alloc _ _ _ (by simp; omega), Below.heap_alloc _ _ _ (by simp), heap_new]
  · rw [Below.heap_alloc _ _ _ (by simp), two_new]
  · have := heap_new ((w.alloc (.cells #[.int .u64 (base : Int), .int .u64 (R : Int), .int .i64 (lim : Int), t3] 50)).alloc (.cells #[o0, o1, o2, o3, o4, o5, o6, o7, o8] 55)) (.cells #[.int .u64 0, .int .u64 0, .int .i64 0, .slice none 0 0] 50)
    rwa [World.size_alloc, World.size_alloc] at this
theorem Loc.newK (w : World) (A B C : Obj) : Kept none' w (((w.alloc A).alloc B).alloc C) := (((Kept.refl _ w).alloc _).alloc _).alloc _
theorem Loc.kept {w w' w'' : World} {t3 : Value} {base R lim : Nat} {o0 o1 o2 o3 o4 o5 o6 o7 o8 : Value} {S : Nat → Prop} (h : Loc w w' t3 base R lim o0 o1 o2 o3 o4 o5 o6 o7 o8) (k : Kept S w' w'') (hS : ∀ x, S x → x < w.heap.size ∨ w.heap.size + 3 ≤ x) : Loc w w'' t3 base R lim o0 o1 o2 o3 o4 o5 o6 o7 o8 :=
  ⟨(k.block _ (Array.getElem?_eq_some_iff.1 h.a).1 (fun e => by have := hS _ e; omega)).trans h.a, (k.block _ (Array.getElem?_eq_some_iff.1 h.o).1 (fun e => by have := hS _ e; omega)).trans h.o, (k.block _ (Array.getElem?_eq_some_iff.1 h.r).1 (fun e => by have := hS _ e; omega)).trans h.r⟩
theorem Loc.keep {w w' w'' : World} {t3 : Value} {base R lim : Nat} {o0 o1 o2 o3 o4 o5 o6 o7 o8 : Value} (h : Loc w w' t3 base R lim o0 o1 o2 o3 o4 o5 o6 o7 o8) (k : Kept none' w' w'') : Loc w w'' t3 base R lim o0 o1 o2 o3 o4 o5 o6 o7 o8 := h.kept k (fun x e => e.elim)
theorem Loc.ta {w w' : World} {t3 : Value} {base R lim : Nat} {o0 o1 o2 o3 o4 o5 o6 o7 o8 : Value} (h : Loc w w' t3 base R lim o0 o1 o2 o3 o4 o5 o6 o7 o8) :
    w'.cell? ⟨w.heap.size, 0, none⟩ = some (.int .u64 (base : Int)) ∧ w'.cell? ⟨w.heap.size, 1, none⟩ = some (.int .u64 (R : Int)) ∧ w'.cell? ⟨w.heap.size, 2, none⟩ = some (.int .i64 (lim : Int)) ∧ w'.cell? ⟨w.heap.size, 3, none⟩ = some t3 := by
  have := h.a
  refine ⟨?_, ?_, ?_, ?_⟩ <;> simp [World.cell?, this]
theorem Loc.to {w w' : World} {t3 : Value} {base R lim : Nat} {o0 o1 o2 o3 o4 o5 o6 o7 o8 : Value} (h : Loc w w' t3 base R lim o0 o1 o2 o3 o4 o5 o6 o7 o8) :
    w'.cell? ⟨w.heap.size + 1, 0, none⟩ = some o0 ∧ w'.cell? ⟨w.heap.size + 1, 1, none⟩ = some o1 ∧ w'.cell? ⟨w.heap.size + 1, 2, none⟩ = some o2 ∧ w'.cell? ⟨w.heap.size + 1, 3, none⟩ = some o3 ∧ w'.cell? ⟨w.heap.size + 1, 4, none⟩ = some o4 ∧
    w'.cell? ⟨w.heap.size + 1, 5, none⟩ = some o5 ∧ w'.cell? ⟨w.heap.size + 1, 6, none⟩ = some o6 ∧ w'.cell? ⟨w.heap.size + 1, 7, none⟩ = some o7 ∧ w'.cell? ⟨w.heap.size + 1, 8, none⟩ = some o8 := by
  have := h.o
  refine ⟨?_, ?_, ?_, ?_, ?_, ?_, ?_, ?_, ?_⟩ <;> simp [World.cell?, this]
theorem Loc.tr {w w' : World} {t3 : Value} {base R lim : Nat} {o0 o1 o2 o3 o4 o5 o6 o7 o8 : Value} (h : Loc w w' t3 base R lim o0 o1 o2 o3 o4 o5 o6 o7 o8) :
    w'.cell? ⟨w.heap.size + 2, 0, none⟩ = some (.int .u64 0) ∧ w'.cell? ⟨w.heap.size + 2, 1, none⟩ = some (.int .u64 0) ∧ w'.cell? ⟨w.heap.size + 2, 2, none⟩ = some (.int .i64 0) ∧ w'.cell? ⟨w.heap.size + 2, 3, none⟩ = some (.slice none 0 0) ∧
    w'.frozen? ⟨w.heap.size + 2, 0, none⟩ = false ∧ w'.frozen? ⟨w.heap.size + 2, 1, none⟩ = false ∧ w'.frozen? ⟨w.heap.size + 2, 2, none⟩ = false ∧ w'.frozen? ⟨w.heap.size + 2, 3, none⟩ = false := by
  have := h.r
  refine ⟨?_, ?_, ?_, ?_, ?_, ?_, ?_, ?_⟩ <;> first | simp [World.cell?, this] | simp [World.frozen?, this]

/-- What a call on both leaves. -/
def Post (w : World) (b : Nat) (ao mo : Option Nat) (base R lim : Nat) (e : Ending) (w' : World) : Prop :=
  ∃ ao' mo' n' cap' f', e = .returned (.tuple #[.agg #[.int .u64 (base : Int), .int .u64 (R : Int), .int .i64 (lim : Int), .slice (adr mo') n' cap'], .bool true]) ∧ St w' b ao' mo' base R lim n' cap' f' ∧ Kept (S3 b ao mo) w w' ∧ ∀ x, S3 b ao' mo' x → S3 b ao mo x ∨ w.heap.size ≤ x

/-- Behind the store of the answer. -/
theorem post_mk {w w' : World} {b ao mo base R lim ao' mo' n' cap' f'} (h0 : ∀ x, S3 b ao mo x → x < w.heap.size) (hs : St w' b ao' mo' base R lim n' cap' f') (k : Kept (S3 b ao mo) w w') (hf : ∀ x, S3 b ao' mo' x → S3 b ao mo x ∨ w.heap.size + 3 ≤ x) (u0 u1 u2 u3 : Value) :
    St ((((w'.setCell ⟨w.heap.size + 2, 0, none⟩ u0).setCell ⟨w.heap.size + 2, 1, none⟩ u1).setCell ⟨w.heap.size + 2, 2, none⟩ u2).setCell ⟨w.heap.size + 2, 3, none⟩ u3) b ao' mo' base R lim n' cap' f' ∧
    Kept (S3 b ao mo) w ((((w'.setCell ⟨w.heap.size + 2, 0, none⟩ u0).setCell ⟨w.heap.size + 2, 1, none⟩ u1).setCell ⟨w.heap.size + 2, 2, none⟩ u2).setCell ⟨w.heap.size + 2, 3, none⟩ u3) ∧ ∀ x, S3 b ao' mo' x → S3 b ao mo x ∨ w.heap.size ≤ x := by
  refine ⟨hs.kept (S := fun x => x = w.heap.size + 2) (((((Kept.refl (fun x => x = w.heap.size + 2) w').setCell (fun _ => rfl) _).setCell (fun _ => rfl) _).setCell (fun _ => rfl) _).setCell (fun _ => rfl) _) (fun x hx e => ?_), (((k.setCell (fun e => absurd e (by simp)) _).setCell (fun e => absurd e (by simp)) _).setCell (fun e => absurd e (by simp)) _).setCell (fun e => absurd e (by simp)) _, fun x hx => (hf x hx).imp id (fun h => by omega)⟩
  rcases hf x hx with h | h
  · have := h0 x h
    omega
  · omega

theorem drew3 {W w : World} {b ao mo base R lim n cap f} {S : Nat → Prop} {p : Prop} (h : St W b ao mo base R lim n cap f ∧ Kept S w W ∧ p) : St W.drew b ao mo base R lim n cap f ∧ Kept S w W.drew ∧ p :=
  ⟨h.1.keep (Kept.refl none' W).drew, h.2.1.drew, h.2.2⟩

theorem flag_true (w : World) : Calls Try.prog 48 #[.bool true] w fun e w' => e = .returned (.int .i64 0) ∧ w' = w := by
  go_enter Try.func48, Try.ntmps48
  go_wp2
  go_ret
  exact ⟨rfl, rfl⟩
theorem flag_false (w : World) : Calls Try.prog 48 #[.bool false] w fun e w' => e = .returned (.int .i64 4) ∧ w' = w := by
  go_enter Try.func48, Try.ntmps48
  go_wp2
  go_ret
  exact ⟨rfl, rfl⟩
theorem there_zero (base n p : Nat) : thereB base n p 0 = true := by simp [thereB]
theorem there_in {base n p k : Nat} (h : In base n p k) : thereB base n p k = true := by simp [thereB, h]
theorem there_out {base n p k : Nat} (h0 : 0 < k) (h : ¬ In base n p k) : thereB base n p k = false := by
  simp [thereB, h]
  omega
/-- Where bytes are there, there is a row of each. -/
theorem St.some {w b ao mo base R lim n cap f} (h : St w b ao mo base R lim n cap f) (hn : 0 < n) : ∃ g h', ao = some g ∧ mo = some h' := by
  obtain ⟨g, rfl⟩ := h.s.some hn
  cases mo with
  | none => have := h.r.1; omega
  | some h' => exact ⟨g, h', rfl, rfl⟩
end Go.Proofs.Ytanfdpangcgdhaa
