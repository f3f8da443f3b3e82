/- Regions that draw their order and whose callees make memory, but write none that was there; oracle.isBlock. -/
import Derived.Test.YtibljocjdlgfbaaOrB
namespace Go.Proofs.Ytibljocjdlgfbaa
open Go.RowKit
set_option linter.unusedVariables false

/-- A world that keeps all that was there in w. -/
def KW (w : World) : Type := { W : World // Kept none' w W }
def KW.v {w : World} (x : KW w) : World := x.1
theorem KW.k {w : World} (x : KW w) : Kept none' w x.v := x.2
instance (w : World) : Nonempty (KW w) := ⟨⟨w, Kept.refl _ _⟩⟩

/-- One walk of the lexical order serves every order, where all that was there is kept. -/
theorem wp_region_kept {P : Program} {id : Nat} {Q : Exit → Act → World → Prop} {a : Act} {w : World} {l : List Oper} (hm : P.follows .mixedOrders = true) (hB : Region.lexB .any l.toArray = true)
    (h : wpQuiet P l.toArray (fun w' => ∃ x : KW w, w' = x.v) (fun a' => ∀ x : KW w, Q .normal a' x.v) l a) : (Code.region id l.toArray true).wp P Q a w := by
  refine wp_region_quiet (C := fun w' => ∃ x : KW w, w' = x.v) hm hB ⟨⟨w.drew, (Kept.refl _ w).drew⟩, rfl⟩ ?_
  have e : (fun a' => ∀ w', (∃ x : KW w, w' = x.v) → Q .normal a' w') = (fun a' => ∀ x : KW w, Q .normal a' x.v) := by
    funext a'
    exact propext ⟨fun h x => h _ ⟨x, rfl⟩, fun h w' ⟨x, hx⟩ => hx ▸ h x⟩
  rw [e]
  simpa using h

/-- A callee's contract, met in such a world. -/
theorem Calls.kept_of {P : Program} {f : FuncId} {args : Array Value} {w : World} {x : KW w} {v : Value}
    (h : Calls P f args x.v fun e w' => e = .returned v ∧ Kept none' x.v w') : Calls P f args x.v fun e w'' => e = .returned v ∧ ∃ y : KW w, w'' = y.v :=
  h.mono fun _ w1 ⟨he, hk⟩ => ⟨he, ⟨w1, none_trans x.k hk⟩, rfl⟩

/-- Is it a block, with so many regions? -/
def okB (base k n p s : Nat) : Bool := szB k s && decide (p % s = 0) && decide (base ≤ p) && decide (p - base < n * RS k)
/-- A block as a value. -/
abbrev blkV (p s : Nat) : Value := .agg #[.int .u64 (p : Int), .int .u64 (s : Int)]

/-- A Config and a block, boxed behind w. -/
structure BX2 (w W : World) (base : Nat) (lim : Int) (k p s : Nat) : Prop where
  c : W.heap[w.heap.size]? = some (.cells #[.int .u64 (base : Int), .int .i64 lim, .int .i64 (k : Int)] 24)
  b : W.heap[w.heap.size + 1]? = some (.cells #[.int .u64 (p : Int), .int .u64 (s : Int)] 33)
  k : Kept none' w W
theorem BX2.mk0 (w : World) (base : Nat) (lim : Int) (k p s : Nat) : BX2 w ((w.alloc (.cells #[.int .u64 (base : Int), .int .i64 lim, .int .i64 (k : Int)] 24)).alloc (.cells #[.int .u64 (p : Int), .int .u64 (s : Int)] 33)) base lim k p s := by
  refine ⟨?_, ?_, ((Kept.refl none' w).alloc _).alloc _⟩
  · rw [Below.heap_alloc _ _ _ (by simp)]; exact heap_new w _
  · have := heap_new (w.alloc (.cells #[.int .u64 (base : Int), .int .i64 lim, .int .i64 (k : Int)] 24)) (.cells #[.int .u64 (p : Int), .int .u64 (s : Int)] 33)
    rwa [World.size_alloc] at this
theorem BX2.keep {w W W' : World} {base : Nat} {lim : Int} {k p s : Nat} (h : BX2 w W base lim k p s) (hk : Kept none' W W') : BX2 w W' base lim k p s :=
  ⟨(hk.block _ (heap_lt h.c) (fun x => x)).trans h.c, (hk.block _ (heap_lt h.b) (fun x => x)).trans h.b, none_trans h.k hk⟩
theorem BX2.drew {w W : World} {base : Nat} {lim : Int} {k p s : Nat} (h : BX2 w W base lim k p s) : BX2 w W.drew base lim k p s := ⟨h.c, h.b, h.k.drew⟩
theorem BX2.cells {w W : World} {base : Nat} {lim : Int} {k p s : Nat} (h : BX2 w W base lim k p s) : W.cell? ⟨w.heap.size, 0, none⟩ = some (.int .u64 (base : Int)) ∧ W.cell? ⟨w.heap.size, 1, none⟩ = some (.int .i64 lim) ∧ W.cell? ⟨w.heap.size, 2, none⟩ = some (.int .i64 (k : Int)) ∧ W.cell? ⟨w.heap.size + 1, 0, none⟩ = some (.int .u64 (p : Int)) ∧ W.cell? ⟨w.heap.size + 1, 1, none⟩ = some (.int .u64 (s : Int)) := by
  refine ⟨?_, ?_, ?_, ?_, ?_⟩ <;> simp [World.cell?, h.c, h.b]

theorem BX2.all {w W : World} {base : Nat} {lim : Int} {k p s : Nat} (h : BX2 w W base lim k p s) : (∀ x : KW W, x.v.cell? ⟨w.heap.size, 0, none⟩ = some (.int .u64 (base : Int))) ∧ (∀ x : KW W, x.v.cell? ⟨w.heap.size, 1, none⟩ = some (.int .i64 lim)) ∧ (∀ x : KW W, x.v.cell? ⟨w.heap.size, 2, none⟩ = some (.int .i64 (k : Int))) ∧ (∀ x : KW W, x.v.cell? ⟨w.heap.size + 1, 0, none⟩ = some (.int .u64 (p : Int))) ∧ (∀ x : KW W, x.v.cell? ⟨w.heap.size + 1, 1, none⟩ = some (.int .u64 (s : Int))) :=
  ⟨fun x => (h.keep x.k).cells.1, fun x => (h.keep x.k).cells.2.1, fun x => (h.keep x.k).cells.2.2.1, fun x => (h.keep x.k).cells.2.2.2.1, fun x => (h.keep x.k).cells.2.2.2.2⟩

theorem isBlock_any (base : Nat) (lim : Int) (k n : Nat) (hk : k ≤ 8) (hn : n ≤ 64) (hbase : base < 2 ^ 64) (p s : Nat) (hp : p < 2 ^ 64) (hs : s < 2 ^ 64) (w : World) :
    Calls Try.prog 52 #[cfgV base lim (k : Int), .int .i64 (n : Int), blkV p s] w fun e w' => e = .returned (.bool (okB base k n p s)) ∧ Kept none' w w' := by
  obtain ⟨R, hR⟩ : ∃ R, R = RS k := ⟨_, rfl⟩
  have hRl := RS_le k hk
  rw [← hR] at hRl
  have HR := hid (fun W => regionSize_any (base : Int) lim k hk W)
  rw [← hR] at HR
  have HS := hid (fun W => isSize_any base lim k hk s hs W)
  have E : Hid (okB base k n p s = (szB k s && decide (p % s = 0) && decide (base ≤ p) && decide (p - base < n * R))) := by rw [hR]; rfl
  have B0 := hid (BX2.mk0 w base lim k p s)
  cases hz : szB k s with
  | false =>
    rw [hz] at HS E
    have E2 : Hid (okB base k n p s = false) := by
      show _ = _
      rw [E.out]; rfl
    clear hR hz E HR
    go_enter Try.func52, Try.ntmps52
    go_wp2
    generalize ((w.alloc (.cells #[.int .u64 (base : Int), .int .i64 lim, .int .i64 (k : Int)] 24)).alloc (.cells #[.int .u64 (p : Int), .int .u64 (s : Int)] 33)) = W0 at *
    obtain ⟨c0, c1, c2, c3, c4⟩ := BX2.all B0.out
    refine wp_region_kept (by kernel_rfl) (by kernel_rfl) ?_
    repeat (go_big_quiet_step (first | (go_at_call 36; exact Calls.kept_of (HS.out _))))
    refine wpQuiet_nil ?_
    intro x
    go_wp2
    go_ret
    exact ⟨ret_bool E2.out.symm, none_trans B0.out.k x.k⟩
  | true =>
    rw [hz] at HS E
    have hs16 : 16 ≤ s := by
      simp only [szB, Bool.and_eq_true, decide_eq_true_eq] at hz
      exact hz.1.2
    have hs0 : ¬ (s : Int) = 0 := by omega
    obtain ⟨r, hr⟩ : ∃ r, r = p % s := ⟨_, rfl⟩
    have hr1 : (p : Int) % (s : Int) = (r : Int) := by rw [hr]; simp
    rw [← hr] at E
    clear hR hz hr
    by_cases h1 : r = 0
    · have h1' : ((r : Int) == 0) = true := by rw [beq_iff_eq]; omega
      by_cases h2 : base ≤ p
      · have h2' : (base : Int) ≤ (p : Int) := by omega
        obtain ⟨d, hd⟩ : ∃ d, d = p - base := ⟨_, rfl⟩
        have hd1 : (p : Int) - (base : Int) = (d : Int) := by omega
        have hd2 : d < 2 ^ 64 := by omega
        obtain ⟨nr, hnr⟩ : ∃ nr, nr = n * R := ⟨_, rfl⟩
        have hnr1 : (n : Int) * (R : Int) = (nr : Int) := by rw [hnr]; simp
        have hnr2 : nr ≤ 67108864 := by rw [hnr]; exact Nat.le_trans (Nat.mul_le_mul hn hRl.2) (by decide)
        have E2 : Hid (okB base k n p s = decide (d < nr)) := by
          show _ = _
          rw [E.out, decide_eq_true h1, decide_eq_true h2, hd, hnr]; rfl
        clear E hd hnr h1 h2
        go_enter Try.func52, Try.ntmps52
        go_wp2
        generalize ((w.alloc (.cells #[.int .u64 (base : Int), .int .i64 lim, .int .i64 (k : Int)] 24)).alloc (.cells #[.int .u64 (p : Int), .int .u64 (s : Int)] 33)) = W0 at *
        obtain ⟨c0, c1, c2, c3, c4⟩ := BX2.all B0.out
        refine wp_region_kept (by kernel_rfl) (by kernel_rfl) ?_
        repeat (go_big_quiet_step (first | (go_at_call 36; exact Calls.kept_of (HS.out _)) | (go_at_call 34; exact Calls.kept_of (HR.out _))))
        refine wpQuiet_nil ?_
        intro x
        go_wp2
        go_ret
        exact ⟨ret_bool (by rw [E2.out]), none_trans B0.out.k x.k⟩
      · have h2' : decide (base ≤ p) = false := decide_eq_false h2
        have E2 : Hid (okB base k n p s = false) := by
          show _ = _
          rw [E.out, decide_eq_false h2]; simp
        clear E h1 h2
        go_enter Try.func52, Try.ntmps52
        go_wp2
        generalize ((w.alloc (.cells #[.int .u64 (base : Int), .int .i64 lim, .int .i64 (k : Int)] 24)).alloc (.cells #[.int .u64 (p : Int), .int .u64 (s : Int)] 33)) = W0 at *
        obtain ⟨c0, c1, c2, c3, c4⟩ := BX2.all B0.out
        refine wp_region_kept (by kernel_rfl) (by kernel_rfl) ?_
        repeat (go_big_quiet_step (first | (go_at_call 36; exact Calls.kept_of (HS.out _)) | (go_at_call 34; exact Calls.kept_of (HR.out _))))
        refine wpQuiet_nil ?_
        intro x
        go_wp2
        go_ret
        exact ⟨ret_bool (E2.out.symm), none_trans B0.out.k x.k⟩
    · have h1' : ((r : Int) == 0) = false := by rw [beq_eq_false_iff_ne]; omega
      have E2 : Hid (okB base k n p s = false) := by
        show _ = _
        rw [E.out, decide_eq_false h1]; simp
      clear E h1
      go_enter Try.func52, Try.ntmps52
      go_wp2
      generalize ((w.alloc (.cells #[.int .u64 (base : Int), .int .i64 lim, .int .i64 (k : Int)] 24)).alloc (.cells #[.int .u64 (p : Int), .int .u64 (s : Int)] 33)) = W0 at *
      obtain ⟨c0, c1, c2, c3, c4⟩ := BX2.all B0.out
      refine wp_region_kept (by kernel_rfl) (by kernel_rfl) ?_
      repeat (go_big_quiet_step (first | (go_at_call 36; exact Calls.kept_of (HS.out _)) | (go_at_call 34; exact Calls.kept_of (HR.out _))))
      refine wpQuiet_nil ?_
      intro x
      go_wp2
      go_ret
      exact ⟨ret_bool (E2.out.symm), none_trans B0.out.k x.k⟩
end Go.Proofs.Ytibljocjdlgfbaa
