import Derived.Test.YtgjapopddblpoaaGreatDoorHpD
import Derived.Test.YtgjapopddblpoaaGreatDoorRf
/- Package malloc: the block that begins at an address; sizes, classes, orders. -/
namespace Go.Proofs.YtgjapopddblpoaaGreatDoor
open Go.RowKit
set_option linter.unusedVariables false

/-- The live block that begins at an address. -/
def StP (x : Bx) (ls : List (Nat × Nat)) (S : Sb) (p a z : Nat) (l : Bool) : Prop := (l = true ∧ a = p ∧ Lth x ls S p z) ∨ (l = false ∧ ∀ c, ¬ Lth x ls S p c)
theorem class_v (n m k : Nat) (W : World) (e1 : (n : Int) / 16 = (m : Int)) (hn : n ≤ 1048576) (LG : Calls Tryz.prog 84 #[.int .u64 (m : Int)] W fun e w' => e = .returned (.int .i64 (k : Int)) ∧ w' = W) : Calls Tryz.prog 93 #[.int .u64 (n : Int)] W fun e w' => e = .returned (.int .i64 (k : Int)) ∧ w' = W := by
  have L := hid LG
  clear LG
  go_enter Tryz.func93, Tryz.ntmps93
  go_wp2_with fail
  refine L.out.mono ?_
  rintro e w1 ⟨rfl, rfl⟩
  go_wp2_with fail
  go_ret
  exact ⟨rfl, rfl⟩
theorem class_h (k : Nat) (hk : k < 8) (W : World) : Calls Tryz.prog 93 #[.int .u64 ((szC k : Nat) : Int)] W fun e w' => e = .returned (.int .i64 (k : Int)) ∧ w' = W := by
  have hp : 2 ^ k ≤ 2 ^ 8 := Nat.pow_le_pow_right (by decide) (by omega)
  have LG := log_64 (2 ^ k) (by omega) W
  rw [lg_pos _ (Nat.ne_of_gt (Nat.pow_pos (by decide))), Nat.log2_two_pow] at LG
  exact class_v _ (2 ^ k) k W (by unfold szC; omega) (by unfold szC; omega) LG
theorem order_v (n m k : Nat) (W : World) (e1 : (n : Int) / 4096 = (m : Int)) (hn : n ≤ 1048576) (LG : Calls Tryz.prog 84 #[.int .u64 (m : Int)] W fun e w' => e = .returned (.int .i64 (k : Int)) ∧ w' = W) : Calls Tryz.prog 50 #[.int .u64 (n : Int)] W fun e w' => e = .returned (.int .i64 (k : Int)) ∧ w' = W := by
  have L := hid LG
  clear LG
  go_enter Tryz.func50, Tryz.ntmps50
  go_wp2_with fail
  refine L.out.mono ?_
  rintro e w1 ⟨rfl, rfl⟩
  go_wp2_with fail
  go_ret
  exact ⟨rfl, rfl⟩
theorem order_h (k : Nat) (hk : k ≤ 8) (W : World) : Calls Tryz.prog 50 #[.int .u64 ((4096 * 2 ^ k : Nat) : Int)] W fun e w' => e = .returned (.int .i64 (k : Int)) ∧ w' = W := by
  have hp : 2 ^ k ≤ 2 ^ 8 := Nat.pow_le_pow_right (by decide) (by omega)
  have LG := log_64 (2 ^ k) (by omega) W
  rw [lg_pos _ (Nat.ne_of_gt (Nat.pow_pos (by decide))), Nat.log2_two_pow] at LG
  exact order_v _ (2 ^ k) k W (by skip; omega) (by skip; omega) LG
section
variable {w W W' : World} {hb sb lw : Nat} {x : Bx} {t : Bt} {fr : Nat → List Nat} {ls : List (Nat × Nat)} {S : Sb} {s : Int}
theorem ArP.st (H : HW w W hb sb lw x t fr ls S s) {p a z : Nat} (h : ArP x ls S p a z true) : (a = p ∧ Lth x ls S p z) ∨ (a ≠ p ∧ ∀ c, ¬ Lth x ls S p c) := by
  obtain ⟨h', o⟩ := H.so
  rcases h with ⟨_, h1, h2, h3⟩ | ⟨h1, _⟩
  · by_cases e : a = p
    · subst e
      exact .inl ⟨rfl, h1⟩
    · refine .inr ⟨e, fun c hc => ?_⟩
      have := (o.span hc).1
      rcases o.two h1 hc with ⟨e1, _⟩ | e1 | e1 <;> omega
  · cases h1
theorem ArP.no (H : HW w W hb sb lw x t fr ls S s) {p a z : Nat} (h : ArP x ls S p a z false) : ∀ c, ¬ Lth x ls S p c := by
  obtain ⟨h', o⟩ := H.so
  rcases h with ⟨h1, _⟩ | ⟨_, h1⟩
  · cases h1
  · intro c hc
    have := (o.span hc).1
    exact h1 p c hc ⟨Nat.le_refl _, by omega⟩
set_option maxRecDepth 4000 in
set_option maxHeartbeats 1000000 in
theorem starts_h (H : HW w W hb sb lw x t fr ls S s) (p : Nat) (hp : p < 18446744073709551616) :
    Calls Tryz.prog 45 #[.pointer (some ⟨hb, 0, none⟩), .int .u64 (p : Int)] W fun e w' => ∃ a z l, e = .returned (.tuple #[bkV a z, .bool l]) ∧ StP x ls S p a z l ∧ Kept none' W w' := by
  have K0 := hid ((Kept.refl none' W).alloc bkZ)
  have X0 := hid (show (W.alloc bkZ).heap[W.heap.size]? = some (bkO 0 0) from heap_new W bkZ)
  have AR := hid (around_h (H.keep K0.out) p hp)
  have HH := hid H
  clear H
  go_enter Tryz.func45, Tryz.ntmps45
  go_wp2_with fail
  refine AR.out.mono ?_
  rintro e w2 ⟨a, z, l, rfl, ar, hk⟩
  have K3 := hid (none_trans K0.out (hk.alloc (bkO a z)))
  have X6 := hid (heap_new w2 (bkO a z))
  have X4 := hid (show (w2.alloc (bkO a z)).heap[W.heap.size]? = some (bkO 0 0) from ((hk.alloc (bkO a z)).block _ (heap_lt X0.out) (fun e => e)).trans X0.out)
  have D := hid (fun m => kept2 (K3.out.drewN m) (y := W.heap.size) (fun e => absurd e (Nat.lt_irrefl _)) (.int .u64 (a : Int)) (.int .u64 (z : Int)))
  have hne7 : w2.heap.size ≠ W.heap.size := by
    have h1 := hk.size
    rw [World.size_alloc] at h1
    omega
  obtain ⟨z0, z1, zf⟩ := bkc X4.out
  obtain ⟨x0, x1, xf⟩ := bkc X6.out
  cases l with
  | true =>
    rcases ArP.st HH.out ar with ⟨e1, e2⟩ | ⟨e1, e2⟩
    · have ST := hid (show StP x ls S p a z true from .inl ⟨rfl, e1, e2⟩)
      have q1 : ((a : Int) == (p : Int)) = true := by rw [beq_iff_eq, e1]
      clear ar e1 e2 hk AR K0 X0
      go_wp2_with fail
      go_region
      all_goals
        go_wp2_with fail
        exact ⟨rfl, .tuple #[bkV a z, .bool true], by simp [results, Tryz.results45, go_sem, z0, z1], a, z, true, rfl, ST.out, D.out _⟩
    · have ST := hid (show StP x ls S p a z false from .inr ⟨rfl, e2⟩)
      have q1 : ((a : Int) == (p : Int)) = false := by rw [beq_eq_false_iff_ne]; omega
      clear ar e1 e2 hk AR K0 X0
      go_wp2_with fail
      go_region
      all_goals
        go_wp2_with fail
        exact ⟨rfl, .tuple #[bkV a z, .bool false], by simp [results, Tryz.results45, go_sem, z0, z1], a, z, false, rfl, ST.out, D.out _⟩
  | false =>
    have ST := hid (show StP x ls S p a z false from .inr ⟨rfl, ArP.no HH.out ar⟩)
    clear ar hk AR K0 X0
    go_wp2_with fail
    go_region
    all_goals
      go_wp2_with fail
      exact ⟨rfl, .tuple #[bkV a z, .bool false], by simp [results, Tryz.results45, go_sem, z0, z1], a, z, false, rfl, ST.out, D.out _⟩
/-- The size for m bytes. -/
def szOk (o m : Nat) : Bool := decide (cl m ≤ 12 + o)
theorem sz_kind {o m : Nat} (hm : 16 ≤ m) (h : szOk o m = true) : (∃ k, k < 8 ∧ 2 ^ cl m = szC k) ∨ (∃ k, k ≤ o ∧ 2 ^ cl m = 4096 * 2 ^ k) := by
  have h := of_decide_eq_true h
  have h4 : 4 ≤ cl m := by
    refine Nat.le_of_not_lt fun hlt => ?_
    have := (cl_spec m 3).2 (by omega)
    omega
  by_cases h12 : cl m < 12
  · refine .inl ⟨cl m - 4, by omega, ?_⟩
    unfold szC
    rw [show (16 : Nat) = 2 ^ 4 from rfl, ← Nat.pow_add]
    congr 1
    omega
  · refine .inr ⟨cl m - 12, by omega, ?_⟩
    rw [show (4096 : Nat) = 2 ^ 12 from rfl, ← Nat.pow_add]
    congr 1
    omega
end
end Go.Proofs.YtgjapopddblpoaaGreatDoor
/- Package malloc: the size for a request. (Written by mk8f.py.) -/
namespace Go.Proofs.YtgjapopddblpoaaGreatDoor
open Go.RowKit
set_option linter.unusedVariables false

set_option maxRecDepth 4000 in
theorem sizeFor_a0 (W : World) (hb sz al ov r L : Nat) (hs : sz < 18446744073709551616) (ha : al < 18446744073709551616) (h1 : (sz : Int) < (al : Int)) (h2 : (al : Int) < 16) (c4 : W.cell? ⟨hb, 4, none⟩ = some (.int .i64 (ov : Int))) (CE : Hid (Calls Tryz.prog 81 #[.int .u64 16] W fun e w' => e = .returned (.tuple #[.int .u64 (r : Int), .bool true]) ∧ w' = W)) (hov : ov ≤ 8) (hL : (4096 : Int) * 2 ^ ov = (L : Int)) (hLb : L ≤ 1048576) (hr : r < 18446744073709551616) (hle : ¬ (L : Int) < (r : Int)) :
    Calls Tryz.prog 47 #[.pointer (some ⟨hb, 0, none⟩), .int .u64 (sz : Int), .int .u64 (al : Int)] W fun e w' => e = .returned (.tuple #[.int .u64 (r : Int), .int .i64 0]) ∧ w' = W := by
  go_enter Tryz.func47, Tryz.ntmps47
  go_wp2_with fail
  refine CE.out.mono ?_
  rintro e w1 ⟨rfl, rfl⟩
  go_wp2_with fail
  go_ret2
  exact ⟨rfl, rfl⟩
set_option maxRecDepth 4000 in
theorem sizeFor_a1 (W : World) (hb sz al ov r L : Nat) (hs : sz < 18446744073709551616) (ha : al < 18446744073709551616) (h1 : (sz : Int) < (al : Int)) (h2 : (al : Int) < 16) (c4 : W.cell? ⟨hb, 4, none⟩ = some (.int .i64 (ov : Int))) (CE : Hid (Calls Tryz.prog 81 #[.int .u64 16] W fun e w' => e = .returned (.tuple #[.int .u64 (r : Int), .bool true]) ∧ w' = W)) (hov : ov ≤ 8) (hL : (4096 : Int) * 2 ^ ov = (L : Int)) (hLb : L ≤ 1048576) (hr : r < 18446744073709551616) (hle : (L : Int) < (r : Int)) :
    Calls Tryz.prog 47 #[.pointer (some ⟨hb, 0, none⟩), .int .u64 (sz : Int), .int .u64 (al : Int)] W fun e w' => e = .returned (.tuple #[.int .u64 0, .int .i64 3]) ∧ w' = W := by
  go_enter Tryz.func47, Tryz.ntmps47
  go_wp2_with fail
  refine CE.out.mono ?_
  rintro e w1 ⟨rfl, rfl⟩
  go_wp2_with fail
  go_ret2
  exact ⟨rfl, rfl⟩
set_option maxRecDepth 4000 in
theorem sizeFor_a2 (W : World) (hb sz al ov r L : Nat) (hs : sz < 18446744073709551616) (ha : al < 18446744073709551616) (h1 : (sz : Int) < (al : Int)) (h2 : (al : Int) < 16) (c4 : W.cell? ⟨hb, 4, none⟩ = some (.int .i64 (ov : Int))) (CE : Hid (Calls Tryz.prog 81 #[.int .u64 16] W fun e w' => e = .returned (.tuple #[.int .u64 0, .bool false]) ∧ w' = W)) (hov : ov ≤ 8) (hL : (4096 : Int) * 2 ^ ov = (L : Int)) (hLb : L ≤ 1048576)  :
    Calls Tryz.prog 47 #[.pointer (some ⟨hb, 0, none⟩), .int .u64 (sz : Int), .int .u64 (al : Int)] W fun e w' => e = .returned (.tuple #[.int .u64 0, .int .i64 3]) ∧ w' = W := by
  go_enter Tryz.func47, Tryz.ntmps47
  go_wp2_with fail
  refine CE.out.mono ?_
  rintro e w1 ⟨rfl, rfl⟩
  go_wp2_with fail
  go_ret2
  exact ⟨rfl, rfl⟩
set_option maxRecDepth 4000 in
theorem sizeFor_b0 (W : World) (hb sz al ov r L : Nat) (hs : sz < 18446744073709551616) (ha : al < 18446744073709551616) (h1 : (sz : Int) < (al : Int)) (h2 : ¬ (al : Int) < 16) (c4 : W.cell? ⟨hb, 4, none⟩ = some (.int .i64 (ov : Int))) (CE : Hid (Calls Tryz.prog 81 #[.int .u64 (al : Int)] W fun e w' => e = .returned (.tuple #[.int .u64 (r : Int), .bool true]) ∧ w' = W)) (hov : ov ≤ 8) (hL : (4096 : Int) * 2 ^ ov = (L : Int)) (hLb : L ≤ 1048576) (hr : r < 18446744073709551616) (hle : ¬ (L : Int) < (r : Int)) :
    Calls Tryz.prog 47 #[.pointer (some ⟨hb, 0, none⟩), .int .u64 (sz : Int), .int .u64 (al : Int)] W fun e w' => e = .returned (.tuple #[.int .u64 (r : Int), .int .i64 0]) ∧ w' = W := by
  go_enter Tryz.func47, Tryz.ntmps47
  go_wp2_with fail
  refine CE.out.mono ?_
  rintro e w1 ⟨rfl, rfl⟩
  go_wp2_with fail
  go_ret2
  exact ⟨rfl, rfl⟩
set_option maxRecDepth 4000 in
theorem sizeFor_b1 (W : World) (hb sz al ov r L : Nat) (hs : sz < 18446744073709551616) (ha : al < 18446744073709551616) (h1 : (sz : Int) < (al : Int)) (h2 : ¬ (al : Int) < 16) (c4 : W.cell? ⟨hb, 4, none⟩ = some (.int .i64 (ov : Int))) (CE : Hid (Calls Tryz.prog 81 #[.int .u64 (al : Int)] W fun e w' => e = .returned (.tuple #[.int .u64 (r : Int), .bool true]) ∧ w' = W)) (hov : ov ≤ 8) (hL : (4096 : Int) * 2 ^ ov = (L : Int)) (hLb : L ≤ 1048576) (hr : r < 18446744073709551616) (hle : (L : Int) < (r : Int)) :
    Calls Tryz.prog 47 #[.pointer (some ⟨hb, 0, none⟩), .int .u64 (sz : Int), .int .u64 (al : Int)] W fun e w' => e = .returned (.tuple #[.int .u64 0, .int .i64 3]) ∧ w' = W := by
  go_enter Tryz.func47, Tryz.ntmps47
  go_wp2_with fail
  refine CE.out.mono ?_
  rintro e w1 ⟨rfl, rfl⟩
  go_wp2_with fail
  go_ret2
  exact ⟨rfl, rfl⟩
set_option maxRecDepth 4000 in
theorem sizeFor_b2 (W : World) (hb sz al ov r L : Nat) (hs : sz < 18446744073709551616) (ha : al < 18446744073709551616) (h1 : (sz : Int) < (al : Int)) (h2 : ¬ (al : Int) < 16) (c4 : W.cell? ⟨hb, 4, none⟩ = some (.int .i64 (ov : Int))) (CE : Hid (Calls Tryz.prog 81 #[.int .u64 (al : Int)] W fun e w' => e = .returned (.tuple #[.int .u64 0, .bool false]) ∧ w' = W)) (hov : ov ≤ 8) (hL : (4096 : Int) * 2 ^ ov = (L : Int)) (hLb : L ≤ 1048576)  :
    Calls Tryz.prog 47 #[.pointer (some ⟨hb, 0, none⟩), .int .u64 (sz : Int), .int .u64 (al : Int)] W fun e w' => e = .returned (.tuple #[.int .u64 0, .int .i64 3]) ∧ w' = W := by
  go_enter Tryz.func47, Tryz.ntmps47
  go_wp2_with fail
  refine CE.out.mono ?_
  rintro e w1 ⟨rfl, rfl⟩
  go_wp2_with fail
  go_ret2
  exact ⟨rfl, rfl⟩
set_option maxRecDepth 4000 in
theorem sizeFor_c0 (W : World) (hb sz al ov r L : Nat) (hs : sz < 18446744073709551616) (ha : al < 18446744073709551616) (h1 : ¬ (sz : Int) < (al : Int)) (h2 : (sz : Int) < 16) (c4 : W.cell? ⟨hb, 4, none⟩ = some (.int .i64 (ov : Int))) (CE : Hid (Calls Tryz.prog 81 #[.int .u64 16] W fun e w' => e = .returned (.tuple #[.int .u64 (r : Int), .bool true]) ∧ w' = W)) (hov : ov ≤ 8) (hL : (4096 : Int) * 2 ^ ov = (L : Int)) (hLb : L ≤ 1048576) (hr : r < 18446744073709551616) (hle : ¬ (L : Int) < (r : Int)) :
    Calls Tryz.prog 47 #[.pointer (some ⟨hb, 0, none⟩), .int .u64 (sz : Int), .int .u64 (al : Int)] W fun e w' => e = .returned (.tuple #[.int .u64 (r : Int), .int .i64 0]) ∧ w' = W := by
  go_enter Tryz.func47, Tryz.ntmps47
  go_wp2_with fail
  refine CE.out.mono ?_
  rintro e w1 ⟨rfl, rfl⟩
  go_wp2_with fail
  go_ret2
  exact ⟨rfl, rfl⟩
set_option maxRecDepth 4000 in
theorem sizeFor_c1 (W : World) (hb sz al ov r L : Nat) (hs : sz < 18446744073709551616) (ha : al < 18446744073709551616) (h1 : ¬ (sz : Int) < (al : Int)) (h2 : (sz : Int) < 16) (c4 : W.cell? ⟨hb, 4, none⟩ = some (.int .i64 (ov : Int))) (CE : Hid (Calls Tryz.prog 81 #[.int .u64 16] W fun e w' => e = .returned (.tuple #[.int .u64 (r : Int), .bool true]) ∧ w' = W)) (hov : ov ≤ 8) (hL : (4096 : Int) * 2 ^ ov = (L : Int)) (hLb : L ≤ 1048576) (hr : r < 18446744073709551616) (hle : (L : Int) < (r : Int)) :
    Calls Tryz.prog 47 #[.pointer (some ⟨hb, 0, none⟩), .int .u64 (sz : Int), .int .u64 (al : Int)] W fun e w' => e = .returned (.tuple #[.int .u64 0, .int .i64 3]) ∧ w' = W := by
  go_enter Tryz.func47, Tryz.ntmps47
  go_wp2_with fail
  refine CE.out.mono ?_
  rintro e w1 ⟨rfl, rfl⟩
  go_wp2_with fail
  go_ret2
  exact ⟨rfl, rfl⟩
set_option maxRecDepth 4000 in
theorem sizeFor_c2 (W : World) (hb sz al ov r L : Nat) (hs : sz < 18446744073709551616) (ha : al < 18446744073709551616) (h1 : ¬ (sz : Int) < (al : Int)) (h2 : (sz : Int) < 16) (c4 : W.cell? ⟨hb, 4, none⟩ = some (.int .i64 (ov : Int))) (CE : Hid (Calls Tryz.prog 81 #[.int .u64 16] W fun e w' => e = .returned (.tuple #[.int .u64 0, .bool false]) ∧ w' = W)) (hov : ov ≤ 8) (hL : (4096 : Int) * 2 ^ ov = (L : Int)) (hLb : L ≤ 1048576)  :
    Calls Tryz.prog 47 #[.pointer (some ⟨hb, 0, none⟩), .int .u64 (sz : Int), .int .u64 (al : Int)] W fun e w' => e = .returned (.tuple #[.int .u64 0, .int .i64 3]) ∧ w' = W := by
  go_enter Tryz.func47, Tryz.ntmps47
  go_wp2_with fail
  refine CE.out.mono ?_
  rintro e w1 ⟨rfl, rfl⟩
  go_wp2_with fail
  go_ret2
  exact ⟨rfl, rfl⟩
set_option maxRecDepth 4000 in
theorem sizeFor_d0 (W : World) (hb sz al ov r L : Nat) (hs : sz < 18446744073709551616) (ha : al < 18446744073709551616) (h1 : ¬ (sz : Int) < (al : Int)) (h2 : ¬ (sz : Int) < 16) (c4 : W.cell? ⟨hb, 4, none⟩ = some (.int .i64 (ov : Int))) (CE : Hid (Calls Tryz.prog 81 #[.int .u64 (sz : Int)] W fun e w' => e = .returned (.tuple #[.int .u64 (r : Int), .bool true]) ∧ w' = W)) (hov : ov ≤ 8) (hL : (4096 : Int) * 2 ^ ov = (L : Int)) (hLb : L ≤ 1048576) (hr : r < 18446744073709551616) (hle : ¬ (L : Int) < (r : Int)) :
    Calls Tryz.prog 47 #[.pointer (some ⟨hb, 0, none⟩), .int .u64 (sz : Int), .int .u64 (al : Int)] W fun e w' => e = .returned (.tuple #[.int .u64 (r : Int), .int .i64 0]) ∧ w' = W := by
  go_enter Tryz.func47, Tryz.ntmps47
  go_wp2_with fail
  refine CE.out.mono ?_
  rintro e w1 ⟨rfl, rfl⟩
  go_wp2_with fail
  go_ret2
  exact ⟨rfl, rfl⟩
set_option maxRecDepth 4000 in
theorem sizeFor_d1 (W : World) (hb sz al ov r L : Nat) (hs : sz < 18446744073709551616) (ha : al < 18446744073709551616) (h1 : ¬ (sz : Int) < (al : Int)) (h2 : ¬ (sz : Int) < 16) (c4 : W.cell? ⟨hb, 4, none⟩ = some (.int .i64 (ov : Int))) (CE : Hid (Calls Tryz.prog 81 #[.int .u64 (sz : Int)] W fun e w' => e = .returned (.tuple #[.int .u64 (r : Int), .bool true]) ∧ w' = W)) (hov : ov ≤ 8) (hL : (4096 : Int) * 2 ^ ov = (L : Int)) (hLb : L ≤ 1048576) (hr : r < 18446744073709551616) (hle : (L : Int) < (r : Int)) :
    Calls Tryz.prog 47 #[.pointer (some ⟨hb, 0, none⟩), .int .u64 (sz : Int), .int .u64 (al : Int)] W fun e w' => e = .returned (.tuple #[.int .u64 0, .int .i64 3]) ∧ w' = W := by
  go_enter Tryz.func47, Tryz.ntmps47
  go_wp2_with fail
  refine CE.out.mono ?_
  rintro e w1 ⟨rfl, rfl⟩
  go_wp2_with fail
  go_ret2
  exact ⟨rfl, rfl⟩
set_option maxRecDepth 4000 in
theorem sizeFor_d2 (W : World) (hb sz al ov r L : Nat) (hs : sz < 18446744073709551616) (ha : al < 18446744073709551616) (h1 : ¬ (sz : Int) < (al : Int)) (h2 : ¬ (sz : Int) < 16) (c4 : W.cell? ⟨hb, 4, none⟩ = some (.int .i64 (ov : Int))) (CE : Hid (Calls Tryz.prog 81 #[.int .u64 (sz : Int)] W fun e w' => e = .returned (.tuple #[.int .u64 0, .bool false]) ∧ w' = W)) (hov : ov ≤ 8) (hL : (4096 : Int) * 2 ^ ov = (L : Int)) (hLb : L ≤ 1048576)  :
    Calls Tryz.prog 47 #[.pointer (some ⟨hb, 0, none⟩), .int .u64 (sz : Int), .int .u64 (al : Int)] W fun e w' => e = .returned (.tuple #[.int .u64 0, .int .i64 3]) ∧ w' = W := by
  go_enter Tryz.func47, Tryz.ntmps47
  go_wp2_with fail
  refine CE.out.mono ?_
  rintro e w1 ⟨rfl, rfl⟩
  go_wp2_with fail
  go_ret2
  exact ⟨rfl, rfl⟩
section
variable {w W W' : World} {hb sb lw : Nat} {x : Bx} {t : Bt} {fr : Nat → List Nat} {ls : List (Nat × Nat)} {S : Sb} {s : Int}
theorem sizeFor_h (H : HW w W hb sb lw x t fr ls S s) (sz al : Nat) (hs : sz < 18446744073709551616) (ha : al < 18446744073709551616) (m : Nat) (hm : m = max (max sz al) 16) :
    Calls Tryz.prog 47 #[.pointer (some ⟨hb, 0, none⟩), .int .u64 (sz : Int), .int .u64 (al : Int)] W fun e w' => e = .returned (.tuple #[.int .u64 ((if szOk x.o m = true then 2 ^ cl m else 0 : Nat) : Int), .int .i64 (if szOk x.o m = true then 0 else 3)]) ∧ w' = W := by
  have n1 := H.po.nums.1
  have c4 := H.c.2.2.2.1
  have hmb : m < 18446744073709551616 := by omega
  have CE := ceil_64 m hmb W
  obtain ⟨L, hL⟩ : ∃ L, L = 4096 * 2 ^ x.o := ⟨_, rfl⟩
  have hLi : (4096 : Int) * 2 ^ x.o = (L : Int) := by rw [hL]; simp
  have hLb : L ≤ 1048576 := by
    have : 2 ^ x.o ≤ 2 ^ 8 := Nat.pow_le_pow_right (by decide) n1
    omega
  have hLp : L = 2 ^ (12 + x.o) := by rw [hL, Nat.pow_add]
  by_cases h64 : cl m < 64
  · have hv : ceilV 64 m = 2 ^ cl m := by unfold ceilV; rw [if_pos h64]
    have hbt : ceilB 64 m = true := decide_eq_true h64
    have hlt : 2 ^ cl m < 18446744073709551616 := by
      have := (pow_lt (cl m) 64).2 h64
      omega
    rw [hv, hbt] at CE
    have hok := pow_le (cl m) (12 + x.o)
    rw [← hLp] at hok
    cases ho : szOk x.o m with
    | true =>
      have hle := hok.2 (of_decide_eq_true ho)
      rw [if_pos rfl, if_pos rfl]
      obtain ⟨r, hr⟩ : ∃ r, r = 2 ^ cl m := ⟨_, rfl⟩
      rw [← hr] at CE hle hlt ⊢
      clear hok hv hbt hLp hr ho h64
      rcases Nat.lt_or_ge sz al with h1 | h1
      · rcases Nat.lt_or_ge al 16 with h2 | h2
        · obtain rfl : m = 16 := by omega
          exact sizeFor_a0 W hb sz al x.o r L hs ha (by omega) (by omega) c4 CE n1 hLi hLb hlt (fun e => absurd hle (by omega))
        · obtain rfl : m = al := by omega
          exact sizeFor_b0 W hb sz m x.o r L hs ha (by omega) (by omega) c4 CE n1 hLi hLb hlt (fun e => absurd hle (by omega))
      · rcases Nat.lt_or_ge sz 16 with h2 | h2
        · obtain rfl : m = 16 := by omega
          exact sizeFor_c0 W hb sz al x.o r L hs ha (by omega) (by omega) c4 CE n1 hLi hLb hlt (fun e => absurd hle (by omega))
        · obtain rfl : m = sz := by omega
          exact sizeFor_d0 W hb m al x.o r L hs ha (by omega) (by omega) c4 CE n1 hLi hLb hlt (fun e => absurd hle (by omega))
    | false =>
      have hle := fun e => of_decide_eq_false ho (hok.1 e)
      rw [if_neg (by decide), if_neg (by decide)]
      obtain ⟨r, hr⟩ : ∃ r, r = 2 ^ cl m := ⟨_, rfl⟩
      rw [← hr] at CE hle hlt
      clear hok hv hbt hLp hr ho h64
      rcases Nat.lt_or_ge sz al with h1 | h1
      · rcases Nat.lt_or_ge al 16 with h2 | h2
        · obtain rfl : m = 16 := by omega
          exact sizeFor_a1 W hb sz al x.o r L hs ha (by omega) (by omega) c4 CE n1 hLi hLb hlt (by have := Nat.lt_of_not_le hle; omega)
        · obtain rfl : m = al := by omega
          exact sizeFor_b1 W hb sz m x.o r L hs ha (by omega) (by omega) c4 CE n1 hLi hLb hlt (by have := Nat.lt_of_not_le hle; omega)
      · rcases Nat.lt_or_ge sz 16 with h2 | h2
        · obtain rfl : m = 16 := by omega
          exact sizeFor_c1 W hb sz al x.o r L hs ha (by omega) (by omega) c4 CE n1 hLi hLb hlt (by have := Nat.lt_of_not_le hle; omega)
        · obtain rfl : m = sz := by omega
          exact sizeFor_d1 W hb m al x.o r L hs ha (by omega) (by omega) c4 CE n1 hLi hLb hlt (by have := Nat.lt_of_not_le hle; omega)
  · have hv : ceilV 64 m = 0 := by unfold ceilV; rw [if_neg h64]
    have hbt : ceilB 64 m = false := decide_eq_false h64
    rw [hv, hbt] at CE
    have ho : szOk x.o m = false := decide_eq_false (by omega)
    rw [ho, if_neg (by decide), if_neg (by decide)]
    rcases Nat.lt_or_ge sz al with h1 | h1
    · rcases Nat.lt_or_ge al 16 with h2 | h2
      · obtain rfl : m = 16 := by omega
        exact sizeFor_a2 W hb sz al x.o 0 L hs ha (by omega) (by omega) c4 CE n1 hLi hLb
      · obtain rfl : m = al := by omega
        exact sizeFor_b2 W hb sz m x.o 0 L hs ha (by omega) (by omega) c4 CE n1 hLi hLb
    · rcases Nat.lt_or_ge sz 16 with h2 | h2
      · obtain rfl : m = 16 := by omega
        exact sizeFor_c2 W hb sz al x.o 0 L hs ha (by omega) (by omega) c4 CE n1 hLi hLb
      · obtain rfl : m = sz := by omega
        exact sizeFor_d2 W hb m al x.o 0 L hs ha (by omega) (by omega) c4 CE n1 hLi hLb
end
end Go.Proofs.YtgjapopddblpoaaGreatDoor
