/- LinksPlays: a step: others, all ways. -/
import Derived.Test.YtnkoheanjaapjaaPlyB
namespace Go.Proofs.Ytnkoheanjaapjaa
open Go.RowKit
set_option linter.unusedVariables false

set_option maxRecDepth 6000 in
set_option maxHeartbeats 4000000 in
theorem step_other_a (A B b : Nat) (ao mo : Option Nat) (n cap : Nat) (f cs hs : Nat → Nat) (hn : n ≤ 4194304) (k : Nat) (hk : k < 3) (p v : Nat) (hp : p < 18446744073709551616) (hv' : v < 18446744073709551616) (op : Int) (g0 : op ≠ 0) (g1 : op ≠ 1) (g2 : op ≠ 2) (g3 : op ≠ 3) (g4 : op ≠ 4) (g5 : op ≠ 5) (g6 : op ≠ 6) (g7 : op ≠ 7) (w : World) (t : Trio w A B b ao mo n cap f cs hs f hs) :
    Calls Try.prog 22 #[.pointer (some ⟨b, 0, none⟩), .agg #[.int .u64 4096, .int .u64 4096, .int .i64 3, .slice (adr mo) n cap], .pointer (some ⟨A, 0, none⟩), .pointer (some ⟨B, 0, none⟩), .agg #[.int .i64 op, .int .i64 (k : Int), .int .u64 (p : Int), .int .u64 (v : Int)]] w (Post A B b ao mo n cap cs w) := by
  have hwr : IntKind.i64.wrap (k : Int) = k := by rw [IntKind.wrap_i64]; omega
  have hk1 : ¬ (k : Int) < 0 := by omega
  have hk2 : ¬ (2 : Int) < (k : Int) := by omega
  have hk3 : (k : Int) < 3 := by omega
  have TL := hid t.tri_lt
  have K0 := hid (((Kept.refl none' w).alloc (.cells #[.int .u64 4096, .int .u64 4096, .int .i64 3, .slice (adr mo) n cap] 44)).alloc (.cells #[.int .i64 op, .int .i64 (k : Int), .int .u64 (p : Int), .int .u64 (v : Int)] 55))
  have T0 := hid (t.keep K0.out)
  have B0 := hid (Box2.new w mo n cap op (k : Int) p v)
  have ca := T0.out.ca k hk
  have ch := T0.out.ch k hk
  have hb64 := t.h64 k hk
  have q0 : (op == 0) = false := beq_eq_false_iff_ne.2 g0
  have q1 : (op == 1) = false := beq_eq_false_iff_ne.2 g1
  have q2 : (op == 2) = false := beq_eq_false_iff_ne.2 g2
  have q3 : (op == 3) = false := beq_eq_false_iff_ne.2 g3
  have q4 : (op == 4) = false := beq_eq_false_iff_ne.2 g4
  have q5 : (op == 5) = false := beq_eq_false_iff_ne.2 g5
  have q6 : (op == 6) = false := beq_eq_false_iff_ne.2 g6
  have q7 : (op == 7) = false := beq_eq_false_iff_ne.2 g7
  clear t
  go_enter Try.func22, Try.ntmps22
  go_wp2_with fail
  exact ⟨rfl, .bool true, by simp [results, Try.results22, go_sem], f, cs, hs, rfl, T0.out, tri_none K0.out, fun _ _ => Or.inl rfl⟩

set_option maxRecDepth 6000 in
set_option maxHeartbeats 4000000 in
theorem step_other_b (A B b : Nat) (ao mo : Option Nat) (n cap : Nat) (f cs hs : Nat → Nat) (hn : n ≤ 4194304) (li : Int) (hk1 : li < 0) (p v : Nat) (hp : p < 18446744073709551616) (hv' : v < 18446744073709551616) (op : Int) (g0 : op ≠ 0) (g1 : op ≠ 1) (g2 : op ≠ 2) (g3 : op ≠ 3) (g4 : op ≠ 4) (g5 : op ≠ 5) (g6 : op ≠ 6) (g7 : op ≠ 7) (w : World) (t : Trio w A B b ao mo n cap f cs hs f hs) :
    Calls Try.prog 22 #[.pointer (some ⟨b, 0, none⟩), .agg #[.int .u64 4096, .int .u64 4096, .int .i64 3, .slice (adr mo) n cap], .pointer (some ⟨A, 0, none⟩), .pointer (some ⟨B, 0, none⟩), .agg #[.int .i64 op, .int .i64 li, .int .u64 (p : Int), .int .u64 (v : Int)]] w (Post A B b ao mo n cap cs w) := by
  have hk : 0 < 3 := by decide
  have TL := hid t.tri_lt
  have K0 := hid (((Kept.refl none' w).alloc (.cells #[.int .u64 4096, .int .u64 4096, .int .i64 3, .slice (adr mo) n cap] 44)).alloc (.cells #[.int .i64 op, .int .i64 li, .int .u64 (p : Int), .int .u64 (v : Int)] 55))
  have T0 := hid (t.keep K0.out)
  have B0 := hid (Box2.new w mo n cap op li p v)
  have ca := T0.out.ca 0 hk
  have ch := T0.out.ch 0 hk
  have hb64 := t.h64 0 hk
  have q0 : (op == 0) = false := beq_eq_false_iff_ne.2 g0
  have q1 : (op == 1) = false := beq_eq_false_iff_ne.2 g1
  have q2 : (op == 2) = false := beq_eq_false_iff_ne.2 g2
  have q3 : (op == 3) = false := beq_eq_false_iff_ne.2 g3
  have q4 : (op == 4) = false := beq_eq_false_iff_ne.2 g4
  have q5 : (op == 5) = false := beq_eq_false_iff_ne.2 g5
  have q6 : (op == 6) = false := beq_eq_false_iff_ne.2 g6
  have q7 : (op == 7) = false := beq_eq_false_iff_ne.2 g7
  clear t
  go_enter Try.func22, Try.ntmps22
  go_wp2_with fail
  exact ⟨rfl, .bool true, by simp [results, Try.results22, go_sem], f, cs, hs, rfl, T0.out, tri_none K0.out, fun _ _ => Or.inl rfl⟩

set_option maxRecDepth 6000 in
set_option maxHeartbeats 4000000 in
theorem step_other_c (A B b : Nat) (ao mo : Option Nat) (n cap : Nat) (f cs hs : Nat → Nat) (hn : n ≤ 4194304) (li : Int) (hk2 : 2 < li) (p v : Nat) (hp : p < 18446744073709551616) (hv' : v < 18446744073709551616) (op : Int) (g0 : op ≠ 0) (g1 : op ≠ 1) (g2 : op ≠ 2) (g3 : op ≠ 3) (g4 : op ≠ 4) (g5 : op ≠ 5) (g6 : op ≠ 6) (g7 : op ≠ 7) (w : World) (t : Trio w A B b ao mo n cap f cs hs f hs) :
    Calls Try.prog 22 #[.pointer (some ⟨b, 0, none⟩), .agg #[.int .u64 4096, .int .u64 4096, .int .i64 3, .slice (adr mo) n cap], .pointer (some ⟨A, 0, none⟩), .pointer (some ⟨B, 0, none⟩), .agg #[.int .i64 op, .int .i64 li, .int .u64 (p : Int), .int .u64 (v : Int)]] w (Post A B b ao mo n cap cs w) := by
  have hk : 0 < 3 := by decide
  have hk1 : ¬ li < 0 := by omega
  have TL := hid t.tri_lt
  have K0 := hid (((Kept.refl none' w).alloc (.cells #[.int .u64 4096, .int .u64 4096, .int .i64 3, .slice (adr mo) n cap] 44)).alloc (.cells #[.int .i64 op, .int .i64 li, .int .u64 (p : Int), .int .u64 (v : Int)] 55))
  have T0 := hid (t.keep K0.out)
  have B0 := hid (Box2.new w mo n cap op li p v)
  have ca := T0.out.ca 0 hk
  have ch := T0.out.ch 0 hk
  have hb64 := t.h64 0 hk
  have q0 : (op == 0) = false := beq_eq_false_iff_ne.2 g0
  have q1 : (op == 1) = false := beq_eq_false_iff_ne.2 g1
  have q2 : (op == 2) = false := beq_eq_false_iff_ne.2 g2
  have q3 : (op == 3) = false := beq_eq_false_iff_ne.2 g3
  have q4 : (op == 4) = false := beq_eq_false_iff_ne.2 g4
  have q5 : (op == 5) = false := beq_eq_false_iff_ne.2 g5
  have q6 : (op == 6) = false := beq_eq_false_iff_ne.2 g6
  have q7 : (op == 7) = false := beq_eq_false_iff_ne.2 g7
  clear t
  go_enter Try.func22, Try.ntmps22
  go_wp2_with fail
  exact ⟨rfl, .bool true, by simp [results, Try.results22, go_sem], f, cs, hs, rfl, T0.out, tri_none K0.out, fun _ _ => Or.inl rfl⟩
end Go.Proofs.Ytnkoheanjaapjaa
