/- LinksPlays: a step: New, all ways. -/
import Derived.Test.YtnkoheanjaapjaaPlyB
namespace Go.Proofs.Ytnkoheanjaapjaa
open Go.RowKit
set_option linter.unusedVariables false

set_option maxRecDepth 6000 in
set_option maxHeartbeats 4000000 in
theorem step_new_a (A B b : Nat) (ao mo : Option Nat) (n cap : Nat) (f cs hs : Nat → Nat) (hn : n ≤ 4194304) (k : Nat) (hk : k < 3) (p v : Nat) (hp : p < 18446744073709551616) (hv' : v < 18446744073709551616) (w : World) (t : Trio w A B b ao mo n cap f cs hs f hs) :
    Calls Try.prog 22 #[.pointer (some ⟨b, 0, none⟩), .agg #[.int .u64 4096, .int .u64 4096, .int .i64 3, .slice (adr mo) n cap], .pointer (some ⟨A, 0, none⟩), .pointer (some ⟨B, 0, none⟩), .agg #[.int .i64 6, .int .i64 (k : Int), .int .u64 (p : Int), .int .u64 (v : Int)]] w (Post A B b ao mo n cap cs w) := by
  have hwr : IntKind.i64.wrap (k : Int) = k := by rw [IntKind.wrap_i64]; omega
  have hk1 : ¬ (k : Int) < 0 := by omega
  have hk2 : ¬ (2 : Int) < (k : Int) := by omega
  have hk3 : (k : Int) < 3 := by omega
  have TL := hid t.tri_lt
  have K0 := hid (((Kept.refl none' w).alloc (.cells #[.int .u64 4096, .int .u64 4096, .int .i64 3, .slice (adr mo) n cap] 44)).alloc (.cells #[.int .i64 6, .int .i64 (k : Int), .int .u64 (p : Int), .int .u64 (v : Int)] 55))
  have T0 := hid (t.keep K0.out)
  have B0 := hid (Box2.new w mo n cap 6 (k : Int) p v)
  have ca := T0.out.ca k hk
  have ch := T0.out.ch k hk
  have hb64 := t.h64 k hk
  clear t
  go_enter Try.func22, Try.ntmps22
  go_wp2_with fail
  go_region_with ((go_at_call 10; refine (newList_any b p hp _).mono ?_; rintro e w1 ⟨c, rfl, l1, k1, hc⟩; have T1 := hid ((T0.out.keep (Kept.refl none' _).drew).keep k1); have za := T1.out.za k; have ca1 := T1.out.ca k hk; have L1 := hid l1; have K1 := hid (none_trans K0.out.drew k1); have B1 := hid ((B0.out.kept (Kept.refl none' _).drew (fun _ x => x.elim)).kept k1 (fun _ x => x.elim)); have HC := hid (show ∀ j, j < 3 → cs j ≠ c from fun j hj e => by have := (T0.out.l j hj).lt; rw [e] at this; exact absurd hc (Nat.not_le.2 this)); have HC2 := hid (show w.heap.size ≤ c by have := K0.out.size; exact Nat.le_trans this hc); clear l1 k1 hc ca ch))
  all_goals
    have T2 := hid (T1.out.new k hk c p L1.out HC.out)
    have K2 := hid (tri_setA (tri_none (A := A) (B := B) (b := b) (ao := ao) (mo := mo) (cs := cs) K1.out) k (.pointer (some ⟨c, 0, none⟩)))
    have B2 := hid (B1.out.kept ((Kept.refl (fun y => y = A) w1).setCell (p := ⟨A, k, none⟩) (fun _ => rfl) (.pointer (some ⟨c, 0, none⟩))) (fun y e => TL.out y (Or.inl e)))
    have zh := T2.out.zh k
    have ch := T2.out.ch k hk
    obtain ⟨x2, x3⟩ := B2.out.cx
    clear za ca1
    go_wp2_with fail
    go_region
    all_goals
      have T3 := hid ((T2.out.head k hk p hp).keep (Kept.refl none' _).drew)
      have K3 := hid ((tri_setB K2.out k (.int .u64 (p : Int))).drew)
      have ca3 := T3.out.ca k hk
      rw [show put3 cs k c k = c by simp [put3]] at ca3
      clear zh ch x2 x3
      go_wp2_with fail
      exact ⟨rfl, .bool true, by simp [results, Try.results22, go_sem], f, put3 cs k c, put3 hs k p, rfl, T3.out, K3.out, fun j _ => by unfold put3; split; exact Or.inr HC2.out; exact Or.inl rfl⟩

set_option maxRecDepth 6000 in
set_option maxHeartbeats 4000000 in
theorem step_new_b (A B b : Nat) (ao mo : Option Nat) (n cap : Nat) (f cs hs : Nat → Nat) (hn : n ≤ 4194304) (li : Int) (hk1 : li < 0) (p v : Nat) (hp : p < 18446744073709551616) (hv' : v < 18446744073709551616) (w : World) (t : Trio w A B b ao mo n cap f cs hs f hs) :
    Calls Try.prog 22 #[.pointer (some ⟨b, 0, none⟩), .agg #[.int .u64 4096, .int .u64 4096, .int .i64 3, .slice (adr mo) n cap], .pointer (some ⟨A, 0, none⟩), .pointer (some ⟨B, 0, none⟩), .agg #[.int .i64 6, .int .i64 li, .int .u64 (p : Int), .int .u64 (v : Int)]] w (Post A B b ao mo n cap cs w) := by
  have hk : 0 < 3 := by decide
  have TL := hid t.tri_lt
  have K0 := hid (((Kept.refl none' w).alloc (.cells #[.int .u64 4096, .int .u64 4096, .int .i64 3, .slice (adr mo) n cap] 44)).alloc (.cells #[.int .i64 6, .int .i64 li, .int .u64 (p : Int), .int .u64 (v : Int)] 55))
  have T0 := hid (t.keep K0.out)
  have B0 := hid (Box2.new w mo n cap 6 li p v)
  have ca := T0.out.ca 0 hk
  have ch := T0.out.ch 0 hk
  have hb64 := t.h64 0 hk
  clear t
  go_enter Try.func22, Try.ntmps22
  go_wp2_with fail
  go_region_with ((go_at_call 10; refine (newList_any b p hp _).mono ?_; rintro e w1 ⟨c, rfl, l1, k1, hc⟩; have T1 := hid ((T0.out.keep (Kept.refl none' _).drew).keep k1); have za := T1.out.za 0; have ca1 := T1.out.ca 0 hk; have L1 := hid l1; have K1 := hid (none_trans K0.out.drew k1); have B1 := hid ((B0.out.kept (Kept.refl none' _).drew (fun _ x => x.elim)).kept k1 (fun _ x => x.elim)); have HC := hid (show ∀ j, j < 3 → cs j ≠ c from fun j hj e => by have := (T0.out.l j hj).lt; rw [e] at this; exact absurd hc (Nat.not_le.2 this)); have HC2 := hid (show w.heap.size ≤ c by have := K0.out.size; exact Nat.le_trans this hc); clear l1 k1 hc ca ch))
  all_goals
    have T2 := hid (T1.out.new 0 hk c p L1.out HC.out)
    have K2 := hid (tri_setA (tri_none (A := A) (B := B) (b := b) (ao := ao) (mo := mo) (cs := cs) K1.out) 0 (.pointer (some ⟨c, 0, none⟩)))
    have B2 := hid (B1.out.kept ((Kept.refl (fun y => y = A) w1).setCell (p := ⟨A, 0, none⟩) (fun _ => rfl) (.pointer (some ⟨c, 0, none⟩))) (fun y e => TL.out y (Or.inl e)))
    have zh := T2.out.zh 0
    have ch := T2.out.ch 0 hk
    obtain ⟨x2, x3⟩ := B2.out.cx
    clear za ca1
    go_wp2_with fail
    go_region
    all_goals
      have T3 := hid ((T2.out.head 0 hk p hp).keep (Kept.refl none' _).drew)
      have K3 := hid ((tri_setB K2.out 0 (.int .u64 (p : Int))).drew)
      have ca3 := T3.out.ca 0 hk
      rw [show put3 cs 0 c 0 = c by simp [put3]] at ca3
      clear zh ch x2 x3
      go_wp2_with fail
      exact ⟨rfl, .bool true, by simp [results, Try.results22, go_sem], f, put3 cs 0 c, put3 hs 0 p, rfl, T3.out, K3.out, fun j _ => by unfold put3; split; exact Or.inr HC2.out; exact Or.inl rfl⟩

set_option maxRecDepth 6000 in
set_option maxHeartbeats 4000000 in
theorem step_new_c (A B b : Nat) (ao mo : Option Nat) (n cap : Nat) (f cs hs : Nat → Nat) (hn : n ≤ 4194304) (li : Int) (hk2 : 2 < li) (p v : Nat) (hp : p < 18446744073709551616) (hv' : v < 18446744073709551616) (w : World) (t : Trio w A B b ao mo n cap f cs hs f hs) :
    Calls Try.prog 22 #[.pointer (some ⟨b, 0, none⟩), .agg #[.int .u64 4096, .int .u64 4096, .int .i64 3, .slice (adr mo) n cap], .pointer (some ⟨A, 0, none⟩), .pointer (some ⟨B, 0, none⟩), .agg #[.int .i64 6, .int .i64 li, .int .u64 (p : Int), .int .u64 (v : Int)]] w (Post A B b ao mo n cap cs w) := by
  have hk : 0 < 3 := by decide
  have hk1 : ¬ li < 0 := by omega
  have TL := hid t.tri_lt
  have K0 := hid (((Kept.refl none' w).alloc (.cells #[.int .u64 4096, .int .u64 4096, .int .i64 3, .slice (adr mo) n cap] 44)).alloc (.cells #[.int .i64 6, .int .i64 li, .int .u64 (p : Int), .int .u64 (v : Int)] 55))
  have T0 := hid (t.keep K0.out)
  have B0 := hid (Box2.new w mo n cap 6 li p v)
  have ca := T0.out.ca 0 hk
  have ch := T0.out.ch 0 hk
  have hb64 := t.h64 0 hk
  clear t
  go_enter Try.func22, Try.ntmps22
  go_wp2_with fail
  go_region_with ((go_at_call 10; refine (newList_any b p hp _).mono ?_; rintro e w1 ⟨c, rfl, l1, k1, hc⟩; have T1 := hid ((T0.out.keep (Kept.refl none' _).drew).keep k1); have za := T1.out.za 0; have ca1 := T1.out.ca 0 hk; have L1 := hid l1; have K1 := hid (none_trans K0.out.drew k1); have B1 := hid ((B0.out.kept (Kept.refl none' _).drew (fun _ x => x.elim)).kept k1 (fun _ x => x.elim)); have HC := hid (show ∀ j, j < 3 → cs j ≠ c from fun j hj e => by have := (T0.out.l j hj).lt; rw [e] at this; exact absurd hc (Nat.not_le.2 this)); have HC2 := hid (show w.heap.size ≤ c by have := K0.out.size; exact Nat.le_trans this hc); clear l1 k1 hc ca ch))
  all_goals
    have T2 := hid (T1.out.new 0 hk c p L1.out HC.out)
    have K2 := hid (tri_setA (tri_none (A := A) (B := B) (b := b) (ao := ao) (mo := mo) (cs := cs) K1.out) 0 (.pointer (some ⟨c, 0, none⟩)))
    have B2 := hid (B1.out.kept ((Kept.refl (fun y => y = A) w1).setCell (p := ⟨A, 0, none⟩) (fun _ => rfl) (.pointer (some ⟨c, 0, none⟩))) (fun y e => TL.out y (Or.inl e)))
    have zh := T2.out.zh 0
    have ch := T2.out.ch 0 hk
    obtain ⟨x2, x3⟩ := B2.out.cx
    clear za ca1
    go_wp2_with fail
    go_region
    all_goals
      have T3 := hid ((T2.out.head 0 hk p hp).keep (Kept.refl none' _).drew)
      have K3 := hid ((tri_setB K2.out 0 (.int .u64 (p : Int))).drew)
      have ca3 := T3.out.ca 0 hk
      rw [show put3 cs 0 c 0 = c by simp [put3]] at ca3
      clear zh ch x2 x3
      go_wp2_with fail
      exact ⟨rfl, .bool true, by simp [results, Try.results22, go_sem], f, put3 cs 0 c, put3 hs 0 p, rfl, T3.out, K3.out, fun j _ => by unfold put3; split; exact Or.inr HC2.out; exact Or.inl rfl⟩
end Go.Proofs.Ytnkoheanjaapjaa
