/- LinksPlays: a step: Head, all ways. -/
import Derived.Test.YtnkoheanjaapjaaPlyB
namespace Go.Proofs.Ytnkoheanjaapjaa
open Go.RowKit
set_option linter.unusedVariables false

set_option maxRecDepth 6000 in
set_option maxHeartbeats 4000000 in
theorem step_head_a (A B b : Nat) (ao mo : Option Nat) (n cap : Nat) (f cs hs : Nat → Nat) (hn : n ≤ 4194304) (k : Nat) (hk : k < 3) (p v : Nat) (hp : p < 18446744073709551616) (hv' : v < 18446744073709551616) (w : World) (t : Trio w A B b ao mo n cap f cs hs f hs) :
    Calls Try.prog 22 #[.pointer (some ⟨b, 0, none⟩), .agg #[.int .u64 4096, .int .u64 4096, .int .i64 3, .slice (adr mo) n cap], .pointer (some ⟨A, 0, none⟩), .pointer (some ⟨B, 0, none⟩), .agg #[.int .i64 3, .int .i64 (k : Int), .int .u64 (p : Int), .int .u64 (v : Int)]] w (Post A B b ao mo n cap cs w) := by
  have hwr : IntKind.i64.wrap (k : Int) = k := by rw [IntKind.wrap_i64]; omega
  have hk1 : ¬ (k : Int) < 0 := by omega
  have hk2 : ¬ (2 : Int) < (k : Int) := by omega
  have hk3 : (k : Int) < 3 := by omega
  have TL := hid t.tri_lt
  have K0 := hid (((Kept.refl none' w).alloc (.cells #[.int .u64 4096, .int .u64 4096, .int .i64 3, .slice (adr mo) n cap] 44)).alloc (.cells #[.int .i64 3, .int .i64 (k : Int), .int .u64 (p : Int), .int .u64 (v : Int)] 55))
  have T0 := hid (t.keep K0.out)
  have B0 := hid (Box2.new w mo n cap 3 (k : Int) p v)
  have ca := T0.out.ca k hk
  have ch := T0.out.ch k hk
  have hb64 := t.h64 k hk
  clear t
  go_enter Try.func22, Try.ntmps22
  go_wp2_with fail
  go_region_with ((go_at_call 15; refine (Head_any (cs k) b (hs k) _ ((T0.out.l k hk).keep (Kept.refl none' _).drew)).mono ?_; rintro e w' ⟨rfl, rfl⟩))
  all_goals
    go_wp2_with fail
    exact ⟨rfl, .bool true, by simp [results, Try.results22, go_sem], f, cs, hs, rfl, T0.out.keep (Kept.refl none' _).drew, tri_none K0.out.drew, fun _ _ => Or.inl rfl⟩

set_option maxRecDepth 6000 in
set_option maxHeartbeats 4000000 in
theorem step_head_b (A B b : Nat) (ao mo : Option Nat) (n cap : Nat) (f cs hs : Nat → Nat) (hn : n ≤ 4194304) (li : Int) (hk1 : li < 0) (p v : Nat) (hp : p < 18446744073709551616) (hv' : v < 18446744073709551616) (w : World) (t : Trio w A B b ao mo n cap f cs hs f hs) :
    Calls Try.prog 22 #[.pointer (some ⟨b, 0, none⟩), .agg #[.int .u64 4096, .int .u64 4096, .int .i64 3, .slice (adr mo) n cap], .pointer (some ⟨A, 0, none⟩), .pointer (some ⟨B, 0, none⟩), .agg #[.int .i64 3, .int .i64 li, .int .u64 (p : Int), .int .u64 (v : Int)]] w (Post A B b ao mo n cap cs w) := by
  have hk : 0 < 3 := by decide
  have TL := hid t.tri_lt
  have K0 := hid (((Kept.refl none' w).alloc (.cells #[.int .u64 4096, .int .u64 4096, .int .i64 3, .slice (adr mo) n cap] 44)).alloc (.cells #[.int .i64 3, .int .i64 li, .int .u64 (p : Int), .int .u64 (v : Int)] 55))
  have T0 := hid (t.keep K0.out)
  have B0 := hid (Box2.new w mo n cap 3 li p v)
  have ca := T0.out.ca 0 hk
  have ch := T0.out.ch 0 hk
  have hb64 := t.h64 0 hk
  clear t
  go_enter Try.func22, Try.ntmps22
  go_wp2_with fail
  go_region_with ((go_at_call 15; refine (Head_any (cs 0) b (hs 0) _ ((T0.out.l 0 hk).keep (Kept.refl none' _).drew)).mono ?_; rintro e w' ⟨rfl, rfl⟩))
  all_goals
    go_wp2_with fail
    exact ⟨rfl, .bool true, by simp [results, Try.results22, go_sem], f, cs, hs, rfl, T0.out.keep (Kept.refl none' _).drew, tri_none K0.out.drew, fun _ _ => Or.inl rfl⟩

set_option maxRecDepth 6000 in
set_option maxHeartbeats 4000000 in
theorem step_head_c (A B b : Nat) (ao mo : Option Nat) (n cap : Nat) (f cs hs : Nat → Nat) (hn : n ≤ 4194304) (li : Int) (hk2 : 2 < li) (p v : Nat) (hp : p < 18446744073709551616) (hv' : v < 18446744073709551616) (w : World) (t : Trio w A B b ao mo n cap f cs hs f hs) :
    Calls Try.prog 22 #[.pointer (some ⟨b, 0, none⟩), .agg #[.int .u64 4096, .int .u64 4096, .int .i64 3, .slice (adr mo) n cap], .pointer (some ⟨A, 0, none⟩), .pointer (some ⟨B, 0, none⟩), .agg #[.int .i64 3, .int .i64 li, .int .u64 (p : Int), .int .u64 (v : Int)]] w (Post A B b ao mo n cap cs w) := by
  have hk : 0 < 3 := by decide
  have hk1 : ¬ li < 0 := by omega
  have TL := hid t.tri_lt
  have K0 := hid (((Kept.refl none' w).alloc (.cells #[.int .u64 4096, .int .u64 4096, .int .i64 3, .slice (adr mo) n cap] 44)).alloc (.cells #[.int .i64 3, .int .i64 li, .int .u64 (p : Int), .int .u64 (v : Int)] 55))
  have T0 := hid (t.keep K0.out)
  have B0 := hid (Box2.new w mo n cap 3 li p v)
  have ca := T0.out.ca 0 hk
  have ch := T0.out.ch 0 hk
  have hb64 := t.h64 0 hk
  clear t
  go_enter Try.func22, Try.ntmps22
  go_wp2_with fail
  go_region_with ((go_at_call 15; refine (Head_any (cs 0) b (hs 0) _ ((T0.out.l 0 hk).keep (Kept.refl none' _).drew)).mono ?_; rintro e w' ⟨rfl, rfl⟩))
  all_goals
    go_wp2_with fail
    exact ⟨rfl, .bool true, by simp [results, Try.results22, go_sem], f, cs, hs, rfl, T0.out.keep (Kept.refl none' _).drew, tri_none K0.out.drew, fun _ _ => Or.inl rfl⟩
end Go.Proofs.Ytnkoheanjaapjaa
