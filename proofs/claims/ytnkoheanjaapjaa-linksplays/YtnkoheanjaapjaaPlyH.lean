/- LinksPlays: a step: SetWord out, all ways. -/
import Derived.Test.YtnkoheanjaapjaaPlyB
namespace Go.Proofs.Ytnkoheanjaapjaa
open Go.RowKit
set_option linter.unusedVariables false

set_option maxRecDepth 6000 in
set_option maxHeartbeats 4000000 in
theorem step_wordo_a (A B b : Nat) (ao mo : Option Nat) (n cap : Nat) (f cs hs : Nat → Nat) (hn : n ≤ 4194304) (k : Nat) (hk : k < 3) (p v : Nat) (hp : p < 18446744073709551616) (hv' : v < 18446744073709551616) (hin : ¬ In 4096 n p 8) (w : World) (t : Trio w A B b ao mo n cap f cs hs f hs) :
    Calls Try.prog 22 #[.pointer (some ⟨b, 0, none⟩), .agg #[.int .u64 4096, .int .u64 4096, .int .i64 3, .slice (adr mo) n cap], .pointer (some ⟨A, 0, none⟩), .pointer (some ⟨B, 0, none⟩), .agg #[.int .i64 5, .int .i64 (k : Int), .int .u64 (p : Int), .int .u64 (v : Int)]] w (Post A B b ao mo n cap cs w) := by
  have hwr : IntKind.i64.wrap (k : Int) = k := by rw [IntKind.wrap_i64]; omega
  have hk1 : ¬ (k : Int) < 0 := by omega
  have hk2 : ¬ (2 : Int) < (k : Int) := by omega
  have hk3 : (k : Int) < 3 := by omega
  have TL := hid t.tri_lt
  have K0 := hid (((Kept.refl none' w).alloc (.cells #[.int .u64 4096, .int .u64 4096, .int .i64 3, .slice (adr mo) n cap] 44)).alloc (.cells #[.int .i64 5, .int .i64 (k : Int), .int .u64 (p : Int), .int .u64 (v : Int)] 55))
  have T0 := hid (t.keep K0.out)
  have B0 := hid (Box2.new w mo n cap 5 (k : Int) p v)
  have ca := T0.out.ca k hk
  have ch := T0.out.ch k hk
  have hb64 := t.h64 k hk
  have HI := hid hin
  have HT := hid (show thereB 4096 n p 8 = false by simp [thereB, hin])
  clear hin
  clear t
  go_enter Try.func22, Try.ntmps22
  go_wp2_with fail
  refine (SetWord_out b ao 4096 4096 3 n f p 1 _ none 0 _ T0.out.s hp (by decide) (by decide) HI.out).mono ?_
  rintro e w1 ⟨rfl, k1⟩
  have T1 := hid (T0.out.keep k1)
  have K1 := hid (none_trans K0.out k1)
  have B1 := hid (B0.out.kept k1 (fun _ x => x.elim))
  obtain ⟨d0, d1, d2, d3⟩ := B1.out.cd
  obtain ⟨x2, x3⟩ := B1.out.cx
  clear k1 ca ch
  go_wp2_with fail
  refine (RThere_any 4096 4096 3 n cap _ hn (by omega) p 8 hp (by decide) _).mono ?_
  rintro e w2 ⟨rfl, k2⟩
  rw [HT.out]
  have T2 := hid (T1.out.keep k2)
  have K2 := hid (none_trans K1.out k2)
  clear k2 d0 d1 d2 d3 x2 x3
  go_wp2_with fail
  exact ⟨rfl, .bool true, by simp [results, Try.results22, go_sem], f, cs, hs, rfl, T2.out, tri_none K2.out, fun _ _ => Or.inl rfl⟩

set_option maxRecDepth 6000 in
set_option maxHeartbeats 4000000 in
theorem step_wordo_b (A B b : Nat) (ao mo : Option Nat) (n cap : Nat) (f cs hs : Nat → Nat) (hn : n ≤ 4194304) (li : Int) (hk1 : li < 0) (p v : Nat) (hp : p < 18446744073709551616) (hv' : v < 18446744073709551616) (hin : ¬ In 4096 n p 8) (w : World) (t : Trio w A B b ao mo n cap f cs hs f hs) :
    Calls Try.prog 22 #[.pointer (some ⟨b, 0, none⟩), .agg #[.int .u64 4096, .int .u64 4096, .int .i64 3, .slice (adr mo) n cap], .pointer (some ⟨A, 0, none⟩), .pointer (some ⟨B, 0, none⟩), .agg #[.int .i64 5, .int .i64 li, .int .u64 (p : Int), .int .u64 (v : Int)]] w (Post A B b ao mo n cap cs w) := by
  have hk : 0 < 3 := by decide
  have TL := hid t.tri_lt
  have K0 := hid (((Kept.refl none' w).alloc (.cells #[.int .u64 4096, .int .u64 4096, .int .i64 3, .slice (adr mo) n cap] 44)).alloc (.cells #[.int .i64 5, .int .i64 li, .int .u64 (p : Int), .int .u64 (v : Int)] 55))
  have T0 := hid (t.keep K0.out)
  have B0 := hid (Box2.new w mo n cap 5 li p v)
  have ca := T0.out.ca 0 hk
  have ch := T0.out.ch 0 hk
  have hb64 := t.h64 0 hk
  have HI := hid hin
  have HT := hid (show thereB 4096 n p 8 = false by simp [thereB, hin])
  clear hin
  clear t
  go_enter Try.func22, Try.ntmps22
  go_wp2_with fail
  refine (SetWord_out b ao 4096 4096 3 n f p 1 _ none 0 _ T0.out.s hp (by decide) (by decide) HI.out).mono ?_
  rintro e w1 ⟨rfl, k1⟩
  have T1 := hid (T0.out.keep k1)
  have K1 := hid (none_trans K0.out k1)
  have B1 := hid (B0.out.kept k1 (fun _ x => x.elim))
  obtain ⟨d0, d1, d2, d3⟩ := B1.out.cd
  obtain ⟨x2, x3⟩ := B1.out.cx
  clear k1 ca ch
  go_wp2_with fail
  refine (RThere_any 4096 4096 3 n cap _ hn (by omega) p 8 hp (by decide) _).mono ?_
  rintro e w2 ⟨rfl, k2⟩
  rw [HT.out]
  have T2 := hid (T1.out.keep k2)
  have K2 := hid (none_trans K1.out k2)
  clear k2 d0 d1 d2 d3 x2 x3
  go_wp2_with fail
  exact ⟨rfl, .bool true, by simp [results, Try.results22, go_sem], f, cs, hs, rfl, T2.out, tri_none K2.out, fun _ _ => Or.inl rfl⟩

set_option maxRecDepth 6000 in
set_option maxHeartbeats 4000000 in
theorem step_wordo_c (A B b : Nat) (ao mo : Option Nat) (n cap : Nat) (f cs hs : Nat → Nat) (hn : n ≤ 4194304) (li : Int) (hk2 : 2 < li) (p v : Nat) (hp : p < 18446744073709551616) (hv' : v < 18446744073709551616) (hin : ¬ In 4096 n p 8) (w : World) (t : Trio w A B b ao mo n cap f cs hs f hs) :
    Calls Try.prog 22 #[.pointer (some ⟨b, 0, none⟩), .agg #[.int .u64 4096, .int .u64 4096, .int .i64 3, .slice (adr mo) n cap], .pointer (some ⟨A, 0, none⟩), .pointer (some ⟨B, 0, none⟩), .agg #[.int .i64 5, .int .i64 li, .int .u64 (p : Int), .int .u64 (v : Int)]] w (Post A B b ao mo n cap cs w) := by
  have hk : 0 < 3 := by decide
  have hk1 : ¬ li < 0 := by omega
  have TL := hid t.tri_lt
  have K0 := hid (((Kept.refl none' w).alloc (.cells #[.int .u64 4096, .int .u64 4096, .int .i64 3, .slice (adr mo) n cap] 44)).alloc (.cells #[.int .i64 5, .int .i64 li, .int .u64 (p : Int), .int .u64 (v : Int)] 55))
  have T0 := hid (t.keep K0.out)
  have B0 := hid (Box2.new w mo n cap 5 li p v)
  have ca := T0.out.ca 0 hk
  have ch := T0.out.ch 0 hk
  have hb64 := t.h64 0 hk
  have HI := hid hin
  have HT := hid (show thereB 4096 n p 8 = false by simp [thereB, hin])
  clear hin
  clear t
  go_enter Try.func22, Try.ntmps22
  go_wp2_with fail
  refine (SetWord_out b ao 4096 4096 3 n f p 1 _ none 0 _ T0.out.s hp (by decide) (by decide) HI.out).mono ?_
  rintro e w1 ⟨rfl, k1⟩
  have T1 := hid (T0.out.keep k1)
  have K1 := hid (none_trans K0.out k1)
  have B1 := hid (B0.out.kept k1 (fun _ x => x.elim))
  obtain ⟨d0, d1, d2, d3⟩ := B1.out.cd
  obtain ⟨x2, x3⟩ := B1.out.cx
  clear k1 ca ch
  go_wp2_with fail
  refine (RThere_any 4096 4096 3 n cap _ hn (by omega) p 8 hp (by decide) _).mono ?_
  rintro e w2 ⟨rfl, k2⟩
  rw [HT.out]
  have T2 := hid (T1.out.keep k2)
  have K2 := hid (none_trans K1.out k2)
  clear k2 d0 d1 d2 d3 x2 x3
  go_wp2_with fail
  exact ⟨rfl, .bool true, by simp [results, Try.results22, go_sem], f, cs, hs, rfl, T2.out, tri_none K2.out, fun _ _ => Or.inl rfl⟩
end Go.Proofs.Ytnkoheanjaapjaa
