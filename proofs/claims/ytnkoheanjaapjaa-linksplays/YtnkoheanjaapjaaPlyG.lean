/- LinksPlays: a step: SetWord in, all ways. -/
import Derived.Test.YtnkoheanjaapjaaPlyB
namespace Go.Proofs.Ytnkoheanjaapjaa
open Go.RowKit
set_option linter.unusedVariables false

set_option maxRecDepth 6000 in
set_option maxHeartbeats 4000000 in
theorem step_word_a (A B b : Nat) (ao mo : Option Nat) (n cap : Nat) (f cs hs : Nat → Nat) (hn : n ≤ 4194304) (k : Nat) (hk : k < 3) (p v : Nat) (hp : p < 18446744073709551616) (hv' : v < 18446744073709551616) (hin : In 4096 n p 8) (w : World) (t : Trio w A B b ao mo n cap f cs hs f hs) :
    Calls Try.prog 22 #[.pointer (some ⟨b, 0, none⟩), .agg #[.int .u64 4096, .int .u64 4096, .int .i64 3, .slice (adr mo) n cap], .pointer (some ⟨A, 0, none⟩), .pointer (some ⟨B, 0, none⟩), .agg #[.int .i64 5, .int .i64 (k : Int), .int .u64 (p : Int), .int .u64 (v : Int)]] w (Post A B b ao mo n cap cs w) := by
  have hwr : IntKind.i64.wrap (k : Int) = k := by rw [IntKind.wrap_i64]; omega
  have hk1 : ¬ (k : Int) < 0 := by omega
  have hk2 : ¬ (2 : Int) < (k : Int) := by omega
  have hk3 : (k : Int) < 3 := by omega
  have TL := hid t.tri_lt
  have K0 := hid (((Kept.refl none' w).alloc (.cells #[.int .u64 4096, .int .u64 4096, .int .i64 3, .slice (adr mo) n cap] 44)).alloc (.cells #[.int .i64 5, .int .i64 (k : Int), .int .u64 (p : Int), .int .u64 (v : Int)] 55))
  have T0 := hid (t.keep K0.out)
  have B0 := hid (Box2.new w mo n cap 5 (k : Int) p v)
  have ca := T0.out.ca k hk
  have ch := T0.out.ch k hk
  have hb64 := t.h64 k hk
  obtain ⟨g, rfl⟩ := t.s.has (by decide) hin
  obtain ⟨h, rfl⟩ : ∃ h, mo = some h := by
    cases mo with
    | none => obtain ⟨rfl, _⟩ := t.r; exact absurd hin (notIn0 (by decide))
    | some h => exact ⟨h, rfl⟩
  have HI := hid hin
  have HT := hid (show thereB 4096 n p 8 = true by simp [thereB, hin])
  clear hin
  clear t
  go_enter Try.func22, Try.ntmps22
  go_wp2_with fail
  refine (SetWord_in b g 4096 4096 3 n f p v hv' _ T0.out.s HI.out).mono ?_
  rintro e w1 ⟨rfl, s1, k1⟩
  have T1 := hid (T0.out.space k1 s1)
  have K1 := hid (tri_trans (tri_none (A := A) (B := B) (mo := some h) (cs := cs) K0.out) (tri_own k1))
  have B1 := hid (B0.out.kept k1 (fun x e => TL.out x (Or.inr (Or.inr (Or.inl e)))))
  obtain ⟨d0, d1, d2, d3⟩ := B1.out.cd
  obtain ⟨x2, x3⟩ := B1.out.cx
  clear s1 k1 ca ch
  go_wp2_with fail
  refine (RThere_any 4096 4096 3 n cap _ hn (by omega) p 8 hp (by decide) _).mono ?_
  rintro e w2 ⟨rfl, k2⟩
  rw [HT.out]
  have T2 := hid (T1.out.keep k2)
  have K2 := hid (tri_trans K1.out (tri_none k2))
  have B2 := hid (B1.out.kept k2 (fun _ x => x.elim))
  clear k2 d0 d1 d2 d3 x2 x3
  obtain ⟨d0, d1, d2, d3⟩ := B2.out.cd
  obtain ⟨x2, x3⟩ := B2.out.cx
  go_wp2_with fail
  refine (R3Set_in 4096 4096 3 n cap h f hn (by omega) p v hp hv' _ T2.out.r HI.out).mono ?_
  rintro e w3 ⟨rfl, m3, k3⟩
  have k3 := k3.mono (T := fun x => some h = some x) (fun _ _ x => x ▸ rfl)
  have T3 := hid (T2.out.doc k3 m3)
  have K3 := hid (tri_trans K2.out (tri_doc k3))
  clear m3 k3 d0 d1 d2 d3 x2 x3
  go_wp2_with fail
  exact ⟨rfl, .bool true, by simp [results, Try.results22, go_sem], _, cs, hs, rfl, T3.out, K3.out, fun _ _ => Or.inl rfl⟩

set_option maxRecDepth 6000 in
set_option maxHeartbeats 4000000 in
theorem step_word_b (A B b : Nat) (ao mo : Option Nat) (n cap : Nat) (f cs hs : Nat → Nat) (hn : n ≤ 4194304) (li : Int) (hk1 : li < 0) (p v : Nat) (hp : p < 18446744073709551616) (hv' : v < 18446744073709551616) (hin : In 4096 n p 8) (w : World) (t : Trio w A B b ao mo n cap f cs hs f hs) :
    Calls Try.prog 22 #[.pointer (some ⟨b, 0, none⟩), .agg #[.int .u64 4096, .int .u64 4096, .int .i64 3, .slice (adr mo) n cap], .pointer (some ⟨A, 0, none⟩), .pointer (some ⟨B, 0, none⟩), .agg #[.int .i64 5, .int .i64 li, .int .u64 (p : Int), .int .u64 (v : Int)]] w (Post A B b ao mo n cap cs w) := by
  have hk : 0 < 3 := by decide
  have TL := hid t.tri_lt
  have K0 := hid (((Kept.refl none' w).alloc (.cells #[.int .u64 4096, .int .u64 4096, .int .i64 3, .slice (adr mo) n cap] 44)).alloc (.cells #[.int .i64 5, .int .i64 li, .int .u64 (p : Int), .int .u64 (v : Int)] 55))
  have T0 := hid (t.keep K0.out)
  have B0 := hid (Box2.new w mo n cap 5 li p v)
  have ca := T0.out.ca 0 hk
  have ch := T0.out.ch 0 hk
  have hb64 := t.h64 0 hk
  obtain ⟨g, rfl⟩ := t.s.has (by decide) hin
  obtain ⟨h, rfl⟩ : ∃ h, mo = some h := by
    cases mo with
    | none => obtain ⟨rfl, _⟩ := t.r; exact absurd hin (notIn0 (by decide))
    | some h => exact ⟨h, rfl⟩
  have HI := hid hin
  have HT := hid (show thereB 4096 n p 8 = true by simp [thereB, hin])
  clear hin
  clear t
  go_enter Try.func22, Try.ntmps22
  go_wp2_with fail
  refine (SetWord_in b g 4096 4096 3 n f p v hv' _ T0.out.s HI.out).mono ?_
  rintro e w1 ⟨rfl, s1, k1⟩
  have T1 := hid (T0.out.space k1 s1)
  have K1 := hid (tri_trans (tri_none (A := A) (B := B) (mo := some h) (cs := cs) K0.out) (tri_own k1))
  have B1 := hid (B0.out.kept k1 (fun x e => TL.out x (Or.inr (Or.inr (Or.inl e)))))
  obtain ⟨d0, d1, d2, d3⟩ := B1.out.cd
  obtain ⟨x2, x3⟩ := B1.out.cx
  clear s1 k1 ca ch
  go_wp2_with fail
  refine (RThere_any 4096 4096 3 n cap _ hn (by omega) p 8 hp (by decide) _).mono ?_
  rintro e w2 ⟨rfl, k2⟩
  rw [HT.out]
  have T2 := hid (T1.out.keep k2)
  have K2 := hid (tri_trans K1.out (tri_none k2))
  have B2 := hid (B1.out.kept k2 (fun _ x => x.elim))
  clear k2 d0 d1 d2 d3 x2 x3
  obtain ⟨d0, d1, d2, d3⟩ := B2.out.cd
  obtain ⟨x2, x3⟩ := B2.out.cx
  go_wp2_with fail
  refine (R3Set_in 4096 4096 3 n cap h f hn (by omega) p v hp hv' _ T2.out.r HI.out).mono ?_
  rintro e w3 ⟨rfl, m3, k3⟩
  have k3 := k3.mono (T := fun x => some h = some x) (fun _ _ x => x ▸ rfl)
  have T3 := hid (T2.out.doc k3 m3)
  have K3 := hid (tri_trans K2.out (tri_doc k3))
  clear m3 k3 d0 d1 d2 d3 x2 x3
  go_wp2_with fail
  exact ⟨rfl, .bool true, by simp [results, Try.results22, go_sem], _, cs, hs, rfl, T3.out, K3.out, fun _ _ => Or.inl rfl⟩

set_option maxRecDepth 6000 in
set_option maxHeartbeats 4000000 in
theorem step_word_c (A B b : Nat) (ao mo : Option Nat) (n cap : Nat) (f cs hs : Nat → Nat) (hn : n ≤ 4194304) (li : Int) (hk2 : 2 < li) (p v : Nat) (hp : p < 18446744073709551616) (hv' : v < 18446744073709551616) (hin : In 4096 n p 8) (w : World) (t : Trio w A B b ao mo n cap f cs hs f hs) :
    Calls Try.prog 22 #[.pointer (some ⟨b, 0, none⟩), .agg #[.int .u64 4096, .int .u64 4096, .int .i64 3, .slice (adr mo) n cap], .pointer (some ⟨A, 0, none⟩), .pointer (some ⟨B, 0, none⟩), .agg #[.int .i64 5, .int .i64 li, .int .u64 (p : Int), .int .u64 (v : Int)]] w (Post A B b ao mo n cap cs w) := by
  have hk : 0 < 3 := by decide
  have hk1 : ¬ li < 0 := by omega
  have TL := hid t.tri_lt
  have K0 := hid (((Kept.refl none' w).alloc (.cells #[.int .u64 4096, .int .u64 4096, .int .i64 3, .slice (adr mo) n cap] 44)).alloc (.cells #[.int .i64 5, .int .i64 li, .int .u64 (p : Int), .int .u64 (v : Int)] 55))
  have T0 := hid (t.keep K0.out)
  have B0 := hid (Box2.new w mo n cap 5 li p v)
  have ca := T0.out.ca 0 hk
  have ch := T0.out.ch 0 hk
  have hb64 := t.h64 0 hk
  obtain ⟨g, rfl⟩ := t.s.has (by decide) hin
  obtain ⟨h, rfl⟩ : ∃ h, mo = some h := by
    cases mo with
    | none => obtain ⟨rfl, _⟩ := t.r; exact absurd hin (notIn0 (by decide))
    | some h => exact ⟨h, rfl⟩
  have HI := hid hin
  have HT := hid (show thereB 4096 n p 8 = true by simp [thereB, hin])
  clear hin
  clear t
  go_enter Try.func22, Try.ntmps22
  go_wp2_with fail
  refine (SetWord_in b g 4096 4096 3 n f p v hv' _ T0.out.s HI.out).mono ?_
  rintro e w1 ⟨rfl, s1, k1⟩
  have T1 := hid (T0.out.space k1 s1)
  have K1 := hid (tri_trans (tri_none (A := A) (B := B) (mo := some h) (cs := cs) K0.out) (tri_own k1))
  have B1 := hid (B0.out.kept k1 (fun x e => TL.out x (Or.inr (Or.inr (Or.inl e)))))
  obtain ⟨d0, d1, d2, d3⟩ := B1.out.cd
  obtain ⟨x2, x3⟩ := B1.out.cx
  clear s1 k1 ca ch
  go_wp2_with fail
  refine (RThere_any 4096 4096 3 n cap _ hn (by omega) p 8 hp (by decide) _).mono ?_
  rintro e w2 ⟨rfl, k2⟩
  rw [HT.out]
  have T2 := hid (T1.out.keep k2)
  have K2 := hid (tri_trans K1.out (tri_none k2))
  have B2 := hid (B1.out.kept k2 (fun _ x => x.elim))
  clear k2 d0 d1 d2 d3 x2 x3
  obtain ⟨d0, d1, d2, d3⟩ := B2.out.cd
  obtain ⟨x2, x3⟩ := B2.out.cx
  go_wp2_with fail
  refine (R3Set_in 4096 4096 3 n cap h f hn (by omega) p v hp hv' _ T2.out.r HI.out).mono ?_
  rintro e w3 ⟨rfl, m3, k3⟩
  have k3 := k3.mono (T := fun x => some h = some x) (fun _ _ x => x ▸ rfl)
  have T3 := hid (T2.out.doc k3 m3)
  have K3 := hid (tri_trans K2.out (tri_doc k3))
  clear m3 k3 d0 d1 d2 d3 x2 x3
  go_wp2_with fail
  exact ⟨rfl, .bool true, by simp [results, Try.results22, go_sem], _, cs, hs, rfl, T3.out, K3.out, fun _ _ => Or.inl rfl⟩
end Go.Proofs.Ytnkoheanjaapjaa
