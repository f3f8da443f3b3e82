/- LinksPlays: a step: Push, all ways. -/
import Derived.Test.YtnkoheanjaapjaaPlyB
namespace Go.Proofs.Ytnkoheanjaapjaa
open Go.RowKit
set_option linter.unusedVariables false

set_option maxRecDepth 6000 in
set_option maxHeartbeats 4000000 in
theorem step_push_a (A B b : Nat) (ao mo : Option Nat) (n cap : Nat) (f cs hs : Nat → Nat) (hn : n ≤ 4194304) (k : Nat) (hk : k < 3) (p v : Nat) (hp : p < 18446744073709551616) (hv' : v < 18446744073709551616) (w : World) (t : Trio w A B b ao mo n cap f cs hs f hs) :
    Calls Try.prog 22 #[.pointer (some ⟨b, 0, none⟩), .agg #[.int .u64 4096, .int .u64 4096, .int .i64 3, .slice (adr mo) n cap], .pointer (some ⟨A, 0, none⟩), .pointer (some ⟨B, 0, none⟩), .agg #[.int .i64 0, .int .i64 (k : Int), .int .u64 (p : Int), .int .u64 (v : Int)]] w (Post A B b ao mo n cap cs w) := by
  have hwr : IntKind.i64.wrap (k : Int) = k := by rw [IntKind.wrap_i64]; omega
  have hk1 : ¬ (k : Int) < 0 := by omega
  have hk2 : ¬ (2 : Int) < (k : Int) := by omega
  have hk3 : (k : Int) < 3 := by omega
  have TL := hid t.tri_lt
  have K0 := hid (((Kept.refl none' w).alloc (.cells #[.int .u64 4096, .int .u64 4096, .int .i64 3, .slice (adr mo) n cap] 44)).alloc (.cells #[.int .i64 0, .int .i64 (k : Int), .int .u64 (p : Int), .int .u64 (v : Int)] 55))
  have T0 := hid (t.keep K0.out)
  have B0 := hid (Box2.new w mo n cap 0 (k : Int) p v)
  have ca := T0.out.ca k hk
  have ch := T0.out.ch k hk
  have hb64 := t.h64 k hk
  have HB := hid (show (pushR 4096 n f (hs k) p).2.1 < 18446744073709551616 by
    unfold pushR; split
    · split
      · exact hp
      · exact hb64
    · exact hb64)
  have CP := hid (fun w' (r : RefAt w' mo n cap f) => R3Push_ref mo n cap f hn (hs k) p hb64 hp w' r)
  have CA := hid (fun w' (h : LS w' (cs k) b ao 4096 4096 3 n f (hs k)) => Push_any (cs k) b ao 4096 4096 3 n f (hs k) p hp w' h)
  generalize pushR 4096 n f (hs k) p = RR at HB CP CA
  obtain ⟨f2, x, y⟩ := RR
  dsimp only at HB CP CA
  clear t
  go_enter Try.func22, Try.ntmps22
  go_wp2_with fail
  go_region_with ((go_at_call 46; refine (CP.out _ (T0.out.keep (Kept.refl none' _).drew).r).mono ?_; rintro e w1 ⟨rfl, r1, k1⟩))
  all_goals
    have T1 := hid ((T0.out.keep (Kept.refl none' _).drew).doc k1 r1)
    have K1 := hid (tri_setB (tri_trans (tri_none (A := A) (B := B) (b := b) (ao := ao) (cs := cs) K0.out.drew) (tri_doc k1)) k (.int .u64 (x : Int)))
    have B1 := hid ((B0.out.kept (Kept.refl none' _).drew (fun _ x => x.elim)).kept k1 (fun x e => TL.out x (Or.inr (Or.inr (Or.inr (Or.inl e))))))
    have B2 := hid (B1.out.kept ((Kept.refl (fun y => y = B) w1).setCell (p := ⟨B, k, none⟩) (fun _ => rfl) (.int .u64 (x : Int))) (fun y e => TL.out y (Or.inr (Or.inl e))))
    have T2 := hid (T1.out.head k hk x HB.out)
    have zh := T1.out.zh k
    have ch := T1.out.ch k hk
    obtain ⟨x2, x3⟩ := B2.out.cx
    clear r1 k1 ca
    go_wp2_with fail
    refine (CA.out _ ⟨T2.out.s, T2.out.l k hk⟩).mono ?_
    rintro e w3 ⟨rfl, l3, k3⟩
    have T3 := hid (T2.out.prog k hk k3 l3)
    have K3 := hid (tri_trans K1.out (tri_prog (A := A) (B := B) (mo := mo) k hk k3))
    clear l3 k3 x2 x3 zh ch
    go_wp2_with fail
    exact ⟨rfl, .bool true, by simp [results, Try.results22, go_sem], f2, cs, put3 hs k x, rfl, T3.out, K3.out, fun _ _ => Or.inl rfl⟩

set_option maxRecDepth 6000 in
set_option maxHeartbeats 4000000 in
theorem step_push_b (A B b : Nat) (ao mo : Option Nat) (n cap : Nat) (f cs hs : Nat → Nat) (hn : n ≤ 4194304) (li : Int) (hk1 : li < 0) (p v : Nat) (hp : p < 18446744073709551616) (hv' : v < 18446744073709551616) (w : World) (t : Trio w A B b ao mo n cap f cs hs f hs) :
    Calls Try.prog 22 #[.pointer (some ⟨b, 0, none⟩), .agg #[.int .u64 4096, .int .u64 4096, .int .i64 3, .slice (adr mo) n cap], .pointer (some ⟨A, 0, none⟩), .pointer (some ⟨B, 0, none⟩), .agg #[.int .i64 0, .int .i64 li, .int .u64 (p : Int), .int .u64 (v : Int)]] w (Post A B b ao mo n cap cs w) := by
  have hk : 0 < 3 := by decide
  have TL := hid t.tri_lt
  have K0 := hid (((Kept.refl none' w).alloc (.cells #[.int .u64 4096, .int .u64 4096, .int .i64 3, .slice (adr mo) n cap] 44)).alloc (.cells #[.int .i64 0, .int .i64 li, .int .u64 (p : Int), .int .u64 (v : Int)] 55))
  have T0 := hid (t.keep K0.out)
  have B0 := hid (Box2.new w mo n cap 0 li p v)
  have ca := T0.out.ca 0 hk
  have ch := T0.out.ch 0 hk
  have hb64 := t.h64 0 hk
  have HB := hid (show (pushR 4096 n f (hs 0) p).2.1 < 18446744073709551616 by
    unfold pushR; split
    · split
      · exact hp
      · exact hb64
    · exact hb64)
  have CP := hid (fun w' (r : RefAt w' mo n cap f) => R3Push_ref mo n cap f hn (hs 0) p hb64 hp w' r)
  have CA := hid (fun w' (h : LS w' (cs 0) b ao 4096 4096 3 n f (hs 0)) => Push_any (cs 0) b ao 4096 4096 3 n f (hs 0) p hp w' h)
  generalize pushR 4096 n f (hs 0) p = RR at HB CP CA
  obtain ⟨f2, x, y⟩ := RR
  dsimp only at HB CP CA
  clear t
  go_enter Try.func22, Try.ntmps22
  go_wp2_with fail
  go_region_with ((go_at_call 46; refine (CP.out _ (T0.out.keep (Kept.refl none' _).drew).r).mono ?_; rintro e w1 ⟨rfl, r1, k1⟩))
  all_goals
    have T1 := hid ((T0.out.keep (Kept.refl none' _).drew).doc k1 r1)
    have K1 := hid (tri_setB (tri_trans (tri_none (A := A) (B := B) (b := b) (ao := ao) (cs := cs) K0.out.drew) (tri_doc k1)) 0 (.int .u64 (x : Int)))
    have B1 := hid ((B0.out.kept (Kept.refl none' _).drew (fun _ x => x.elim)).kept k1 (fun x e => TL.out x (Or.inr (Or.inr (Or.inr (Or.inl e))))))
    have B2 := hid (B1.out.kept ((Kept.refl (fun y => y = B) w1).setCell (p := ⟨B, 0, none⟩) (fun _ => rfl) (.int .u64 (x : Int))) (fun y e => TL.out y (Or.inr (Or.inl e))))
    have T2 := hid (T1.out.head 0 hk x HB.out)
    have zh := T1.out.zh 0
    have ch := T1.out.ch 0 hk
    obtain ⟨x2, x3⟩ := B2.out.cx
    clear r1 k1 ca
    go_wp2_with fail
    refine (CA.out _ ⟨T2.out.s, T2.out.l 0 hk⟩).mono ?_
    rintro e w3 ⟨rfl, l3, k3⟩
    have T3 := hid (T2.out.prog 0 hk k3 l3)
    have K3 := hid (tri_trans K1.out (tri_prog (A := A) (B := B) (mo := mo) 0 hk k3))
    clear l3 k3 x2 x3 zh ch
    go_wp2_with fail
    exact ⟨rfl, .bool true, by simp [results, Try.results22, go_sem], f2, cs, put3 hs 0 x, rfl, T3.out, K3.out, fun _ _ => Or.inl rfl⟩

set_option maxRecDepth 6000 in
set_option maxHeartbeats 4000000 in
theorem step_push_c (A B b : Nat) (ao mo : Option Nat) (n cap : Nat) (f cs hs : Nat → Nat) (hn : n ≤ 4194304) (li : Int) (hk2 : 2 < li) (p v : Nat) (hp : p < 18446744073709551616) (hv' : v < 18446744073709551616) (w : World) (t : Trio w A B b ao mo n cap f cs hs f hs) :
    Calls Try.prog 22 #[.pointer (some ⟨b, 0, none⟩), .agg #[.int .u64 4096, .int .u64 4096, .int .i64 3, .slice (adr mo) n cap], .pointer (some ⟨A, 0, none⟩), .pointer (some ⟨B, 0, none⟩), .agg #[.int .i64 0, .int .i64 li, .int .u64 (p : Int), .int .u64 (v : Int)]] w (Post A B b ao mo n cap cs w) := by
  have hk : 0 < 3 := by decide
  have hk1 : ¬ li < 0 := by omega
  have TL := hid t.tri_lt
  have K0 := hid (((Kept.refl none' w).alloc (.cells #[.int .u64 4096, .int .u64 4096, .int .i64 3, .slice (adr mo) n cap] 44)).alloc (.cells #[.int .i64 0, .int .i64 li, .int .u64 (p : Int), .int .u64 (v : Int)] 55))
  have T0 := hid (t.keep K0.out)
  have B0 := hid (Box2.new w mo n cap 0 li p v)
  have ca := T0.out.ca 0 hk
  have ch := T0.out.ch 0 hk
  have hb64 := t.h64 0 hk
  have HB := hid (show (pushR 4096 n f (hs 0) p).2.1 < 18446744073709551616 by
    unfold pushR; split
    · split
      · exact hp
      · exact hb64
    · exact hb64)
  have CP := hid (fun w' (r : RefAt w' mo n cap f) => R3Push_ref mo n cap f hn (hs 0) p hb64 hp w' r)
  have CA := hid (fun w' (h : LS w' (cs 0) b ao 4096 4096 3 n f (hs 0)) => Push_any (cs 0) b ao 4096 4096 3 n f (hs 0) p hp w' h)
  generalize pushR 4096 n f (hs 0) p = RR at HB CP CA
  obtain ⟨f2, x, y⟩ := RR
  dsimp only at HB CP CA
  clear t
  go_enter Try.func22, Try.ntmps22
  go_wp2_with fail
  go_region_with ((go_at_call 46; refine (CP.out _ (T0.out.keep (Kept.refl none' _).drew).r).mono ?_; rintro e w1 ⟨rfl, r1, k1⟩))
  all_goals
    have T1 := hid ((T0.out.keep (Kept.refl none' _).drew).doc k1 r1)
    have K1 := hid (tri_setB (tri_trans (tri_none (A := A) (B := B) (b := b) (ao := ao) (cs := cs) K0.out.drew) (tri_doc k1)) 0 (.int .u64 (x : Int)))
    have B1 := hid ((B0.out.kept (Kept.refl none' _).drew (fun _ x => x.elim)).kept k1 (fun x e => TL.out x (Or.inr (Or.inr (Or.inr (Or.inl e))))))
    have B2 := hid (B1.out.kept ((Kept.refl (fun y => y = B) w1).setCell (p := ⟨B, 0, none⟩) (fun _ => rfl) (.int .u64 (x : Int))) (fun y e => TL.out y (Or.inr (Or.inl e))))
    have T2 := hid (T1.out.head 0 hk x HB.out)
    have zh := T1.out.zh 0
    have ch := T1.out.ch 0 hk
    obtain ⟨x2, x3⟩ := B2.out.cx
    clear r1 k1 ca
    go_wp2_with fail
    refine (CA.out _ ⟨T2.out.s, T2.out.l 0 hk⟩).mono ?_
    rintro e w3 ⟨rfl, l3, k3⟩
    have T3 := hid (T2.out.prog 0 hk k3 l3)
    have K3 := hid (tri_trans K1.out (tri_prog (A := A) (B := B) (mo := mo) 0 hk k3))
    clear l3 k3 x2 x3 zh ch
    go_wp2_with fail
    exact ⟨rfl, .bool true, by simp [results, Try.results22, go_sem], f2, cs, put3 hs 0 x, rfl, T3.out, K3.out, fun _ _ => Or.inl rfl⟩
end Go.Proofs.Ytnkoheanjaapjaa
