/- MemPlays: croftlaw2.many, Read. -/
import Derived.Test.YtanfdpangcgdhaaPlayA
namespace Go.Proofs.Ytanfdpangcgdhaa
open Go.RowKit
set_option linter.unusedVariables false

set_option maxRecDepth 100000 in
set_option maxHeartbeats 2000000 in
theorem many_read_zero (b base R lim n cap P Q N V p q dm dc : Nat) (ao mo : Option Nat) (f : Nat → Nat) (a deny : Bool) (count : Int) (da : Option Addr) (hp : p < 18446744073709551616) (hq : q < 18446744073709551616) (hN : N < 18446744073709551616) (hV : V < 18446744073709551616) (w : World) (h : St w b ao mo base R lim n cap f) (hN0 : N = 0) :
    Calls Try.prog 44 #[.pointer (some ⟨b, 0, none⟩), .agg #[.int .u64 (base : Int), .int .u64 (R : Int), .int .i64 (lim : Int), .slice (adr mo) n cap], .agg #[.int .i64 9, .int .u64 (P : Int), .int .u64 (Q : Int), .int .u64 (N : Int), .bool a, .int .u64 (V : Int), .bool deny, .int .i64 count, .slice da dm dc], .int .u64 (p : Int), .int .u64 (q : Int)] w (Post w b ao mo base R lim) := by
  have hbd := h.bd
  have hn := hbd.1
  have hbn := hbd.2.1
  have H0 := hid h.lt
  have HS0 := hid h
  clear h hbd
  subst hN0
  go_enter Try.func44, Try.ntmps44
  go_wp2_with fail
  refine (RThere_any base R lim n cap _ hn hbn p 0 hp (by decide) _).mono ?_
  rw [there_zero]
  rintro e w1 ⟨rfl, hK⟩
  have hL := (Loc.new w (.slice (adr mo) n cap) base R lim (.int .i64 9) (.int .u64 (P : Int)) (.int .u64 (Q : Int)) (.int .u64 (0 : Int)) (.bool a) (.int .u64 (V : Int)) (.bool deny) (.int .i64 count) (.slice da dm dc)).keep hK
  have hKw := (Loc.newK w _ _ _).trans (U := none') hK (fun _ _ x => x) (fun _ _ x => x)
  have HS1 := hid (HS0.out.keep hKw)
  have HK1 := hid (hKw.mono (T := S3 b ao mo) (fun _ _ x => x.elim))
  have HZ1 := hid (show w.heap.size + 3 ≤ w1.heap.size from (Array.getElem?_eq_some_iff.1 hL.r).1)
  obtain ⟨a0, a1, a2, a3⟩ := hL.ta
  obtain ⟨o0, o1, o2, o3, o4, o5, o6, o7, o8⟩ := hL.to
  have HL1 := hid hL
  clear hL hK hKw
  go_wp2_with fail
  refine (Read_zero b _ _).mono ?_
  rintro e w2 ⟨rfl, hK, hz⟩
  clear hz
  have hL := HL1.out.keep hK
  have HK2 := hid (HK1.out.trans (U := S3 b ao mo) hK (fun _ _ x => x) (fun _ _ x => x.elim))
  have HS2 := hid (HS1.out.keep hK)
  clear a0 a1 a2 a3 o0 o1 o2 o3 o4 o5 o6 o7 o8
  obtain ⟨a0, a1, a2, a3⟩ := hL.ta
  obtain ⟨o0, o1, o2, o3, o4, o5, o6, o7, o8⟩ := hL.to
  have HL2 := hid hL
  clear hL hK HL1 HK1
  obtain ⟨r0, r1, r2, r3, z0, z1, z2, z3⟩ := HL2.out.tr
  go_wp2
  all_goals exact ⟨rfl, .tuple #[.agg #[.int .u64 (base : Int), .int .u64 (R : Int), .int .i64 (lim : Int), .slice (adr mo) n cap], .bool true], by simp [results, Try.results44, go_sem, r0, r1, r2, r3], ao, mo, n, cap, f, rfl, post_mk H0.out HS2.out HK2.out (fun x e => Or.inl e) _ _ _ _⟩

set_option maxRecDepth 100000 in
set_option maxHeartbeats 2000000 in
theorem many_read_out (b base R lim n cap P Q N V p q dm dc : Nat) (ao mo : Option Nat) (f : Nat → Nat) (a deny : Bool) (count : Int) (da : Option Addr) (hp : p < 18446744073709551616) (hq : q < 18446744073709551616) (hN : N < 18446744073709551616) (hV : V < 18446744073709551616) (w : World) (h : St w b ao mo base R lim n cap f) (hN0 : 0 < N) (hin : ¬ In base n p N) :
    Calls Try.prog 44 #[.pointer (some ⟨b, 0, none⟩), .agg #[.int .u64 (base : Int), .int .u64 (R : Int), .int .i64 (lim : Int), .slice (adr mo) n cap], .agg #[.int .i64 9, .int .u64 (P : Int), .int .u64 (Q : Int), .int .u64 (N : Int), .bool a, .int .u64 (V : Int), .bool deny, .int .i64 count, .slice da dm dc], .int .u64 (p : Int), .int .u64 (q : Int)] w (Post w b ao mo base R lim) := by
  have hbd := h.bd
  have hn := hbd.1
  have hbn := hbd.2.1
  have H0 := hid h.lt
  have HS0 := hid h
  clear h hbd
  have HI := hid hin
  clear hin
  go_enter Try.func44, Try.ntmps44
  go_wp2_with fail
  refine (RThere_any base R lim n cap _ hn hbn p N hp hN _).mono ?_
  rw [there_out hN0 HI.out]
  rintro e w1 ⟨rfl, hK⟩
  have hL := (Loc.new w (.slice (adr mo) n cap) base R lim (.int .i64 9) (.int .u64 (P : Int)) (.int .u64 (Q : Int)) (.int .u64 (N : Int)) (.bool a) (.int .u64 (V : Int)) (.bool deny) (.int .i64 count) (.slice da dm dc)).keep hK
  have hKw := (Loc.newK w _ _ _).trans (U := none') hK (fun _ _ x => x) (fun _ _ x => x)
  have HS1 := hid (HS0.out.keep hKw)
  have HK1 := hid (hKw.mono (T := S3 b ao mo) (fun _ _ x => x.elim))
  have HZ1 := hid (show w.heap.size + 3 ≤ w1.heap.size from (Array.getElem?_eq_some_iff.1 hL.r).1)
  obtain ⟨a0, a1, a2, a3⟩ := hL.ta
  obtain ⟨o0, o1, o2, o3, o4, o5, o6, o7, o8⟩ := hL.to
  have HL1 := hid hL
  clear hL hK hKw
  go_wp2_with fail
  refine (Read_out b ao base R lim n f p N 0 none 0 _ HS1.out.s hp hN hN0 HI.out).mono ?_
  rintro e w2 ⟨rfl, hK⟩
  have hL := HL1.out.keep hK
  have HK2 := hid (HK1.out.trans (U := S3 b ao mo) hK (fun _ _ x => x) (fun _ _ x => x.elim))
  have HS2 := hid (HS1.out.keep hK)
  clear a0 a1 a2 a3 o0 o1 o2 o3 o4 o5 o6 o7 o8
  obtain ⟨a0, a1, a2, a3⟩ := hL.ta
  obtain ⟨o0, o1, o2, o3, o4, o5, o6, o7, o8⟩ := hL.to
  have HL2 := hid hL
  clear hL hK HL1 HK1
  obtain ⟨r0, r1, r2, r3, z0, z1, z2, z3⟩ := HL2.out.tr
  go_wp2
  all_goals exact ⟨rfl, .tuple #[.agg #[.int .u64 (base : Int), .int .u64 (R : Int), .int .i64 (lim : Int), .slice (adr mo) n cap], .bool true], by simp [results, Try.results44, go_sem, r0, r1, r2, r3], ao, mo, n, cap, f, rfl, post_mk H0.out HS2.out HK2.out (fun x e => Or.inl e) _ _ _ _⟩

set_option maxRecDepth 100000 in
set_option maxHeartbeats 2000000 in
theorem many_read_in (b base R lim n cap P Q N V p q dm dc : Nat) (g h' : Nat) (f : Nat → Nat) (a deny : Bool) (count : Int) (da : Option Addr) (hp : p < 18446744073709551616) (hq : q < 18446744073709551616) (hN : N < 18446744073709551616) (hV : V < 18446744073709551616) (w : World) (h : St w b (some g) (some h') base R lim n cap f) (hN0 : 0 < N) (hin : In base n p N) :
    Calls Try.prog 44 #[.pointer (some ⟨b, 0, none⟩), .agg #[.int .u64 (base : Int), .int .u64 (R : Int), .int .i64 (lim : Int), .slice (some ⟨h', 0, none⟩) n cap], .agg #[.int .i64 9, .int .u64 (P : Int), .int .u64 (Q : Int), .int .u64 (N : Int), .bool a, .int .u64 (V : Int), .bool deny, .int .i64 count, .slice da dm dc], .int .u64 (p : Int), .int .u64 (q : Int)] w (Post w b (some g) (some h') base R lim) := by
  have hbd := h.bd
  have hn := hbd.1
  have hbn := hbd.2.1
  have H0 := hid h.lt
  have HS0 := hid h
  clear h hbd
  have HI := hid hin
  have hN0i : ((N : Int) == 0) = false := by rw [beq_eq_false_iff_ne]; omega
  have hNn : N ≤ n := by obtain ⟨h1, h2⟩ := hin; omega
  clear hin
  go_enter Try.func44, Try.ntmps44
  go_wp2_with fail
  refine (RThere_any base R lim n cap _ hn hbn p N hp hN _).mono ?_
  rw [there_in HI.out]
  rintro e w1 ⟨rfl, hK⟩
  have hL := (Loc.new w (.slice (some ⟨h', 0, none⟩) n cap) base R lim (.int .i64 9) (.int .u64 (P : Int)) (.int .u64 (Q : Int)) (.int .u64 (N : Int)) (.bool a) (.int .u64 (V : Int)) (.bool deny) (.int .i64 count) (.slice da dm dc)).keep hK
  have hKw := (Loc.newK w _ _ _).trans (U := none') hK (fun _ _ x => x) (fun _ _ x => x)
  have HS1 := hid (HS0.out.keep hKw)
  have HK1 := hid (hKw.mono (T := S3 b (some g) (some h')) (fun _ _ x => x.elim))
  have HZ1 := hid (show w.heap.size + 3 ≤ w1.heap.size from (Array.getElem?_eq_some_iff.1 hL.r).1)
  obtain ⟨a0, a1, a2, a3⟩ := hL.ta
  obtain ⟨o0, o1, o2, o3, o4, o5, o6, o7, o8⟩ := hL.to
  have HL1 := hid hL
  clear hL hK hKw
  go_wp2_with fail
  refine (Read_in b g base R lim n f p N _ HS1.out.s hN0 HI.out).mono ?_
  rintro e w2 ⟨rfl, hB, hK⟩
  have HB := hid hB
  clear hB
  have hL := HL1.out.keep hK
  have HK2 := hid (HK1.out.trans (U := S3 b (some g) (some h')) hK (fun _ _ x => x) (fun _ _ x => x.elim))
  have HS2 := hid (HS1.out.keep hK)
  clear a0 a1 a2 a3 o0 o1 o2 o3 o4 o5 o6 o7 o8
  obtain ⟨a0, a1, a2, a3⟩ := hL.ta
  obtain ⟨o0, o1, o2, o3, o4, o5, o6, o7, o8⟩ := hL.to
  have HL2 := hid hL
  clear hL hK HL1 HK1
  obtain ⟨y, hy⟩ : ∃ y, y = w1.heap.size + 1 := ⟨_, rfl⟩
  rw [← hy] at HB ⊢
  clear hy
  obtain ⟨r0, r1, r2, r3, z0, z1, z2, z3⟩ := HL2.out.tr
  go_wp2
  go_region_with (first | (go_at_call 53; refine (RRead_in base R lim n cap h' f hn p N hp _ (MemAt.keep HS2.out.r (Kept.refl none' w2).drew) hbn HI.out).mono ?_; rintro e w4 ⟨rfl, hM4, hK4⟩; have HM4 := hid hM4; have HK4 := hid (show Kept none' w2 w4 from ⟨hK4.os, hK4.tape, hK4.output, hK4.size, hK4.block⟩); have hL4 := HL2.out.keep HK4.out; obtain ⟨a0, a1, a2, a3⟩ := hL4.ta; clear hM4 hK4 hL4) | (go_at_call 19; refine (Same_true _ _ N (by omega) (fun i => f (p - base + i)) _ ((HB.out.kept HK4.out (fun x => x)).bytes N) HM4.out.bytes).mono ?_; rintro e w5 ⟨rfl, hK5⟩; have HK5 := hid hK5; have hL5 := (HL2.out.keep HK4.out).keep HK5.out; obtain ⟨a0, a1, a2, a3⟩ := hL5.ta; obtain ⟨r0, r1, r2, r3, z0, z1, z2, z3⟩ := hL5.tr; clear hK5 hL5))
  all_goals go_wp2
  all_goals exact ⟨rfl, .tuple #[.agg #[.int .u64 (base : Int), .int .u64 (R : Int), .int .i64 (lim : Int), .slice (some ⟨h', 0, none⟩) n cap], .bool true], by simp [results, Try.results44, go_sem, r0, r1, r2, r3], some g, some h', n, cap, f, rfl, post_mk H0.out ((HS2.out.keep HK4.out).keep HK5.out) ((HK2.out.trans (U := S3 b (some g) (some h')) HK4.out (fun _ _ x => x) (fun _ _ x => x.elim)).trans (U := S3 b (some g) (some h')) HK5.out (fun _ _ x => x) (fun _ _ x => x.elim)) (fun x e => Or.inl e) _ _ _ _⟩

end Go.Proofs.Ytanfdpangcgdhaa
