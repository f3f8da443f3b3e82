/- MemPlays: croftlaw2.played, Byte, Word. -/
import Derived.Test.YtanfdpangcgdhaaPlayA
namespace Go.Proofs.Ytanfdpangcgdhaa
open Go.RowKit
set_option linter.unusedVariables false

set_option maxRecDepth 100000 in
set_option maxHeartbeats 4000000 in
theorem played_byte_out_f (b base R lim n cap P Q N V p q dm dc : Nat) (ao mo : Option Nat) (f : Nat → Nat) (deny : Bool) (count : Int) (da : Option Addr) (hpw : IntKind.u64.wrap ((base : Int) + (P : Int)) = (p : Int)) (hqw : IntKind.u64.wrap ((base : Int) + (Q : Int)) = (q : Int)) (hp : p < 18446744073709551616) (hq : q < 18446744073709551616) (hP : P < 18446744073709551616) (hQ : Q < 18446744073709551616) (hN : N < 18446744073709551616) (hV : V < 18446744073709551616) (w : World) (h : St w b ao mo base R lim n cap f) (hin : ¬ In base n p 1) :
    Calls Try.prog 25 #[.pointer (some ⟨b, 0, none⟩), .agg #[.int .u64 (base : Int), .int .u64 (R : Int), .int .i64 (lim : Int), .slice (adr mo) n cap], .agg #[.int .i64 3, .int .u64 (P : Int), .int .u64 (Q : Int), .int .u64 (N : Int), .bool false, .int .u64 (V : Int), .bool deny, .int .i64 count, .slice da dm dc]] w (Post w b ao mo base R lim) := by
  have hbd := h.bd
  have hn := hbd.1
  have hbn := hbd.2.1
  have H0 := hid h.lt
  have HS0 := hid h
  clear h
  have HI := hid hin
  clear hin
  obtain ⟨t8, ht8⟩ : ∃ t8, t8 = thereB base n p 8 := ⟨_, rfl⟩
  have HT8 := hid ht8.symm
  clear ht8
  clear hbd
  go_enter Try.func25, Try.ntmps25
  go_wp2_with fail
  refine (RThere_any base R lim n cap _ hn hbn p 1 hp (by decide) _).mono ?_
  rw [there_out (by decide) HI.out]
  rintro e w1 ⟨rfl, hK⟩
  have hL := (Loc.new w (.slice (adr mo) n cap) base R lim (.int .i64 3) (.int .u64 (P : Int)) (.int .u64 (Q : Int)) (.int .u64 (N : Int)) (.bool false) (.int .u64 (V : Int)) (.bool deny) (.int .i64 count) (.slice da dm dc)).keep hK
  have hKw := (Loc.newK w _ _ _).trans (U := none') hK (fun _ _ x => x) (fun _ _ x => x)
  have HS1 := hid (HS0.out.keep hKw)
  have HK1 := hid (hKw.mono (T := S3 b ao mo) (fun _ _ x => x.elim))
  have HZ1 := hid (show w.heap.size + 3 ≤ w1.heap.size from (Array.getElem?_eq_some_iff.1 hL.r).1)
  obtain ⟨a0, a1, a2, a3⟩ := hL.ta
  obtain ⟨o0, o1, o2, o3, o4, o5, o6, o7, o8⟩ := hL.to
  have HL1 := hid hL
  clear hL hK hKw
  go_wp2_with fail
  refine (RThere_any base R lim n cap _ hn hbn p 8 hp (by decide) _).mono ?_
  rw [HT8.out]
  rintro e w2 ⟨rfl, hK⟩
  have hL := HL1.out.keep hK
  have HK2 := hid (HK1.out.trans (U := S3 b ao mo) hK (fun _ _ x => x) (fun _ _ x => x.elim))
  have HS2 := hid (HS1.out.keep hK)
  clear a0 a1 a2 a3 o0 o1 o2 o3 o4 o5 o6 o7 o8
  obtain ⟨a0, a1, a2, a3⟩ := hL.ta
  obtain ⟨o0, o1, o2, o3, o4, o5, o6, o7, o8⟩ := hL.to
  have HL2 := hid hL
  clear hL hK HL1 HK1
  go_wp2_with fail
  refine (Byte_out b ao base R lim n f p 1 0 none 0 _ HS2.out.s hp (by decide) (by decide) HI.out).mono ?_
  rintro e w3 ⟨rfl, hK⟩
  have hL := HL2.out.keep hK
  have HK3 := hid (HK2.out.trans (U := S3 b ao mo) hK (fun _ _ x => x) (fun _ _ x => x.elim))
  have HS3 := hid (HS2.out.keep hK)
  clear a0 a1 a2 a3 o0 o1 o2 o3 o4 o5 o6 o7 o8
  obtain ⟨a0, a1, a2, a3⟩ := hL.ta
  obtain ⟨o0, o1, o2, o3, o4, o5, o6, o7, o8⟩ := hL.to
  have HL3 := hid hL
  clear hL hK HL2 HK2
  obtain ⟨r0, r1, r2, r3, z0, z1, z2, z3⟩ := HL3.out.tr
  go_wp2
  all_goals exact ⟨rfl, .tuple #[.agg #[.int .u64 (base : Int), .int .u64 (R : Int), .int .i64 (lim : Int), .slice (adr mo) n cap], .bool true], by simp [results, Try.results25, go_sem, r0, r1, r2, r3], ao, mo, n, cap, f, rfl, post_mk H0.out HS3.out HK3.out (fun x e => Or.inl e) _ _ _ _⟩

set_option maxRecDepth 100000 in
set_option maxHeartbeats 4000000 in
theorem played_word_out_f (b base R lim n cap P Q N V p q dm dc : Nat) (ao mo : Option Nat) (f : Nat → Nat) (deny : Bool) (count : Int) (da : Option Addr) (hpw : IntKind.u64.wrap ((base : Int) + (P : Int)) = (p : Int)) (hqw : IntKind.u64.wrap ((base : Int) + (Q : Int)) = (q : Int)) (hp : p < 18446744073709551616) (hq : q < 18446744073709551616) (hP : P < 18446744073709551616) (hQ : Q < 18446744073709551616) (hN : N < 18446744073709551616) (hV : V < 18446744073709551616) (w : World) (h : St w b ao mo base R lim n cap f) (hin : ¬ In base n p 8) :
    Calls Try.prog 25 #[.pointer (some ⟨b, 0, none⟩), .agg #[.int .u64 (base : Int), .int .u64 (R : Int), .int .i64 (lim : Int), .slice (adr mo) n cap], .agg #[.int .i64 5, .int .u64 (P : Int), .int .u64 (Q : Int), .int .u64 (N : Int), .bool false, .int .u64 (V : Int), .bool deny, .int .i64 count, .slice da dm dc]] w (Post w b ao mo base R lim) := by
  have hbd := h.bd
  have hn := hbd.1
  have hbn := hbd.2.1
  have H0 := hid h.lt
  have HS0 := hid h
  clear h
  have HI := hid hin
  clear hin
  obtain ⟨t1, ht1⟩ : ∃ t1, t1 = thereB base n p 1 := ⟨_, rfl⟩
  have HT1 := hid ht1.symm
  clear ht1
  clear hbd
  go_enter Try.func25, Try.ntmps25
  go_wp2_with fail
  refine (RThere_any base R lim n cap _ hn hbn p 1 hp (by decide) _).mono ?_
  rw [HT1.out]
  rintro e w1 ⟨rfl, hK⟩
  have hL := (Loc.new w (.slice (adr mo) n cap) base R lim (.int .i64 5) (.int .u64 (P : Int)) (.int .u64 (Q : Int)) (.int .u64 (N : Int)) (.bool false) (.int .u64 (V : Int)) (.bool deny) (.int .i64 count) (.slice da dm dc)).keep hK
  have hKw := (Loc.newK w _ _ _).trans (U := none') hK (fun _ _ x => x) (fun _ _ x => x)
  have HS1 := hid (HS0.out.keep hKw)
  have HK1 := hid (hKw.mono (T := S3 b ao mo) (fun _ _ x => x.elim))
  have HZ1 := hid (show w.heap.size + 3 ≤ w1.heap.size from (Array.getElem?_eq_some_iff.1 hL.r).1)
  obtain ⟨a0, a1, a2, a3⟩ := hL.ta
  obtain ⟨o0, o1, o2, o3, o4, o5, o6, o7, o8⟩ := hL.to
  have HL1 := hid hL
  clear hL hK hKw
  go_wp2_with fail
  refine (RThere_any base R lim n cap _ hn hbn p 8 hp (by decide) _).mono ?_
  rw [there_out (by decide) HI.out]
  rintro e w2 ⟨rfl, hK⟩
  have hL := HL1.out.keep hK
  have HK2 := hid (HK1.out.trans (U := S3 b ao mo) hK (fun _ _ x => x) (fun _ _ x => x.elim))
  have HS2 := hid (HS1.out.keep hK)
  clear a0 a1 a2 a3 o0 o1 o2 o3 o4 o5 o6 o7 o8
  obtain ⟨a0, a1, a2, a3⟩ := hL.ta
  obtain ⟨o0, o1, o2, o3, o4, o5, o6, o7, o8⟩ := hL.to
  have HL2 := hid hL
  clear hL hK HL1 HK1
  go_wp2_with fail
  refine (Word_out b ao base R lim n f p 1 0 none 0 _ HS2.out.s hp (by decide) (by decide) HI.out).mono ?_
  rintro e w3 ⟨rfl, hK⟩
  have hL := HL2.out.keep hK
  have HK3 := hid (HK2.out.trans (U := S3 b ao mo) hK (fun _ _ x => x) (fun _ _ x => x.elim))
  have HS3 := hid (HS2.out.keep hK)
  clear a0 a1 a2 a3 o0 o1 o2 o3 o4 o5 o6 o7 o8
  obtain ⟨a0, a1, a2, a3⟩ := hL.ta
  obtain ⟨o0, o1, o2, o3, o4, o5, o6, o7, o8⟩ := hL.to
  have HL3 := hid hL
  clear hL hK HL2 HK2
  obtain ⟨r0, r1, r2, r3, z0, z1, z2, z3⟩ := HL3.out.tr
  go_wp2
  all_goals exact ⟨rfl, .tuple #[.agg #[.int .u64 (base : Int), .int .u64 (R : Int), .int .i64 (lim : Int), .slice (adr mo) n cap], .bool true], by simp [results, Try.results25, go_sem, r0, r1, r2, r3], ao, mo, n, cap, f, rfl, post_mk H0.out HS3.out HK3.out (fun x e => Or.inl e) _ _ _ _⟩

set_option maxRecDepth 100000 in
set_option maxHeartbeats 4000000 in
theorem played_byte_in_f (b base R lim n cap P Q N V p q dm dc : Nat) (g h' : Nat) (f : Nat → Nat) (deny : Bool) (count : Int) (da : Option Addr) (hpw : IntKind.u64.wrap ((base : Int) + (P : Int)) = (p : Int)) (hqw : IntKind.u64.wrap ((base : Int) + (Q : Int)) = (q : Int)) (hp : p < 18446744073709551616) (hq : q < 18446744073709551616) (hP : P < 18446744073709551616) (hQ : Q < 18446744073709551616) (hN : N < 18446744073709551616) (hV : V < 18446744073709551616) (w : World) (h : St w b (some g) (some h') base R lim n cap f) (hin : In base n p 1) :
    Calls Try.prog 25 #[.pointer (some ⟨b, 0, none⟩), .agg #[.int .u64 (base : Int), .int .u64 (R : Int), .int .i64 (lim : Int), .slice (some ⟨h', 0, none⟩) n cap], .agg #[.int .i64 3, .int .u64 (P : Int), .int .u64 (Q : Int), .int .u64 (N : Int), .bool false, .int .u64 (V : Int), .bool deny, .int .i64 count, .slice da dm dc]] w (Post w b (some g) (some h') base R lim) := by
  have hbd := h.bd
  have hn := hbd.1
  have hbn := hbd.2.1
  have H0 := hid h.lt
  have HS0 := hid h
  clear h
  have HI := hid hin
  clear hin
  obtain ⟨t8, ht8⟩ : ∃ t8, t8 = thereB base n p 8 := ⟨_, rfl⟩
  have HT8 := hid ht8.symm
  clear ht8
  obtain ⟨x, hx⟩ : ∃ x, x = f (p - base) := ⟨_, rfl⟩
  have HX := hid hx
  clear hx
  clear hbd
  go_enter Try.func25, Try.ntmps25
  go_wp2_with fail
  refine (RThere_any base R lim n cap _ hn hbn p 1 hp (by decide) _).mono ?_
  rw [there_in HI.out]
  rintro e w1 ⟨rfl, hK⟩
  have hL := (Loc.new w (.slice (some ⟨h', 0, none⟩) n cap) base R lim (.int .i64 3) (.int .u64 (P : Int)) (.int .u64 (Q : Int)) (.int .u64 (N : Int)) (.bool false) (.int .u64 (V : Int)) (.bool deny) (.int .i64 count) (.slice da dm dc)).keep hK
  have hKw := (Loc.newK w _ _ _).trans (U := none') hK (fun _ _ x => x) (fun _ _ x => x)
  have HS1 := hid (HS0.out.keep hKw)
  have HK1 := hid (hKw.mono (T := S3 b (some g) (some h')) (fun _ _ x => x.elim))
  have HZ1 := hid (show w.heap.size + 3 ≤ w1.heap.size from (Array.getElem?_eq_some_iff.1 hL.r).1)
  obtain ⟨a0, a1, a2, a3⟩ := hL.ta
  obtain ⟨o0, o1, o2, o3, o4, o5, o6, o7, o8⟩ := hL.to
  have HL1 := hid hL
  clear hL hK hKw
  go_wp2_with fail
  refine (RThere_any base R lim n cap _ hn hbn p 8 hp (by decide) _).mono ?_
  rw [HT8.out]
  rintro e w2 ⟨rfl, hK⟩
  have hL := HL1.out.keep hK
  have HK2 := hid (HK1.out.trans (U := S3 b (some g) (some h')) hK (fun _ _ x => x) (fun _ _ x => x.elim))
  have HS2 := hid (HS1.out.keep hK)
  clear a0 a1 a2 a3 o0 o1 o2 o3 o4 o5 o6 o7 o8
  obtain ⟨a0, a1, a2, a3⟩ := hL.ta
  obtain ⟨o0, o1, o2, o3, o4, o5, o6, o7, o8⟩ := hL.to
  have HL2 := hid hL
  clear hL hK HL1 HK1
  go_wp2_with fail
  refine (Byte_in b g base R lim n f p _ HS2.out.s HI.out).mono ?_
  rintro e w3 ⟨rfl, hK⟩
  rw [← HX.out]
  have hL := HL2.out.keep hK
  have HK3 := hid (HK2.out.trans (U := S3 b (some g) (some h')) hK (fun _ _ x => x) (fun _ _ x => x.elim))
  have HS3 := hid (HS2.out.keep hK)
  clear a0 a1 a2 a3 o0 o1 o2 o3 o4 o5 o6 o7 o8
  obtain ⟨a0, a1, a2, a3⟩ := hL.ta
  obtain ⟨o0, o1, o2, o3, o4, o5, o6, o7, o8⟩ := hL.to
  have HL3 := hid hL
  clear hL hK HL2 HK2
  obtain ⟨r0, r1, r2, r3, z0, z1, z2, z3⟩ := HL3.out.tr
  go_wp2
  go_region_with ((go_at_call 46; refine (RByte_in base R lim n cap h' f hn p hp _ (MemAt.keep HS3.out.r (Kept.refl none' w3).drew) HI.out).mono ?_; rw [← HX.out]; rintro e w4 ⟨rfl, hK4⟩; have HK4 := hid (show Kept none' w3 w4 from ⟨hK4.os, hK4.tape, hK4.output, hK4.size, hK4.block⟩); have hL4 := HL3.out.keep HK4.out; obtain ⟨a0, a1, a2, a3⟩ := hL4.ta; obtain ⟨r0, r1, r2, r3, z0, z1, z2, z3⟩ := hL4.tr; clear hK4 hL4))
  all_goals go_wp2
  all_goals exact ⟨rfl, .tuple #[.agg #[.int .u64 (base : Int), .int .u64 (R : Int), .int .i64 (lim : Int), .slice (some ⟨h', 0, none⟩) n cap], .bool true], by simp [results, Try.results25, go_sem, r0, r1, r2, r3], some g, some h', n, cap, f, rfl, post_mk H0.out (HS3.out.keep HK4.out) (HK3.out.trans (U := S3 b (some g) (some h')) HK4.out (fun _ _ x => x) (fun _ _ x => x.elim)) (fun x e => Or.inl e) _ _ _ _⟩

set_option maxRecDepth 100000 in
set_option maxHeartbeats 4000000 in
theorem played_word_in_f (b base R lim n cap P Q N V p q dm dc : Nat) (g h' : Nat) (f : Nat → Nat) (deny : Bool) (count : Int) (da : Option Addr) (hpw : IntKind.u64.wrap ((base : Int) + (P : Int)) = (p : Int)) (hqw : IntKind.u64.wrap ((base : Int) + (Q : Int)) = (q : Int)) (hp : p < 18446744073709551616) (hq : q < 18446744073709551616) (hP : P < 18446744073709551616) (hQ : Q < 18446744073709551616) (hN : N < 18446744073709551616) (hV : V < 18446744073709551616) (w : World) (h : St w b (some g) (some h') base R lim n cap f) (hin : In base n p 8) :
    Calls Try.prog 25 #[.pointer (some ⟨b, 0, none⟩), .agg #[.int .u64 (base : Int), .int .u64 (R : Int), .int .i64 (lim : Int), .slice (some ⟨h', 0, none⟩) n cap], .agg #[.int .i64 5, .int .u64 (P : Int), .int .u64 (Q : Int), .int .u64 (N : Int), .bool false, .int .u64 (V : Int), .bool deny, .int .i64 count, .slice da dm dc]] w (Post w b (some g) (some h') base R lim) := by
  have hbd := h.bd
  have hn := hbd.1
  have hbn := hbd.2.1
  have H0 := hid h.lt
  have HS0 := hid h
  clear h
  have HI := hid hin
  clear hin
  obtain ⟨t1, ht1⟩ : ∃ t1, t1 = thereB base n p 1 := ⟨_, rfl⟩
  have HT1 := hid ht1.symm
  clear ht1
  obtain ⟨x, hx⟩ : ∃ x, x = word f (p - base) := ⟨_, rfl⟩
  have HX := hid hx
  clear hx
  clear hbd
  go_enter Try.func25, Try.ntmps25
  go_wp2_with fail
  refine (RThere_any base R lim n cap _ hn hbn p 1 hp (by decide) _).mono ?_
  rw [HT1.out]
  rintro e w1 ⟨rfl, hK⟩
  have hL := (Loc.new w (.slice (some ⟨h', 0, none⟩) n cap) base R lim (.int .i64 5) (.int .u64 (P : Int)) (.int .u64 (Q : Int)) (.int .u64 (N : Int)) (.bool false) (.int .u64 (V : Int)) (.bool deny) (.int .i64 count) (.slice da dm dc)).keep hK
  have hKw := (Loc.newK w _ _ _).trans (U := none') hK (fun _ _ x => x) (fun _ _ x => x)
  have HS1 := hid (HS0.out.keep hKw)
  have HK1 := hid (hKw.mono (T := S3 b (some g) (some h')) (fun _ _ x => x.elim))
  have HZ1 := hid (show w.heap.size + 3 ≤ w1.heap.size from (Array.getElem?_eq_some_iff.1 hL.r).1)
  obtain ⟨a0, a1, a2, a3⟩ := hL.ta
  obtain ⟨o0, o1, o2, o3, o4, o5, o6, o7, o8⟩ := hL.to
  have HL1 := hid hL
  clear hL hK hKw
  go_wp2_with fail
  refine (RThere_any base R lim n cap _ hn hbn p 8 hp (by decide) _).mono ?_
  rw [there_in HI.out]
  rintro e w2 ⟨rfl, hK⟩
  have hL := HL1.out.keep hK
  have HK2 := hid (HK1.out.trans (U := S3 b (some g) (some h')) hK (fun _ _ x => x) (fun _ _ x => x.elim))
  have HS2 := hid (HS1.out.keep hK)
  clear a0 a1 a2 a3 o0 o1 o2 o3 o4 o5 o6 o7 o8
  obtain ⟨a0, a1, a2, a3⟩ := hL.ta
  obtain ⟨o0, o1, o2, o3, o4, o5, o6, o7, o8⟩ := hL.to
  have HL2 := hid hL
  clear hL hK HL1 HK1
  go_wp2_with fail
  refine (Word_in b g base R lim n f p _ HS2.out.s HI.out).mono ?_
  rintro e w3 ⟨rfl, hK⟩
  rw [← HX.out]
  have hL := HL2.out.keep hK
  have HK3 := hid (HK2.out.trans (U := S3 b (some g) (some h')) hK (fun _ _ x => x) (fun _ _ x => x.elim))
  have HS3 := hid (HS2.out.keep hK)
  clear a0 a1 a2 a3 o0 o1 o2 o3 o4 o5 o6 o7 o8
  obtain ⟨a0, a1, a2, a3⟩ := hL.ta
  obtain ⟨o0, o1, o2, o3, o4, o5, o6, o7, o8⟩ := hL.to
  have HL3 := hid hL
  clear hL hK HL2 HK2
  obtain ⟨r0, r1, r2, r3, z0, z1, z2, z3⟩ := HL3.out.tr
  go_wp2
  go_region_with ((go_at_call 49; refine (RWord_in base R lim n cap h' f hn p hp _ (MemAt.keep HS3.out.r (Kept.refl none' w3).drew) hbn HI.out).mono ?_; rw [← HX.out]; rintro e w4 ⟨rfl, hK4⟩; have HK4 := hid (show Kept none' w3 w4 from ⟨hK4.os, hK4.tape, hK4.output, hK4.size, hK4.block⟩); have hL4 := HL3.out.keep HK4.out; obtain ⟨a0, a1, a2, a3⟩ := hL4.ta; obtain ⟨r0, r1, r2, r3, z0, z1, z2, z3⟩ := hL4.tr; clear hK4 hL4))
  all_goals go_wp2
  all_goals exact ⟨rfl, .tuple #[.agg #[.int .u64 (base : Int), .int .u64 (R : Int), .int .i64 (lim : Int), .slice (some ⟨h', 0, none⟩) n cap], .bool true], by simp [results, Try.results25, go_sem, r0, r1, r2, r3], some g, some h', n, cap, f, rfl, post_mk H0.out (HS3.out.keep HK4.out) (HK3.out.trans (U := S3 b (some g) (some h')) HK4.out (fun _ _ x => x) (fun _ _ x => x.elim)) (fun x e => Or.inl e) _ _ _ _⟩

end Go.Proofs.Ytanfdpangcgdhaa
