/- MemPlays: croftlaw2.many, Copy. -/
import Derived.Test.YtanfdpangcgdhaaPlayA
namespace Go.Proofs.Ytanfdpangcgdhaa
open Go.RowKit
set_option linter.unusedVariables false

set_option maxRecDepth 100000 in
set_option maxHeartbeats 2000000 in
theorem many_copy_zero (b base R lim n cap P Q N V p q dm dc : Nat) (ao mo : Option Nat) (f : Nat → Nat) (a deny : Bool) (count : Int) (da : Option Addr) (hp : p < 18446744073709551616) (hq : q < 18446744073709551616) (hN : N < 18446744073709551616) (hV : V < 18446744073709551616) (w : World) (h : St w b ao mo base R lim n cap f) (hN0 : N = 0) :
    Calls Try.prog 44 #[.pointer (some ⟨b, 0, none⟩), .agg #[.int .u64 (base : Int), .int .u64 (R : Int), .int .i64 (lim : Int), .slice (adr mo) n cap], .agg #[.int .i64 8, .int .u64 (P : Int), .int .u64 (Q : Int), .int .u64 (N : Int), .bool a, .int .u64 (V : Int), .bool deny, .int .i64 count, .slice da dm dc], .int .u64 (p : Int), .int .u64 (q : Int)] w (Post w b ao mo base R lim) := by
  have hbd := h.bd
  have hn := hbd.1
  have hbn := hbd.2.1
  have H0 := hid h.lt
  have HS0 := hid h
  clear h hbd
  subst hN0
  go_enter Try.func44, Try.ntmps44
  go_wp2_with fail
  refine (RThere_any base R lim n cap _ hn hbn p 0 hp (by decide) _).mono ?_
  rw [there_zero]
  rintro e w1 ⟨rfl, hK⟩
  have hL := (Loc.new w (.slice (adr mo) n cap) base R lim (.int .i64 8) (.int .u64 (P : Int)) (.int .u64 (Q : Int)) (.int .u64 (0 : Int)) (.bool a) (.int .u64 (V : Int)) (.bool deny) (.int .i64 count) (.slice da dm dc)).keep hK
  have hKw := (Loc.newK w _ _ _).trans (U := none') hK (fun _ _ x => x) (fun _ _ x => x)
  have HS1 := hid (HS0.out.keep hKw)
  have HK1 := hid (hKw.mono (T := S3 b ao mo) (fun _ _ x => x.elim))
  have HZ1 := hid (show w.heap.size + 3 ≤ w1.heap.size from (Array.getElem?_eq_some_iff.1 hL.r).1)
  obtain ⟨a0, a1, a2, a3⟩ := hL.ta
  obtain ⟨o0, o1, o2, o3, o4, o5, o6, o7, o8⟩ := hL.to
  have HL1 := hid hL
  clear hL hK hKw
  go_wp2_with fail
  refine (RThere_any base R lim n cap _ hn hbn q 0 hq (by decide) _).mono ?_
  rw [there_zero]
  rintro e w2 ⟨rfl, hK⟩
  have hL := HL1.out.keep hK
  have HK2 := hid (HK1.out.trans (U := S3 b ao mo) hK (fun _ _ x => x) (fun _ _ x => x.elim))
  have HS2 := hid (HS1.out.keep hK)
  clear a0 a1 a2 a3 o0 o1 o2 o3 o4 o5 o6 o7 o8
  obtain ⟨a0, a1, a2, a3⟩ := hL.ta
  obtain ⟨o0, o1, o2, o3, o4, o5, o6, o7, o8⟩ := hL.to
  have HL2 := hid hL
  clear hL hK HL1 HK1
  go_wp2_with fail
  refine (Copy_zero b _ _ _).mono ?_
  rintro e w3 ⟨rfl, hK⟩
  have hL := HL2.out.keep hK
  have HK3 := hid (HK2.out.trans (U := S3 b ao mo) hK (fun _ _ x => x) (fun _ _ x => x.elim))
  have HS3 := hid (HS2.out.keep hK)
  clear a0 a1 a2 a3 o0 o1 o2 o3 o4 o5 o6 o7 o8
  obtain ⟨a0, a1, a2, a3⟩ := hL.ta
  obtain ⟨o0, o1, o2, o3, o4, o5, o6, o7, o8⟩ := hL.to
  have HL3 := hid hL
  clear hL hK HL2 HK2
  obtain ⟨r0, r1, r2, r3, z0, z1, z2, z3⟩ := HL3.out.tr
  go_wp2
  go_region_with ((go_at_call 48; refine (flag_true _).mono ?_; rintro e w' ⟨rfl, rfl⟩))
  all_goals go_wp2
  all_goals exact ⟨rfl, .tuple #[.agg #[.int .u64 (base : Int), .int .u64 (R : Int), .int .i64 (lim : Int), .slice (adr mo) n cap], .bool true], by simp [results, Try.results44, go_sem, r0, r1, r2, r3], ao, mo, n, cap, f, rfl, drew3 (post_mk H0.out HS3.out HK3.out (fun x e => Or.inl e) _ _ _ _)⟩

set_option maxRecDepth 100000 in
set_option maxHeartbeats 2000000 in
theorem many_copy_out (b base R lim n cap P Q N V p q dm dc : Nat) (ao mo : Option Nat) (f : Nat → Nat) (a deny : Bool) (count : Int) (da : Option Addr) (hp : p < 18446744073709551616) (hq : q < 18446744073709551616) (hN : N < 18446744073709551616) (hV : V < 18446744073709551616) (w : World) (h : St w b ao mo base R lim n cap f) (hN0 : 0 < N) (hin : ¬ In base n p N) :
    Calls Try.prog 44 #[.pointer (some ⟨b, 0, none⟩), .agg #[.int .u64 (base : Int), .int .u64 (R : Int), .int .i64 (lim : Int), .slice (adr mo) n cap], .agg #[.int .i64 8, .int .u64 (P : Int), .int .u64 (Q : Int), .int .u64 (N : Int), .bool a, .int .u64 (V : Int), .bool deny, .int .i64 count, .slice da dm dc], .int .u64 (p : Int), .int .u64 (q : Int)] w (Post w b ao mo base R lim) := by
  have hbd := h.bd
  have hn := hbd.1
  have hbn := hbd.2.1
  have H0 := hid h.lt
  have HS0 := hid h
  clear h hbd
  have HI := hid hin
  clear hin
  go_enter Try.func44, Try.ntmps44
  go_wp2_with fail
  refine (RThere_any base R lim n cap _ hn hbn p N hp hN _).mono ?_
  rw [there_out hN0 HI.out]
  rintro e w1 ⟨rfl, hK⟩
  have hL := (Loc.new w (.slice (adr mo) n cap) base R lim (.int .i64 8) (.int .u64 (P : Int)) (.int .u64 (Q : Int)) (.int .u64 (N : Int)) (.bool a) (.int .u64 (V : Int)) (.bool deny) (.int .i64 count) (.slice da dm dc)).keep hK
  have hKw := (Loc.newK w _ _ _).trans (U := none') hK (fun _ _ x => x) (fun _ _ x => x)
  have HS1 := hid (HS0.out.keep hKw)
  have HK1 := hid (hKw.mono (T := S3 b ao mo) (fun _ _ x => x.elim))
  have HZ1 := hid (show w.heap.size + 3 ≤ w1.heap.size from (Array.getElem?_eq_some_iff.1 hL.r).1)
  obtain ⟨a0, a1, a2, a3⟩ := hL.ta
  obtain ⟨o0, o1, o2, o3, o4, o5, o6, o7, o8⟩ := hL.to
  have HL1 := hid hL
  clear hL hK hKw
  go_wp2_with fail
  refine (Copy_out b ao base R lim n f p N _ none 0 _ HS1.out.s hp hN hN0 HI.out).mono ?_
  rintro e w2 ⟨rfl, hK⟩
  have hL := HL1.out.keep hK
  have HK2 := hid (HK1.out.trans (U := S3 b ao mo) hK (fun _ _ x => x) (fun _ _ x => x.elim))
  have HS2 := hid (HS1.out.keep hK)
  clear a0 a1 a2 a3 o0 o1 o2 o3 o4 o5 o6 o7 o8
  obtain ⟨a0, a1, a2, a3⟩ := hL.ta
  obtain ⟨o0, o1, o2, o3, o4, o5, o6, o7, o8⟩ := hL.to
  have HL2 := hid hL
  clear hL hK HL1 HK1
  obtain ⟨r0, r1, r2, r3, z0, z1, z2, z3⟩ := HL2.out.tr
  go_wp2
  go_region_with ((go_at_call 48; refine (flag_false _).mono ?_; rintro e w' ⟨rfl, rfl⟩))
  all_goals go_wp2
  all_goals exact ⟨rfl, .tuple #[.agg #[.int .u64 (base : Int), .int .u64 (R : Int), .int .i64 (lim : Int), .slice (adr mo) n cap], .bool true], by simp [results, Try.results44, go_sem, r0, r1, r2, r3], ao, mo, n, cap, f, rfl, drew3 (post_mk H0.out HS2.out HK2.out (fun x e => Or.inl e) _ _ _ _)⟩

set_option maxRecDepth 100000 in
set_option maxHeartbeats 2000000 in
theorem many_copy_out2 (b base R lim n cap P Q N V p q dm dc : Nat) (g h' : Nat) (f : Nat → Nat) (a deny : Bool) (count : Int) (da : Option Addr) (hp : p < 18446744073709551616) (hq : q < 18446744073709551616) (hN : N < 18446744073709551616) (hV : V < 18446744073709551616) (w : World) (h : St w b (some g) (some h') base R lim n cap f) (hN0 : 0 < N) (hin : In base n p N) (hin2 : ¬ In base n q N) :
    Calls Try.prog 44 #[.pointer (some ⟨b, 0, none⟩), .agg #[.int .u64 (base : Int), .int .u64 (R : Int), .int .i64 (lim : Int), .slice (some ⟨h', 0, none⟩) n cap], .agg #[.int .i64 8, .int .u64 (P : Int), .int .u64 (Q : Int), .int .u64 (N : Int), .bool a, .int .u64 (V : Int), .bool deny, .int .i64 count, .slice da dm dc], .int .u64 (p : Int), .int .u64 (q : Int)] w (Post w b (some g) (some h') base R lim) := by
  have hbd := h.bd
  have hn := hbd.1
  have hbn := hbd.2.1
  have H0 := hid h.lt
  have HS0 := hid h
  clear h hbd
  have HI := hid hin
  have HJ := hid hin2
  clear hin hin2
  go_enter Try.func44, Try.ntmps44
  go_wp2_with fail
  refine (RThere_any base R lim n cap _ hn hbn p N hp hN _).mono ?_
  rw [there_in HI.out]
  rintro e w1 ⟨rfl, hK⟩
  have hL := (Loc.new w (.slice (some ⟨h', 0, none⟩) n cap) base R lim (.int .i64 8) (.int .u64 (P : Int)) (.int .u64 (Q : Int)) (.int .u64 (N : Int)) (.bool a) (.int .u64 (V : Int)) (.bool deny) (.int .i64 count) (.slice da dm dc)).keep hK
  have hKw := (Loc.newK w _ _ _).trans (U := none') hK (fun _ _ x => x) (fun _ _ x => x)
  have HS1 := hid (HS0.out.keep hKw)
  have HK1 := hid (hKw.mono (T := S3 b (some g) (some h')) (fun _ _ x => x.elim))
  have HZ1 := hid (show w.heap.size + 3 ≤ w1.heap.size from (Array.getElem?_eq_some_iff.1 hL.r).1)
  obtain ⟨a0, a1, a2, a3⟩ := hL.ta
  obtain ⟨o0, o1, o2, o3, o4, o5, o6, o7, o8⟩ := hL.to
  have HL1 := hid hL
  clear hL hK hKw
  go_wp2_with fail
  refine (RThere_any base R lim n cap _ hn hbn q N hq hN _).mono ?_
  rw [there_out hN0 HJ.out]
  rintro e w2 ⟨rfl, hK⟩
  have hL := HL1.out.keep hK
  have HK2 := hid (HK1.out.trans (U := S3 b (some g) (some h')) hK (fun _ _ x => x) (fun _ _ x => x.elim))
  have HS2 := hid (HS1.out.keep hK)
  clear a0 a1 a2 a3 o0 o1 o2 o3 o4 o5 o6 o7 o8
  obtain ⟨a0, a1, a2, a3⟩ := hL.ta
  obtain ⟨o0, o1, o2, o3, o4, o5, o6, o7, o8⟩ := hL.to
  have HL2 := hid hL
  clear hL hK HL1 HK1
  go_wp2_with fail
  refine (Copy_out2 b g base R lim n f p q N _ HS2.out.s hq hN hN0 HI.out HJ.out).mono ?_
  rintro e w3 ⟨rfl, hK⟩
  have hL := HL2.out.keep hK
  have HK3 := hid (HK2.out.trans (U := S3 b (some g) (some h')) hK (fun _ _ x => x) (fun _ _ x => x.elim))
  have HS3 := hid (HS2.out.keep hK)
  clear a0 a1 a2 a3 o0 o1 o2 o3 o4 o5 o6 o7 o8
  obtain ⟨a0, a1, a2, a3⟩ := hL.ta
  obtain ⟨o0, o1, o2, o3, o4, o5, o6, o7, o8⟩ := hL.to
  have HL3 := hid hL
  clear hL hK HL2 HK2
  obtain ⟨r0, r1, r2, r3, z0, z1, z2, z3⟩ := HL3.out.tr
  go_wp2
  go_region_with ((go_at_call 48; refine (flag_false _).mono ?_; rintro e w' ⟨rfl, rfl⟩))
  all_goals go_wp2
  all_goals exact ⟨rfl, .tuple #[.agg #[.int .u64 (base : Int), .int .u64 (R : Int), .int .i64 (lim : Int), .slice (some ⟨h', 0, none⟩) n cap], .bool true], by simp [results, Try.results44, go_sem, r0, r1, r2, r3], some g, some h', n, cap, f, rfl, drew3 (post_mk H0.out HS3.out HK3.out (fun x e => Or.inl e) _ _ _ _)⟩

set_option maxRecDepth 100000 in
set_option maxHeartbeats 2000000 in
theorem many_copy_in (b base R lim n cap P Q N V p q dm dc : Nat) (g h' : Nat) (f : Nat → Nat) (a deny : Bool) (count : Int) (da : Option Addr) (hp : p < 18446744073709551616) (hq : q < 18446744073709551616) (hN : N < 18446744073709551616) (hV : V < 18446744073709551616) (w : World) (h : St w b (some g) (some h') base R lim n cap f) (hN0 : 0 < N) (hin : In base n p N) (hin2 : In base n q N) :
    Calls Try.prog 44 #[.pointer (some ⟨b, 0, none⟩), .agg #[.int .u64 (base : Int), .int .u64 (R : Int), .int .i64 (lim : Int), .slice (some ⟨h', 0, none⟩) n cap], .agg #[.int .i64 8, .int .u64 (P : Int), .int .u64 (Q : Int), .int .u64 (N : Int), .bool a, .int .u64 (V : Int), .bool deny, .int .i64 count, .slice da dm dc], .int .u64 (p : Int), .int .u64 (q : Int)] w (Post w b (some g) (some h') base R lim) := by
  have hbd := h.bd
  have hn := hbd.1
  have hbn := hbd.2.1
  have H0 := hid h.lt
  have HS0 := hid h
  clear h hbd
  have HI := hid hin
  have HJ := hid hin2
  have hN0i : (0 : Int) < (N : Int) := by omega
  clear hin hin2
  go_enter Try.func44, Try.ntmps44
  go_wp2_with fail
  refine (RThere_any base R lim n cap _ hn hbn p N hp hN _).mono ?_
  rw [there_in HI.out]
  rintro e w1 ⟨rfl, hK⟩
  have hL := (Loc.new w (.slice (some ⟨h', 0, none⟩) n cap) base R lim (.int .i64 8) (.int .u64 (P : Int)) (.int .u64 (Q : Int)) (.int .u64 (N : Int)) (.bool a) (.int .u64 (V : Int)) (.bool deny) (.int .i64 count) (.slice da dm dc)).keep hK
  have hKw := (Loc.newK w _ _ _).trans (U := none') hK (fun _ _ x => x) (fun _ _ x => x)
  have HS1 := hid (HS0.out.keep hKw)
  have HK1 := hid (hKw.mono (T := S3 b (some g) (some h')) (fun _ _ x => x.elim))
  have HZ1 := hid (show w.heap.size + 3 ≤ w1.heap.size from (Array.getElem?_eq_some_iff.1 hL.r).1)
  obtain ⟨a0, a1, a2, a3⟩ := hL.ta
  obtain ⟨o0, o1, o2, o3, o4, o5, o6, o7, o8⟩ := hL.to
  have HL1 := hid hL
  clear hL hK hKw
  go_wp2_with fail
  refine (RThere_any base R lim n cap _ hn hbn q N hq hN _).mono ?_
  rw [there_in HJ.out]
  rintro e w2 ⟨rfl, hK⟩
  have hL := HL1.out.keep hK
  have HK2 := hid (HK1.out.trans (U := S3 b (some g) (some h')) hK (fun _ _ x => x) (fun _ _ x => x.elim))
  have HS2 := hid (HS1.out.keep hK)
  clear a0 a1 a2 a3 o0 o1 o2 o3 o4 o5 o6 o7 o8
  obtain ⟨a0, a1, a2, a3⟩ := hL.ta
  obtain ⟨o0, o1, o2, o3, o4, o5, o6, o7, o8⟩ := hL.to
  have HL2 := hid hL
  clear hL hK HL1 HK1
  go_wp2_with fail
  refine (Copy_in b g base R lim n f p q N _ HS2.out.s hN0 HI.out HJ.out).mono ?_
  rintro e w3 ⟨rfl, hS, hK⟩
  have HSS := hid hS
  have hL := HL2.out.kept hK (fun x e => Or.inl (H0.out x (Or.inl e)))
  have HK3 := hid (HK2.out.trans (U := S3 b (some g) (some h')) hK (fun _ _ x => x) (fun _ _ x => Or.inl x))
  have HS3 := hid (show MemAt w3 h' n cap f from MemAt.kept HS2.out.r hK (HS2.out.sep h' rfl))
  clear a0 a1 a2 a3 o0 o1 o2 o3 o4 o5 o6 o7 o8
  obtain ⟨a0, a1, a2, a3⟩ := hL.ta
  obtain ⟨o0, o1, o2, o3, o4, o5, o6, o7, o8⟩ := hL.to
  have HL3 := hid hL
  clear hL hK HL2 HK2
  go_wp2
  go_region_with (first | (go_at_call 53; refine (RRead_in base R lim n cap h' f hn q N hq _ (HS3.out.keep (Kept.refl none' w3).drew) hbn HJ.out).mono ?_; rintro e w4 ⟨rfl, hM4, hK4⟩; have HM4 := hid hM4; have HK4 := hid (show Kept none' w3 w4 from ⟨hK4.os, hK4.tape, hK4.output, hK4.size, hK4.block⟩); have hL4 := HL3.out.keep HK4.out; obtain ⟨a0, a1, a2, a3⟩ := hL4.ta; obtain ⟨o0, o1, o2, o3, o4, o5, o6, o7, o8⟩ := hL4.to; clear hM4 hK4 hL4) | (go_at_call 52; refine (RWrite_in base R lim n cap h' f hn p N N (w3.heap.size + 1) 0 _ hp _ (HS3.out.keep HK4.out) hbn hN0 HI.out HM4.out.bytes (by have := MemAt.lt HS3.out; omega)).mono ?_; rintro e w5 ⟨rfl, hM5, hK5⟩; have HM5 := hid hM5; have HK5 := hid hK5; clear hM5 hK5))
  all_goals (
    have hL := (HL3.out.keep HK4.out).kept HK5.out (fun x e => Or.inl (H0.out x (Or.inr (by rw [e]))))
    have hHK := (HK3.out.trans (U := S3 b (some g) (some h')) HK4.out (fun _ _ x => x) (fun _ _ x => x.elim)).trans (U := S3 b (some g) (some h')) HK5.out (fun _ _ x => x) (fun _ _ x => Or.inr (by rw [x]))
    have hSt : St w5 b (some g) (some h') base R lim n cap (upd f (p - base) N fun i => f (q - base + i)) := ⟨(HSS.out.keep HK4.out).kept HK5.out (fun x e e2 => HS0.out.sep h' rfl (e2 ▸ e)), HM5.out, HS0.out.sep⟩
    obtain ⟨a0, a1, a2, a3⟩ := hL.ta
    obtain ⟨o0, o1, o2, o3, o4, o5, o6, o7, o8⟩ := hL.to
    obtain ⟨r0, r1, r2, r3, z0, z1, z2, z3⟩ := hL.tr
    have HF := hid hSt
    have HKF := hid hHK
    clear hL hHK hSt
    go_wp2
    go_region_with ((go_at_call 48; refine (flag_true _).mono ?_; rintro e w' ⟨rfl, rfl⟩))
    all_goals go_wp2
    all_goals exact ⟨rfl, .tuple #[.agg #[.int .u64 (base : Int), .int .u64 (R : Int), .int .i64 (lim : Int), .slice (some ⟨h', 0, none⟩) n cap], .bool true], by simp [results, Try.results44, go_sem, r0, r1, r2, r3], some g, some h', n, cap, (upd f (p - base) N fun i => f (q - base + i)), rfl, drew3 (post_mk H0.out HF.out HKF.out (fun x e => Or.inl e) _ _ _ _)⟩)

end Go.Proofs.Ytanfdpangcgdhaa
