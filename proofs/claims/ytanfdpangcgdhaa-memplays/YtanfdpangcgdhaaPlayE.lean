/- MemPlays: croftlaw2.many, Write. -/
import Derived.Test.YtanfdpangcgdhaaPlayA
namespace Go.Proofs.Ytanfdpangcgdhaa
open Go.RowKit
set_option linter.unusedVariables false

set_option maxRecDepth 100000 in
set_option maxHeartbeats 2000000 in
theorem many_write_zero (b base R lim n cap P Q N V p q dm dc : Nat) (ao mo : Option Nat) (f : Nat → Nat) (a deny : Bool) (count : Int) (da : Option Addr) (hp : p < 18446744073709551616) (hq : q < 18446744073709551616) (hN : N < 18446744073709551616) (hV : V < 18446744073709551616) (w : World) (h : St w b ao mo base R lim n cap f) (hd0 : dm = 0) :
    Calls Try.prog 44 #[.pointer (some ⟨b, 0, none⟩), .agg #[.int .u64 (base : Int), .int .u64 (R : Int), .int .i64 (lim : Int), .slice (adr mo) n cap], .agg #[.int .i64 10, .int .u64 (P : Int), .int .u64 (Q : Int), .int .u64 (N : Int), .bool a, .int .u64 (V : Int), .bool deny, .int .i64 count, .slice da dm dc], .int .u64 (p : Int), .int .u64 (q : Int)] w (Post w b ao mo base R lim) := by
  have hbd := h.bd
  have hn := hbd.1
  have hbn := hbd.2.1
  have H0 := hid h.lt
  have HS0 := hid h
  clear h hbd
  subst hd0
  go_enter Try.func44, Try.ntmps44
  go_wp2_with fail
  refine (RThere_any base R lim n cap _ hn hbn p N hp hN _).mono ?_
  rintro e w1 ⟨rfl, hK⟩
  have hL := (Loc.new w (.slice (adr mo) n cap) base R lim (.int .i64 10) (.int .u64 (P : Int)) (.int .u64 (Q : Int)) (.int .u64 (N : Int)) (.bool a) (.int .u64 (V : Int)) (.bool deny) (.int .i64 count) (.slice da 0 dc)).keep hK
  have hKw := (Loc.newK w _ _ _).trans (U := none') hK (fun _ _ x => x) (fun _ _ x => x)
  have HS1 := hid (HS0.out.keep hKw)
  have HK1 := hid (hKw.mono (T := S3 b ao mo) (fun _ _ x => x.elim))
  have HZ1 := hid (show w.heap.size + 3 ≤ w1.heap.size from (Array.getElem?_eq_some_iff.1 hL.r).1)
  obtain ⟨a0, a1, a2, a3⟩ := hL.ta
  obtain ⟨o0, o1, o2, o3, o4, o5, o6, o7, o8⟩ := hL.to
  have HL1 := hid hL
  clear hL hK hKw
  go_wp2_with fail
  refine (RThere_any base R lim n cap _ hn hbn p 0 hp (by decide) _).mono ?_
  rw [there_zero]
  rintro e w2 ⟨rfl, hK⟩
  have hL := HL1.out.keep hK
  have HK2 := hid (HK1.out.trans (U := S3 b ao mo) hK (fun _ _ x => x) (fun _ _ x => x.elim))
  have HS2 := hid (HS1.out.keep hK)
  clear a0 a1 a2 a3 o0 o1 o2 o3 o4 o5 o6 o7 o8
  obtain ⟨a0, a1, a2, a3⟩ := hL.ta
  obtain ⟨o0, o1, o2, o3, o4, o5, o6, o7, o8⟩ := hL.to
  have HL2 := hid hL
  clear hL hK HL1 HK1
  go_wp2_with fail
  refine (Write_zero b _ _ _ _).mono ?_
  rintro e w3 ⟨rfl, hK⟩
  have hL := HL2.out.keep hK
  have HK3 := hid (HK2.out.trans (U := S3 b ao mo) hK (fun _ _ x => x) (fun _ _ x => x.elim))
  have HS3 := hid (HS2.out.keep hK)
  clear a0 a1 a2 a3 o0 o1 o2 o3 o4 o5 o6 o7 o8
  obtain ⟨a0, a1, a2, a3⟩ := hL.ta
  obtain ⟨o0, o1, o2, o3, o4, o5, o6, o7, o8⟩ := hL.to
  have HL3 := hid hL
  clear hL hK HL2 HK2
  obtain ⟨r0, r1, r2, r3, z0, z1, z2, z3⟩ := HL3.out.tr
  go_wp2
  go_region_with ((go_at_call 48; refine (flag_true _).mono ?_; rintro e w' ⟨rfl, rfl⟩))
  all_goals go_wp2
  all_goals exact ⟨rfl, .tuple #[.agg #[.int .u64 (base : Int), .int .u64 (R : Int), .int .i64 (lim : Int), .slice (adr mo) n cap], .bool true], by simp [results, Try.results44, go_sem, r0, r1, r2, r3], ao, mo, n, cap, f, rfl, drew3 (post_mk H0.out HS3.out HK3.out (fun x e => Or.inl e) _ _ _ _)⟩

set_option maxRecDepth 100000 in
set_option maxHeartbeats 2000000 in
theorem many_write_out (b base R lim n cap P Q N V p q dm dc : Nat) (ao mo : Option Nat) (f : Nat → Nat) (a deny : Bool) (count : Int) (da : Option Addr) (hp : p < 18446744073709551616) (hq : q < 18446744073709551616) (hN : N < 18446744073709551616) (hV : V < 18446744073709551616) (w : World) (h : St w b ao mo base R lim n cap f) (hdm : dm ≤ 9223372036854775807) (hd0 : 0 < dm) (hin : ¬ In base n p dm) :
    Calls Try.prog 44 #[.pointer (some ⟨b, 0, none⟩), .agg #[.int .u64 (base : Int), .int .u64 (R : Int), .int .i64 (lim : Int), .slice (adr mo) n cap], .agg #[.int .i64 10, .int .u64 (P : Int), .int .u64 (Q : Int), .int .u64 (N : Int), .bool a, .int .u64 (V : Int), .bool deny, .int .i64 count, .slice da dm dc], .int .u64 (p : Int), .int .u64 (q : Int)] w (Post w b ao mo base R lim) := by
  have hbd := h.bd
  have hn := hbd.1
  have hbn := hbd.2.1
  have H0 := hid h.lt
  have HS0 := hid h
  clear h hbd
  have HI := hid hin
  clear hin
  go_enter Try.func44, Try.ntmps44
  go_wp2_with fail
  refine (RThere_any base R lim n cap _ hn hbn p N hp hN _).mono ?_
  rintro e w1 ⟨rfl, hK⟩
  have hL := (Loc.new w (.slice (adr mo) n cap) base R lim (.int .i64 10) (.int .u64 (P : Int)) (.int .u64 (Q : Int)) (.int .u64 (N : Int)) (.bool a) (.int .u64 (V : Int)) (.bool deny) (.int .i64 count) (.slice da dm dc)).keep hK
  have hKw := (Loc.newK w _ _ _).trans (U := none') hK (fun _ _ x => x) (fun _ _ x => x)
  have HS1 := hid (HS0.out.keep hKw)
  have HK1 := hid (hKw.mono (T := S3 b ao mo) (fun _ _ x => x.elim))
  have HZ1 := hid (show w.heap.size + 3 ≤ w1.heap.size from (Array.getElem?_eq_some_iff.1 hL.r).1)
  obtain ⟨a0, a1, a2, a3⟩ := hL.ta
  obtain ⟨o0, o1, o2, o3, o4, o5, o6, o7, o8⟩ := hL.to
  have HL1 := hid hL
  clear hL hK hKw
  go_wp2_with fail
  refine (RThere_any base R lim n cap _ hn hbn p dm hp (by omega) _).mono ?_
  rw [there_out hd0 HI.out]
  rintro e w2 ⟨rfl, hK⟩
  have hL := HL1.out.keep hK
  have HK2 := hid (HK1.out.trans (U := S3 b ao mo) hK (fun _ _ x => x) (fun _ _ x => x.elim))
  have HS2 := hid (HS1.out.keep hK)
  clear a0 a1 a2 a3 o0 o1 o2 o3 o4 o5 o6 o7 o8
  obtain ⟨a0, a1, a2, a3⟩ := hL.ta
  obtain ⟨o0, o1, o2, o3, o4, o5, o6, o7, o8⟩ := hL.to
  have HL2 := hid hL
  clear hL hK HL1 HK1
  go_wp2_with fail
  refine (Write_out b ao base R lim n f p dm 0 da dc _ HS2.out.s hp (by omega) hd0 HI.out).mono ?_
  rintro e w3 ⟨rfl, hK⟩
  have hL := HL2.out.keep hK
  have HK3 := hid (HK2.out.trans (U := S3 b ao mo) hK (fun _ _ x => x) (fun _ _ x => x.elim))
  have HS3 := hid (HS2.out.keep hK)
  clear a0 a1 a2 a3 o0 o1 o2 o3 o4 o5 o6 o7 o8
  obtain ⟨a0, a1, a2, a3⟩ := hL.ta
  obtain ⟨o0, o1, o2, o3, o4, o5, o6, o7, o8⟩ := hL.to
  have HL3 := hid hL
  clear hL hK HL2 HK2
  obtain ⟨r0, r1, r2, r3, z0, z1, z2, z3⟩ := HL3.out.tr
  go_wp2
  go_region_with ((go_at_call 48; refine (flag_false _).mono ?_; rintro e w' ⟨rfl, rfl⟩))
  all_goals go_wp2
  all_goals exact ⟨rfl, .tuple #[.agg #[.int .u64 (base : Int), .int .u64 (R : Int), .int .i64 (lim : Int), .slice (adr mo) n cap], .bool true], by simp [results, Try.results44, go_sem, r0, r1, r2, r3], ao, mo, n, cap, f, rfl, drew3 (post_mk H0.out HS3.out HK3.out (fun x e => Or.inl e) _ _ _ _)⟩

set_option maxRecDepth 100000 in
set_option maxHeartbeats 2000000 in
theorem many_write_in (b base R lim n cap P Q N V p q dm dc : Nat) (g h' ab ad : Nat) (gg : Nat → Nat) (f : Nat → Nat) (a deny : Bool) (count : Int) (da : Option Addr) (hp : p < 18446744073709551616) (hq : q < 18446744073709551616) (hN : N < 18446744073709551616) (hV : V < 18446744073709551616) (w : World) (h : St w b (some g) (some h') base R lim n cap f) (hda : da = some ⟨ab, ad, none⟩) (hdm : dm ≤ 9223372036854775807) (hd0 : 0 < dm) (hin : In base n p dm) (hv : Bytes w (.slice (some ⟨ab, ad, none⟩) dm dc) dm gg) (hab : ¬ S3 b (some g) (some h') ab) :
    Calls Try.prog 44 #[.pointer (some ⟨b, 0, none⟩), .agg #[.int .u64 (base : Int), .int .u64 (R : Int), .int .i64 (lim : Int), .slice (some ⟨h', 0, none⟩) n cap], .agg #[.int .i64 10, .int .u64 (P : Int), .int .u64 (Q : Int), .int .u64 (N : Int), .bool a, .int .u64 (V : Int), .bool deny, .int .i64 count, .slice da dm dc], .int .u64 (p : Int), .int .u64 (q : Int)] w (Post w b (some g) (some h') base R lim) := by
  have hbd := h.bd
  have hn := hbd.1
  have hbn := hbd.2.1
  have H0 := hid h.lt
  have HS0 := hid h
  clear h hbd
  subst hda
  have HI := hid hin
  have HV := hid hv
  have HAB := hid hab
  have hd0i : (0 : Int) < (dm : Int) := by omega
  clear hin hv hab
  go_enter Try.func44, Try.ntmps44
  go_wp2_with fail
  refine (RThere_any base R lim n cap _ hn hbn p N hp hN _).mono ?_
  rintro e w1 ⟨rfl, hK⟩
  have hL := (Loc.new w (.slice (some ⟨h', 0, none⟩) n cap) base R lim (.int .i64 10) (.int .u64 (P : Int)) (.int .u64 (Q : Int)) (.int .u64 (N : Int)) (.bool a) (.int .u64 (V : Int)) (.bool deny) (.int .i64 count) (.slice (some ⟨ab, ad, none⟩) dm dc)).keep hK
  have hKw := (Loc.newK w _ _ _).trans (U := none') hK (fun _ _ x => x) (fun _ _ x => x)
  have HS1 := hid (HS0.out.keep hKw)
  have HK1 := hid (hKw.mono (T := S3 b (some g) (some h')) (fun _ _ x => x.elim))
  have HZ1 := hid (show w.heap.size + 3 ≤ w1.heap.size from (Array.getElem?_eq_some_iff.1 hL.r).1)
  obtain ⟨a0, a1, a2, a3⟩ := hL.ta
  obtain ⟨o0, o1, o2, o3, o4, o5, o6, o7, o8⟩ := hL.to
  have HL1 := hid hL
  have HV1 := hid (HV.out.keep hKw)
  clear hL hK hKw
  go_wp2_with fail
  refine (RThere_any base R lim n cap _ hn hbn p dm hp (by omega) _).mono ?_
  rw [there_in HI.out]
  rintro e w2 ⟨rfl, hK⟩
  have HV2 := hid (HV1.out.keep hK)
  have hL := HL1.out.keep hK
  have HK2 := hid (HK1.out.trans (U := S3 b (some g) (some h')) hK (fun _ _ x => x) (fun _ _ x => x.elim))
  have HS2 := hid (HS1.out.keep hK)
  clear a0 a1 a2 a3 o0 o1 o2 o3 o4 o5 o6 o7 o8
  obtain ⟨a0, a1, a2, a3⟩ := hL.ta
  obtain ⟨o0, o1, o2, o3, o4, o5, o6, o7, o8⟩ := hL.to
  have HL2 := hid hL
  clear hL hK HL1 HK1
  go_wp2_with fail
  refine (Write_in b g base R lim n f p dm _ gg _ HS2.out.s hd0 HI.out HV2.out).mono ?_
  rintro e w3 ⟨rfl, hS, hK⟩
  have HSS := hid hS
  have HV3 := hid (HV2.out.kept hK (fun x e hx => HAB.out (by injection e with e; rw [← e] at hx; exact Or.inl hx)))
  have hL := HL2.out.kept hK (fun x e => Or.inl (H0.out x (Or.inl e)))
  have HK3 := hid (HK2.out.trans (U := S3 b (some g) (some h')) hK (fun _ _ x => x) (fun _ _ x => Or.inl x))
  have HS3 := hid (show MemAt w3 h' n cap f from MemAt.kept HS2.out.r hK (HS2.out.sep h' rfl))
  clear a0 a1 a2 a3 o0 o1 o2 o3 o4 o5 o6 o7 o8
  obtain ⟨a0, a1, a2, a3⟩ := hL.ta
  obtain ⟨o0, o1, o2, o3, o4, o5, o6, o7, o8⟩ := hL.to
  have HL3 := hid hL
  clear hL hK HL2 HK2
  go_wp2_with fail
  refine (RWrite_in base R lim n cap h' f hn p dm dc ab ad gg hp _ HS3.out hbn hd0 HI.out HV3.out (fun e => HAB.out (Or.inr (by rw [e])))).mono ?_
  rintro e w4 ⟨rfl, hM, hK⟩
  have hL := HL3.out.kept hK (fun x e => Or.inl (H0.out x (Or.inr (by rw [e]))))
  have HK4 := hid (HK3.out.trans (U := S3 b (some g) (some h')) hK (fun _ _ x => x) (fun _ _ x => Or.inr (by rw [x])))
  have HS4 := hid (show St w4 b (some g) (some h') base R lim n cap (upd f (p - base) dm gg) from ⟨HSS.out.kept hK (fun x e e2 => HS0.out.sep h' rfl (e2 ▸ e)), hM, HS0.out.sep⟩)
  clear a0 a1 a2 a3 o0 o1 o2 o3 o4 o5 o6 o7 o8
  obtain ⟨a0, a1, a2, a3⟩ := hL.ta
  obtain ⟨o0, o1, o2, o3, o4, o5, o6, o7, o8⟩ := hL.to
  have HL4 := hid hL
  clear hL hK HL3 HK3
  obtain ⟨r0, r1, r2, r3, z0, z1, z2, z3⟩ := HL4.out.tr
  go_wp2
  go_region_with ((go_at_call 48; refine (flag_true _).mono ?_; rintro e w' ⟨rfl, rfl⟩))
  all_goals go_wp2
  all_goals exact ⟨rfl, .tuple #[.agg #[.int .u64 (base : Int), .int .u64 (R : Int), .int .i64 (lim : Int), .slice (some ⟨h', 0, none⟩) n cap], .bool true], by simp [results, Try.results44, go_sem, r0, r1, r2, r3], some g, some h', n, cap, (upd f (p - base) dm gg), rfl, drew3 (post_mk H0.out HS4.out HK4.out (fun x e => Or.inl e) _ _ _ _)⟩

end Go.Proofs.Ytanfdpangcgdhaa
