/- MemPlays: croftlaw2.played, Regions and End. -/
import Derived.Test.YtanfdpangcgdhaaPlayA
import Derived.Deep.RegionHeld3
namespace Go.Proofs.Ytanfdpangcgdhaa
open Go.RowKit
set_option linter.unusedVariables false

theorem set4_cellN {w : World} {y b i : Nat} {v u0 u1 u2 u3 : Value} (hne : ¬ b = y) (h : w.cell? ⟨b, i, none⟩ = some v) : ((((w.setCell ⟨y, 0, none⟩ u0).setCell ⟨y, 1, none⟩ u1).setCell ⟨y, 2, none⟩ u2).setCell ⟨y, 3, none⟩ u3).cell? ⟨b, i, none⟩ = some v :=
  (((((Kept.refl (fun x => x = y) w).setCell (fun _ => rfl) u0).setCell (fun _ => rfl) u1).setCell (fun _ => rfl) u2).setCell (fun _ => rfl) u3).cell hne h

set_option maxRecDepth 100000 in
set_option maxHeartbeats 4000000 in
theorem played_other_lo_f (b base R lim n cap P Q N V p q dm dc : Nat) (ao mo : Option Nat) (f : Nat → Nat) (kind : Int) (deny : Bool) (count : Int) (da : Option Addr) (hpw : IntKind.u64.wrap ((base : Int) + (P : Int)) = (p : Int)) (hqw : IntKind.u64.wrap ((base : Int) + (Q : Int)) = (q : Int)) (hp : p < 18446744073709551616) (hq : q < 18446744073709551616) (hP : P < 18446744073709551616) (hQ : Q < 18446744073709551616) (hN : N < 18446744073709551616) (hV : V < 18446744073709551616) (w : World) (h : St w b ao mo base R lim n cap f) (hk : kind < 1) :
    Calls Try.prog 25 #[.pointer (some ⟨b, 0, none⟩), .agg #[.int .u64 (base : Int), .int .u64 (R : Int), .int .i64 (lim : Int), .slice (adr mo) n cap], .agg #[.int .i64 kind, .int .u64 (P : Int), .int .u64 (Q : Int), .int .u64 (N : Int), .bool false, .int .u64 (V : Int), .bool deny, .int .i64 count, .slice da dm dc]] w (Post w b ao mo base R lim) := by
  have hbd := h.bd
  have hn := hbd.1
  have hbn := hbd.2.1
  have H0 := hid h.lt
  have HS0 := hid h
  clear h
  have hk7 : ¬ (7 : Int) ≤ kind := by omega
  have k1 : (kind == 1) = false := by rw [beq_eq_false_iff_ne]; omega
  have k2 : (kind == 2) = false := by rw [beq_eq_false_iff_ne]; omega
  have k3 : (kind == 3) = false := by rw [beq_eq_false_iff_ne]; omega
  have k4 : (kind == 4) = false := by rw [beq_eq_false_iff_ne]; omega
  have k5 : (kind == 5) = false := by rw [beq_eq_false_iff_ne]; omega
  have k6 : (kind == 6) = false := by rw [beq_eq_false_iff_ne]; omega
  obtain ⟨t8, ht8⟩ : ∃ t8, t8 = thereB base n p 8 := ⟨_, rfl⟩
  have HT8 := hid ht8.symm
  obtain ⟨t1, ht1⟩ : ∃ t1, t1 = thereB base n p 1 := ⟨_, rfl⟩
  have HT1 := hid ht1.symm
  obtain ⟨qq, hqq⟩ : ∃ qq, qq = n / R := ⟨_, rfl⟩
  have HQQ := hid hqq
  have hR1 := hbd.2.2.1
  have hR2 := hbd.2.2.2.1
  clear ht8 ht1 hqq 
  clear hbd
  go_enter Try.func25, Try.ntmps25
  go_wp2_with fail
  refine (RThere_any base R lim n cap _ hn hbn p 1 hp (by decide) _).mono ?_
  rw [HT1.out]
  rintro e w1 ⟨rfl, hK⟩
  have hL := (Loc.new w (.slice (adr mo) n cap) base R lim (.int .i64 kind) (.int .u64 (P : Int)) (.int .u64 (Q : Int)) (.int .u64 (N : Int)) (.bool false) (.int .u64 (V : Int)) (.bool deny) (.int .i64 count) (.slice da dm dc)).keep hK
  have hKw := (Loc.newK w _ _ _).trans (U := none') hK (fun _ _ x => x) (fun _ _ x => x)
  have HS1 := hid (HS0.out.keep hKw)
  have HK1 := hid (hKw.mono (T := S3 b ao mo) (fun _ _ x => x.elim))
  have HZ1 := hid (show w.heap.size + 3 ≤ w1.heap.size from (Array.getElem?_eq_some_iff.1 hL.r).1)
  obtain ⟨a0, a1, a2, a3⟩ := hL.ta
  obtain ⟨o0, o1, o2, o3, o4, o5, o6, o7, o8⟩ := hL.to
  have HL1 := hid hL
  clear hL hK hKw
  go_wp2_with fail
  refine (RThere_any base R lim n cap _ hn hbn p 8 hp (by decide) _).mono ?_
  rw [HT8.out]
  rintro e w2 ⟨rfl, hK⟩
  have hL := HL1.out.keep hK
  have HK2 := hid (HK1.out.trans (U := S3 b ao mo) hK (fun _ _ x => x) (fun _ _ x => x.elim))
  have HS2 := hid (HS1.out.keep hK)
  clear a0 a1 a2 a3 o0 o1 o2 o3 o4 o5 o6 o7 o8
  obtain ⟨a0, a1, a2, a3⟩ := hL.ta
  obtain ⟨o0, o1, o2, o3, o4, o5, o6, o7, o8⟩ := hL.to
  have HL2 := hid hL
  clear hL hK HL1 HK1
  obtain ⟨r0, r1, r2, r3, z0, z1, z2, z3⟩ := HL2.out.tr
  go_wp2
  go_region_held3 (fun w' => w'.cell? ⟨w.heap.size, 0, none⟩ = some (.int .u64 (base : Int)) ∧ w'.cell? ⟨w.heap.size, 1, none⟩ = some (.int .u64 (R : Int)) ∧ w'.cell? ⟨w.heap.size, 2, none⟩ = some (.int .i64 (lim : Int)) ∧ w'.cell? ⟨w.heap.size, 3, none⟩ = some (.slice (adr mo) n cap)) (first | exact ⟨a0, a1, a2, a3⟩ | exact ⟨set4_cellN (by omega) a0, set4_cellN (by omega) a1, set4_cellN (by omega) a2, set4_cellN (by omega) a3⟩) (first | (go_at_call 23; refine (regions_any b ao base R lim n f _ (HS2.out.s.keep (Kept.refl none' w2).drew)).mono ?_; rw [← HQQ.out]; rintro e w3 ⟨rfl, m3, hw3⟩; have hK3 : Kept none' w2 w3 := hw3 ▸ ((Kept.refl none' w2).drew).drewN m3; have hL3 := HL2.out.keep hK3; obtain ⟨a0, a1, a2, a3⟩ := hL3.ta; have HK3 := hid hK3; clear hK3 hL3 hw3) | (go_at_call 27; refine (RRegions_any base R lim n cap _ hR1 hR2 hn _).mono ?_; rw [← HQQ.out]; rintro e w4 ⟨rfl, hK4⟩; have HK4 := hid (HK3.out.trans (U := none') hK4 (fun _ _ x => x) (fun _ _ x => x)); have hL4 := HL2.out.keep HK4.out; obtain ⟨a0, a1, a2, a3⟩ := hL4.ta; clear hK4 hL4) | (go_at_call 13; refine (end_any b ao base R lim n f _ (HS2.out.s.keep HK4.out)).mono ?_; rintro e w5 ⟨rfl, m5, hw5⟩; have hK5 : Kept none' w2 w5 := hw5 ▸ HK4.out.drewN m5; have hL5 := HL2.out.keep hK5; obtain ⟨a0, a1, a2, a3⟩ := hL5.ta; have HK5 := hid hK5; clear hK5 hL5 hw5) | (go_at_call 26; refine (REnd_any base R lim n cap _ hn hbn _).mono ?_; rintro e w6 ⟨rfl, hK6⟩; have HK6 := hid (HK5.out.trans (U := none') hK6 (fun _ _ x => x) (fun _ _ x => x)); have hL6 := HL2.out.keep HK6.out; obtain ⟨a0, a1, a2, a3⟩ := hL6.ta; obtain ⟨r0, r1, r2, r3, z0, z1, z2, z3⟩ := hL6.tr; clear hK6 hL6))
  all_goals go_wp2
  all_goals exact ⟨rfl, .tuple #[.agg #[.int .u64 (base : Int), .int .u64 (R : Int), .int .i64 (lim : Int), .slice (adr mo) n cap], .bool true], by simp [results, Try.results25, go_sem, r0, r1, r2, r3], ao, mo, n, cap, f, rfl, post_mk H0.out (HS2.out.keep HK6.out) (HK2.out.trans (U := S3 b ao mo) HK6.out (fun _ _ x => x) (fun _ _ x => x.elim)) (fun x e => Or.inl e) _ _ _ _⟩

set_option maxRecDepth 100000 in
set_option maxHeartbeats 4000000 in
theorem played_other_lo_t (b base R lim n cap P Q N V p q dm dc : Nat) (ao mo : Option Nat) (f : Nat → Nat) (kind : Int) (deny : Bool) (count : Int) (da : Option Addr) (hpw : p = P) (hqw : q = Q) (hp : p < 18446744073709551616) (hq : q < 18446744073709551616) (hP : P < 18446744073709551616) (hQ : Q < 18446744073709551616) (hN : N < 18446744073709551616) (hV : V < 18446744073709551616) (w : World) (h : St w b ao mo base R lim n cap f) (hk : kind < 1) :
    Calls Try.prog 25 #[.pointer (some ⟨b, 0, none⟩), .agg #[.int .u64 (base : Int), .int .u64 (R : Int), .int .i64 (lim : Int), .slice (adr mo) n cap], .agg #[.int .i64 kind, .int .u64 (P : Int), .int .u64 (Q : Int), .int .u64 (N : Int), .bool true, .int .u64 (V : Int), .bool deny, .int .i64 count, .slice da dm dc]] w (Post w b ao mo base R lim) := by
  have hbd := h.bd
  have hn := hbd.1
  have hbn := hbd.2.1
  have H0 := hid h.lt
  have HS0 := hid h
  clear h
  subst hpw hqw
  have hk7 : ¬ (7 : Int) ≤ kind := by omega
  have k1 : (kind == 1) = false := by rw [beq_eq_false_iff_ne]; omega
  have k2 : (kind == 2) = false := by rw [beq_eq_false_iff_ne]; omega
  have k3 : (kind == 3) = false := by rw [beq_eq_false_iff_ne]; omega
  have k4 : (kind == 4) = false := by rw [beq_eq_false_iff_ne]; omega
  have k5 : (kind == 5) = false := by rw [beq_eq_false_iff_ne]; omega
  have k6 : (kind == 6) = false := by rw [beq_eq_false_iff_ne]; omega
  obtain ⟨t8, ht8⟩ : ∃ t8, t8 = thereB base n p 8 := ⟨_, rfl⟩
  have HT8 := hid ht8.symm
  obtain ⟨t1, ht1⟩ : ∃ t1, t1 = thereB base n p 1 := ⟨_, rfl⟩
  have HT1 := hid ht1.symm
  obtain ⟨qq, hqq⟩ : ∃ qq, qq = n / R := ⟨_, rfl⟩
  have HQQ := hid hqq
  have hR1 := hbd.2.2.1
  have hR2 := hbd.2.2.2.1
  clear ht8 ht1 hqq 
  clear hbd
  go_enter Try.func25, Try.ntmps25
  go_wp2_with fail
  refine (RThere_any base R lim n cap _ hn hbn p 1 hp (by decide) _).mono ?_
  rw [HT1.out]
  rintro e w1 ⟨rfl, hK⟩
  have hL := (Loc.new w (.slice (adr mo) n cap) base R lim (.int .i64 kind) (.int .u64 (p : Int)) (.int .u64 (q : Int)) (.int .u64 (N : Int)) (.bool true) (.int .u64 (V : Int)) (.bool deny) (.int .i64 count) (.slice da dm dc)).keep hK
  have hKw := (Loc.newK w _ _ _).trans (U := none') hK (fun _ _ x => x) (fun _ _ x => x)
  have HS1 := hid (HS0.out.keep hKw)
  have HK1 := hid (hKw.mono (T := S3 b ao mo) (fun _ _ x => x.elim))
  have HZ1 := hid (show w.heap.size + 3 ≤ w1.heap.size from (Array.getElem?_eq_some_iff.1 hL.r).1)
  obtain ⟨a0, a1, a2, a3⟩ := hL.ta
  obtain ⟨o0, o1, o2, o3, o4, o5, o6, o7, o8⟩ := hL.to
  have HL1 := hid hL
  clear hL hK hKw
  go_wp2_with fail
  refine (RThere_any base R lim n cap _ hn hbn p 8 hp (by decide) _).mono ?_
  rw [HT8.out]
  rintro e w2 ⟨rfl, hK⟩
  have hL := HL1.out.keep hK
  have HK2 := hid (HK1.out.trans (U := S3 b ao mo) hK (fun _ _ x => x) (fun _ _ x => x.elim))
  have HS2 := hid (HS1.out.keep hK)
  clear a0 a1 a2 a3 o0 o1 o2 o3 o4 o5 o6 o7 o8
  obtain ⟨a0, a1, a2, a3⟩ := hL.ta
  obtain ⟨o0, o1, o2, o3, o4, o5, o6, o7, o8⟩ := hL.to
  have HL2 := hid hL
  clear hL hK HL1 HK1
  obtain ⟨r0, r1, r2, r3, z0, z1, z2, z3⟩ := HL2.out.tr
  go_wp2
  go_region_held3 (fun w' => w'.cell? ⟨w.heap.size, 0, none⟩ = some (.int .u64 (base : Int)) ∧ w'.cell? ⟨w.heap.size, 1, none⟩ = some (.int .u64 (R : Int)) ∧ w'.cell? ⟨w.heap.size, 2, none⟩ = some (.int .i64 (lim : Int)) ∧ w'.cell? ⟨w.heap.size, 3, none⟩ = some (.slice (adr mo) n cap)) (first | exact ⟨a0, a1, a2, a3⟩ | exact ⟨set4_cellN (by omega) a0, set4_cellN (by omega) a1, set4_cellN (by omega) a2, set4_cellN (by omega) a3⟩) (first | (go_at_call 23; refine (regions_any b ao base R lim n f _ (HS2.out.s.keep (Kept.refl none' w2).drew)).mono ?_; rw [← HQQ.out]; rintro e w3 ⟨rfl, m3, hw3⟩; have hK3 : Kept none' w2 w3 := hw3 ▸ ((Kept.refl none' w2).drew).drewN m3; have hL3 := HL2.out.keep hK3; obtain ⟨a0, a1, a2, a3⟩ := hL3.ta; have HK3 := hid hK3; clear hK3 hL3 hw3) | (go_at_call 27; refine (RRegions_any base R lim n cap _ hR1 hR2 hn _).mono ?_; rw [← HQQ.out]; rintro e w4 ⟨rfl, hK4⟩; have HK4 := hid (HK3.out.trans (U := none') hK4 (fun _ _ x => x) (fun _ _ x => x)); have hL4 := HL2.out.keep HK4.out; obtain ⟨a0, a1, a2, a3⟩ := hL4.ta; clear hK4 hL4) | (go_at_call 13; refine (end_any b ao base R lim n f _ (HS2.out.s.keep HK4.out)).mono ?_; rintro e w5 ⟨rfl, m5, hw5⟩; have hK5 : Kept none' w2 w5 := hw5 ▸ HK4.out.drewN m5; have hL5 := HL2.out.keep hK5; obtain ⟨a0, a1, a2, a3⟩ := hL5.ta; have HK5 := hid hK5; clear hK5 hL5 hw5) | (go_at_call 26; refine (REnd_any base R lim n cap _ hn hbn _).mono ?_; rintro e w6 ⟨rfl, hK6⟩; have HK6 := hid (HK5.out.trans (U := none') hK6 (fun _ _ x => x) (fun _ _ x => x)); have hL6 := HL2.out.keep HK6.out; obtain ⟨a0, a1, a2, a3⟩ := hL6.ta; obtain ⟨r0, r1, r2, r3, z0, z1, z2, z3⟩ := hL6.tr; clear hK6 hL6))
  all_goals go_wp2
  all_goals exact ⟨rfl, .tuple #[.agg #[.int .u64 (base : Int), .int .u64 (R : Int), .int .i64 (lim : Int), .slice (adr mo) n cap], .bool true], by simp [results, Try.results25, go_sem, r0, r1, r2, r3], ao, mo, n, cap, f, rfl, post_mk H0.out (HS2.out.keep HK6.out) (HK2.out.trans (U := S3 b ao mo) HK6.out (fun _ _ x => x) (fun _ _ x => x.elim)) (fun x e => Or.inl e) _ _ _ _⟩

end Go.Proofs.Ytanfdpangcgdhaa
