/- MemPlays: croftlaw2.played, Commit, Decommit. -/
import Derived.Test.YtanfdpangcgdhaaPlayA
namespace Go.Proofs.Ytanfdpangcgdhaa
open Go.RowKit
set_option linter.unusedVariables false

theorem yboxS_f {w1 w2 : World} {base R lim s c : Nat} {mv : Option Addr} {S : Nat → Prop} (hK : Kept S (w1.alloc (.cells #[.int .u64 (base : Int), .int .u64 (R : Int), .int .i64 (lim : Int), .slice mv s c] 50)).drew w2) (hS : ¬ S w1.heap.size) :
    w2.cell? ⟨w1.heap.size, 0, none⟩ = some (.int .u64 (base : Int)) ∧ w2.cell? ⟨w1.heap.size, 1, none⟩ = some (.int .u64 (R : Int)) ∧ w2.cell? ⟨w1.heap.size, 2, none⟩ = some (.int .i64 (lim : Int)) ∧ w2.cell? ⟨w1.heap.size, 3, none⟩ = some (.slice mv s c) := by
  have hy := (hK.block w1.heap.size (by simp) hS).trans (heap_new w1 _)
  refine ⟨?_, ?_, ?_, ?_⟩ <;> simp [World.cell?, hy]
theorem ybox_f {w1 w2 : World} {base R lim s c : Nat} {mv : Option Addr} (hK : Kept none' (w1.alloc (.cells #[.int .u64 (base : Int), .int .u64 (R : Int), .int .i64 (lim : Int), .slice mv s c] 50)).drew w2) :
    w2.cell? ⟨w1.heap.size, 0, none⟩ = some (.int .u64 (base : Int)) ∧ w2.cell? ⟨w1.heap.size, 1, none⟩ = some (.int .u64 (R : Int)) ∧ w2.cell? ⟨w1.heap.size, 2, none⟩ = some (.int .i64 (lim : Int)) ∧ w2.cell? ⟨w1.heap.size, 3, none⟩ = some (.slice mv s c) := yboxS_f hK (fun x => x)

set_option maxRecDepth 100000 in
set_option maxHeartbeats 4000000 in
theorem played_commit_deny_f (b base R lim n cap P Q N V p q dm dc : Nat) (ao mo : Option Nat) (f : Nat → Nat) (deny : Bool) (count : Int) (da : Option Addr) (hpw : IntKind.u64.wrap ((base : Int) + (P : Int)) = (p : Int)) (hqw : IntKind.u64.wrap ((base : Int) + (Q : Int)) = (q : Int)) (hp : p < 18446744073709551616) (hq : q < 18446744073709551616) (hP : P < 18446744073709551616) (hQ : Q < 18446744073709551616) (hN : N < 18446744073709551616) (hV : V < 18446744073709551616) (w : World) (h : St w b ao mo base R lim n cap f) (hd : deny = true) :
    Calls Try.prog 25 #[.pointer (some ⟨b, 0, none⟩), .agg #[.int .u64 (base : Int), .int .u64 (R : Int), .int .i64 (lim : Int), .slice (adr mo) n cap], .agg #[.int .i64 1, .int .u64 (P : Int), .int .u64 (Q : Int), .int .u64 (N : Int), .bool false, .int .u64 (V : Int), .bool deny, .int .i64 count, .slice da dm dc]] w (Post w b ao mo base R lim) := by
  have hbd := h.bd
  have hn := hbd.1
  have hbn := hbd.2.1
  have H0 := hid h.lt
  have HS0 := hid h
  clear h
  subst hd
  clear hbd
  go_enter Try.func25, Try.ntmps25
  go_wp2_with fail
  refine (RCommit_deny base R lim n cap _ _).mono ?_
  rintro e w1 ⟨rfl, hK⟩
  have hL := (Loc.new w (.slice (adr mo) n cap) base R lim (.int .i64 1) (.int .u64 (P : Int)) (.int .u64 (Q : Int)) (.int .u64 (N : Int)) (.bool false) (.int .u64 (V : Int)) (.bool true) (.int .i64 count) (.slice da dm dc)).keep hK
  have hKw := (Loc.newK w _ _ _).trans (U := none') hK (fun _ _ x => x) (fun _ _ x => x)
  have HS1 := hid (HS0.out.keep hKw)
  have HK1 := hid (hKw.mono (T := S3 b ao mo) (fun _ _ x => x.elim))
  have HZ1 := hid (show w.heap.size + 3 ≤ w1.heap.size from (Array.getElem?_eq_some_iff.1 hL.r).1)
  obtain ⟨a0, a1, a2, a3⟩ := hL.ta
  obtain ⟨o0, o1, o2, o3, o4, o5, o6, o7, o8⟩ := hL.to
  have HL1 := hid hL
  clear hL hK hKw
  have hA := (Kept.refl none' w1).alloc (.cells #[.int .u64 (base : Int), .int .u64 (R : Int), .int .i64 (lim : Int), .slice (adr mo) n cap] 50)
  have hLA := HL1.out.keep hA
  obtain ⟨q0, q1, q2, q3⟩ := hLA.ta
  obtain ⟨v0, v1, v2, v3, v4, v5, v6, v7, v8⟩ := hLA.to
  clear hLA
  go_wp2_with fail
  refine (Commit_deny b ao base R lim n f _ (HS1.out.s.keep hA)).mono ?_
  rintro e w2 ⟨rfl, hK⟩
  have hK' := hA.trans (U := none') hK (fun _ _ x => x) (fun _ _ x => x)
  have hy := (hK.block w1.heap.size (by simp) (fun x => x)).trans (heap_new w1 _)
  have y0 : w2.cell? ⟨w1.heap.size, 0, none⟩ = some (.int .u64 (base : Int)) := by simp [World.cell?, hy]
  have y1 : w2.cell? ⟨w1.heap.size, 1, none⟩ = some (.int .u64 (R : Int)) := by simp [World.cell?, hy]
  have y2 : w2.cell? ⟨w1.heap.size, 2, none⟩ = some (.int .i64 (lim : Int)) := by simp [World.cell?, hy]
  have y3 : w2.cell? ⟨w1.heap.size, 3, none⟩ = some (.slice (adr mo) n cap) := by simp [World.cell?, hy]
  have hL := HL1.out.keep hK'
  have HK2 := hid (HK1.out.trans (U := S3 b ao mo) hK' (fun _ _ x => x) (fun _ _ x => x.elim))
  have HS2 := hid (HS1.out.keep hK')
  clear a0 a1 a2 a3 o0 o1 o2 o3 o4 o5 o6 o7 o8 q0 q1 q2 q3 v0 v1 v2 v3 v4 v5 v6 v7 v8
  obtain ⟨a0, a1, a2, a3⟩ := hL.ta
  obtain ⟨o0, o1, o2, o3, o4, o5, o6, o7, o8⟩ := hL.to
  obtain ⟨r0, r1, r2, r3, z0, z1, z2, z3⟩ := hL.tr
  clear hL hK hK' hA hy
  go_wp2
  all_goals exact ⟨rfl, .tuple #[.agg #[.int .u64 (base : Int), .int .u64 (R : Int), .int .i64 (lim : Int), .slice (adr mo) n cap], .bool true], by simp [results, Try.results25, go_sem, r0, r1, r2, r3], ao, mo, n, cap, f, rfl, post_mk H0.out HS2.out HK2.out (fun x e => Or.inl e) _ _ _ _⟩

set_option maxRecDepth 100000 in
set_option maxHeartbeats 4000000 in
theorem played_commit_full_f (b base R lim n cap P Q N V p q dm dc : Nat) (ao mo : Option Nat) (f : Nat → Nat) (deny : Bool) (count : Int) (da : Option Addr) (hpw : IntKind.u64.wrap ((base : Int) + (P : Int)) = (p : Int)) (hqw : IntKind.u64.wrap ((base : Int) + (Q : Int)) = (q : Int)) (hp : p < 18446744073709551616) (hq : q < 18446744073709551616) (hP : P < 18446744073709551616) (hQ : Q < 18446744073709551616) (hN : N < 18446744073709551616) (hV : V < 18446744073709551616) (w : World) (h : St w b ao mo base R lim n cap f) (hd : deny = false) (hfull : n = lim * R) :
    Calls Try.prog 25 #[.pointer (some ⟨b, 0, none⟩), .agg #[.int .u64 (base : Int), .int .u64 (R : Int), .int .i64 (lim : Int), .slice (adr mo) n cap], .agg #[.int .i64 1, .int .u64 (P : Int), .int .u64 (Q : Int), .int .u64 (N : Int), .bool false, .int .u64 (V : Int), .bool deny, .int .i64 count, .slice da dm dc]] w (Post w b ao mo base R lim) := by
  have hbd := h.bd
  have hn := hbd.1
  have hbn := hbd.2.1
  have H0 := hid h.lt
  have HS0 := hid h
  clear h
  subst hd
  have hlf : lim ≤ n / R := by rw [hfull, div_k lim R hbd.2.2.1]; exact Nat.le_refl _
  have HF := hid hfull
  have HLF := hid hlf
  have hR1 := hbd.2.2.1
  have hR2 := hbd.2.2.2.1
  clear hfull hlf
  clear hbd
  go_enter Try.func25, Try.ntmps25
  go_wp2_with fail
  refine (RCommit_full base R lim n cap _ hR1 hR2 hn HLF.out _).mono ?_
  rintro e w1 ⟨rfl, hK⟩
  have hL := (Loc.new w (.slice (adr mo) n cap) base R lim (.int .i64 1) (.int .u64 (P : Int)) (.int .u64 (Q : Int)) (.int .u64 (N : Int)) (.bool false) (.int .u64 (V : Int)) (.bool false) (.int .i64 count) (.slice da dm dc)).keep hK
  have hKw := (Loc.newK w _ _ _).trans (U := none') hK (fun _ _ x => x) (fun _ _ x => x)
  have HS1 := hid (HS0.out.keep hKw)
  have HK1 := hid (hKw.mono (T := S3 b ao mo) (fun _ _ x => x.elim))
  have HZ1 := hid (show w.heap.size + 3 ≤ w1.heap.size from (Array.getElem?_eq_some_iff.1 hL.r).1)
  obtain ⟨a0, a1, a2, a3⟩ := hL.ta
  obtain ⟨o0, o1, o2, o3, o4, o5, o6, o7, o8⟩ := hL.to
  have HL1 := hid hL
  clear hL hK hKw
  have hA := (Kept.refl none' w1).alloc (.cells #[.int .u64 (base : Int), .int .u64 (R : Int), .int .i64 (lim : Int), .slice (adr mo) n cap] 50)
  have hLA := HL1.out.keep hA
  obtain ⟨q0, q1, q2, q3⟩ := hLA.ta
  obtain ⟨v0, v1, v2, v3, v4, v5, v6, v7, v8⟩ := hLA.to
  clear hLA
  go_wp2_with fail
  refine (Commit_full b ao base R lim n f _ (HS1.out.s.keep hA) HF.out).mono ?_
  rintro e w2 ⟨rfl, hK⟩
  have hK' := hA.trans (U := none') hK (fun _ _ x => x) (fun _ _ x => x)
  have hy := (hK.block w1.heap.size (by simp) (fun x => x)).trans (heap_new w1 _)
  have y0 : w2.cell? ⟨w1.heap.size, 0, none⟩ = some (.int .u64 (base : Int)) := by simp [World.cell?, hy]
  have y1 : w2.cell? ⟨w1.heap.size, 1, none⟩ = some (.int .u64 (R : Int)) := by simp [World.cell?, hy]
  have y2 : w2.cell? ⟨w1.heap.size, 2, none⟩ = some (.int .i64 (lim : Int)) := by simp [World.cell?, hy]
  have y3 : w2.cell? ⟨w1.heap.size, 3, none⟩ = some (.slice (adr mo) n cap) := by simp [World.cell?, hy]
  have hL := HL1.out.keep hK'
  have HK2 := hid (HK1.out.trans (U := S3 b ao mo) hK' (fun _ _ x => x) (fun _ _ x => x.elim))
  have HS2 := hid (HS1.out.keep hK')
  clear a0 a1 a2 a3 o0 o1 o2 o3 o4 o5 o6 o7 o8 q0 q1 q2 q3 v0 v1 v2 v3 v4 v5 v6 v7 v8
  obtain ⟨a0, a1, a2, a3⟩ := hL.ta
  obtain ⟨o0, o1, o2, o3, o4, o5, o6, o7, o8⟩ := hL.to
  obtain ⟨r0, r1, r2, r3, z0, z1, z2, z3⟩ := hL.tr
  clear hL hK hK' hA hy
  go_wp2
  all_goals exact ⟨rfl, .tuple #[.agg #[.int .u64 (base : Int), .int .u64 (R : Int), .int .i64 (lim : Int), .slice (adr mo) n cap], .bool true], by simp [results, Try.results25, go_sem, r0, r1, r2, r3], ao, mo, n, cap, f, rfl, post_mk H0.out HS2.out HK2.out (fun x e => Or.inl e) _ _ _ _⟩

set_option maxRecDepth 100000 in
set_option maxHeartbeats 4000000 in
theorem played_commit_ok_f (b base R lim n cap P Q N V p q dm dc : Nat) (ao mo : Option Nat) (f : Nat → Nat) (deny : Bool) (count : Int) (da : Option Addr) (hpw : IntKind.u64.wrap ((base : Int) + (P : Int)) = (p : Int)) (hqw : IntKind.u64.wrap ((base : Int) + (Q : Int)) = (q : Int)) (hp : p < 18446744073709551616) (hq : q < 18446744073709551616) (hP : P < 18446744073709551616) (hQ : Q < 18446744073709551616) (hN : N < 18446744073709551616) (hV : V < 18446744073709551616) (w : World) (h : St w b ao mo base R lim n cap f) (hd : deny = false) (hkn : ∃ k, n = k * R ∧ k + 1 ≤ lim) :
    Calls Try.prog 25 #[.pointer (some ⟨b, 0, none⟩), .agg #[.int .u64 (base : Int), .int .u64 (R : Int), .int .i64 (lim : Int), .slice (adr mo) n cap], .agg #[.int .i64 1, .int .u64 (P : Int), .int .u64 (Q : Int), .int .u64 (N : Int), .bool false, .int .u64 (V : Int), .bool deny, .int .i64 count, .slice da dm dc]] w (Post w b ao mo base R lim) := by
  have hbd := h.bd
  have hn := hbd.1
  have hbn := hbd.2.1
  have H0 := hid h.lt
  have HS0 := hid h
  clear h
  subst hd
  have hnR : n + R ≤ 4194304 := by
    obtain ⟨k, e, hk⟩ := hkn
    have h1 := HS0.out.s.cfg.lr
    have h2 : (k + 1) * R ≤ lim * R := Nat.mul_le_mul_right _ hk
    rw [Nat.add_mul, Nat.one_mul] at h2
    omega
  have hlt : n / R < lim := by
    obtain ⟨k, e, hk⟩ := hkn
    rw [e, div_k k R hbd.2.2.1]
    omega
  have HKN := hid hkn
  have HLT := hid hlt
  have hR1 := hbd.2.2.1
  have hR2 := hbd.2.2.2.1
  clear hkn hlt
  clear hbd
  go_enter Try.func25, Try.ntmps25
  go_wp2_with fail
  refine (RCommit_ok base R lim n cap mo f hR1 hR2 hnR hbn HLT.out _ (HS0.out.keep (Loc.newK w _ _ _)).r).mono ?_
  rintro e w1 ⟨h1, rfl, hM, hK, hz⟩
  have hL := (Loc.new w (.slice (adr mo) n cap) base R lim (.int .i64 1) (.int .u64 (P : Int)) (.int .u64 (Q : Int)) (.int .u64 (N : Int)) (.bool false) (.int .u64 (V : Int)) (.bool false) (.int .i64 count) (.slice da dm dc)).keep hK
  have hKw := (Loc.newK w _ _ _).trans (U := none') hK (fun _ _ x => x) (fun _ _ x => x)
  have HS1 := hid (HS0.out.keep hKw)
  have HK1 := hid (hKw.mono (T := S3 b ao mo) (fun _ _ x => x.elim))
  have HZ1 := hid (show w.heap.size + 3 ≤ w1.heap.size from (Array.getElem?_eq_some_iff.1 hL.r).1)
  have HM1 := hid hM
  have HH1 := hid (show w.heap.size + 3 ≤ h1 from by simp at hz; omega)
  have HH2 := hid (show h1 < w1.heap.size from hM.lt)
  clear hM hz
  obtain ⟨a0, a1, a2, a3⟩ := hL.ta
  obtain ⟨o0, o1, o2, o3, o4, o5, o6, o7, o8⟩ := hL.to
  have HL1 := hid hL
  clear hL hK hKw
  obtain ⟨s, hs⟩ : ∃ s, s = n + R := ⟨_, rfl⟩
  rw [← hs] at HM1 ⊢
  have HSUM := hid hs
  clear hs
  have hA := (Kept.refl none' w1).alloc (.cells #[.int .u64 (base : Int), .int .u64 (R : Int), .int .i64 (lim : Int), .slice (some ⟨h1, 0, none⟩) s s] 50)
  have hLA := HL1.out.keep hA
  obtain ⟨q0, q1, q2, q3⟩ := hLA.ta
  obtain ⟨v0, v1, v2, v3, v4, v5, v6, v7, v8⟩ := hLA.to
  clear hLA
  go_wp2_with fail
  refine (Commit_ok b ao base R lim n f _ (HS1.out.s.keep hA) HKN.out).mono ?_
  rintro e w2 ⟨rfl, g2, hS, hK, hg⟩
  have hK' := hA.trans (U := own b ao) hK (fun _ _ x => x.elim) (fun _ _ x => x)
  have hbl : ∀ x, own b ao x → x < w.heap.size := fun x e => H0.out x (Or.inl e)
  have hz1 := HZ1.out
  have hh1 := HH1.out
  have hh2 := HH2.out
  have hy := (hK.block w1.heap.size (by simp) (fun e => by have := hbl _ e; omega)).trans (heap_new w1 _)
  have y0 : w2.cell? ⟨w1.heap.size, 0, none⟩ = some (.int .u64 (base : Int)) := by simp [World.cell?, hy]
  have y1 : w2.cell? ⟨w1.heap.size, 1, none⟩ = some (.int .u64 (R : Int)) := by simp [World.cell?, hy]
  have y2 : w2.cell? ⟨w1.heap.size, 2, none⟩ = some (.int .i64 (lim : Int)) := by simp [World.cell?, hy]
  have y3 : w2.cell? ⟨w1.heap.size, 3, none⟩ = some (.slice (some ⟨h1, 0, none⟩) s s) := by simp [World.cell?, hy]
  have hL := HL1.out.kept hK' (fun x e => Or.inl (hbl x e))
  have HK2 := hid (HK1.out.trans (U := S3 b ao mo) hK' (fun _ _ x => x) (fun _ _ x => Or.inl x))
  have hg2 : ao = some g2 ∨ w1.heap.size + 1 ≤ g2 := hg.imp id (fun h => by simpa using h)
  have HS2 := hid (show St w2 b (some g2) (some h1) base R lim s s (more f n) from ⟨by rw [HSUM.out]; exact hS, MemAt.kept HM1.out hK' (fun e => by have := hbl _ e; omega), fun h e => by
    injection e with e
    subst e
    rintro (e | e)
    · have := hbl b (Or.inl rfl); omega
    · injection e with e
      rcases hg2 with e2 | e2
      · have := hbl g2 (Or.inr e2); omega
      · omega⟩)
  have HFR := hid (show ∀ x, S3 b (some g2) (some h1) x → S3 b ao mo x ∨ w.heap.size + 3 ≤ x from fun x e => by
    rcases e with (e | e) | e
    · exact Or.inl (Or.inl (Or.inl e))
    · injection e with e
      subst e
      rcases hg2 with e2 | e2
      · exact Or.inl (Or.inl (Or.inr e2))
      · exact Or.inr (by omega)
    · injection e with e
      subst e
      exact Or.inr hh1)
  clear a0 a1 a2 a3 o0 o1 o2 o3 o4 o5 o6 o7 o8 q0 q1 q2 q3 v0 v1 v2 v3 v4 v5 v6 v7 v8
  obtain ⟨a0, a1, a2, a3⟩ := hL.ta
  obtain ⟨o0, o1, o2, o3, o4, o5, o6, o7, o8⟩ := hL.to
  obtain ⟨r0, r1, r2, r3, z0, z1, z2, z3⟩ := hL.tr
  clear hL hK hK' hA hy hS hg hg2 hbl hz1 hh1 hh2
  go_wp2
  all_goals exact ⟨rfl, .tuple #[.agg #[.int .u64 (base : Int), .int .u64 (R : Int), .int .i64 (lim : Int), .slice (some ⟨h1, 0, none⟩) s s], .bool true], by simp [results, Try.results25, go_sem, r0, r1, r2, r3], some g2, some h1, s, s, (more f n), rfl, post_mk H0.out HS2.out HK2.out HFR.out _ _ _ _⟩

set_option maxRecDepth 100000 in
set_option maxHeartbeats 4000000 in
theorem played_decommit_bad_f (b base R lim n cap P Q N V p q dm dc : Nat) (ao mo : Option Nat) (f : Nat → Nat) (deny : Bool) (count : Int) (da : Option Addr) (hpw : IntKind.u64.wrap ((base : Int) + (P : Int)) = (p : Int)) (hqw : IntKind.u64.wrap ((base : Int) + (Q : Int)) = (q : Int)) (hp : p < 18446744073709551616) (hq : q < 18446744073709551616) (hP : P < 18446744073709551616) (hQ : Q < 18446744073709551616) (hN : N < 18446744073709551616) (hV : V < 18446744073709551616) (w : World) (h : St w b ao mo base R lim n cap f) (hc1 : -9223372036854775808 ≤ count) (hc2 : count ≤ 9223372036854775807) (hc : count < 0 ∨ ((n / R : Nat) : Int) < count) :
    Calls Try.prog 25 #[.pointer (some ⟨b, 0, none⟩), .agg #[.int .u64 (base : Int), .int .u64 (R : Int), .int .i64 (lim : Int), .slice (adr mo) n cap], .agg #[.int .i64 2, .int .u64 (P : Int), .int .u64 (Q : Int), .int .u64 (N : Int), .bool false, .int .u64 (V : Int), .bool deny, .int .i64 count, .slice da dm dc]] w (Post w b ao mo base R lim) := by
  have hbd := h.bd
  have hn := hbd.1
  have hbn := hbd.2.1
  have H0 := hid h.lt
  have HS0 := hid h
  clear h
  have HC := hid hc
  have hR1 := hbd.2.2.1
  have hR2 := hbd.2.2.2.1
  clear hc
  clear hbd
  go_enter Try.func25, Try.ntmps25
  go_wp2_with fail
  refine (RDecommit_bad base R lim n cap _ hR1 hR2 hn count hc1 hc2 HC.out _).mono ?_
  rintro e w1 ⟨rfl, hK⟩
  have hL := (Loc.new w (.slice (adr mo) n cap) base R lim (.int .i64 2) (.int .u64 (P : Int)) (.int .u64 (Q : Int)) (.int .u64 (N : Int)) (.bool false) (.int .u64 (V : Int)) (.bool deny) (.int .i64 count) (.slice da dm dc)).keep hK
  have hKw := (Loc.newK w _ _ _).trans (U := none') hK (fun _ _ x => x) (fun _ _ x => x)
  have HS1 := hid (HS0.out.keep hKw)
  have HK1 := hid (hKw.mono (T := S3 b ao mo) (fun _ _ x => x.elim))
  have HZ1 := hid (show w.heap.size + 3 ≤ w1.heap.size from (Array.getElem?_eq_some_iff.1 hL.r).1)
  obtain ⟨a0, a1, a2, a3⟩ := hL.ta
  obtain ⟨o0, o1, o2, o3, o4, o5, o6, o7, o8⟩ := hL.to
  have HL1 := hid hL
  clear hL hK hKw
  have hA := (Kept.refl none' w1).alloc (.cells #[.int .u64 (base : Int), .int .u64 (R : Int), .int .i64 (lim : Int), .slice (adr mo) n cap] 50)
  have HA := hid hA
  have HSA := hid (HS1.out.s.keep hA)
  have hLA := HL1.out.keep hA
  obtain ⟨q0, q1, q2, q3⟩ := hLA.ta
  obtain ⟨v0, v1, v2, v3, v4, v5, v6, v7, v8⟩ := hLA.to
  clear hLA
  clear hA
  go_wp2
  go_region_with ((go_at_call 21; refine (Decommit_bad b ao base R lim n f count hc1 hc2 _ (HSA.out.keep (Kept.refl none' _).drew) HC.out).mono ?_; rintro e w2 ⟨rfl, hK⟩; have hK2 := HA.out.trans (U := none') (show Kept none' (w1.alloc (.cells #[.int .u64 (base : Int), .int .u64 (R : Int), .int .i64 (lim : Int), .slice (adr mo) n cap] 50)) w2 from ⟨hK.os, hK.tape, hK.output, hK.size, hK.block⟩) (fun _ _ x => x) (fun _ _ x => x); obtain ⟨y0, y1, y2, y3⟩ := ybox_f hK; have hL := HL1.out.keep hK2; obtain ⟨r0, r1, r2, r3, z0, z1, z2, z3⟩ := hL.tr; obtain ⟨o0, o1, o2, o3, o4, o5, o6, o7, o8⟩ := hL.to; have HK2 := hid hK2; clear hL hK hK2))
  all_goals go_wp2
  all_goals exact ⟨rfl, .tuple #[.agg #[.int .u64 (base : Int), .int .u64 (R : Int), .int .i64 (lim : Int), .slice (adr mo) n cap], .bool true], by simp [results, Try.results25, go_sem, r0, r1, r2, r3], ao, mo, n, cap, f, rfl, post_mk H0.out (HS1.out.keep HK2.out) (HK1.out.trans (U := S3 b ao mo) HK2.out (fun _ _ x => x) (fun _ _ x => x.elim)) (fun x e => Or.inl e) _ _ _ _⟩

set_option maxRecDepth 100000 in
set_option maxHeartbeats 4000000 in
theorem played_decommit_ok_f (b base R lim n cap P Q N V p q dm dc : Nat) (ao mo : Option Nat) (c : Nat) (f : Nat → Nat) (deny : Bool) (count : Int) (da : Option Addr) (hpw : IntKind.u64.wrap ((base : Int) + (P : Int)) = (p : Int)) (hqw : IntKind.u64.wrap ((base : Int) + (Q : Int)) = (q : Int)) (hp : p < 18446744073709551616) (hq : q < 18446744073709551616) (hP : P < 18446744073709551616) (hQ : Q < 18446744073709551616) (hN : N < 18446744073709551616) (hV : V < 18446744073709551616) (w : World) (h : St w b ao mo base R lim n cap f) (hcc : count = (c : Int)) (hc : c ≤ n / R) :
    Calls Try.prog 25 #[.pointer (some ⟨b, 0, none⟩), .agg #[.int .u64 (base : Int), .int .u64 (R : Int), .int .i64 (lim : Int), .slice (adr mo) n cap], .agg #[.int .i64 2, .int .u64 (P : Int), .int .u64 (Q : Int), .int .u64 (N : Int), .bool false, .int .u64 (V : Int), .bool deny, .int .i64 count, .slice da dm dc]] w (Post w b ao mo base R lim) := by
  have hbd := h.bd
  have hn := hbd.1
  have hbn := hbd.2.1
  have H0 := hid h.lt
  have HS0 := hid h
  clear h
  subst hcc
  have HC := hid hc
  have hR1 := hbd.2.2.1
  have hR2 := hbd.2.2.2.1
  clear hc
  clear hbd
  go_enter Try.func25, Try.ntmps25
  go_wp2_with fail
  refine (RDecommit_ok base R lim n cap mo f hR1 hR2 hn c HC.out _ (HS0.out.keep (Loc.newK w _ _ _)).r).mono ?_
  rintro e w1 ⟨h1, rfl, hM, hK, hz⟩
  have hL := (Loc.new w (.slice (adr mo) n cap) base R lim (.int .i64 2) (.int .u64 (P : Int)) (.int .u64 (Q : Int)) (.int .u64 (N : Int)) (.bool false) (.int .u64 (V : Int)) (.bool deny) (.int .i64 (c : Int)) (.slice da dm dc)).keep hK
  have hKw := (Loc.newK w _ _ _).trans (U := none') hK (fun _ _ x => x) (fun _ _ x => x)
  have HS1 := hid (HS0.out.keep hKw)
  have HK1 := hid (hKw.mono (T := S3 b ao mo) (fun _ _ x => x.elim))
  have HZ1 := hid (show w.heap.size + 3 ≤ w1.heap.size from (Array.getElem?_eq_some_iff.1 hL.r).1)
  have HM1 := hid hM
  have HH1 := hid (show w.heap.size + 3 ≤ h1 from by simp at hz; omega)
  clear hM hz
  obtain ⟨a0, a1, a2, a3⟩ := hL.ta
  obtain ⟨o0, o1, o2, o3, o4, o5, o6, o7, o8⟩ := hL.to
  have HL1 := hid hL
  clear hL hK hKw
  obtain ⟨s, hs⟩ : ∃ s, s = n - c * R := ⟨_, rfl⟩
  rw [← hs] at HM1 ⊢
  have HSUM := hid hs
  clear hs
  have hA := (Kept.refl none' w1).alloc (.cells #[.int .u64 (base : Int), .int .u64 (R : Int), .int .i64 (lim : Int), .slice (some ⟨h1, 0, none⟩) s s] 50)
  have HA := hid hA
  have HSA := hid (HS1.out.s.keep hA)
  have hLA := HL1.out.keep hA
  obtain ⟨q0, q1, q2, q3⟩ := hLA.ta
  obtain ⟨v0, v1, v2, v3, v4, v5, v6, v7, v8⟩ := hLA.to
  clear hLA
  have HBL := hid (show ∀ x, own b ao x → x < w.heap.size from fun x e => H0.out x (Or.inl e))
  clear hA
  go_wp2
  go_region_with ((go_at_call 21; refine (Decommit_ok b ao base R lim n f c _ (HSA.out.keep (Kept.refl none' _).drew) HC.out).mono ?_; rintro e w2 ⟨rfl, hS, hK⟩; have hK2 := HA.out.trans (U := own b ao) (show Kept (own b ao) (w1.alloc (.cells #[.int .u64 (base : Int), .int .u64 (R : Int), .int .i64 (lim : Int), .slice (some ⟨h1, 0, none⟩) s s] 50)) w2 from ⟨hK.os, hK.tape, hK.output, hK.size, hK.block⟩) (fun _ _ x => x.elim) (fun _ _ x => x); obtain ⟨y0, y1, y2, y3⟩ := yboxS_f hK (fun e => by have := HBL.out _ e; have := HZ1.out; omega); have hL := HL1.out.kept hK2 (fun x e => Or.inl (HBL.out x e)); obtain ⟨r0, r1, r2, r3, z0, z1, z2, z3⟩ := hL.tr; obtain ⟨o0, o1, o2, o3, o4, o5, o6, o7, o8⟩ := hL.to; have HK2 := hid hK2; have HSS := hid hS; clear hL hK hK2 hS))
  all_goals go_wp2
  all_goals exact ⟨rfl, .tuple #[.agg #[.int .u64 (base : Int), .int .u64 (R : Int), .int .i64 (lim : Int), .slice (some ⟨h1, 0, none⟩) s s], .bool true], by simp [results, Try.results25, go_sem, r0, r1, r2, r3], ao, some h1, s, s, f, rfl, post_mk H0.out (show St w2 b ao (some h1) base R lim s s f from ⟨by rw [HSUM.out]; exact HSS.out, MemAt.kept HM1.out HK2.out (fun e => by have := HBL.out _ e; have := HH1.out; omega), fun h e => by
      injection e with e
      subst e
      intro e2
      have := HBL.out _ e2
      have := HH1.out
      omega⟩) (HK1.out.trans (U := S3 b ao mo) HK2.out (fun _ _ x => x) (fun _ _ x => Or.inl x)) (fun x e => by
      rcases e with e | e
      · exact Or.inl (Or.inl e)
      · injection e with e
        subst e
        exact Or.inr HH1.out) _ _ _ _⟩

end Go.Proofs.Ytanfdpangcgdhaa
