/- MemPlays: croftlaw2.played, the calls on many bytes. -/
import Derived.Test.YtanfdpangcgdhaaPlayL
import Derived.Deep.RegionHeld3
namespace Go.Proofs.Ytanfdpangcgdhaa
open Go.RowKit
set_option linter.unusedVariables false

set_option maxRecDepth 100000 in
set_option maxHeartbeats 4000000 in
theorem played_many_f (b base R lim n cap P Q N V p q dm dc : Nat) (ao mo : Option Nat) (f : Nat → Nat) (gg : Nat → Nat) (kind : Int) (deny : Bool) (count : Int) (da : Option Addr) (hpw : IntKind.u64.wrap ((base : Int) + (P : Int)) = (p : Int)) (hqw : IntKind.u64.wrap ((base : Int) + (Q : Int)) = (q : Int)) (hp : p < 18446744073709551616) (hq : q < 18446744073709551616) (hP : P < 18446744073709551616) (hQ : Q < 18446744073709551616) (hN : N < 18446744073709551616) (hV : V < 18446744073709551616) (w : World) (h : St w b ao mo base R lim n cap f) (hk7 : 7 ≤ kind) (hk10 : kind ≤ 10) (hdm : dm ≤ 9223372036854775807) (hd : Bytes w (.slice da dm dc) dm gg) (hs : 0 < dm → ∀ bl, (Value.slice da dm dc).ownBlock = some bl → ¬ S3 b ao mo bl) :
    Calls Try.prog 25 #[.pointer (some ⟨b, 0, none⟩), .agg #[.int .u64 (base : Int), .int .u64 (R : Int), .int .i64 (lim : Int), .slice (adr mo) n cap], .agg #[.int .i64 kind, .int .u64 (P : Int), .int .u64 (Q : Int), .int .u64 (N : Int), .bool false, .int .u64 (V : Int), .bool deny, .int .i64 count, .slice da dm dc]] w (Post w b ao mo base R lim) := by
  have hbd := h.bd
  have hn := hbd.1
  have hbn := hbd.2.1
  have H0 := hid h.lt
  have HS0 := hid h
  clear h
  have k1 : (kind == 1) = false := by rw [beq_eq_false_iff_ne]; omega
  have k2 : (kind == 2) = false := by rw [beq_eq_false_iff_ne]; omega
  have HD := hid hd
  have HSD := hid hs
  clear hd hs hbd
  go_enter Try.func25, Try.ntmps25
  go_wp2_with fail
  refine (many_any b base R lim n cap P Q N V p q dm dc ao mo f gg kind false deny count da hp hq hN hV _ (HS0.out.keep (Loc.newK w _ _ _)) hk7 hk10 hdm (HD.out.keep (Loc.newK w _ _ _)) HSD.out).mono ?_
  rintro e w1 ⟨ao', mo', n', cap', f', rfl, hS, hK, hfr⟩
  have hL := (Loc.new w (.slice (adr mo) n cap) base R lim (.int .i64 kind) (.int .u64 (P : Int)) (.int .u64 (Q : Int)) (.int .u64 (N : Int)) (.bool false) (.int .u64 (V : Int)) (.bool deny) (.int .i64 count) (.slice da dm dc)).kept hK (fun x e => Or.inl (H0.out x e))
  have HKW := hid ((Loc.newK w _ _ _).trans (U := S3 b ao mo) hK (fun _ _ x => x.elim) (fun _ _ x => x))
  have HFR := hid (show ∀ x, S3 b ao' mo' x → S3 b ao mo x ∨ w.heap.size + 3 ≤ x from fun x e => (hfr x e).imp id (fun h => by simp at h; omega))
  have HS1 := hid hS
  obtain ⟨r0, r1, r2, r3, z0, z1, z2, z3⟩ := hL.tr
  obtain ⟨mv, hmv⟩ : ∃ mv, mv = adr mo' := ⟨_, rfl⟩
  rw [← hmv]
  have HMV := hid hmv
  clear hL hK hfr hS hmv
  go_wp2
  exact ⟨rfl, .tuple #[.agg #[.int .u64 (base : Int), .int .u64 (R : Int), .int .i64 (lim : Int), .slice mv n' cap'], .bool true], by simp [results, Try.results25, go_sem, r0, r1, r2, r3], ao', mo', n', cap', f', by rw [HMV.out], post_mk H0.out HS1.out HKW.out HFR.out _ _ _ _⟩

set_option maxRecDepth 100000 in
set_option maxHeartbeats 4000000 in
theorem played_many_t (b base R lim n cap P Q N V p q dm dc : Nat) (ao mo : Option Nat) (f : Nat → Nat) (gg : Nat → Nat) (kind : Int) (deny : Bool) (count : Int) (da : Option Addr) (hpw : p = P) (hqw : q = Q) (hp : p < 18446744073709551616) (hq : q < 18446744073709551616) (hP : P < 18446744073709551616) (hQ : Q < 18446744073709551616) (hN : N < 18446744073709551616) (hV : V < 18446744073709551616) (w : World) (h : St w b ao mo base R lim n cap f) (hk7 : 7 ≤ kind) (hk10 : kind ≤ 10) (hdm : dm ≤ 9223372036854775807) (hd : Bytes w (.slice da dm dc) dm gg) (hs : 0 < dm → ∀ bl, (Value.slice da dm dc).ownBlock = some bl → ¬ S3 b ao mo bl) :
    Calls Try.prog 25 #[.pointer (some ⟨b, 0, none⟩), .agg #[.int .u64 (base : Int), .int .u64 (R : Int), .int .i64 (lim : Int), .slice (adr mo) n cap], .agg #[.int .i64 kind, .int .u64 (P : Int), .int .u64 (Q : Int), .int .u64 (N : Int), .bool true, .int .u64 (V : Int), .bool deny, .int .i64 count, .slice da dm dc]] w (Post w b ao mo base R lim) := by
  have hbd := h.bd
  have hn := hbd.1
  have hbn := hbd.2.1
  have H0 := hid h.lt
  have HS0 := hid h
  clear h
  subst hpw hqw
  have k1 : (kind == 1) = false := by rw [beq_eq_false_iff_ne]; omega
  have k2 : (kind == 2) = false := by rw [beq_eq_false_iff_ne]; omega
  have HD := hid hd
  have HSD := hid hs
  clear hd hs hbd
  go_enter Try.func25, Try.ntmps25
  go_wp2_with fail
  refine (many_any b base R lim n cap p q N V p q dm dc ao mo f gg kind true deny count da hp hq hN hV _ (HS0.out.keep (Loc.newK w _ _ _)) hk7 hk10 hdm (HD.out.keep (Loc.newK w _ _ _)) HSD.out).mono ?_
  rintro e w1 ⟨ao', mo', n', cap', f', rfl, hS, hK, hfr⟩
  have hL := (Loc.new w (.slice (adr mo) n cap) base R lim (.int .i64 kind) (.int .u64 (p : Int)) (.int .u64 (q : Int)) (.int .u64 (N : Int)) (.bool true) (.int .u64 (V : Int)) (.bool deny) (.int .i64 count) (.slice da dm dc)).kept hK (fun x e => Or.inl (H0.out x e))
  have HKW := hid ((Loc.newK w _ _ _).trans (U := S3 b ao mo) hK (fun _ _ x => x.elim) (fun _ _ x => x))
  have HFR := hid (show ∀ x, S3 b ao' mo' x → S3 b ao mo x ∨ w.heap.size + 3 ≤ x from fun x e => (hfr x e).imp id (fun h => by simp at h; omega))
  have HS1 := hid hS
  obtain ⟨r0, r1, r2, r3, z0, z1, z2, z3⟩ := hL.tr
  obtain ⟨mv, hmv⟩ : ∃ mv, mv = adr mo' := ⟨_, rfl⟩
  rw [← hmv]
  have HMV := hid hmv
  clear hL hK hfr hS hmv
  go_wp2
  exact ⟨rfl, .tuple #[.agg #[.int .u64 (base : Int), .int .u64 (R : Int), .int .i64 (lim : Int), .slice mv n' cap'], .bool true], by simp [results, Try.results25, go_sem, r0, r1, r2, r3], ao', mo', n', cap', f', by rw [HMV.out], post_mk H0.out HS1.out HKW.out HFR.out _ _ _ _⟩

end Go.Proofs.Ytanfdpangcgdhaa
