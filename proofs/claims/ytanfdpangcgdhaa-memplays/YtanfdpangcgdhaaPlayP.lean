/- MemPlays: croftlaw2.played, whatever the call. -/
import Derived.Test.YtanfdpangcgdhaaPlayF
import Derived.Test.YtanfdpangcgdhaaPlayG
import Derived.Test.YtanfdpangcgdhaaPlayH
import Derived.Test.YtanfdpangcgdhaaPlayI
import Derived.Test.YtanfdpangcgdhaaPlayJ
import Derived.Test.YtanfdpangcgdhaaPlayK
import Derived.Test.YtanfdpangcgdhaaPlayM
import Derived.Test.YtanfdpangcgdhaaPlayN
import Derived.Test.YtanfdpangcgdhaaPlayO
namespace Go.Proofs.Ytanfdpangcgdhaa
open Go.RowKit
set_option linter.unusedVariables false

theorem played_f (b base R lim n cap P Q N V p q dm dc : Nat) (ao mo : Option Nat) (f gg : Nat → Nat) (kind : Int) (deny : Bool) (count : Int) (da : Option Addr) (hpw : IntKind.u64.wrap ((base : Int) + (P : Int)) = (p : Int)) (hqw : IntKind.u64.wrap ((base : Int) + (Q : Int)) = (q : Int)) (hp : p < 18446744073709551616) (hq : q < 18446744073709551616) (hP : P < 18446744073709551616) (hQ : Q < 18446744073709551616) (hN : N < 18446744073709551616) (hV : V < 18446744073709551616) (w : World) (h : St w b ao mo base R lim n cap f)
    (hc1 : -9223372036854775808 ≤ count) (hc2 : count ≤ 9223372036854775807) (hdm : dm ≤ 9223372036854775807) (hd : Bytes w (.slice da dm dc) dm gg) (hs : 0 < dm → ∀ bl, (Value.slice da dm dc).ownBlock = some bl → ¬ S3 b ao mo bl) :
    Calls Try.prog 25 #[.pointer (some ⟨b, 0, none⟩), .agg #[.int .u64 (base : Int), .int .u64 (R : Int), .int .i64 (lim : Int), .slice (adr mo) n cap], .agg #[.int .i64 kind, .int .u64 (P : Int), .int .u64 (Q : Int), .int .u64 (N : Int), .bool false, .int .u64 (V : Int), .bool deny, .int .i64 count, .slice da dm dc]] w (Post w b ao mo base R lim) := by
  by_cases hlo : kind < 1
  · exact played_other_lo_f b base R lim n cap P Q N V p q dm dc ao mo f kind deny count da hpw hqw hp hq hP hQ hN hV w h hlo
  by_cases hhi : 10 < kind
  · exact played_other_hi_f b base R lim n cap P Q N V p q dm dc ao mo f kind deny count da hpw hqw hp hq hP hQ hN hV w h hhi
  by_cases h7 : 7 ≤ kind
  · exact played_many_f b base R lim n cap P Q N V p q dm dc ao mo f gg kind deny count da hpw hqw hp hq hP hQ hN hV w h h7 (by omega) hdm hd hs
  have hkc : kind = 1 ∨ kind = 2 ∨ kind = 3 ∨ kind = 4 ∨ kind = 5 ∨ kind = 6 := by omega
  rcases hkc with rfl | rfl | rfl | rfl | rfl | rfl
  · cases deny with
    | true => exact played_commit_deny_f b base R lim n cap P Q N V p q dm dc ao mo f true count da hpw hqw hp hq hP hQ hN hV w h rfl
    | false =>
      obtain ⟨k, hn, hk⟩ := h.s.kn
      by_cases he : k = lim
      · exact played_commit_full_f b base R lim n cap P Q N V p q dm dc ao mo f false count da hpw hqw hp hq hP hQ hN hV w h rfl (by rw [hn, he])
      · exact played_commit_ok_f b base R lim n cap P Q N V p q dm dc ao mo f false count da hpw hqw hp hq hP hQ hN hV w h rfl ⟨k, hn, by omega⟩
  · by_cases hb : count < 0 ∨ ((n / R : Nat) : Int) < count
    · exact played_decommit_bad_f b base R lim n cap P Q N V p q dm dc ao mo f deny count da hpw hqw hp hq hP hQ hN hV w h hc1 hc2 hb
    · obtain ⟨c, hcc⟩ := Int.eq_ofNat_of_zero_le (by omega : 0 ≤ count)
      exact played_decommit_ok_f b base R lim n cap P Q N V p q dm dc ao mo c f deny count da hpw hqw hp hq hP hQ hN hV w h hcc (by
        have h2 : ¬ ((n / R : Nat) : Int) < count := fun e => hb (Or.inr e)
        rw [hcc] at h2
        exact Nat.le_of_not_lt (fun e => h2 (by exact_mod_cast e)))
  · by_cases hi : In base n p 1
    · obtain ⟨g, h', rfl, rfl⟩ := h.some (in_pos (by decide) hi)
      exact played_byte_in_f b base R lim n cap P Q N V p q dm dc g h' f deny count da hpw hqw hp hq hP hQ hN hV w h hi
    · exact played_byte_out_f b base R lim n cap P Q N V p q dm dc ao mo f deny count da hpw hqw hp hq hP hQ hN hV w h hi
  · by_cases hi : In base n p 1
    · obtain ⟨g, h', rfl, rfl⟩ := h.some (in_pos (by decide) hi)
      exact played_setbyte_in_f b base R lim n cap P Q N V p q dm dc g h' f deny count da hpw hqw hp hq hP hQ hN hV w h hi
    · exact played_setbyte_out_f b base R lim n cap P Q N V p q dm dc ao mo f deny count da hpw hqw hp hq hP hQ hN hV w h hi
  · by_cases hi : In base n p 8
    · obtain ⟨g, h', rfl, rfl⟩ := h.some (in_pos (by decide) hi)
      exact played_word_in_f b base R lim n cap P Q N V p q dm dc g h' f deny count da hpw hqw hp hq hP hQ hN hV w h hi
    · exact played_word_out_f b base R lim n cap P Q N V p q dm dc ao mo f deny count da hpw hqw hp hq hP hQ hN hV w h hi
  · by_cases hi : In base n p 8
    · obtain ⟨g, h', rfl, rfl⟩ := h.some (in_pos (by decide) hi)
      exact played_setword_in_f b base R lim n cap P Q N V p q dm dc g h' f deny count da hpw hqw hp hq hP hQ hN hV w h hi
    · exact played_setword_out_f b base R lim n cap P Q N V p q dm dc ao mo f deny count da hpw hqw hp hq hP hQ hN hV w h hi

theorem played_t (b base R lim n cap P Q N V p q dm dc : Nat) (ao mo : Option Nat) (f gg : Nat → Nat) (kind : Int) (deny : Bool) (count : Int) (da : Option Addr) (hpw : p = P) (hqw : q = Q) (hp : p < 18446744073709551616) (hq : q < 18446744073709551616) (hP : P < 18446744073709551616) (hQ : Q < 18446744073709551616) (hN : N < 18446744073709551616) (hV : V < 18446744073709551616) (w : World) (h : St w b ao mo base R lim n cap f)
    (hc1 : -9223372036854775808 ≤ count) (hc2 : count ≤ 9223372036854775807) (hdm : dm ≤ 9223372036854775807) (hd : Bytes w (.slice da dm dc) dm gg) (hs : 0 < dm → ∀ bl, (Value.slice da dm dc).ownBlock = some bl → ¬ S3 b ao mo bl) :
    Calls Try.prog 25 #[.pointer (some ⟨b, 0, none⟩), .agg #[.int .u64 (base : Int), .int .u64 (R : Int), .int .i64 (lim : Int), .slice (adr mo) n cap], .agg #[.int .i64 kind, .int .u64 (P : Int), .int .u64 (Q : Int), .int .u64 (N : Int), .bool true, .int .u64 (V : Int), .bool deny, .int .i64 count, .slice da dm dc]] w (Post w b ao mo base R lim) := by
  by_cases hlo : kind < 1
  · exact played_other_lo_t b base R lim n cap P Q N V p q dm dc ao mo f kind deny count da hpw hqw hp hq hP hQ hN hV w h hlo
  by_cases hhi : 10 < kind
  · exact played_other_hi_t b base R lim n cap P Q N V p q dm dc ao mo f kind deny count da hpw hqw hp hq hP hQ hN hV w h hhi
  by_cases h7 : 7 ≤ kind
  · exact played_many_t b base R lim n cap P Q N V p q dm dc ao mo f gg kind deny count da hpw hqw hp hq hP hQ hN hV w h h7 (by omega) hdm hd hs
  have hkc : kind = 1 ∨ kind = 2 ∨ kind = 3 ∨ kind = 4 ∨ kind = 5 ∨ kind = 6 := by omega
  rcases hkc with rfl | rfl | rfl | rfl | rfl | rfl
  · cases deny with
    | true => exact played_commit_deny_t b base R lim n cap P Q N V p q dm dc ao mo f true count da hpw hqw hp hq hP hQ hN hV w h rfl
    | false =>
      obtain ⟨k, hn, hk⟩ := h.s.kn
      by_cases he : k = lim
      · exact played_commit_full_t b base R lim n cap P Q N V p q dm dc ao mo f false count da hpw hqw hp hq hP hQ hN hV w h rfl (by rw [hn, he])
      · exact played_commit_ok_t b base R lim n cap P Q N V p q dm dc ao mo f false count da hpw hqw hp hq hP hQ hN hV w h rfl ⟨k, hn, by omega⟩
  · by_cases hb : count < 0 ∨ ((n / R : Nat) : Int) < count
    · exact played_decommit_bad_t b base R lim n cap P Q N V p q dm dc ao mo f deny count da hpw hqw hp hq hP hQ hN hV w h hc1 hc2 hb
    · obtain ⟨c, hcc⟩ := Int.eq_ofNat_of_zero_le (by omega : 0 ≤ count)
      exact played_decommit_ok_t b base R lim n cap P Q N V p q dm dc ao mo c f deny count da hpw hqw hp hq hP hQ hN hV w h hcc (by
        have h2 : ¬ ((n / R : Nat) : Int) < count := fun e => hb (Or.inr e)
        rw [hcc] at h2
        exact Nat.le_of_not_lt (fun e => h2 (by exact_mod_cast e)))
  · by_cases hi : In base n p 1
    · obtain ⟨g, h', rfl, rfl⟩ := h.some (in_pos (by decide) hi)
      exact played_byte_in_t b base R lim n cap P Q N V p q dm dc g h' f deny count da hpw hqw hp hq hP hQ hN hV w h hi
    · exact played_byte_out_t b base R lim n cap P Q N V p q dm dc ao mo f deny count da hpw hqw hp hq hP hQ hN hV w h hi
  · by_cases hi : In base n p 1
    · obtain ⟨g, h', rfl, rfl⟩ := h.some (in_pos (by decide) hi)
      exact played_setbyte_in_t b base R lim n cap P Q N V p q dm dc g h' f deny count da hpw hqw hp hq hP hQ hN hV w h hi
    · exact played_setbyte_out_t b base R lim n cap P Q N V p q dm dc ao mo f deny count da hpw hqw hp hq hP hQ hN hV w h hi
  · by_cases hi : In base n p 8
    · obtain ⟨g, h', rfl, rfl⟩ := h.some (in_pos (by decide) hi)
      exact played_word_in_t b base R lim n cap P Q N V p q dm dc g h' f deny count da hpw hqw hp hq hP hQ hN hV w h hi
    · exact played_word_out_t b base R lim n cap P Q N V p q dm dc ao mo f deny count da hpw hqw hp hq hP hQ hN hV w h hi
  · by_cases hi : In base n p 8
    · obtain ⟨g, h', rfl, rfl⟩ := h.some (in_pos (by decide) hi)
      exact played_setword_in_t b base R lim n cap P Q N V p q dm dc g h' f deny count da hpw hqw hp hq hP hQ hN hV w h hi
    · exact played_setword_out_t b base R lim n cap P Q N V p q dm dc ao mo f deny count da hpw hqw hp hq hP hQ hN hV w h hi

theorem played_any (b base R lim n cap P Q N V dm dc : Nat) (ao mo : Option Nat) (f gg : Nat → Nat) (kind : Int) (a deny : Bool) (count : Int) (da : Option Addr) (hP : P < 18446744073709551616) (hQ : Q < 18446744073709551616) (hN : N < 18446744073709551616) (hV : V < 18446744073709551616) (w : World) (h : St w b ao mo base R lim n cap f)
    (hc1 : -9223372036854775808 ≤ count) (hc2 : count ≤ 9223372036854775807) (hdm : dm ≤ 9223372036854775807) (hd : Bytes w (.slice da dm dc) dm gg) (hs : 0 < dm → ∀ bl, (Value.slice da dm dc).ownBlock = some bl → ¬ S3 b ao mo bl) :
    Calls Try.prog 25 #[.pointer (some ⟨b, 0, none⟩), .agg #[.int .u64 (base : Int), .int .u64 (R : Int), .int .i64 (lim : Int), .slice (adr mo) n cap], .agg #[.int .i64 kind, .int .u64 (P : Int), .int .u64 (Q : Int), .int .u64 (N : Int), .bool a, .int .u64 (V : Int), .bool deny, .int .i64 count, .slice da dm dc]] w (Post w b ao mo base R lim) := by
  cases a with
  | true => exact played_t b base R lim n cap P Q N V P Q dm dc ao mo f gg kind deny count da rfl rfl hP hQ hP hQ hN hV w h hc1 hc2 hdm hd hs
  | false =>
    have hw : ∀ x : Nat, IntKind.u64.wrap ((base : Int) + (x : Int)) = (((base + x) % 18446744073709551616 : Nat) : Int) := by
      intro x
      rw [wrap_u64]
      omega
    exact played_f b base R lim n cap P Q N V ((base + P) % 18446744073709551616) ((base + Q) % 18446744073709551616) dm dc ao mo f gg kind deny count da (hw P) (hw Q) (Nat.mod_lt _ (by decide)) (Nat.mod_lt _ (by decide)) hP hQ hN hV w h hc1 hc2 hdm hd hs
end Go.Proofs.Ytanfdpangcgdhaa
