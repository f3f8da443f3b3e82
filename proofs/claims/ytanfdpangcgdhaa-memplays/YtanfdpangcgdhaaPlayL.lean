/- MemPlays: croftlaw2.many, whatever the call. -/
import Derived.Test.YtanfdpangcgdhaaPlayB
import Derived.Test.YtanfdpangcgdhaaPlayC
import Derived.Test.YtanfdpangcgdhaaPlayD
import Derived.Test.YtanfdpangcgdhaaPlayE
namespace Go.Proofs.Ytanfdpangcgdhaa
open Go.RowKit
set_option linter.unusedVariables false

theorem in_pos {base n p k : Nat} (hk : 0 < k) (h : In base n p k) : 0 < n := by
  obtain ⟨h1, h2⟩ := h
  omega

theorem many_any (b base R lim n cap P Q N V p q dm dc : Nat) (ao mo : Option Nat) (f gg : Nat → Nat) (kind : Int) (a deny : Bool) (count : Int) (da : Option Addr) (hp : p < 18446744073709551616) (hq : q < 18446744073709551616) (hN : N < 18446744073709551616) (hV : V < 18446744073709551616) (w : World) (h : St w b ao mo base R lim n cap f)
    (hk7 : 7 ≤ kind) (hk10 : kind ≤ 10) (hdm : dm ≤ 9223372036854775807) (hd : Bytes w (.slice da dm dc) dm gg) (hs : 0 < dm → ∀ bl, (Value.slice da dm dc).ownBlock = some bl → ¬ S3 b ao mo bl) :
    Calls Try.prog 44 #[.pointer (some ⟨b, 0, none⟩), .agg #[.int .u64 (base : Int), .int .u64 (R : Int), .int .i64 (lim : Int), .slice (adr mo) n cap], .agg #[.int .i64 kind, .int .u64 (P : Int), .int .u64 (Q : Int), .int .u64 (N : Int), .bool a, .int .u64 (V : Int), .bool deny, .int .i64 count, .slice da dm dc], .int .u64 (p : Int), .int .u64 (q : Int)] w (Post w b ao mo base R lim) := by
  have hkc : kind = 7 ∨ kind = 8 ∨ kind = 9 ∨ kind = 10 := by omega
  rcases hkc with rfl | rfl | rfl | rfl
  · by_cases h0 : N = 0
    · exact many_fill_zero b base R lim n cap P Q N V p q dm dc ao mo f a deny count da hp hq hN hV w h h0
    · by_cases hi : In base n p N
      · obtain ⟨g, h', rfl, rfl⟩ := h.some (in_pos (by omega) hi)
        exact many_fill_in b base R lim n cap P Q N V p q dm dc g h' f a deny count da hp hq hN hV w h (by omega) hi
      · exact many_fill_out b base R lim n cap P Q N V p q dm dc ao mo f a deny count da hp hq hN hV w h (by omega) hi
  · by_cases h0 : N = 0
    · exact many_copy_zero b base R lim n cap P Q N V p q dm dc ao mo f a deny count da hp hq hN hV w h h0
    · by_cases hi : In base n p N
      · obtain ⟨g, h', rfl, rfl⟩ := h.some (in_pos (by omega) hi)
        by_cases hj : In base n q N
        · exact many_copy_in b base R lim n cap P Q N V p q dm dc g h' f a deny count da hp hq hN hV w h (by omega) hi hj
        · exact many_copy_out2 b base R lim n cap P Q N V p q dm dc g h' f a deny count da hp hq hN hV w h (by omega) hi hj
      · exact many_copy_out b base R lim n cap P Q N V p q dm dc ao mo f a deny count da hp hq hN hV w h (by omega) hi
  · by_cases h0 : N = 0
    · exact many_read_zero b base R lim n cap P Q N V p q dm dc ao mo f a deny count da hp hq hN hV w h h0
    · by_cases hi : In base n p N
      · obtain ⟨g, h', rfl, rfl⟩ := h.some (in_pos (by omega) hi)
        exact many_read_in b base R lim n cap P Q N V p q dm dc g h' f a deny count da hp hq hN hV w h (by omega) hi
      · exact many_read_out b base R lim n cap P Q N V p q dm dc ao mo f a deny count da hp hq hN hV w h (by omega) hi
  · by_cases h0 : dm = 0
    · exact many_write_zero b base R lim n cap P Q N V p q dm dc ao mo f a deny count da hp hq hN hV w h h0
    · by_cases hi : In base n p dm
      · obtain ⟨g, h', rfl, rfl⟩ := h.some (in_pos (by omega) hi)
        obtain ⟨-, ao', c', e, h2⟩ := id hd
        injection e with e1 e2 e3
        subst e1
        obtain ⟨ad, rfl, -, hc⟩ := h2.resolve_left h0
        obtain ⟨ab, ao, rfl⟩ := addr_plain (hc 0 (by omega))
        exact many_write_in b base R lim n cap P Q N V p q dm dc g h' ab ao gg f a deny count _ hp hq hN hV w h rfl hdm (by omega) hi hd (hs (by omega) ab rfl)
      · exact many_write_out b base R lim n cap P Q N V p q dm dc ao mo f a deny count da hp hq hN hV w h hdm (by omega) hi
end Go.Proofs.Ytanfdpangcgdhaa
