/- MemKnown. -/
import Derived.Test.YtanfdpangcgdhaaCopies
namespace Go.Proofs.Ytanfdpangcgdhaa
open Go.RowKit
set_option linter.unusedVariables false

/-- What the space of the examples tells, call by call. -/
def kf0 : Nat → Nat := fun _ => 0
def kf1 : Nat → Nat := more kf0 0
def kf2 : Nat → Nat := more kf1 8192
def kf3 : Nat → Nat := upd kf2 8189 8 (byteOf 578437695752307201)
def kf4 : Nat → Nat := upd kf3 0 4 fun _ => 9
def kf5 : Nat → Nat := upd kf4 2 4 fun i => kf4 (0 + i)
def kf6 : Nat → Nat := more kf5 8192
theorem k_byte : kf3 8191 = 3 := by decide
theorem k_word : word kf3 8192 = 34477573380 := by decide
theorem k_zero : kf5 16383 = 0 := by decide
theorem k_last : kf6 8192 = 0 := by decide
def kread : Nat → Nat := fun i => if i < 6 then 9 else 0
theorem k_read (i : Nat) (hi : i < 7) : kf5 (0 + i) = kread i := by
  have : ∀ i : Fin 7, kf5 (0 + i.val) = kread i.val := by decide
  exact this ⟨i, hi⟩

theorem k_r256 (i : Nat) (hi : i < 7) : kread i < 256 := by unfold kread; split <;> decide
theorem k_rcells (i : Nat) (hi : i < 7) : (#[.int .u8 9, .int .u8 9, .int .u8 9, .int .u8 9, .int .u8 9, .int .u8 9, .int .u8 0] : Array Value)[i]? = some (.int .u8 ((kread i : Nat) : Int)) := by
  match i, hi with
  | 0, _ => rfl
  | 1, _ => rfl
  | 2, _ => rfl
  | 3, _ => rfl
  | 4, _ => rfl
  | 5, _ => rfl
  | 6, _ => rfl
/-- A slice of bytes that is written down. -/
theorem bytes_new (w : World) (cs : Array Value) (m : Nat) (g : Nat → Nat) (hg : ∀ i, i < m → g i < 256) (hc : ∀ i, i < m → cs[i]? = some (.int .u8 ((g i : Nat) : Int))) :
    Bytes (w.alloc (.cells cs 5)) (.slice (some ⟨w.heap.size, 0, none⟩) m m) m g :=
  ⟨hg, _, _, rfl, Or.inr ⟨⟨w.heap.size, 0, none⟩, rfl, by simp, fun j hj => by rw [Addr.add_lit]; simp only [World.cell?, heap_new]; simpa using hc j hj⟩⟩

def kbad : Array Value := #[.int .u64 4096, .int .i64 2, .int .i64 1, .int .u64 0, .int .i64 1, .int .i64 0, .int .u64 65536, .int .i64 65, .int .i64 0, .int .u64 9223372036854775808, .int .i64 1, .int .i64 0]
theorem known_bad (i : Nat) (hi : i < 4) : ∃ base lim ord : Nat, base < 18446744073709551616 ∧ lim ≤ 65 ∧ ord ≤ 1 ∧ mayB base lim ord = false ∧ kbad[i * 3]? = some (.int .u64 (base : Int)) ∧ kbad[i * 3 + 1]? = some (.int .i64 (lim : Int)) ∧ kbad[i * 3 + 2]? = some (.int .i64 (ord : Int)) := by
  match i, hi with
  | 0, _ => exact ⟨4096, 2, 1, by decide, by decide, by decide, by decide, rfl, rfl, rfl⟩
  | 1, _ => exact ⟨0, 1, 0, by decide, by decide, by decide, by decide, rfl, rfl, rfl⟩
  | 2, _ => exact ⟨65536, 65, 0, by decide, by decide, by decide, by decide, rfl, rfl, rfl⟩
  | 3, _ => exact ⟨9223372036854775808, 1, 0, by decide, by decide, by decide, by decide, rfl, rfl, rfl⟩

set_option maxRecDepth 100000 in
set_option maxHeartbeats 4000000 in
theorem known_any (w : World) :
    Calls Try.prog 3 #[] w fun e w' => e = .returned (.bool true) ∧ Below w.heap.size w w' := by
  go_enter Try.func3, Try.ntmps3
  go_wp2_with fail
  refine (awake_any w).mono ?_
  rintro e w1 ⟨rfl, hK⟩
  have HK1 := hid (hK.fresh (B := w.heap.size) (fun x h => h.elim))
  clear hK
  go_wp2_with fail
  go_loopw [2] (fun i wr => ∃ k : Nat, k ≤ 4 ∧ i = .int .i64 k ∧ Hid (Kept (from' w.heap.size) w wr) ∧ Hid (wr.heap[w1.heap.size]? = some (.cells kbad 25 (0, 0)))) (fun i _ => 4 - (intOf i).toNat)
  case atStart => exact ⟨0, by omega, rfl, HK1.out.alloc _, heap_new _ _⟩
  case round =>
    obtain ⟨k, hk, rfl, hK, hB⟩ := hrel
    clear HK1
    by_cases hlt : k < 4
    · obtain ⟨base, lim, ord, hb, hl, ho, hmay, hc0, hc1, hc2⟩ := known_bad k hlt
      have g0 : wr.cell? ⟨w1.heap.size, k * 3, none⟩ = some (.int .u64 (base : Int)) := by simp only [World.cell?, hB.out]; simpa using hc0
      have g1 : wr.cell? ⟨w1.heap.size, k * 3 + 1, none⟩ = some (.int .i64 (lim : Int)) := by simp only [World.cell?, hB.out]; simpa using hc1
      have g2 : wr.cell? ⟨w1.heap.size, k * 3 + 2, none⟩ = some (.int .i64 (ord : Int)) := by simp only [World.cell?, hB.out]; simpa using hc2
      have hki : (k : Int) < 4 := by omega
      have HM := hid hmay
      clear hmay hc0 hc1 hc2
      go_wp2_with fail
      refine (New_bad base hb lim ord (by omega) (by omega) (by omega) (by omega) HM.out _).mono ?_
      rintro e w2 ⟨rfl, hK2⟩
      have HK2 := hid (hK.out.then' (hK2.fresh (fun x h => h.elim)))
      have HB2 := hid ((hK2.block _ (Array.getElem?_eq_some_iff.1 hB.out).1 (fun x => x)).trans hB.out)
      clear hK2 hK hB g0 g1 g2
      go_wp2
      refine ⟨⟨k + 1, by omega, by simp, HK2, HB2⟩, by simp [intOf]; omega⟩
    · obtain rfl : k = 4 := by omega
      clear hB
      have HK0 := hK
      clear hK
      go_wp2_with fail
      refine (New_ok 65536 (by decide) 2 1 (by decide) (by decide) (by decide) (by decide) (by decide) kf0 _).mono ?_
      rintro e w3 ⟨b, rfl, hS, hK, hb⟩
      have HS3 := hid (show SpaceAt w3 b none 65536 8192 2 0 kf0 from hS)
      have HK3 := hid (HK0.out.then' (hK.fresh (fun x h => h.elim)))
      have HB := hid (show w.heap.size ≤ b from Nat.le_trans HK0.out.size hb)
      clear hS hK hb HK0
      go_wp2_with fail
      refine (Byte_out b none _ _ _ _ _ 65536 1 0 none 0 _ HS3.out (by decide) (by decide) (by decide) (by unfold In; omega)).mono ?_
      rintro e w4 ⟨rfl, hK⟩
      have HS4 := hid (HS3.out.keep hK)
      have HK4 := hid (HK3.out.then' (hK.fresh (fun x h => h.elim)))
      clear hK HS3 HK3
      go_wp2_with fail
      refine (Read_zero b _ _).mono ?_
      rintro e w5 ⟨rfl, hK, hz⟩
      have HS5 := hid (HS4.out.keep hK)
      have HK5 := hid (HK4.out.then' (hK.fresh (fun x h => h.elim)))
      clear hK hz HS4 HK4
      go_wp2_with fail
      refine (end_any b none _ _ _ _ _ _ HS5.out).mono ?_
      rintro e w6 ⟨rfl, m6, hw⟩
      have hK : Kept none' w5 w6 := hw ▸ (Kept.refl _ w5).drewN m6
      have HS6 := hid (HS5.out.keep hK)
      have HK6 := hid (HK5.out.then' (hK.fresh (fun x h => h.elim)))
      clear hK hw HS5 HK5
      go_wp2_with fail
      refine (Commit_deny b none _ _ _ _ _ _ HS6.out).mono ?_
      rintro e w7 ⟨rfl, hK⟩
      have HS7 := hid (HS6.out.keep hK)
      have HK7 := hid (HK6.out.then' (hK.fresh (fun x h => h.elim)))
      clear hK HS6 HK6
      go_wp2_with fail
      refine (Commit_ok b none 65536 8192 2 0 kf0 _ HS7.out ⟨0, by decide, by decide⟩).mono ?_
      rintro e w8 ⟨rfl, g8, hS, hK, hg⟩
      have HS8 := hid (show SpaceAt w8 b (some g8) 65536 8192 2 8192 kf1 from hS)
      have HG8 := hid (show w.heap.size ≤ g8 from by rcases hg with e | e; cases e; exact Nat.le_trans HK7.out.size e)
      have HK8 := hid (HK7.out.then' (hK.fresh (fun x h => by rcases h with rfl | e; exact HB.out; cases e)))
      clear hS hK hg HS7 HK7
      go_wp2_with fail
      refine (Commit_ok b (some g8) 65536 8192 2 8192 kf1 _ HS8.out ⟨1, by decide, by decide⟩).mono ?_
      rintro e w9 ⟨rfl, g9, hS, hK, hg⟩
      have HS9 := hid (show SpaceAt w9 b (some g9) 65536 8192 2 16384 kf2 from hS)
      have HG9 := hid (show w.heap.size ≤ g9 from by rcases hg with e | e; injection e with e; rw [← e]; exact HG8.out; exact Nat.le_trans HK8.out.size e)
      have HK9 := hid (HK8.out.then' (hK.fresh (fun x h => by rcases h with rfl | e; exact HB.out; injection e with e; rw [← e]; exact HG8.out)))
      have HO := hid (show ∀ x, own b (some g9) x → w.heap.size ≤ x from fun x h => by rcases h with rfl | e; exact HB.out; injection e with e; rw [← e]; exact HG9.out)
      clear hS hK hg HS8 HK8 HG8
      go_wp2_with fail
      refine (Commit_full b (some g9) _ _ _ _ _ _ HS9.out (by decide)).mono ?_
      rintro e w10 ⟨rfl, hK⟩
      have HS10 := hid (HS9.out.keep hK)
      have HK10 := hid (HK9.out.then' (hK.fresh (fun x h => h.elim)))
      clear hK HS9 HK9
      go_wp2_with fail
      refine (SetWord_in b g9 _ _ _ _ _ 73725 578437695752307201 (by decide) _ HS10.out ⟨by decide, by decide⟩).mono ?_
      rintro e w11 ⟨rfl, hS, hK⟩
      have HS11 := hid (show SpaceAt w11 b (some g9) 65536 8192 2 16384 kf3 from hS)
      have HK11 := hid (HK10.out.then' (hK.fresh HO.out))
      clear hS hK HS10 HK10
      go_wp2_with fail
      refine (Byte_in b g9 65536 8192 2 16384 kf3 73727 _ HS11.out ⟨by decide, by decide⟩).mono ?_
      rintro e w12 ⟨rfl, hK⟩
      have hv : kf3 (73727 - 65536) = 3 := k_byte
      rw [hv]
      have HS12 := hid (HS11.out.keep hK)
      have HK12 := hid (HK11.out.then' (hK.fresh (fun x h => h.elim)))
      clear hK hv HS11 HK11
      go_wp2_with fail
      refine (Word_in b g9 65536 8192 2 16384 kf3 73728 _ HS12.out ⟨by decide, by decide⟩).mono ?_
      rintro e w13 ⟨rfl, hK⟩
      have hv : word kf3 (73728 - 65536) = 34477573380 := k_word
      rw [hv]
      have HS13 := hid (HS12.out.keep hK)
      have HK13 := hid (HK12.out.then' (hK.fresh (fun x h => h.elim)))
      clear hK hv HS12 HK12
      go_wp2_with fail
      refine (Word_out b (some g9) _ _ _ _ _ 81913 1 0 none 0 _ HS13.out (by decide) (by decide) (by decide) (by unfold In; omega)).mono ?_
      rintro e w14 ⟨rfl, hK⟩
      have HS14 := hid (HS13.out.keep hK)
      have HK14 := hid (HK13.out.then' (hK.fresh (fun x h => h.elim)))
      clear hK HS13 HK13
      go_wp2_with fail
      refine (Fill_in b g9 _ _ _ _ _ 65536 4 9 (by decide) _ HS14.out (by decide) ⟨by decide, by decide⟩).mono ?_
      rintro e w15 ⟨rfl, hS, hK⟩
      have HS15 := hid (show SpaceAt w15 b (some g9) 65536 8192 2 16384 kf4 from hS)
      have HK15 := hid (HK14.out.then' (hK.fresh HO.out))
      clear hS hK HS14 HK14
      go_wp2_with fail
      refine (Copy_in b g9 _ _ _ _ _ 65538 65536 4 _ HS15.out (by decide) ⟨by decide, by decide⟩ ⟨by decide, by decide⟩).mono ?_
      rintro e w16 ⟨rfl, hS, hK⟩
      have HS16 := hid (show SpaceAt w16 b (some g9) 65536 8192 2 16384 kf5 from hS)
      have HK16 := hid (HK15.out.then' (hK.fresh HO.out))
      clear hS hK HS15 HK15
      go_wp2_with fail
      refine (Read_in b g9 65536 8192 2 16384 kf5 65536 7 _ HS16.out (by decide) ⟨by decide, by decide⟩).mono ?_
      rintro e w17 ⟨rfl, hB, hK⟩
      have HR := hid (hB.slice.congr (g' := kread) (fun i hi => k_read i hi))
      have HS17 := hid (HS16.out.keep hK)
      have HK17 := hid (HK16.out.then' (hK.fresh (fun x h => h.elim)))
      clear hB hK HS16 HK16
      go_wp2_with fail
      refine (Same_true _ _ 7 (by decide) kread _ (HR.out.keep ((Kept.refl _ w17).alloc _)) (bytes_new w17 _ 7 kread k_r256 k_rcells)).mono ?_
      rintro e w18 ⟨rfl, hK⟩
      have hK := ((Kept.refl none' w17).alloc (.cells #[.int .u8 9, .int .u8 9, .int .u8 9, .int .u8 9, .int .u8 9, .int .u8 9, .int .u8 0] 5)).trans (U := none') hK (fun _ _ x => x) (fun _ _ x => x)
      have HS18 := hid (HS17.out.keep hK)
      have HK18 := hid (HK17.out.then' (hK.fresh (fun x h => h.elim)))
      clear hK HS17 HK17 HR
      go_wp2_with fail
      refine (Write_out b (some g9) _ _ _ _ _ 81919 2 0 _ _ _ (HS18.out.keep ((Kept.refl none' w18).alloc (.cells #[.int .u8 1, .int .u8 2] 5))) (by decide) (by decide) (by decide) (by unfold In; omega)).mono ?_
      rintro e w19 ⟨rfl, hK⟩
      have hK := ((Kept.refl none' w18).alloc (.cells #[.int .u8 1, .int .u8 2] 5)).trans (U := none') hK (fun _ _ x => x) (fun _ _ x => x)
      have HS19 := hid (HS18.out.keep hK)
      have HK19 := hid (HK18.out.then' (hK.fresh (fun x h => h.elim)))
      clear hK HS18 HK18
      go_wp2_with fail
      refine (Fill_out b (some g9) _ _ _ _ _ 18446744073709551615 2 1 none 0 _ HS19.out (by decide) (by decide) (by decide) (by unfold In; omega)).mono ?_
      rintro e w20 ⟨rfl, hK⟩
      have HS20 := hid (HS19.out.keep hK)
      have HK20 := hid (HK19.out.then' (hK.fresh (fun x h => h.elim)))
      clear hK HS19 HK19
      go_wp2_with fail
      refine (Copy_zero b _ _ _).mono ?_
      rintro e w21 ⟨rfl, hK⟩
      have HS21 := hid (HS20.out.keep hK)
      have HK21 := hid (HK20.out.then' (hK.fresh (fun x h => h.elim)))
      clear hK HS20 HK20
      go_wp2_with fail
      refine (Byte_in b g9 65536 8192 2 16384 kf5 81919 _ HS21.out ⟨by decide, by decide⟩).mono ?_
      rintro e w22 ⟨rfl, hK⟩
      have hv : kf5 (81919 - 65536) = 0 := k_zero
      rw [hv]
      have HS22 := hid (HS21.out.keep hK)
      have HK22 := hid (HK21.out.then' (hK.fresh (fun x h => h.elim)))
      clear hK hv HS21 HK21
      go_wp2_with fail
      refine (Decommit_bad b (some g9) 65536 8192 2 16384 kf5 3 (by decide) (by decide) _ HS22.out (Or.inr (by decide))).mono ?_
      rintro e w23 ⟨rfl, hK⟩
      have HS23 := hid (HS22.out.keep hK)
      have HK23 := hid (HK22.out.then' (hK.fresh (fun x h => h.elim)))
      clear hK HS22 HK22
      go_wp2_with fail
      refine (Decommit_ok b (some g9) 65536 8192 2 16384 kf5 1 _ HS23.out (by decide)).mono ?_
      rintro e w24 ⟨rfl, hS, hK⟩
      have HS24 := hid (show SpaceAt w24 b (some g9) 65536 8192 2 8192 kf5 from hS)
      have HK24 := hid (HK23.out.then' (hK.fresh HO.out))
      clear hS hK HS23 HK23
      go_wp2_with fail
      refine (Byte_out b (some g9) _ _ _ _ _ 73728 1 0 none 0 _ HS24.out (by decide) (by decide) (by decide) (by unfold In; omega)).mono ?_
      rintro e w25 ⟨rfl, hK⟩
      have HS25 := hid (HS24.out.keep hK)
      have HK25 := hid (HK24.out.then' (hK.fresh (fun x h => h.elim)))
      clear hK HS24 HK24
      go_wp2_with fail
      refine (Commit_ok b (some g9) 65536 8192 2 8192 kf5 _ HS25.out ⟨1, by decide, by decide⟩).mono ?_
      rintro e w26 ⟨rfl, g10, hS, hK, hg⟩
      have HS26 := hid (show SpaceAt w26 b (some g10) 65536 8192 2 16384 kf6 from hS)
      have HK26 := hid (HK25.out.then' (hK.fresh HO.out))
      clear hS hK hg HS25 HK25
      go_wp2_with fail
      refine (Byte_in b g10 65536 8192 2 16384 kf6 73728 _ HS26.out ⟨by decide, by decide⟩).mono ?_
      rintro e w27 ⟨rfl, hK⟩
      have hv : kf6 (73728 - 65536) = 0 := k_last
      rw [hv]
      have HK27 := hid (HK26.out.then' (hK.fresh (fun x h => h.elim)))
      clear hK hv HS26 HK26
      go_wp2
      go_ret
      exact ⟨rfl, HK27.out.below (Nat.le_refl _) (fun x h => h)⟩
end Go.Proofs.Ytanfdpangcgdhaa
