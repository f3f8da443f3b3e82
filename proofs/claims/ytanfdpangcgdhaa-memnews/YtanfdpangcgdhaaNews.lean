/- MemNews. -/
import Derived.Test.YtanfdpangcgdhaaRefA
namespace Go.Proofs.Ytanfdpangcgdhaa
open Go.RowKit
set_option linter.unusedVariables false

theorem news_bad (base : Nat) (hb64 : base < 18446744073709551616) (lim ord : Int) (hl1 : -9223372036854775808 ≤ lim) (hl2 : lim ≤ 9223372036854775807) (ho1 : -9223372036854775808 ≤ ord) (ho2 : ord ≤ 9223372036854775807) (hm : mayB base lim ord = false) (w : World) :
    Calls Try.prog 4 #[.agg #[.int .u64 (base : Int), .int .i64 lim, .int .i64 ord]] w fun e w' => e = .returned (.bool true) ∧ Below w.heap.size w w' := by
  have HM := hid hm
  clear hm
  go_enter Try.func4, Try.ntmps4
  go_wp2_with fail
  refine (New_bad base hb64 lim ord hl1 hl2 ho1 ho2 HM.out _).mono ?_
  rintro e w1 ⟨rfl, hK⟩
  obtain ⟨hc0, hc1, hKK⟩ := box_cells w w1 base lim ord hK
  have hc2 : w1.cell? ⟨w.heap.size, 2, none⟩ = some (.int .i64 ord) := by
    have := (hK.block w.heap.size (by simp) (fun x => x)).trans (heap_new w _)
    simp [World.cell?, this]
  have HK := hid hKK
  clear hK hKK
  go_wp2_with fail
  refine (awake_any w1).mono ?_
  rintro e w2 ⟨rfl, hK⟩
  have hd0 := hK.cell (fun x => x) hc0
  have hd1 := hK.cell (fun x => x) hc1
  have hd2 := hK.cell (fun x => x) hc2
  have HK2 := hid (HK.out.trans (U := none') hK (fun _ _ x => x) (fun _ _ x => x))
  clear hK HK hc0 hc1 hc2
  go_wp2_with fail
  refine (May_any base hb64 lim ord hl1 hl2 ho1 ho2 _).mono ?_
  rw [HM.out]
  rintro e w3 ⟨rfl, hK⟩
  have HK3 := hid (HK2.out.trans (U := none') hK (fun _ _ x => x) (fun _ _ x => x))
  clear hK HK2 hd0 hd1 hd2
  go_wp2
  go_ret
  exact ⟨rfl, HK3.out.below (Nat.le_refl _) (fun x h => h.elim)⟩

theorem news_ok (base : Nat) (hb64 : base < 18446744073709551616) (lim ord : Int) (hl1 : -9223372036854775808 ≤ lim) (hl2 : lim ≤ 9223372036854775807) (ho1 : -9223372036854775808 ≤ ord) (ho2 : ord ≤ 9223372036854775807) (hm : mayB base lim ord = true) (w : World) :
    Calls Try.prog 4 #[.agg #[.int .u64 (base : Int), .int .i64 lim, .int .i64 ord]] w fun e w' => e = .returned (.bool true) ∧ Below w.heap.size w w' := by
  have HM := hid hm
  clear hm
  go_enter Try.func4, Try.ntmps4
  go_wp2_with fail
  refine (New_ok base hb64 lim ord hl1 hl2 ho1 ho2 HM.out (fun _ => 0) _).mono ?_
  rintro e w1 ⟨b, rfl, hS, hK, hb⟩
  obtain ⟨hc0, hc1, hKK⟩ := box_cells w w1 base lim ord hK
  have hc2 : w1.cell? ⟨w.heap.size, 2, none⟩ = some (.int .i64 ord) := by
    have := (hK.block w.heap.size (by simp) (fun x => x)).trans (heap_new w _)
    simp [World.cell?, this]
  have HK := hid hKK
  have HS := hid hS
  clear hK hKK hb hS
  go_wp2_with fail
  refine (awake_any w1).mono ?_
  rintro e w2 ⟨rfl, hK⟩
  have hd0 := hK.cell (fun x => x) hc0
  have hd1 := hK.cell (fun x => x) hc1
  have hd2 := hK.cell (fun x => x) hc2
  have HS2 := hid (HS.out.keep hK)
  have HK2 := hid (HK.out.trans (U := none') hK (fun _ _ x => x) (fun _ _ x => x))
  clear hK HK HS hc0 hc1 hc2
  go_wp2_with fail
  refine (May_any base hb64 lim ord hl1 hl2 ho1 ho2 _).mono ?_
  rw [HM.out]
  rintro e w3 ⟨rfl, hK⟩
  have hc0 := hK.cell (fun x => x) hd0
  have hS3 := HS2.out.keep hK
  have hreg := hid (show ∀ m, Calls Try.prog 23 #[.pointer (some ⟨b, 0, none⟩)] (w3.drewN m) fun e w' => e = .returned (.int .i64 0) ∧ ∃ m', w' = (w3.drewN m).drewN m' from fun m => by
    have := regions_any b none base _ _ 0 _ (w3.drewN m) (hS3.keep ((Kept.refl _ w3).drewN m))
    rwa [Nat.zero_div] at this)
  have hend := hid (show ∀ m, Calls Try.prog 13 #[.pointer (some ⟨b, 0, none⟩)] (w3.drewN m) fun e w' => e = .returned (.int .u64 (base : Int)) ∧ ∃ m', w' = (w3.drewN m).drewN m' from fun m => end_any b none base _ _ 0 _ (w3.drewN m) (hS3.keep ((Kept.refl _ w3).drewN m)))
  have HK3 := hid (HK2.out.trans (U := none') hK (fun _ _ x => x) (fun _ _ x => x))
  clear hK HK2 hd0 hd1 hd2 hS3 HS2
  go_wp2
  go_quiet (first | (go_at_call 23; exact Calls.quiet_of (hreg.out _)) | (go_at_call 13; exact Calls.quiet_of (hend.out _)))
  go_wp2
  go_ret
  exact ⟨rfl, (HK3.out.drewN _).below (Nat.le_refl _) (fun x h => h.elim)⟩

theorem news_any (base : Nat) (hb64 : base < 18446744073709551616) (lim ord : Int) (hl1 : -9223372036854775808 ≤ lim) (hl2 : lim ≤ 9223372036854775807) (ho1 : -9223372036854775808 ≤ ord) (ho2 : ord ≤ 9223372036854775807) (w : World) :
    Calls Try.prog 4 #[.agg #[.int .u64 (base : Int), .int .i64 lim, .int .i64 ord]] w fun e w' => e = .returned (.bool true) ∧ Below w.heap.size w w' := by
  cases h : mayB base lim ord with
  | true => exact news_ok base hb64 lim ord hl1 hl2 ho1 ho2 h w
  | false => exact news_bad base hb64 lim ord hl1 hl2 ho1 ho2 h w
end Go.Proofs.Ytanfdpangcgdhaa
