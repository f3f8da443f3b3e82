import Derived.Test.YthjokkihlodapaaGreatZb
set_option maxRecDepth 1000000
set_option maxHeartbeats 80000000
/- New of a Config that may be. -/
namespace Go.Proofs.YthjokkihlodapaaGreat.M
open Go.RowKit
set_option linter.unusedVariables false

set_option maxHeartbeats 4000000 in
theorem New_ok (base : Nat) (hb64 : base < 18446744073709551616) (lim ord : Int) (hl1 : -9223372036854775808 ≤ lim) (hl2 : lim ≤ 9223372036854775807) (ho1 : -9223372036854775808 ≤ ord) (ho2 : ord ≤ 9223372036854775807) (h : mayB base lim ord = true) (f : Nat → Nat) (w : World) :
    Calls Tryz.prog 44 #[.agg #[.int .u64 (base : Int), .int .i64 lim, .int .i64 ord]] w fun e w' => ∃ b, e = .returned (.tuple #[.pointer (some ⟨b, 0, none⟩), .int .i64 0]) ∧ SpaceAt w' b none base (RS ord.toNat) lim.toNat 0 f ∧ Kept none' w w' ∧ w.heap.size ≤ b := by
  have HM := hid (mayBe_any base hb64 lim ord hl1 hl2 ho1 ho2)
  rw [h] at HM
  obtain ⟨hB, hC⟩ := mayB_cfg h
  have hB' := hB
  unfold Bounds at hB'
  obtain ⟨l, rfl⟩ := Int.eq_ofNat_of_zero_le (by omega : 0 ≤ lim)
  obtain ⟨k, rfl⟩ := Int.eq_ofNat_of_zero_le hB'.1
  simp only [Int.toNat_natCast] at hC ⊢
  obtain ⟨R, hR⟩ : ∃ R, R = RS k := ⟨_, rfl⟩
  rw [← hR] at hC ⊢
  have HRS := hid (show ∀ w, Calls Tryz.prog 75 #[.agg #[.int .u64 (base : Int), .int .i64 (l : Int), .int .i64 (k : Int)]] w fun e w' => e = .returned (.int .u64 (R : Int)) ∧ Kept none' w w' from fun w => by
    rw [hR]; exact regionSize_any base l k (by omega) w)
  have HC := hid hC
  clear h hB hB' hC hR
  go_enter Tryz.func44, Tryz.ntmps44
  go_wp2_with fail
  refine (HM.out _).mono ?_
  rintro e w1 ⟨rfl, hK⟩
  obtain ⟨hc0, hc1, hKK⟩ := box_cells w w1 base l k hK
  have hc2 : w1.cell? ⟨w.heap.size, 2, none⟩ = some (.int .i64 (k : Int)) := by
    have := (hK.block w.heap.size (by simp) (fun x => x)).trans (heap_new w _)
    simp [World.cell?, this]
  have hlt : w.heap.size < w1.heap.size := by have := hK.size; simp at this; omega
  have HK := hid hKK
  have HL := hid hlt
  clear hK hKK hlt
  go_wp2
  go_region_with ((go_at_call 75; refine (HRS.out _).mono ?_; rintro e w2 ⟨rfl, hK2⟩; have g0 := hK2.cell (fun x => x) (show World.cell? _ ⟨w.heap.size, 0, none⟩ = some (.int .u64 (base : Int)) from hc0); have g1 := hK2.cell (fun x => x) (show World.cell? _ ⟨w.heap.size, 1, none⟩ = some (.int .i64 (l : Int)) from hc1); have HK2 := hid (show Kept none' w1 w2 from ⟨hK2.os, hK2.tape, hK2.output, hK2.size, hK2.block⟩); clear hK2))
  all_goals (go_wp2; go_ret2)
  all_goals (have k3 := HK.out.trans (U := none') HK2.out (fun _ _ x => x) (fun _ _ x => x); exact ⟨_, rfl, ⟨HC.out, ⟨0, by simp, Nat.zero_le _⟩, 0, heap_new _ _, rfl, rfl⟩, k3.alloc _, k3.size⟩)
end Go.Proofs.YthjokkihlodapaaGreat.M
