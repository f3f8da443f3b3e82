/- croftref11.Of, Meet, page. -/
import Derived.Test.YtibljocjdlgfbaaRfA
namespace Go.Proofs.Ytibljocjdlgfbaa
open Go.RowKit
set_option linter.unusedVariables false

/-- A Config and a block of the reference, boxed behind w. -/
structure BR2 (w W : World) (base : Nat) (lim : Int) (k p s : Nat) : Prop where
  c : W.heap[w.heap.size]? = some (.cells #[.int .u64 (base : Int), .int .i64 lim, .int .i64 (k : Int)] 42)
  b : W.heap[w.heap.size + 1]? = some (.cells #[.int .u64 (p : Int), .int .u64 (s : Int)] 60)
  k : Kept none' w W
theorem BR2.mk0 (w : World) (base : Nat) (lim : Int) (k p s : Nat) : BR2 w ((w.alloc (.cells #[.int .u64 (base : Int), .int .i64 lim, .int .i64 (k : Int)] 42)).alloc (.cells #[.int .u64 (p : Int), .int .u64 (s : Int)] 60)) base lim k p s := by
  refine ⟨?_, ?_, ((Kept.refl none' w).alloc _).alloc _⟩
  · rw [Below.heap_alloc _ _ _ (by simp)]; exact heap_new w _
  · have := heap_new (w.alloc (.cells #[.int .u64 (base : Int), .int .i64 lim, .int .i64 (k : Int)] 42)) (.cells #[.int .u64 (p : Int), .int .u64 (s : Int)] 60)
    rwa [World.size_alloc] at this
theorem BR2.keep {w W W' : World} {base : Nat} {lim : Int} {k p s : Nat} (h : BR2 w W base lim k p s) (hk : Kept none' W W') : BR2 w W' base lim k p s :=
  ⟨(hk.block _ (heap_lt h.c) (fun x => x)).trans h.c, (hk.block _ (heap_lt h.b) (fun x => x)).trans h.b, none_trans h.k hk⟩
theorem BR2.cells {w W : World} {base : Nat} {lim : Int} {k p s : Nat} (h : BR2 w W base lim k p s) : W.cell? ⟨w.heap.size, 0, none⟩ = some (.int .u64 (base : Int)) ∧ W.cell? ⟨w.heap.size, 1, none⟩ = some (.int .i64 lim) ∧ W.cell? ⟨w.heap.size, 2, none⟩ = some (.int .i64 (k : Int)) ∧ W.cell? ⟨w.heap.size + 1, 0, none⟩ = some (.int .u64 (p : Int)) ∧ W.cell? ⟨w.heap.size + 1, 1, none⟩ = some (.int .u64 (s : Int)) := by
  refine ⟨?_, ?_, ?_, ?_, ?_⟩ <;> simp [World.cell?, h.c, h.b]
theorem BR2.all {w W : World} {base : Nat} {lim : Int} {k p s : Nat} (h : BR2 w W base lim k p s) : (∀ x : KW W, x.v.cell? ⟨w.heap.size, 0, none⟩ = some (.int .u64 (base : Int))) ∧ (∀ x : KW W, x.v.cell? ⟨w.heap.size, 1, none⟩ = some (.int .i64 lim)) ∧ (∀ x : KW W, x.v.cell? ⟨w.heap.size, 2, none⟩ = some (.int .i64 (k : Int))) ∧ (∀ x : KW W, x.v.cell? ⟨w.heap.size + 1, 0, none⟩ = some (.int .u64 (p : Int))) ∧ (∀ x : KW W, x.v.cell? ⟨w.heap.size + 1, 1, none⟩ = some (.int .u64 (s : Int))) :=
  ⟨fun x => (h.keep x.k).cells.1, fun x => (h.keep x.k).cells.2.1, fun x => (h.keep x.k).cells.2.2.1, fun x => (h.keep x.k).cells.2.2.2.1, fun x => (h.keep x.k).cells.2.2.2.2⟩

set_option maxHeartbeats 2000000 in
theorem refOf (base : Nat) (lim : Int) (k n : Nat) (hk : k ≤ 8) (hn : n ≤ 64) (hbase : base < 2 ^ 64) (p s : Nat) (hp : p < 2 ^ 64) (hs : s < 2 ^ 64) (w : World) :
    Calls Try.prog 46 #[cfgV base lim (k : Int), .int .i64 (n : Int), blkV p s] w fun e w' => e = .returned (.bool (okB base k n p s)) ∧ Kept none' w w' := by
  obtain ⟨R, hR⟩ : ∃ R, R = RS k := ⟨_, rfl⟩
  have hRl := RS_le k hk
  rw [← hR] at hRl
  have HR := hid (fun W => refR (base : Int) lim k hk W)
  rw [← hR] at HR
  have HP := hid (fun W => (refPower s hs W).mono (R' := fun e w' => e = .returned (.bool (isP s)) ∧ Kept none' W w') fun e w' ⟨h1, h2⟩ => ⟨h1, h2 ▸ Kept.refl _ _⟩)
  have E : Hid (okB base k n p s = (isP s && decide (16 ≤ s) && decide (s ≤ R) && decide (p % s = 0) && decide (base ≤ p) && decide (p - base < n * R))) := by rw [hR]; rfl
  have B0 := hid (BR2.mk0 w base lim k p s)
  clear hR
  cases hz : isP s with
  | false =>
    rw [hz] at HP E
    have E2 : Hid (okB base k n p s = false) := by
      show _ = _
      rw [E.out]
      rfl
    clear hz E
    go_enter Try.func46, Try.ntmps46
    go_wp2
    generalize ((w.alloc (.cells #[.int .u64 (base : Int), .int .i64 lim, .int .i64 (k : Int)] 42)).alloc (.cells #[.int .u64 (p : Int), .int .u64 (s : Int)] 60)) = W0 at *
    obtain ⟨c0, c1, c2, c3, c4⟩ := BR2.all B0.out
    refine wp_region_kept (by kernel_rfl) (by kernel_rfl) ?_
    repeat (go_big_quiet_step (first | (go_at_call 44; exact Calls.kept_of (HP.out _)) | (go_at_call 27; exact Calls.kept_of (HR.out _))))
    refine wpQuiet_nil ?_
    intro x
    go_wp2
    go_ret
    exact ⟨ret_bool E2.out.symm, none_trans B0.out.k x.k⟩
  | true =>
    rw [hz] at HP E
    clear hz
    by_cases h1 : (s : Int) < 16
    · have h1n : ¬ 16 ≤ s := by omega
      have E2 : Hid (okB base k n p s = false) := by
        show _ = _
        rw [E.out]
        simp [h1n]
      clear E h1n
      go_enter Try.func46, Try.ntmps46
      go_wp2
      generalize ((w.alloc (.cells #[.int .u64 (base : Int), .int .i64 lim, .int .i64 (k : Int)] 42)).alloc (.cells #[.int .u64 (p : Int), .int .u64 (s : Int)] 60)) = W0 at *
      obtain ⟨c0, c1, c2, c3, c4⟩ := BR2.all B0.out
      refine wp_region_kept (by kernel_rfl) (by kernel_rfl) ?_
      repeat (go_big_quiet_step (first | (go_at_call 44; exact Calls.kept_of (HP.out _)) | (go_at_call 27; exact Calls.kept_of (HR.out _))))
      refine wpQuiet_nil ?_
      intro x
      go_wp2
      go_ret
      exact ⟨ret_bool E2.out.symm, none_trans B0.out.k x.k⟩
    · have h1' : decide ((s : Int) < 16) = false := decide_eq_false h1
      by_cases h2 : (R : Int) < (s : Int)
      · have h2n : ¬ s ≤ R := by omega
        have h2' : decide (R < s) = true := decide_eq_true (by omega)
        have E2 : Hid (okB base k n p s = false) := by
          show _ = _
          rw [E.out]
          simp [h2n]
        clear E h2n
        go_enter Try.func46, Try.ntmps46
        go_wp2
        generalize ((w.alloc (.cells #[.int .u64 (base : Int), .int .i64 lim, .int .i64 (k : Int)] 42)).alloc (.cells #[.int .u64 (p : Int), .int .u64 (s : Int)] 60)) = W0 at *
        obtain ⟨c0, c1, c2, c3, c4⟩ := BR2.all B0.out
        refine wp_region_kept (by kernel_rfl) (by kernel_rfl) ?_
        repeat (go_big_quiet_step (first | (go_at_call 44; exact Calls.kept_of (HP.out _)) | (go_at_call 27; exact Calls.kept_of (HR.out _))))
        refine wpQuiet_nil ?_
        intro x
        go_wp2
        go_ret
        exact ⟨ret_bool E2.out.symm, none_trans B0.out.k x.k⟩
      · have h2' : decide (R < s) = false := decide_eq_false (by omega)
        have hs0 : ¬ (s : Int) = 0 := by omega
        obtain ⟨r, hr⟩ : ∃ r, r = p % s := ⟨_, rfl⟩
        have hr1 : (p : Int) % (s : Int) = (r : Int) := by rw [hr]; simp
        rw [← hr] at E
        clear hr
        by_cases h3 : r = 0
        · have h3' : ((r : Int) != 0) = false := by rw [bne_eq_false_iff_eq]; omega
          by_cases h4 : base ≤ p
          · have h4' : decide (p < base) = false := decide_eq_false (by omega)
            obtain ⟨d, hd⟩ : ∃ d, d = p - base := ⟨_, rfl⟩
            have hd1 : (p : Int) - (base : Int) = (d : Int) := by omega
            have hd2 : d < 2 ^ 64 := by omega
            obtain ⟨nr, hnr⟩ : ∃ nr, nr = n * R := ⟨_, rfl⟩
            have hnr1 : (n : Int) * (R : Int) = (nr : Int) := by rw [hnr]; simp
            have hnr2 : nr ≤ 67108864 := by rw [hnr]; exact Nat.le_trans (Nat.mul_le_mul hn hRl.2) (by decide)
            have E2 : Hid (okB base k n p s = decide (d < nr)) := by
              show _ = _
              rw [E.out, decide_eq_true (by omega : 16 ≤ s), decide_eq_true (by omega : s ≤ R), decide_eq_true h3, decide_eq_true h4, hd, hnr]; rfl
            clear E hd hnr h3 h4
            go_enter Try.func46, Try.ntmps46
            go_wp2
            generalize ((w.alloc (.cells #[.int .u64 (base : Int), .int .i64 lim, .int .i64 (k : Int)] 42)).alloc (.cells #[.int .u64 (p : Int), .int .u64 (s : Int)] 60)) = W0 at *
            obtain ⟨c0, c1, c2, c3, c4⟩ := BR2.all B0.out
            refine wp_region_kept (by kernel_rfl) (by kernel_rfl) ?_
            repeat (go_big_quiet_step (first | (go_at_call 44; exact Calls.kept_of (HP.out _)) | (go_at_call 27; exact Calls.kept_of (HR.out _))))
            refine wpQuiet_nil ?_
            intro x
            go_wp2
            obtain ⟨d0, d1, d2, d3, d4⟩ := BR2.all (B0.out.keep x.k)
            refine wp_region_kept (by kernel_rfl) (by kernel_rfl) ?_
            repeat (go_big_quiet_step (first | (go_at_call 27; exact Calls.kept_of (HR.out _))))
            refine wpQuiet_nil ?_
            intro y
            go_wp2
            go_ret
            exact ⟨ret_bool (by rw [E2.out]), none_trans B0.out.k (none_trans x.k y.k)⟩
          · have h4' : decide (p < base) = true := decide_eq_true (by omega)
            have E2 : Hid (okB base k n p s = false) := by
              show _ = _
              rw [E.out]
              simp [h4]
            clear E h3 h4
            go_enter Try.func46, Try.ntmps46
            go_wp2
            generalize ((w.alloc (.cells #[.int .u64 (base : Int), .int .i64 lim, .int .i64 (k : Int)] 42)).alloc (.cells #[.int .u64 (p : Int), .int .u64 (s : Int)] 60)) = W0 at *
            obtain ⟨c0, c1, c2, c3, c4⟩ := BR2.all B0.out
            refine wp_region_kept (by kernel_rfl) (by kernel_rfl) ?_
            repeat (go_big_quiet_step (first | (go_at_call 44; exact Calls.kept_of (HP.out _)) | (go_at_call 27; exact Calls.kept_of (HR.out _))))
            refine wpQuiet_nil ?_
            intro x
            go_wp2
            go_ret
            exact ⟨ret_bool E2.out.symm, none_trans B0.out.k x.k⟩
        · have h3' : ((r : Int) != 0) = true := by rw [bne_iff_ne]; omega
          have E2 : Hid (okB base k n p s = false) := by
            show _ = _
            rw [E.out]
            simp [h3]
          clear E h3
          go_enter Try.func46, Try.ntmps46
          go_wp2
          generalize ((w.alloc (.cells #[.int .u64 (base : Int), .int .i64 lim, .int .i64 (k : Int)] 42)).alloc (.cells #[.int .u64 (p : Int), .int .u64 (s : Int)] 60)) = W0 at *
          obtain ⟨c0, c1, c2, c3, c4⟩ := BR2.all B0.out
          refine wp_region_kept (by kernel_rfl) (by kernel_rfl) ?_
          repeat (go_big_quiet_step (first | (go_at_call 44; exact Calls.kept_of (HP.out _)) | (go_at_call 27; exact Calls.kept_of (HR.out _))))
          refine wpQuiet_nil ?_
          intro x
          go_wp2
          go_ret
          exact ⟨ret_bool E2.out.symm, none_trans B0.out.k x.k⟩

/-- Have two blocks a byte in common? -/
def meetB (p s p' s' : Nat) : Bool := decide (p < p' + s') && decide (p' < p + s)
theorem refMeet (p s p' s' : Nat) (h1 : p + s < 2 ^ 64) (h2 : p' + s' < 2 ^ 64) (w : World) :
    Calls Try.prog 47 #[blkV p s, blkV p' s'] w fun e w' => e = .returned (.bool (meetB p s p' s')) ∧ Kept none' w w' := by
  by_cases h : (p : Int) < (p' : Int) + (s' : Int)
  · have E := hid (show meetB p s p' s' = decide (p' < p + s) by unfold meetB; rw [decide_eq_true (by omega), Bool.true_and])
    go_enter Try.func47, Try.ntmps47
    go_wp2
    go_ret
    exact ⟨ret_bool (by rw [E.out, decide_eq_decide]; omega), ((Kept.refl _ w).alloc _).alloc _⟩
  · have E := hid (show meetB p s p' s' = false by unfold meetB; rw [decide_eq_false (by omega), Bool.false_and])
    go_enter Try.func47, Try.ntmps47
    go_wp2
    go_ret
    exact ⟨ret_bool E.out.symm, ((Kept.refl _ w).alloc _).alloc _⟩
theorem refPage (base : Nat) (lim ord : Int) (p : Nat) (hp : base ≤ p) (hp2 : p < 2 ^ 64) (w : World) :
    Calls Try.prog 48 #[cfgV base lim ord, .int .u64 (p : Int)] w fun e w' => e = .returned (.int .i64 (((p - base) / 4096 : Nat) : Int)) ∧ Kept none' w w' := by
  obtain ⟨d, hd⟩ : ∃ d, d = p - base := ⟨_, rfl⟩
  have hd1 : (p : Int) - (base : Int) = (d : Int) := by omega
  obtain ⟨q, hq⟩ : ∃ q, q = d / 4096 := ⟨_, rfl⟩
  have hq1 : (d : Int) / 4096 = (q : Int) := by omega
  have E := hid (show (p - base) / 4096 = q by rw [← hd, hq])
  have hqb : q < 2 ^ 52 := by omega
  have hdb : d < 2 ^ 64 := by omega
  clear hd hq
  go_enter Try.func48, Try.ntmps48
  go_wp2
  go_ret
  exact ⟨ret_int (by rw [E.out]), (Kept.refl _ w).alloc _⟩
end Go.Proofs.Ytibljocjdlgfbaa
