import Derived.Test.YthglogiglimebaaGreatKpm
import Derived.Deep.RegionHeld3
/- BuddyKeeps: does a block hold its mark? -/
namespace Go.Proofs.YthglogiglimebaaGreat
open Go.RowKit
set_option linter.unusedVariables false

theorem space_some {w s a base R lim n f} (h : M.SpaceAt w s a base R lim n f) (hn : 0 < n) : ∃ g, a = some g := by
  obtain ⟨cap, hb, hr⟩ := h.ex
  cases a with
  | none => exact absurd hr.1 (by omega)
  | some g => exact ⟨g, rfl⟩
set_option maxRecDepth 4000 in
set_option maxHeartbeats 4000000 in
theorem marked_ok {w W lw x t dP fv lv} (h : LW w W lw x t dP fv lv) (p k mk : Nat) (hk : k ≤ 8) (hp : p + 2 ^ k ≤ 1024) (hn : 4096 * (p + 2 ^ k) ≤ x.n) (hm : ∀ i, 4096 * p ≤ i → i < 4096 * (p + 2 ^ k) → t.f i = mk) (hx : mk < 256) :
    Calls Tryz.prog 22 #[.pointer (some ⟨lw, 0, none⟩), .agg #[.int .i64 (p : Int), .int .i64 (k : Int), .int .u8 (mk : Int)]] W fun e w' => e = .returned (.bool true) ∧ Kept none' W w' := by
  obtain ⟨z, hz⟩ : ∃ z, z = 2 ^ k := ⟨_, rfl⟩
  have hzi : (2 : Int) ^ k = (z : Int) := by rw [hz]; simp
  have hz2 : z ≤ 256 := by rw [hz]; exact Nat.pow_le_pow_right (n := 2) (by decide) hk
  have hz0 : 0 < z := by rw [hz]; exact Nat.pow_pos (by decide)
  rw [← hz] at hp hn hm
  clear hz
  obtain ⟨g, hg⟩ := space_some h.bd.sp (by omega)
  have hbe := h.bd.sp.cfg.be
  have hnl := h.bd.sp.nle
  have K1 := ((Kept.refl none' W).alloc (.cells #[.int .i64 (p : Int), .int .i64 (k : Int), .int .u8 (mk : Int)] 62)).drew
  have HD := hid (h.keep K1)
  have XD := hid (show ((W.alloc (.cells #[.int .i64 (p : Int), .int .i64 (k : Int), .int .u8 (mk : Int)] 62)).drew).heap[W.heap.size]? = some (.cells #[.int .i64 (p : Int), .int .i64 (k : Int), .int .u8 (mk : Int)] 62) from heap_new W _)
  have KD := hid K1
  have SZ := hid (show ((W.alloc (.cells #[.int .i64 (p : Int), .int .i64 (k : Int), .int .u8 (mk : Int)] 62)).drew).heap.size = W.heap.size + 1 from by show (W.alloc _).heap.size = _; simp)
  obtain ⟨N, hN⟩ : ∃ N, N = 4096 * z := ⟨_, rfl⟩
  have AT := hid (at_ok HD.out p (by omega) (by omega))
  have RD := hid (show ∀ W1, LW w W1 lw x t dP fv lv → Calls Tryz.prog 74 #[.pointer (some ⟨x.s, 0, none⟩), .int .u64 ((ad x p : Nat) : Int), .int .u64 (N : Int)] W1 fun e w' => e = .returned (.tuple #[.slice (some ⟨W1.heap.size + 1, 0, none⟩) N N, .int .i64 0]) ∧ (∀ i, i < N → w'.cell? ⟨W1.heap.size + 1, i, none⟩ = some (.int .u8 (mk : Int))) ∧ Kept none' W1 w' from fun W1 h1 => by
    have hs := h1.bd.sp
    rw [hg] at hs
    rw [hN]
    refine (M.Read_in x.s g x.base x.R x.lim x.n t.f (ad x p) (4096 * z) W1 hs (by omega) (by unfold M.In ad; omega)).mono ?_
    rintro e w' ⟨rfl, h2, h3⟩
    refine ⟨rfl, fun i hi => ?_, toK h3⟩
    have := h2.cell i hi
    rw [show ad x p - x.base + i = 4096 * p + i by unfold ad; omega, hm _ (by omega) (by omega)] at this
    exact this)
  obtain ⟨a, ha⟩ : ∃ a, a = ad x p := ⟨_, rfl⟩
  rw [← ha] at AT RD
  obtain ⟨_, _, _, d3, _, _, _, _, _, _⟩ := HD.out.c
  obtain ⟨d0, d1, d2, _⟩ := bx33 XD.out
  have hNi : 4096 * (z : Int) = (N : Int) := by omega
  have hN2 : N ≤ 1048576 := by omega
  have hsh : IntKind.u64.wrap (4096 * 2 ^ min (IntKind.u64.wrap (k : Int)).toNat 64) = (N : Int) := by
    have h1 : IntKind.u64.wrap (k : Int) = (k : Int) := Int.emod_eq_of_lt (by omega) (by show (k : Int) < 18446744073709551616; omega)
    rw [h1, Int.toNat_natCast, Nat.min_eq_left (by omega), hzi, hNi]
    exact Int.emod_eq_of_lt (by omega) (by show (N : Int) < 18446744073709551616; omega)
  have HN := hid hN
  clear h K1 hg hbe hnl hm hp hn ha hN
  go_enter Tryz.func22, Tryz.ntmps22
  go_wp2_with fail
  go_region_held3 (fun w' => w'.cell? ⟨lw, 3, none⟩ = some (.pointer (some ⟨x.s, 0, none⟩)) ∧ w'.cell? ⟨W.heap.size, 0, none⟩ = some (.int .i64 (p : Int)) ∧ w'.cell? ⟨W.heap.size, 1, none⟩ = some (.int .i64 (k : Int))) ((refine ⟨?_, ?_, ?_⟩ <;> first | with_reducible assumption)) (first
    | (go_at_call 11; refine AT.out.mono ?_; rintro e w2 ⟨rfl, h2⟩; replace h2 := h2.symm; subst h2)
    | (go_at_call 74; refine (RD.out _ HD.out).mono ?_; rintro e w3 ⟨rfl, hc, hk⟩; have C3 := hid (fun i hi => (show w3.cell? ⟨W.heap.size + 1 + 1, i, none⟩ = some (.int .u8 (mk : Int)) from by rw [← SZ.out]; exact hc i hi)); have K3 := hid (none_trans KD.out hk); have X3 := hid ((hk.block _ (heap_lt XD.out) (fun e => e)).trans XD.out); have H3 := hid (HD.out.keep hk); obtain ⟨_, _, _, y3, _, _, _, _, _, _⟩ := H3.out.c; obtain ⟨y0, y1, y2, _⟩ := bx33 X3.out; clear hk hc)
    | fail)
  all_goals
    clear d0 d1 d2 d3 y3
    go_wp2_with fail
    go_loopw [7] (fun i W' => ∃ j : Nat, j ≤ N ∧ i = .int .i64 j ∧ Hid (Kept none' w3 W')) (fun i _ => N - (intOf i).toNat)
    case atStart => exact ⟨0, by omega, rfl, hid (Kept.refl none' w3)⟩
    case round =>
      obtain ⟨j, hj, rfl, hW⟩ := hrel
      by_cases hlt : j < N
      · have hji : (j : Int) < (N : Int) := by omega
        have c0 := hW.out.cell (fun e => e) (C3.out j hlt)
        have c2 := hW.out.cell (fun e => e) (bx33 X3.out).2.2.1
        have KR := hid (fun m => (Kept.refl none' wr).drewN m)
        go_wp2_with fail
        go_quiet (fail)
        go_wp2_with fail
        exact ⟨⟨j + 1, by omega, by simp, hid (none_trans hW.out (KR.out _))⟩, by simp [intOf]; omega⟩
      · have hji : ¬ (j : Int) < (N : Int) := by omega
        go_wp2_with fail
        go_ret
        exact ⟨rfl, none_trans K3.out hW.out⟩
end Go.Proofs.YthglogiglimebaaGreat
