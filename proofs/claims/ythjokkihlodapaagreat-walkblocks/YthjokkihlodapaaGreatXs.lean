import Derived.Test.YthjokkihlodapaaGreatXh
set_option maxRecDepth 1000000
set_option maxHeartbeats 80000000
/- pagemap: clamp, clamped. -/
namespace Go.Proofs.YthjokkihlodapaaGreat.H
open Go.RowKit
set_option linter.unusedVariables false

def clampI (x lo hi : Int) : Int := min (max x lo) hi
theorem clamp_any (x lo hi : Int) (w : World) :
    Calls Tryz.prog 111 #[.int .i64 x, .int .i64 lo, .int .i64 hi] w fun e w' => e = .returned (.int .i64 (clampI x lo hi)) ∧ w' = w := by
  by_cases h1 : x < lo
  · by_cases h2 : hi < lo
    all_goals
      go_enter Tryz.func111, Tryz.ntmps111
      go_wp2_with fail
      go_ret
      exact ⟨ret_int (by unfold clampI; omega), rfl⟩
  · by_cases h2 : hi < x
    all_goals
      go_enter Tryz.func111, Tryz.ntmps111
      go_wp2_with fail
      go_ret
      exact ⟨ret_int (by unfold clampI; omega), rfl⟩
theorem keep11 {w : World} {z y i : Nat} {v : Value} (u0 u1 u2 u3 u4 u5 u6 u7 u8 u9 u10 : Value) (hz : z ≠ y) (h : w.cell? ⟨z, i, none⟩ = some v) : (((((((((((w.setCell ⟨y, 0, none⟩ u0).setCell ⟨y, 1, none⟩ u1).setCell ⟨y, 2, none⟩ u2).setCell ⟨y, 3, none⟩ u3).setCell ⟨y, 4, none⟩ u4).setCell ⟨y, 5, none⟩ u5).setCell ⟨y, 6, none⟩ u6).setCell ⟨y, 7, none⟩ u7).setCell ⟨y, 8, none⟩ u8).setCell ⟨y, 9, none⟩ u9).setCell ⟨y, 10, none⟩ u10).drew.cell? ⟨z, i, none⟩ = some v :=
  Kept.cell ((((((((((((Kept.refl (fun x => x = y) w).setCell (p := ⟨y, 0, none⟩) rfl _).setCell (p := ⟨y, 1, none⟩) rfl _).setCell (p := ⟨y, 2, none⟩) rfl _).setCell (p := ⟨y, 3, none⟩) rfl _).setCell (p := ⟨y, 4, none⟩) rfl _).setCell (p := ⟨y, 5, none⟩) rfl _).setCell (p := ⟨y, 6, none⟩) rfl _).setCell (p := ⟨y, 7, none⟩) rfl _).setCell (p := ⟨y, 8, none⟩) rfl _).setCell (p := ⟨y, 9, none⟩) rfl _).setCell (p := ⟨y, 10, none⟩) rfl _).drew (fun e => hz e) h
def clampP (m : Mp) (p : Pg) : Pg := { p with kd := clampI p.kd 0 4, od := clampI p.od 0 m.o, cl := clampI p.cl 0 7, lv := clampI p.lv 0 256, nx := clampI p.nx (-1) ((m.n : Int) - 1), pv := clampI p.pv (-1) ((m.n : Int) - 1), fs := clampI p.fs (-1) 255 }
set_option maxRecDepth 4000 in
set_option maxHeartbeats 4000000 in
theorem clamped_any (b : Nat) (B : Bs) (m : Mp) (p : Pg) (w : World) (h : MapAt w b B m) :
    Calls Tryz.prog 84 #[.pointer (some ⟨b, 0, none⟩), pval p] w fun e w' => e = .returned (pval (clampP m p)) ∧ Kept none' w w' := by
  obtain ⟨cq, c0, c1, c2⟩ := h.cb
  have hb1 : b < w.heap.size := h.own_lt b (.inl rfl)
  have hb2 : b ≠ w.heap.size := by omega
  have hb3 : b ≠ w.heap.size + 1 := by omega
  have hn1 := h.n1
  have HM := hid h
  have CP := hid (show clampP m p = { p with kd := clampI p.kd 0 4, od := clampI p.od 0 m.o, cl := clampI p.cl 0 7, lv := clampI p.lv 0 256, nx := clampI p.nx (-1) ((m.n : Int) - 1), pv := clampI p.pv (-1) ((m.n : Int) - 1), fs := clampI p.fs (-1) 255 } from rfl)
  clear h
  go_enter Tryz.func84, Tryz.ntmps84
  go_wp2_with fail
  obtain ⟨W, hW⟩ : ∃ W, W = (w.alloc (.cells #[.int .i64 p.kd, .int .i64 p.od, .int .i64 p.cl, .int .i64 p.lv, .int .i64 p.nx, .int .i64 p.pv, .int .i64 p.fs, .int .u64 (p.b0 : Int), .int .u64 (p.b1 : Int), .int .u64 (p.b2 : Int), .int .u64 (p.b3 : Int)] 52)).alloc (.cells #[.int .i64 0, .int .i64 0, .int .i64 0, .int .i64 0, .int .i64 0, .int .i64 0, .int .i64 0, .int .u64 0, .int .u64 0, .int .u64 0, .int .u64 0] 52) := ⟨_, rfl⟩
  have KW := hid (show Kept none' w W by rw [hW]; exact ((Kept.refl none' w).alloc _).alloc _)
  have XP := hid (show W.heap[w.heap.size]? = some (pobj p) by rw [hW]; exact (Below.heap_alloc _ _ _ (by simp)).trans (heap_new w _))
  have XR := hid (show W.heap[w.heap.size + 1]? = some (pobj zeroP) by rw [hW]; exact heap_new2 w _ _)
  rw [← hW]
  clear hW hb1 hb2 hb3 c1 c2
  have c0 := KW.out.cell (fun x => x) c0
  obtain ⟨x0, x1, x2, x3, x4, x5, x6, x7, x8, x9, x10⟩ := box11 XP.out
  obtain ⟨y0, y1, y2, y3, y4, y5, y6, y7, y8, y9, y10⟩ := box11 XR.out
  have z := boxz XR.out
  have c0d : W.drew.cell? ⟨b, 0, none⟩ = some (.int .i64 (m.o : Int)) := c0
  have xd0 := show W.drew.cell? ⟨w.heap.size, 0, none⟩ = _ from x0
  have xd1 := show W.drew.cell? ⟨w.heap.size, 1, none⟩ = _ from x1
  have xd2 := show W.drew.cell? ⟨w.heap.size, 2, none⟩ = _ from x2
  have xd3 := show W.drew.cell? ⟨w.heap.size, 3, none⟩ = _ from x3
  have xd4 := show W.drew.cell? ⟨w.heap.size, 4, none⟩ = _ from x4
  have xd5 := show W.drew.cell? ⟨w.heap.size, 5, none⟩ = _ from x5
  have xd6 := show W.drew.cell? ⟨w.heap.size, 6, none⟩ = _ from x6
  have xd7 := show W.drew.cell? ⟨w.heap.size, 7, none⟩ = _ from x7
  have xd8 := show W.drew.cell? ⟨w.heap.size, 8, none⟩ = _ from x8
  have xd9 := show W.drew.cell? ⟨w.heap.size, 9, none⟩ = _ from x9
  have xd10 := show W.drew.cell? ⟨w.heap.size, 10, none⟩ = _ from x10
  have hby : b ≠ w.heap.size + 1 := by have := HM.out.own_lt b (.inl rfl); omega
  have hxy : w.heap.size ≠ w.heap.size + 1 := by omega
  go_region_held3 (fun w' => w'.cell? ⟨b, 0, none⟩ = some (.int .i64 (m.o : Int)) ∧ w'.cell? ⟨w.heap.size, 0, none⟩ = some (.int .i64 p.kd) ∧ w'.cell? ⟨w.heap.size, 1, none⟩ = some (.int .i64 p.od) ∧ w'.cell? ⟨w.heap.size, 2, none⟩ = some (.int .i64 p.cl) ∧ w'.cell? ⟨w.heap.size, 3, none⟩ = some (.int .i64 p.lv) ∧ w'.cell? ⟨w.heap.size, 4, none⟩ = some (.int .i64 p.nx) ∧ w'.cell? ⟨w.heap.size, 5, none⟩ = some (.int .i64 p.pv) ∧ w'.cell? ⟨w.heap.size, 6, none⟩ = some (.int .i64 p.fs) ∧ w'.cell? ⟨w.heap.size, 7, none⟩ = some (.int .u64 (p.b0 : Int)) ∧ w'.cell? ⟨w.heap.size, 8, none⟩ = some (.int .u64 (p.b1 : Int)) ∧ w'.cell? ⟨w.heap.size, 9, none⟩ = some (.int .u64 (p.b2 : Int)) ∧ w'.cell? ⟨w.heap.size, 10, none⟩ = some (.int .u64 (p.b3 : Int))) (first | with_reducible assumption | with_reducible exact ⟨c0d, xd0, xd1, xd2, xd3, xd4, xd5, xd6, xd7, xd8, xd9, xd10⟩ | with_reducible exact ⟨keep11 _ _ _ _ _ _ _ _ _ _ _ hby c0, keep11 _ _ _ _ _ _ _ _ _ _ _ hxy x0, keep11 _ _ _ _ _ _ _ _ _ _ _ hxy x1, keep11 _ _ _ _ _ _ _ _ _ _ _ hxy x2, keep11 _ _ _ _ _ _ _ _ _ _ _ hxy x3, keep11 _ _ _ _ _ _ _ _ _ _ _ hxy x4, keep11 _ _ _ _ _ _ _ _ _ _ _ hxy x5, keep11 _ _ _ _ _ _ _ _ _ _ _ hxy x6, keep11 _ _ _ _ _ _ _ _ _ _ _ hxy x7, keep11 _ _ _ _ _ _ _ _ _ _ _ hxy x8, keep11 _ _ _ _ _ _ _ _ _ _ _ hxy x9, keep11 _ _ _ _ _ _ _ _ _ _ _ hxy x10⟩) ((go_at_call 111; refine (clamp_any _ _ _ _).mono ?_; rintro e w1 ⟨rfl, rfl⟩))
  all_goals
    clear c0d xd0 xd1 xd2 xd3 xd4 xd5 xd6 xd7 xd8 xd9 xd10
    go_wp2_with fail
    exact ⟨rfl, pval (clampP m p), by simp [results, Tryz.results84, go_sem, clampP, y0, y1, y2, y3, y4, y5, y6, y7, y8, y9, y10], rfl, (setB_kept KW.out (w.heap.size + 1) (fun h => absurd h (by omega)) (clampP m p)).drew⟩
end Go.Proofs.YthjokkihlodapaaGreat.H
