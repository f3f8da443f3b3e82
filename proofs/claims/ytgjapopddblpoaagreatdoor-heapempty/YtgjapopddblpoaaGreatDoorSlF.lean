import Derived.Test.YtgjapopddblpoaaGreatDoorSlE
/- Package slab: the live cell at an address. -/
namespace Go.Proofs.YtgjapopddblpoaaGreatDoor
open Go.RowKit
set_option linter.unusedVariables false

theorem cvbit {W : World} {y : Nat} {p n : Int} {q : Pg} (h : W.heap[y]? = some (cvO p n q)) (k : Nat) (hk : k < 4) : W.cell? ⟨y, 9 + k, none⟩ = some (.int .u64 ((wP q k : Nat) : Int)) := by
  obtain ⟨_, _, _, _, _, _, _, _, _, x9, x10, x11, x12⟩ := cv13 h
  rcases k with _ | _ | _ | _ | k
  · exact x9
  · exact x10
  · exact x11
  · exact x12
  · omega
theorem wP_lt {q : Pg} (ok : PgOk q) (k : Nat) (hk : k < 4) : wP q k < 18446744073709551616 := by
  rcases k with _ | _ | _ | _ | k
  · exact ok.b0
  · exact ok.b1
  · exact ok.b2
  · exact ok.b3
  · omega
set_option maxRecDepth 4000 in
set_option maxHeartbeats 1000000 in
theorem live_yes {w W sb lw x t h} (s : SW w W sb lw x t h) (p : Nat) (hp : p < 18446744073709551616) (hB : atB x t p = true) :
    Calls Tryz.prog 127 #[.pointer (some ⟨sb, 0, none⟩), .int .u64 (p : Int)] W fun e w' => e = .returned (.tuple #[cvV ((offS x p / 4096 : Nat) : Int) ((atN x t p : Nat) : Int) (atQ x t p), .bool (litP (atQ x t p) (atN x t p))]) ∧ Kept none' W w' := by
  have K0 := hid ((Kept.refl none' W).alloc cvZ)
  have S0 := hid (s.keep K0.out)
  have X0 := hid (show (W.alloc cvZ).heap[W.heap.size]? = some (cvO 0 0 zeroP) from heap_new W cvZ)
  have AT := hid (at_yes S0.out p hp hB)
  have ok : PgOk (atQ x t p) := atP_ok s.pl.bd.mp _
  have hn256 : atN x t p < 256 := by
    unfold atN
    have hc8 : (atQ x t p).cl.toNat < 8 := by have := ok.c7; have := ok.c0; omega
    have hz := szC_le hc8
    exact Nat.div_lt_of_lt_mul (Nat.lt_of_lt_of_le (Nat.mod_lt _ (by decide)) (show 4096 ≤ szC (atQ x t p).cl.toNat * 256 by omega))
  obtain ⟨g, hg⟩ : ∃ g, g = offS x p / 4096 := ⟨_, rfl⟩
  obtain ⟨n, hn⟩ : ∃ n, n = atN x t p := ⟨_, rfl⟩
  obtain ⟨q, hq⟩ : ∃ q, q = atQ x t p := ⟨_, rfl⟩
  rw [← hg, ← hn, ← hq] at AT ⊢
  rw [← hn] at hn256
  rw [← hq] at ok
  clear hg hn hq s hB
  obtain ⟨k, hk⟩ : ∃ k, k = n / 64 := ⟨_, rfl⟩
  obtain ⟨r, hr⟩ : ∃ r, r = n % 64 := ⟨_, rfl⟩
  have hk4 : k < 4 := by omega
  have hki : (n : Int) / 64 = (k : Int) := by omega
  have hri : (n : Int).tmod 64 = (r : Int) := by rw [Int.tmod_eq_emod_of_nonneg (by omega)]; omega
  have hr64 : r < 64 := by omega
  obtain ⟨v, hv⟩ : ∃ v, v = wP q k := ⟨_, rfl⟩
  have hvb : v < 18446744073709551616 := by rw [hv]; exact wP_lt ok k hk4
  have E := live_eq v r hvb
  have hl : litP q n = (v / 2 ^ r % 2 == 1) := by unfold litP; rw [← hk, ← hr, ← hv]
  have HL := hid hl
  have HV := hid hv
  obtain ⟨lit, hlit⟩ : ∃ lit, lit = litP q n := ⟨_, rfl⟩
  rw [← hlit]
  have HLIT := hid hlit
  clear hl hv hlit hk hr ok
  go_enter Tryz.func127, Tryz.ntmps127
  go_upto_region 1 with fail
  obtain ⟨y, hy⟩ : ∃ y, y = W.heap.size := ⟨_, rfl⟩
  have HY := hid (show W.heap.size ≤ y from Nat.le_of_eq hy.symm)
  rw [← hy] at X0
  rw [← hy]
  clear hy
  generalize W.alloc cvZ = W0 at *
  go_wp2_with fail
  refine AT.out.mono ?_
  rintro e w1 ⟨rfl, hk1⟩
  have K1 := hid (hk1.alloc (cvO (g : Int) (n : Int) q))
  have X1 := hid (heap_new w1 (cvO (g : Int) (n : Int) q))
  have Y1 := hid ((K1.out.block _ (heap_lt X0.out) (fun e => e)).trans X0.out)
  have KW := hid (none_trans K0.out K1.out)
  have HYU := hid (show y < w1.heap.size from Nat.lt_of_lt_of_le (heap_lt X0.out) hk1.size)
  clear hk1 AT
  go_upto_region 2 with fail
  generalize w1.heap.size = u at *
  generalize w1.alloc (cvO (g : Int) (n : Int) q) = W1 at *
  obtain ⟨a0, a1, a2, a3, a4, a5, a6, a7, a8, a9, a10, a11, a12⟩ := cv13 X1.out
  have ab := cvbit X1.out k hk4
  rw [← HV.out] at ab
  obtain ⟨x0, x1, x2, x3, x4, x5, x6, x7, x8, x9, x10, x11, x12⟩ := cv13 Y1.out
  have xf := cvfz Y1.out
  have hyu : ¬ y = u := by have := HYU.out; omega
  have huy : ¬ u = y := by have := HYU.out; omega
  go_wp2_with fail
  go_region
  all_goals
    have HYY := hid (show y < W.heap.size → none' y from fun e => absurd e (Nat.not_lt.2 HY.out))
    have X8 := hid (setV_heap (W := W1) (y := y) Y1.out (v0 := .int .i64 (g : Int)) (v1 := .int .i64 (n : Int)) (v2 := .int .i64 q.kd) (v3 := .int .i64 q.od) (v4 := .int .i64 q.cl) (v5 := .int .i64 q.lv) (v6 := .int .i64 q.nx) (v7 := .int .i64 q.pv) (v8 := .int .i64 q.fs) (v9 := .int .u64 (q.b0 : Int)) (v10 := .int .u64 (q.b1 : Int)) (v11 := .int .u64 (q.b2 : Int)) (v12 := .int .u64 (q.b3 : Int)))
    have K8 := hid (((((((((((((KW.out.setNew (p := ⟨y, 0, none⟩) HYY.out (.int .i64 (g : Int))).setNew (p := ⟨y, 1, none⟩) HYY.out (.int .i64 (n : Int))).setNew (p := ⟨y, 2, none⟩) HYY.out (.int .i64 q.kd)).setNew (p := ⟨y, 3, none⟩) HYY.out (.int .i64 q.od)).setNew (p := ⟨y, 4, none⟩) HYY.out (.int .i64 q.cl)).setNew (p := ⟨y, 5, none⟩) HYY.out (.int .i64 q.lv)).setNew (p := ⟨y, 6, none⟩) HYY.out (.int .i64 q.nx)).setNew (p := ⟨y, 7, none⟩) HYY.out (.int .i64 q.pv)).setNew (p := ⟨y, 8, none⟩) HYY.out (.int .i64 q.fs)).setNew (p := ⟨y, 9, none⟩) HYY.out (.int .u64 (q.b0 : Int))).setNew (p := ⟨y, 10, none⟩) HYY.out (.int .u64 (q.b1 : Int))).setNew (p := ⟨y, 11, none⟩) HYY.out (.int .u64 (q.b2 : Int))).setNew (p := ⟨y, 12, none⟩) HYY.out (.int .u64 (q.b3 : Int)))
    generalize (((((((((((((W1.setCell ⟨y, 0, none⟩ (.int .i64 (g : Int))).setCell ⟨y, 1, none⟩ (.int .i64 (n : Int))).setCell ⟨y, 2, none⟩ (.int .i64 q.kd)).setCell ⟨y, 3, none⟩ (.int .i64 q.od)).setCell ⟨y, 4, none⟩ (.int .i64 q.cl)).setCell ⟨y, 5, none⟩ (.int .i64 q.lv)).setCell ⟨y, 6, none⟩ (.int .i64 q.nx)).setCell ⟨y, 7, none⟩ (.int .i64 q.pv)).setCell ⟨y, 8, none⟩ (.int .i64 q.fs)).setCell ⟨y, 9, none⟩ (.int .u64 (q.b0 : Int))).setCell ⟨y, 10, none⟩ (.int .u64 (q.b1 : Int))).setCell ⟨y, 11, none⟩ (.int .u64 (q.b2 : Int))).setCell ⟨y, 12, none⟩ (.int .u64 (q.b3 : Int))) = W8 at *
    have K9 := hid (show Kept none' W W8.drew from K8.out.drew)
    have X9 := hid (show W8.drew.heap[y]? = some (cvO (g : Int) (n : Int) q) from X8.out)
    generalize W8.drew = W9 at *
    clear a0 a1 a2 a3 a4 a5 a6 a7 a8 a9 a10 a11 a12 x0 x1 x2 x3 x4 x5 x6 x7 x8 x9 x10 x11 x12
    obtain ⟨x0, x1, x2, x3, x4, x5, x6, x7, x8, x9, x10, x11, x12⟩ := cv13 X9.out
    rw [show (v / 2 ^ r % 2 == 1) = lit by rw [HLIT.out, HL.out]]
    go_wp2_with fail
    exact ⟨rfl, _, by simp [results, Tryz.results127, go_sem, x0, x1, x2, x3, x4, x5, x6, x7, x8, x9, x10, x11, x12], rfl, K9.out⟩
set_option maxRecDepth 4000 in
set_option maxHeartbeats 1000000 in
theorem live_no {w W sb lw x t h} (s : SW w W sb lw x t h) (p : Nat) (hp : p < 18446744073709551616) (hB : atB x t p = false) :
    Calls Tryz.prog 127 #[.pointer (some ⟨sb, 0, none⟩), .int .u64 (p : Int)] W fun e w' => e = .returned (.tuple #[cvV 0 0 zeroP, .bool false]) ∧ Kept none' W w' := by
  have K0 := hid ((Kept.refl none' W).alloc cvZ)
  have S0 := hid (s.keep K0.out)
  have X0 := hid (show (W.alloc cvZ).heap[W.heap.size]? = some (cvO 0 0 zeroP) from heap_new W cvZ)
  have AT := hid (at_no S0.out p hp hB)
  clear s hB
  go_enter Tryz.func127, Tryz.ntmps127
  go_upto_region 1 with fail
  obtain ⟨y, hy⟩ : ∃ y, y = W.heap.size := ⟨_, rfl⟩
  have HY := hid (show W.heap.size ≤ y from Nat.le_of_eq hy.symm)
  rw [← hy] at X0
  rw [← hy]
  clear hy
  generalize W.alloc cvZ = W0 at *
  go_wp2_with fail
  refine AT.out.mono ?_
  rintro e w1 ⟨rfl, hk1⟩
  have K1 := hid (hk1.alloc (cvO 0 0 zeroP))
  have X1 := hid (heap_new w1 (cvO 0 0 zeroP))
  have Y1 := hid ((K1.out.block _ (heap_lt X0.out) (fun e => e)).trans X0.out)
  have KW := hid (none_trans K0.out K1.out)
  have HYU := hid (show y < w1.heap.size from Nat.lt_of_lt_of_le (heap_lt X0.out) hk1.size)
  clear hk1 AT
  go_upto_region 2 with fail
  generalize w1.heap.size = u at *
  generalize w1.alloc (cvO 0 0 zeroP) = W1 at *
  obtain ⟨a0, a1, a2, a3, a4, a5, a6, a7, a8, a9, a10, a11, a12⟩ := cv13 X1.out
  obtain ⟨x0, x1, x2, x3, x4, x5, x6, x7, x8, x9, x10, x11, x12⟩ := cv13 Y1.out
  have xf := cvfz Y1.out
  have hyu : ¬ y = u := by have := HYU.out; omega
  have huy : ¬ u = y := by have := HYU.out; omega
  go_wp2_with fail
  go_region
  all_goals
    have HYY := hid (show y < W.heap.size → none' y from fun e => absurd e (Nat.not_lt.2 HY.out))
    have X8 := hid (setV_heap (W := W1) (y := y) Y1.out (v0 := .int .i64 0) (v1 := .int .i64 0) (v2 := .int .i64 zeroP.kd) (v3 := .int .i64 zeroP.od) (v4 := .int .i64 zeroP.cl) (v5 := .int .i64 zeroP.lv) (v6 := .int .i64 zeroP.nx) (v7 := .int .i64 zeroP.pv) (v8 := .int .i64 zeroP.fs) (v9 := .int .u64 (zeroP.b0 : Int)) (v10 := .int .u64 (zeroP.b1 : Int)) (v11 := .int .u64 (zeroP.b2 : Int)) (v12 := .int .u64 (zeroP.b3 : Int)))
    have K8 := hid (((((((((((((KW.out.setNew (p := ⟨y, 0, none⟩) HYY.out (.int .i64 0)).setNew (p := ⟨y, 1, none⟩) HYY.out (.int .i64 0)).setNew (p := ⟨y, 2, none⟩) HYY.out (.int .i64 zeroP.kd)).setNew (p := ⟨y, 3, none⟩) HYY.out (.int .i64 zeroP.od)).setNew (p := ⟨y, 4, none⟩) HYY.out (.int .i64 zeroP.cl)).setNew (p := ⟨y, 5, none⟩) HYY.out (.int .i64 zeroP.lv)).setNew (p := ⟨y, 6, none⟩) HYY.out (.int .i64 zeroP.nx)).setNew (p := ⟨y, 7, none⟩) HYY.out (.int .i64 zeroP.pv)).setNew (p := ⟨y, 8, none⟩) HYY.out (.int .i64 zeroP.fs)).setNew (p := ⟨y, 9, none⟩) HYY.out (.int .u64 (zeroP.b0 : Int))).setNew (p := ⟨y, 10, none⟩) HYY.out (.int .u64 (zeroP.b1 : Int))).setNew (p := ⟨y, 11, none⟩) HYY.out (.int .u64 (zeroP.b2 : Int))).setNew (p := ⟨y, 12, none⟩) HYY.out (.int .u64 (zeroP.b3 : Int)))
    generalize (((((((((((((W1.setCell ⟨y, 0, none⟩ (.int .i64 0)).setCell ⟨y, 1, none⟩ (.int .i64 0)).setCell ⟨y, 2, none⟩ (.int .i64 zeroP.kd)).setCell ⟨y, 3, none⟩ (.int .i64 zeroP.od)).setCell ⟨y, 4, none⟩ (.int .i64 zeroP.cl)).setCell ⟨y, 5, none⟩ (.int .i64 zeroP.lv)).setCell ⟨y, 6, none⟩ (.int .i64 zeroP.nx)).setCell ⟨y, 7, none⟩ (.int .i64 zeroP.pv)).setCell ⟨y, 8, none⟩ (.int .i64 zeroP.fs)).setCell ⟨y, 9, none⟩ (.int .u64 (zeroP.b0 : Int))).setCell ⟨y, 10, none⟩ (.int .u64 (zeroP.b1 : Int))).setCell ⟨y, 11, none⟩ (.int .u64 (zeroP.b2 : Int))).setCell ⟨y, 12, none⟩ (.int .u64 (zeroP.b3 : Int))) = W8 at *
    have K9 := hid (show Kept none' W W8.drew from K8.out.drew)
    have X9 := hid (show W8.drew.heap[y]? = some (cvO 0 0 zeroP) from X8.out)
    generalize W8.drew = W9 at *
    clear a0 a1 a2 a3 a4 a5 a6 a7 a8 a9 a10 a11 a12 x0 x1 x2 x3 x4 x5 x6 x7 x8 x9 x10 x11 x12
    obtain ⟨x0, x1, x2, x3, x4, x5, x6, x7, x8, x9, x10, x11, x12⟩ := cv13 X9.out
    go_wp2_with fail
    exact ⟨rfl, _, by simp [results, Tryz.results127, go_sem, x0, x1, x2, x3, x4, x5, x6, x7, x8, x9, x10, x11, x12], rfl, K9.out⟩
end Go.Proofs.YtgjapopddblpoaaGreatDoor
