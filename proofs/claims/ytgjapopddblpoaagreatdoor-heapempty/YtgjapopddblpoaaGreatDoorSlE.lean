import Derived.Test.YtgjapopddblpoaaGreatDoorRa
/- Package slab: the cell at an address. (Written by mksle.py.) -/
namespace Go.Proofs.YtgjapopddblpoaaGreatDoor
open Go.RowKit
set_option linter.unusedVariables false

/-- A cell's struct. -/
abbrev cvV (p n : Int) (q : Pg) : Value := .agg #[.int .i64 p, .int .i64 n, .int .i64 q.kd, .int .i64 q.od, .int .i64 q.cl, .int .i64 q.lv, .int .i64 q.nx, .int .i64 q.pv, .int .i64 q.fs, .int .u64 (q.b0 : Int), .int .u64 (q.b1 : Int), .int .u64 (q.b2 : Int), .int .u64 (q.b3 : Int)]
abbrev cvO (p n : Int) (q : Pg) : Obj := .cells #[.int .i64 p, .int .i64 n, .int .i64 q.kd, .int .i64 q.od, .int .i64 q.cl, .int .i64 q.lv, .int .i64 q.nx, .int .i64 q.pv, .int .i64 q.fs, .int .u64 (q.b0 : Int), .int .u64 (q.b1 : Int), .int .u64 (q.b2 : Int), .int .u64 (q.b3 : Int)] 188
abbrev cvZ : Obj := .cells #[.int .i64 0, .int .i64 0, .int .i64 0, .int .i64 0, .int .i64 0, .int .i64 0, .int .i64 0, .int .i64 0, .int .i64 0, .int .u64 0, .int .u64 0, .int .u64 0, .int .u64 0] 188
theorem setV_heap {W : World} {y : Nat} {ty : TypeId} {u0 u1 u2 u3 u4 u5 u6 u7 u8 u9 u10 u11 u12 v0 v1 v2 v3 v4 v5 v6 v7 v8 v9 v10 v11 v12 : Value} (h : W.heap[y]? = some (.cells #[u0, u1, u2, u3, u4, u5, u6, u7, u8, u9, u10, u11, u12] ty)) : (((((((((((((W.setCell ⟨y, 0, none⟩ v0).setCell ⟨y, 1, none⟩ v1).setCell ⟨y, 2, none⟩ v2).setCell ⟨y, 3, none⟩ v3).setCell ⟨y, 4, none⟩ v4).setCell ⟨y, 5, none⟩ v5).setCell ⟨y, 6, none⟩ v6).setCell ⟨y, 7, none⟩ v7).setCell ⟨y, 8, none⟩ v8).setCell ⟨y, 9, none⟩ v9).setCell ⟨y, 10, none⟩ v10).setCell ⟨y, 11, none⟩ v11).setCell ⟨y, 12, none⟩ v12).heap[y]? = some (.cells #[v0, v1, v2, v3, v4, v5, v6, v7, v8, v9, v10, v11, v12] ty) := by
  have := (heap_set (heap_set (heap_set (heap_set (heap_set (heap_set (heap_set (heap_set (heap_set (heap_set (heap_set (heap_set (heap_set h 0 v0) 1 v1) 2 v2) 3 v3) 4 v4) 5 v5) 6 v6) 7 v7) 8 v8) 9 v9) 10 v10) 11 v11) 12 v12)
  simpa using this
abbrev setC (w : World) (y : Nat) (p n : Int) (q : Pg) : World := (((((((((((((w.setCell ⟨y, 0, none⟩ (.int .i64 p)).setCell ⟨y, 1, none⟩ (.int .i64 n)).setCell ⟨y, 2, none⟩ (.int .i64 q.kd)).setCell ⟨y, 3, none⟩ (.int .i64 q.od)).setCell ⟨y, 4, none⟩ (.int .i64 q.cl)).setCell ⟨y, 5, none⟩ (.int .i64 q.lv)).setCell ⟨y, 6, none⟩ (.int .i64 q.nx)).setCell ⟨y, 7, none⟩ (.int .i64 q.pv)).setCell ⟨y, 8, none⟩ (.int .i64 q.fs)).setCell ⟨y, 9, none⟩ (.int .u64 (q.b0 : Int))).setCell ⟨y, 10, none⟩ (.int .u64 (q.b1 : Int))).setCell ⟨y, 11, none⟩ (.int .u64 (q.b2 : Int))).setCell ⟨y, 12, none⟩ (.int .u64 (q.b3 : Int)))
theorem setC_kept {S : Nat → Prop} {a w : World} (h : Kept S a w) {y : Nat} (hy : y < a.heap.size → S y) (p n : Int) (q : Pg) : Kept S a (setC w y p n q) := (((((((((((((h.setNew (p := ⟨y, 0, none⟩) hy _).setNew (p := ⟨y, 1, none⟩) hy _).setNew (p := ⟨y, 2, none⟩) hy _).setNew (p := ⟨y, 3, none⟩) hy _).setNew (p := ⟨y, 4, none⟩) hy _).setNew (p := ⟨y, 5, none⟩) hy _).setNew (p := ⟨y, 6, none⟩) hy _).setNew (p := ⟨y, 7, none⟩) hy _).setNew (p := ⟨y, 8, none⟩) hy _).setNew (p := ⟨y, 9, none⟩) hy _).setNew (p := ⟨y, 10, none⟩) hy _).setNew (p := ⟨y, 11, none⟩) hy _).setNew (p := ⟨y, 12, none⟩) hy _)
theorem cv13 {W : World} {y : Nat} {p n : Int} {q : Pg} (h : W.heap[y]? = some (cvO p n q)) : W.cell? ⟨y, 0, none⟩ = some (.int .i64 p) ∧ W.cell? ⟨y, 1, none⟩ = some (.int .i64 n) ∧ W.cell? ⟨y, 2, none⟩ = some (.int .i64 q.kd) ∧ W.cell? ⟨y, 3, none⟩ = some (.int .i64 q.od) ∧ W.cell? ⟨y, 4, none⟩ = some (.int .i64 q.cl) ∧ W.cell? ⟨y, 5, none⟩ = some (.int .i64 q.lv) ∧ W.cell? ⟨y, 6, none⟩ = some (.int .i64 q.nx) ∧ W.cell? ⟨y, 7, none⟩ = some (.int .i64 q.pv) ∧ W.cell? ⟨y, 8, none⟩ = some (.int .i64 q.fs) ∧ W.cell? ⟨y, 9, none⟩ = some (.int .u64 (q.b0 : Int)) ∧ W.cell? ⟨y, 10, none⟩ = some (.int .u64 (q.b1 : Int)) ∧ W.cell? ⟨y, 11, none⟩ = some (.int .u64 (q.b2 : Int)) ∧ W.cell? ⟨y, 12, none⟩ = some (.int .u64 (q.b3 : Int)) := by
  refine ⟨?_, ?_, ?_, ?_, ?_, ?_, ?_, ?_, ?_, ?_, ?_, ?_, ?_⟩ <;> simp [World.cell?, h]
theorem cvfz {W : World} {y : Nat} {p n : Int} {q : Pg} (h : W.heap[y]? = some (cvO p n q)) (j : Nat) : W.frozen? ⟨y, j, none⟩ = false := by simp [World.frozen?, h]
theorem atP_ok {w b B m} (h : MapAt w b B m) (i : Int) : PgOk (atP m i) := by
  unfold atP
  split
  · rename_i hi
    obtain ⟨k, rfl, hk⟩ := inR_nat hi
    exact h.ok k hk
  · exact PgOk.zero
/-- The page in which an address lies; its cell; whether there is one. -/
def atQ (x : Bx) (t : Bt) (p : Nat) : Pg := atP t.m ((offS x p / 4096 : Nat) : Int)
def atN (x : Bx) (t : Bt) (p : Nat) : Nat := offS x p % 4096 / szC (atQ x t p).cl.toNat
def atB (x : Bx) (t : Bt) (p : Nat) : Bool := decide ((atQ x t p).kd = 4) && decide (offS x p % 4096 % szC (atQ x t p).cl.toNat = 0)
set_option maxRecDepth 4000 in
set_option maxHeartbeats 1000000 in
theorem at_yes {w W sb lw x t h} (s : SW w W sb lw x t h) (p : Nat) (hp : p < 18446744073709551616) (hB : atB x t p = true) :
    Calls Tryz.prog 170 #[.pointer (some ⟨sb, 0, none⟩), .int .u64 (p : Int)] W fun e w' => e = .returned (.tuple #[cvV ((offS x p / 4096 : Nat) : Int) ((atN x t p : Nat) : Int) (atQ x t p), .bool true]) ∧ Kept none' W w' := by
  have K0 := hid ((Kept.refl none' W).alloc cvZ)
  have S0 := hid (s.keep K0.out)
  have X0 := hid (show (W.alloc cvZ).heap[W.heap.size]? = some (cvO 0 0 zeroP) from heap_new W cvZ)
  have PG := hid (page_s S0.out p hp)
  obtain ⟨d, hd⟩ : ∃ d, d = offS x p := ⟨_, rfl⟩
  obtain ⟨g, hg⟩ : ∃ g, g = d / 4096 := ⟨_, rfl⟩
  obtain ⟨f, hf⟩ : ∃ f, f = d % 4096 := ⟨_, rfl⟩
  obtain ⟨q, hq⟩ : ∃ q, q = atQ x t p := ⟨_, rfl⟩
  have ok : PgOk q := by rw [hq]; exact atP_ok s.pl.bd.mp _
  obtain ⟨c, hc⟩ := Int.eq_ofNat_of_zero_le ok.c0
  have hc8 : c < 8 := by have := ok.c7; omega
  have hcn : (atQ x t p).cl.toNat = c := by rw [← hq, hc]; rfl
  have hbb : x.base < 18446744073709551616 := by have := s.pl.bd.sp.cfg.be; omega
  have hw := page_wrap p x.base hp hbb
  rw [show (p + 18446744073709551616 - x.base) % 18446744073709551616 = d from hd.symm] at hw
  have hdb : d < 18446744073709551616 := by rw [hd]; exact Nat.mod_lt _ (by decide)
  have hdi : (d : Int) % 4096 = (f : Int) := by omega
  have hfb : f < 4096 := by omega
  have hgb : g < 4503599627370496 := by omega
  rw [← hd, ← hg] at PG
  obtain ⟨r, hr⟩ : ∃ r, r = inR t.m.n (g : Int) := ⟨_, rfl⟩
  have HA := hid (show ∀ W', MapAt W' x.m x.B t.m → Calls Tryz.prog 42 #[.pointer (some ⟨x.m, 0, none⟩), .int .i64 (g : Int)] W' fun e w' => e = .returned (.tuple #[pval q, .bool r]) ∧ Kept none' W' w' from fun W' hW => by
    rw [hr, show q = atP t.m (g : Int) by rw [hq, hg, hd]; rfl]
    exact at_any x.m x.B t.m (g : Int) W' hW)
  obtain ⟨z, hz⟩ : ∃ z, z = 16 * 2 ^ c := ⟨_, rfl⟩
  have hzb := szC_le hc8
  unfold szC at hzb
  rw [← hz] at hzb
  have hz0 : ¬ (z : Int) = 0 := by omega
  have hz1 : ((z : Int) == 0) = false := by rw [beq_eq_false_iff_ne]; exact hz0
  have hci : (c : Int) < 8 := by omega
  unfold atB at hB
  rw [hcn, ← hq, ← hd, ← hf, show szC c = z from hz.symm] at hB
  rw [show offS x p / 4096 = g by rw [hg, hd], show atN x t p = f / z by unfold atN; rw [hcn, ← hd, ← hf, hz]; rfl, ← hq]
  obtain ⟨n, hn⟩ : ∃ n, n = f / z := ⟨_, rfl⟩
  have hni : (f : Int) / (z : Int) = (n : Int) := by rw [hn]; rfl
  have hnb : n ≤ 4096 := by rw [hn]; exact Nat.le_trans (Nat.div_le_self _ _) (by omega)
  rw [← hn]
  rw [Bool.and_eq_true, decide_eq_true_iff, decide_eq_true_iff] at hB
  obtain ⟨hB1, hB2⟩ := hB
  have HB1 := hid (show (q.kd != 4) = false from by rw [hB1]; rfl)
  have hm0 : (f : Int) % (z : Int) = 0 := by rw [← Int.natCast_emod, hB2]; rfl
  have HC := hid hc
  clear hc
  have HT := hid s.tab
  have TB := hid (show ∀ W', Kept none' W W' → W'.cell? ⟨0, c, none⟩ = some (.int .u64 (z : Int)) from fun W' k => by rw [hz]; exact k.cell (fun e => e) (HT.out c hc8))
  clear s hd hg hf hq hr hz hcn hbb ok hn hB1 hB2 hp
  obtain ⟨c0, c1⟩ := S0.out.c0
  go_enter Tryz.func170, Tryz.ntmps170
  go_upto_region 1 with fail
  obtain ⟨y, hy⟩ : ∃ y, y = W.heap.size := ⟨_, rfl⟩
  have HY := hid (show W.heap.size ≤ y from Nat.le_of_eq hy.symm)
  rw [← hy] at X0
  rw [← hy]
  clear hy
  generalize W.alloc cvZ = W0 at *
  go_wp2_with fail
  refine PG.out.mono ?_
  rintro e w1 ⟨rfl, h1⟩
  replace h1 := h1.symm
  subst h1
  have MP := hid (Map6 S0.out.pl)
  go_wp2_with fail
  refine MP.out.mono ?_
  rintro e w2 ⟨rfl, h2⟩
  replace h2 := h2.symm
  subst h2
  go_wp2_with fail
  refine (HA.out _ S0.out.pl.bd.mp).mono ?_
  rintro e w3 ⟨rfl, hk⟩
  have K3 := hid (hk.alloc (pobj q))
  have X3 := hid (heap_new w3 (pobj q))
  have S3 := hid (S0.out.keep K3.out)
  have Y3 := hid ((K3.out.block _ (heap_lt X0.out) (fun e => e)).trans X0.out)
  have KW := hid (none_trans K0.out K3.out)
  have ct := TB.out _ KW.out
  clear hk c0 c1
  go_upto_region 3 with fail
  generalize w3.heap.size = u at *
  generalize w3.alloc (pobj q) = W3 at *
  obtain ⟨c0, c1⟩ := S3.out.c0
  have hb1 := HB1.out
  obtain ⟨p0, p1, p2, p3, p4, p5, p6, p7, p8, p9, p10⟩ := pg11 X3.out
  rw [HC.out] at p2
  obtain ⟨x0, x1, x2, x3, x4, x5, x6, x7, x8, x9, x10, x11, x12⟩ := cv13 Y3.out
  have xf := cvfz Y3.out
  go_wp2_with fail
  go_region
  all_goals
    have HYY := hid (show y < W.heap.size → none' y from fun e => absurd e (Nat.not_lt.2 HY.out))
    have X8 := hid (setV_heap (W := W3) (y := y) Y3.out (v0 := .int .i64 (g : Int)) (v1 := .int .i64 (n : Int)) (v2 := .int .i64 q.kd) (v3 := .int .i64 q.od) (v4 := .int .i64 (c : Int)) (v5 := .int .i64 q.lv) (v6 := .int .i64 q.nx) (v7 := .int .i64 q.pv) (v8 := .int .i64 q.fs) (v9 := .int .u64 (q.b0 : Int)) (v10 := .int .u64 (q.b1 : Int)) (v11 := .int .u64 (q.b2 : Int)) (v12 := .int .u64 (q.b3 : Int)))
    have K8 := hid (((((((((((((KW.out.setNew (p := ⟨y, 0, none⟩) HYY.out (.int .i64 (g : Int))).setNew (p := ⟨y, 1, none⟩) HYY.out (.int .i64 (n : Int))).setNew (p := ⟨y, 2, none⟩) HYY.out (.int .i64 q.kd)).setNew (p := ⟨y, 3, none⟩) HYY.out (.int .i64 q.od)).setNew (p := ⟨y, 4, none⟩) HYY.out (.int .i64 (c : Int))).setNew (p := ⟨y, 5, none⟩) HYY.out (.int .i64 q.lv)).setNew (p := ⟨y, 6, none⟩) HYY.out (.int .i64 q.nx)).setNew (p := ⟨y, 7, none⟩) HYY.out (.int .i64 q.pv)).setNew (p := ⟨y, 8, none⟩) HYY.out (.int .i64 q.fs)).setNew (p := ⟨y, 9, none⟩) HYY.out (.int .u64 (q.b0 : Int))).setNew (p := ⟨y, 10, none⟩) HYY.out (.int .u64 (q.b1 : Int))).setNew (p := ⟨y, 11, none⟩) HYY.out (.int .u64 (q.b2 : Int))).setNew (p := ⟨y, 12, none⟩) HYY.out (.int .u64 (q.b3 : Int)))
    generalize (((((((((((((W3.setCell ⟨y, 0, none⟩ (.int .i64 (g : Int))).setCell ⟨y, 1, none⟩ (.int .i64 (n : Int))).setCell ⟨y, 2, none⟩ (.int .i64 q.kd)).setCell ⟨y, 3, none⟩ (.int .i64 q.od)).setCell ⟨y, 4, none⟩ (.int .i64 (c : Int))).setCell ⟨y, 5, none⟩ (.int .i64 q.lv)).setCell ⟨y, 6, none⟩ (.int .i64 q.nx)).setCell ⟨y, 7, none⟩ (.int .i64 q.pv)).setCell ⟨y, 8, none⟩ (.int .i64 q.fs)).setCell ⟨y, 9, none⟩ (.int .u64 (q.b0 : Int))).setCell ⟨y, 10, none⟩ (.int .u64 (q.b1 : Int))).setCell ⟨y, 11, none⟩ (.int .u64 (q.b2 : Int))).setCell ⟨y, 12, none⟩ (.int .u64 (q.b3 : Int))) = W8 at *
    have K9 := hid (show Kept none' W W8.drew from K8.out.drew)
    have X9 := hid (show W8.drew.heap[y]? = some (cvO (g : Int) (n : Int) q) from by
      have := X8.out
      rw [← HC.out] at this
      exact this)
    generalize W8.drew = W9 at *
    clear p0 p1 p2 p3 p4 p5 p6 p7 p8 p9 p10 x0 x1 x2 x3 x4 x5 x6 x7 x8 x9 x10 x11 x12
    obtain ⟨x0, x1, x2, x3, x4, x5, x6, x7, x8, x9, x10, x11, x12⟩ := cv13 X9.out
    go_wp2_with fail
    exact ⟨rfl, _, by simp [results, Tryz.results170, go_sem, x0, x1, x2, x3, x4, x5, x6, x7, x8, x9, x10, x11, x12], rfl, K9.out⟩
set_option maxRecDepth 4000 in
set_option maxHeartbeats 1000000 in
theorem at_no {w W sb lw x t h} (s : SW w W sb lw x t h) (p : Nat) (hp : p < 18446744073709551616) (hB : atB x t p = false) :
    Calls Tryz.prog 170 #[.pointer (some ⟨sb, 0, none⟩), .int .u64 (p : Int)] W fun e w' => e = .returned (.tuple #[cvV 0 0 zeroP, .bool false]) ∧ Kept none' W w' := by
  have K0 := hid ((Kept.refl none' W).alloc cvZ)
  have S0 := hid (s.keep K0.out)
  have X0 := hid (show (W.alloc cvZ).heap[W.heap.size]? = some (cvO 0 0 zeroP) from heap_new W cvZ)
  have PG := hid (page_s S0.out p hp)
  obtain ⟨d, hd⟩ : ∃ d, d = offS x p := ⟨_, rfl⟩
  obtain ⟨g, hg⟩ : ∃ g, g = d / 4096 := ⟨_, rfl⟩
  obtain ⟨f, hf⟩ : ∃ f, f = d % 4096 := ⟨_, rfl⟩
  obtain ⟨q, hq⟩ : ∃ q, q = atQ x t p := ⟨_, rfl⟩
  have ok : PgOk q := by rw [hq]; exact atP_ok s.pl.bd.mp _
  obtain ⟨c, hc⟩ := Int.eq_ofNat_of_zero_le ok.c0
  have hc8 : c < 8 := by have := ok.c7; omega
  have hcn : (atQ x t p).cl.toNat = c := by rw [← hq, hc]; rfl
  have hbb : x.base < 18446744073709551616 := by have := s.pl.bd.sp.cfg.be; omega
  have hw := page_wrap p x.base hp hbb
  rw [show (p + 18446744073709551616 - x.base) % 18446744073709551616 = d from hd.symm] at hw
  have hdb : d < 18446744073709551616 := by rw [hd]; exact Nat.mod_lt _ (by decide)
  have hdi : (d : Int) % 4096 = (f : Int) := by omega
  have hfb : f < 4096 := by omega
  have hgb : g < 4503599627370496 := by omega
  rw [← hd, ← hg] at PG
  obtain ⟨r, hr⟩ : ∃ r, r = inR t.m.n (g : Int) := ⟨_, rfl⟩
  have HA := hid (show ∀ W', MapAt W' x.m x.B t.m → Calls Tryz.prog 42 #[.pointer (some ⟨x.m, 0, none⟩), .int .i64 (g : Int)] W' fun e w' => e = .returned (.tuple #[pval q, .bool r]) ∧ Kept none' W' w' from fun W' hW => by
    rw [hr, show q = atP t.m (g : Int) by rw [hq, hg, hd]; rfl]
    exact at_any x.m x.B t.m (g : Int) W' hW)
  obtain ⟨z, hz⟩ : ∃ z, z = 16 * 2 ^ c := ⟨_, rfl⟩
  have hzb := szC_le hc8
  unfold szC at hzb
  rw [← hz] at hzb
  have hz0 : ¬ (z : Int) = 0 := by omega
  have hz1 : ((z : Int) == 0) = false := by rw [beq_eq_false_iff_ne]; exact hz0
  have hci : (c : Int) < 8 := by omega
  unfold atB at hB
  rw [hcn, ← hq, ← hd, ← hf, show szC c = z from hz.symm] at hB
  have hBB : q.kd ≠ 4 ∨ (q.kd = 4 ∧ f % z ≠ 0) := by
    by_cases e : q.kd = 4
    · right
      refine ⟨e, fun e2 => ?_⟩
      rw [decide_eq_true e, decide_eq_true e2] at hB
      cases hB
    · exact .inl e
  have HC := hid hc
  clear hc
  have HT := hid s.tab
  have TB := hid (show ∀ W', Kept none' W W' → W'.cell? ⟨0, c, none⟩ = some (.int .u64 (z : Int)) from fun W' k => by rw [hz]; exact k.cell (fun e => e) (HT.out c hc8))
  clear s hd hg hf hq hr hz hcn hbb ok hB hp
  obtain ⟨c0, c1⟩ := S0.out.c0
  go_enter Tryz.func170, Tryz.ntmps170
  go_upto_region 1 with fail
  obtain ⟨y, hy⟩ : ∃ y, y = W.heap.size := ⟨_, rfl⟩
  have HY := hid (show W.heap.size ≤ y from Nat.le_of_eq hy.symm)
  rw [← hy] at X0
  rw [← hy]
  clear hy
  generalize W.alloc cvZ = W0 at *
  have zz : zeroP.kd = 0 := rfl
  rcases hBB with hB1 | ⟨hB1, hB2⟩
  · have HB1 := hid (show (q.kd != 4) = true from bne_iff_ne.2 hB1)
    clear hB1
    go_wp2_with fail
    refine PG.out.mono ?_
    rintro e w1 ⟨rfl, h1⟩
    replace h1 := h1.symm
    subst h1
    have MP := hid (Map6 S0.out.pl)
    go_wp2_with fail
    refine MP.out.mono ?_
    rintro e w2 ⟨rfl, h2⟩
    replace h2 := h2.symm
    subst h2
    go_wp2_with fail
    refine (HA.out _ S0.out.pl.bd.mp).mono ?_
    rintro e w3 ⟨rfl, hk⟩
    have K3 := hid (hk.alloc (pobj q))
    have X3 := hid (heap_new w3 (pobj q))
    have S3 := hid (S0.out.keep K3.out)
    have Y3 := hid ((K3.out.block _ (heap_lt X0.out) (fun e => e)).trans X0.out)
    have KW := hid (none_trans K0.out K3.out)
    have ct := TB.out _ KW.out
    clear hk c0 c1
    go_upto_region 3 with fail
    generalize w3.heap.size = u at *
    generalize w3.alloc (pobj q) = W3 at *
    obtain ⟨c0, c1⟩ := S3.out.c0
    have hb1 := HB1.out
    obtain ⟨p0, p1, p2, p3, p4, p5, p6, p7, p8, p9, p10⟩ := pg11 X3.out
    rw [HC.out] at p2
    obtain ⟨x0, x1, x2, x3, x4, x5, x6, x7, x8, x9, x10, x11, x12⟩ := cv13 Y3.out
    have xf := cvfz Y3.out
    go_wp2_with fail
    exact ⟨rfl, _, by simp [results, Tryz.results170, go_sem, zeroP, x0, x1, x2, x3, x4, x5, x6, x7, x8, x9, x10, x11, x12], rfl, setC_kept (p := 0) (n := 0) (q := zeroP) KW.out (fun e => absurd e (Nat.not_lt.2 HY.out))⟩
  · have HB1 := hid (show (q.kd != 4) = false from by rw [hB1]; rfl)
    clear hB1
    have hm0 : ¬ (f : Int) % (z : Int) = 0 := by
      rw [← Int.natCast_emod]
      omega
    have hm1 : ((f : Int) % (z : Int) != 0) = true := bne_iff_ne.2 hm0
    go_wp2_with fail
    refine PG.out.mono ?_
    rintro e w1 ⟨rfl, h1⟩
    replace h1 := h1.symm
    subst h1
    have MP := hid (Map6 S0.out.pl)
    go_wp2_with fail
    refine MP.out.mono ?_
    rintro e w2 ⟨rfl, h2⟩
    replace h2 := h2.symm
    subst h2
    go_wp2_with fail
    refine (HA.out _ S0.out.pl.bd.mp).mono ?_
    rintro e w3 ⟨rfl, hk⟩
    have K3 := hid (hk.alloc (pobj q))
    have X3 := hid (heap_new w3 (pobj q))
    have S3 := hid (S0.out.keep K3.out)
    have Y3 := hid ((K3.out.block _ (heap_lt X0.out) (fun e => e)).trans X0.out)
    have KW := hid (none_trans K0.out K3.out)
    have ct := TB.out _ KW.out
    clear hk c0 c1
    go_upto_region 3 with fail
    generalize w3.heap.size = u at *
    generalize w3.alloc (pobj q) = W3 at *
    obtain ⟨c0, c1⟩ := S3.out.c0
    have hb1 := HB1.out
    obtain ⟨p0, p1, p2, p3, p4, p5, p6, p7, p8, p9, p10⟩ := pg11 X3.out
    rw [HC.out] at p2
    obtain ⟨x0, x1, x2, x3, x4, x5, x6, x7, x8, x9, x10, x11, x12⟩ := cv13 Y3.out
    have xf := cvfz Y3.out
    go_wp2_with fail
    exact ⟨rfl, _, by simp [results, Tryz.results170, go_sem, zeroP, x0, x1, x2, x3, x4, x5, x6, x7, x8, x9, x10, x11, x12], rfl, setC_kept (p := 0) (n := 0) (q := zeroP) KW.out (fun e => absurd e (Nat.not_lt.2 HY.out))⟩
end Go.Proofs.YtgjapopddblpoaaGreatDoor
