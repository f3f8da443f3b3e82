import Derived.Test.YthomkkboeldgnaaGreatKb
import Derived.Laws.StructEq
import Derived.Test.YthomkkboeldgnaaGreatKc
/- pagemap: clamp, clamped. -/
namespace Go.Proofs.YthomkkboeldgnaaGreat
open Go.RowKit
set_option linter.unusedVariables false

def clampI (x lo hi : Int) : Int := min (max x lo) hi
theorem clamp_any (x lo hi : Int) (w : World) :
    Calls Tryz.prog 74 #[.int .i64 x, .int .i64 lo, .int .i64 hi] w fun e w' => e = .returned (.int .i64 (clampI x lo hi)) ∧ w' = w := by
  by_cases h1 : x < lo
  · by_cases h2 : hi < lo
    all_goals
      go_enter Tryz.func74, Tryz.ntmps74
      go_wp2_with fail
      go_ret
      exact ⟨ret_int (by unfold clampI; omega), rfl⟩
  · by_cases h2 : hi < x
    all_goals
      go_enter Tryz.func74, Tryz.ntmps74
      go_wp2_with fail
      go_ret
      exact ⟨ret_int (by unfold clampI; omega), rfl⟩
theorem keep11 {w : World} {z y i : Nat} {v : Value} (u0 u1 u2 u3 u4 u5 u6 u7 u8 u9 u10 : Value) (hz : z ≠ y) (h : w.cell? ⟨z, i, none⟩ = some v) : (((((((((((w.setCell ⟨y, 0, none⟩ u0).setCell ⟨y, 1, none⟩ u1).setCell ⟨y, 2, none⟩ u2).setCell ⟨y, 3, none⟩ u3).setCell ⟨y, 4, none⟩ u4).setCell ⟨y, 5, none⟩ u5).setCell ⟨y, 6, none⟩ u6).setCell ⟨y, 7, none⟩ u7).setCell ⟨y, 8, none⟩ u8).setCell ⟨y, 9, none⟩ u9).setCell ⟨y, 10, none⟩ u10).drew.cell? ⟨z, i, none⟩ = some v :=
  Kept.cell ((((((((((((Kept.refl (fun x => x = y) w).setCell (p := ⟨y, 0, none⟩) rfl _).setCell (p := ⟨y, 1, none⟩) rfl _).setCell (p := ⟨y, 2, none⟩) rfl _).setCell (p := ⟨y, 3, none⟩) rfl _).setCell (p := ⟨y, 4, none⟩) rfl _).setCell (p := ⟨y, 5, none⟩) rfl _).setCell (p := ⟨y, 6, none⟩) rfl _).setCell (p := ⟨y, 7, none⟩) rfl _).setCell (p := ⟨y, 8, none⟩) rfl _).setCell (p := ⟨y, 9, none⟩) rfl _).setCell (p := ⟨y, 10, none⟩) rfl _).drew (fun e => hz e) h
def clampP (m : Mp) (p : Pg) : Pg := { p with kd := clampI p.kd 0 4, od := clampI p.od 0 m.o, cl := clampI p.cl 0 7, lv := clampI p.lv 0 256, nx := clampI p.nx (-1) ((m.n : Int) - 1), pv := clampI p.pv (-1) ((m.n : Int) - 1), fs := clampI p.fs (-1) 255 }
set_option maxRecDepth 4000 in
set_option maxHeartbeats 4000000 in
theorem clamped_any (b : Nat) (B : Bs) (m : Mp) (p : Pg) (w : World) (h : MapAt w b B m) :
    Calls Tryz.prog 55 #[.pointer (some ⟨b, 0, none⟩), pval p] w fun e w' => e = .returned (pval (clampP m p)) ∧ Kept none' w w' := by
  obtain ⟨cq, c0, c1, c2⟩ := h.cb
  have hb1 : b < w.heap.size := h.own_lt b (.inl rfl)
  have hb2 : b ≠ w.heap.size := by omega
  have hb3 : b ≠ w.heap.size + 1 := by omega
  have hn1 := h.n1
  have HM := hid h
  have CP := hid (show clampP m p = { p with kd := clampI p.kd 0 4, od := clampI p.od 0 m.o, cl := clampI p.cl 0 7, lv := clampI p.lv 0 256, nx := clampI p.nx (-1) ((m.n : Int) - 1), pv := clampI p.pv (-1) ((m.n : Int) - 1), fs := clampI p.fs (-1) 255 } from rfl)
  clear h
  go_enter Tryz.func55, Tryz.ntmps55
  go_wp2_with fail
  obtain ⟨W, hW⟩ : ∃ W, W = (w.alloc (.cells #[.int .i64 p.kd, .int .i64 p.od, .int .i64 p.cl, .int .i64 p.lv, .int .i64 p.nx, .int .i64 p.pv, .int .i64 p.fs, .int .u64 (p.b0 : Int), .int .u64 (p.b1 : Int), .int .u64 (p.b2 : Int), .int .u64 (p.b3 : Int)] 108)).alloc (.cells #[.int .i64 0, .int .i64 0, .int .i64 0, .int .i64 0, .int .i64 0, .int .i64 0, .int .i64 0, .int .u64 0, .int .u64 0, .int .u64 0, .int .u64 0] 108) := ⟨_, rfl⟩
  have KW := hid (show Kept none' w W by rw [hW]; exact ((Kept.refl none' w).alloc _).alloc _)
  have XP := hid (show W.heap[w.heap.size]? = some (pobj p) by rw [hW]; exact (Below.heap_alloc _ _ _ (by simp)).trans (heap_new w _))
  have XR := hid (show W.heap[w.heap.size + 1]? = some (pobj zeroP) by rw [hW]; exact heap_new2 w _ _)
  rw [← hW]
  clear hW hb1 hb2 hb3 c1 c2
  have c0 := KW.out.cell (fun x => x) c0
  obtain ⟨x0, x1, x2, x3, x4, x5, x6, x7, x8, x9, x10⟩ := box11 XP.out
  obtain ⟨y0, y1, y2, y3, y4, y5, y6, y7, y8, y9, y10⟩ := box11 XR.out
  have z := boxz XR.out
  have c0d : W.drew.cell? ⟨b, 0, none⟩ = some (.int .i64 (m.o : Int)) := c0
  have xd0 := show W.drew.cell? ⟨w.heap.size, 0, none⟩ = _ from x0
  have xd1 := show W.drew.cell? ⟨w.heap.size, 1, none⟩ = _ from x1
  have xd2 := show W.drew.cell? ⟨w.heap.size, 2, none⟩ = _ from x2
  have xd3 := show W.drew.cell? ⟨w.heap.size, 3, none⟩ = _ from x3
  have xd4 := show W.drew.cell? ⟨w.heap.size, 4, none⟩ = _ from x4
  have xd5 := show W.drew.cell? ⟨w.heap.size, 5, none⟩ = _ from x5
  have xd6 := show W.drew.cell? ⟨w.heap.size, 6, none⟩ = _ from x6
  have xd7 := show W.drew.cell? ⟨w.heap.size, 7, none⟩ = _ from x7
  have xd8 := show W.drew.cell? ⟨w.heap.size, 8, none⟩ = _ from x8
  have xd9 := show W.drew.cell? ⟨w.heap.size, 9, none⟩ = _ from x9
  have xd10 := show W.drew.cell? ⟨w.heap.size, 10, none⟩ = _ from x10
  have hby : b ≠ w.heap.size + 1 := by have := HM.out.own_lt b (.inl rfl); omega
  have hxy : w.heap.size ≠ w.heap.size + 1 := by omega
  go_region_held3 (fun w' => w'.cell? ⟨b, 0, none⟩ = some (.int .i64 (m.o : Int)) ∧ w'.cell? ⟨w.heap.size, 0, none⟩ = some (.int .i64 p.kd) ∧ w'.cell? ⟨w.heap.size, 1, none⟩ = some (.int .i64 p.od) ∧ w'.cell? ⟨w.heap.size, 2, none⟩ = some (.int .i64 p.cl) ∧ w'.cell? ⟨w.heap.size, 3, none⟩ = some (.int .i64 p.lv) ∧ w'.cell? ⟨w.heap.size, 4, none⟩ = some (.int .i64 p.nx) ∧ w'.cell? ⟨w.heap.size, 5, none⟩ = some (.int .i64 p.pv) ∧ w'.cell? ⟨w.heap.size, 6, none⟩ = some (.int .i64 p.fs) ∧ w'.cell? ⟨w.heap.size, 7, none⟩ = some (.int .u64 (p.b0 : Int)) ∧ w'.cell? ⟨w.heap.size, 8, none⟩ = some (.int .u64 (p.b1 : Int)) ∧ w'.cell? ⟨w.heap.size, 9, none⟩ = some (.int .u64 (p.b2 : Int)) ∧ w'.cell? ⟨w.heap.size, 10, none⟩ = some (.int .u64 (p.b3 : Int))) (first | with_reducible assumption | with_reducible exact ⟨c0d, xd0, xd1, xd2, xd3, xd4, xd5, xd6, xd7, xd8, xd9, xd10⟩ | with_reducible exact ⟨keep11 _ _ _ _ _ _ _ _ _ _ _ hby c0, keep11 _ _ _ _ _ _ _ _ _ _ _ hxy x0, keep11 _ _ _ _ _ _ _ _ _ _ _ hxy x1, keep11 _ _ _ _ _ _ _ _ _ _ _ hxy x2, keep11 _ _ _ _ _ _ _ _ _ _ _ hxy x3, keep11 _ _ _ _ _ _ _ _ _ _ _ hxy x4, keep11 _ _ _ _ _ _ _ _ _ _ _ hxy x5, keep11 _ _ _ _ _ _ _ _ _ _ _ hxy x6, keep11 _ _ _ _ _ _ _ _ _ _ _ hxy x7, keep11 _ _ _ _ _ _ _ _ _ _ _ hxy x8, keep11 _ _ _ _ _ _ _ _ _ _ _ hxy x9, keep11 _ _ _ _ _ _ _ _ _ _ _ hxy x10⟩) ((go_at_call 74; refine (clamp_any _ _ _ _).mono ?_; rintro e w1 ⟨rfl, rfl⟩))
  all_goals
    clear c0d xd0 xd1 xd2 xd3 xd4 xd5 xd6 xd7 xd8 xd9 xd10
    go_wp2_with fail
    exact ⟨rfl, pval (clampP m p), by simp [results, Tryz.results55, go_sem, clampP, y0, y1, y2, y3, y4, y5, y6, y7, y8, y9, y10], rfl, (setB_kept KW.out (w.heap.size + 1) (fun h => absurd h (by omega)) (clampP m p)).drew⟩
end Go.Proofs.YthomkkboeldgnaaGreat
/- Pages are compared. -/
namespace Go.Proofs.YthomkkboeldgnaaGreat
open Go.RowKit
set_option linter.unusedVariables false

/-- The four words. -/
theorem arr_eq (a0 a1 a2 a3 b0 b1 b2 b3 : Int) (w : World) :
    (Op.equalIn 9999 106 (.agg #[.int .u64 a0, .int .u64 a1, .int .u64 a2, .int .u64 a3]) (.agg #[.int .u64 b0, .int .u64 b1, .int .u64 b2, .int .u64 b3])).run Tryz.prog w = .ok (a0 == b0 && (a1 == b1 && (a2 == b2 && a3 == b3))) w := by
  have u3 := Tryz.underlying24
  have s3 := Tryz.isAgg24
  have z3 := Tryz.sizeOf24
  rw [show (9999 : Nat) = 9998 + 1 from rfl, Op.equalIn]
  simp only [Sem.run_bind, run_underlying Tryz.underlying106, Result.andThen_ok]
  simp only [Std.Legacy.Range.forIn_eq_forIn_range', Std.Legacy.Range.size, Nat.sub_zero, Nat.add_sub_cancel, Nat.div_one, List.range'_succ, List.range'_zero, List.forIn_cons, List.forIn_nil]
  go_simp
  by_cases h1 : a0 = b0 <;> by_cases h2 : a1 = b1 <;> by_cases h3 : a2 = b2 <;> by_cases h4 : a3 = b3 <;> simp [h1, h2, h3, h4]
end Go.Proofs.YthomkkboeldgnaaGreat
/- A set of a map is put anew. -/
namespace Go.Proofs.YthomkkboeldgnaaGreat
open Go.RowKit
set_option linter.unusedVariables false

def upn (f : Nat → Nat) (k x : Nat) : Nat → Nat := fun j => if j = k then x else f j
theorem MapAt.newset {w w' b B m q k} {ws : List Nat} (h : MapAt w b B m) (hk : k < m.o) (hq : B.P = some q) (kp : Kept none' w w') (hS : SetAt w' (w.heap.size + 1) w.heap.size (m.n / 2 ^ (k + 1)) ws) :
    MapAt (w'.setCell ⟨q, k, none⟩ (.pointer (some ⟨w.heap.size + 1, 0, none⟩))) b ⟨B.g, B.P, upn B.S k (w.heap.size + 1), upn B.C k w.heap.size⟩ { m with wd := upw m.wd k ws } := by
  have h2 := h.keep kp
  obtain ⟨cq, hb, hp⟩ := h2.hb
  rw [hq] at hp
  obtain ⟨cs, hqb, hs, ho, hc⟩ := hp
  have ks : Kept (fun x => x = q) w' (w'.setCell ⟨q, k, none⟩ (.pointer (some ⟨w.heap.size + 1, 0, none⟩))) := (Kept.refl (fun x => x = q) w').setCell (p := ⟨q, k, none⟩) rfl _
  have ltS : ∀ j, j < m.o → B.S j < w.heap.size := fun j hj => heap_lt (h.set j hj).hb
  have ltC : ∀ j, j < m.o → B.C j < w.heap.size := fun j hj => heap_lt (h.set j hj).hc
  have hP : Prs (w'.setCell ⟨q, k, none⟩ (.pointer (some ⟨w.heap.size + 1, 0, none⟩))) B.P m.o cq (upn B.S k (w.heap.size + 1)) := by
    rw [hq]
    refine ⟨_, heap_set hqb k _, by simpa using hs, ho, fun j hj => ?_⟩
    rw [Array.getElem?_setIfInBounds]
    unfold upn
    by_cases e : j = k
    · subst e
      rw [if_pos rfl, if_pos (by omega), if_pos rfl]
    · rw [if_neg (by omega), if_neg e]
      exact hc j hj
  refine ⟨h.o8, h.n1, h.dv, ⟨cq, (ks.block b (heap_lt hb) (ty_ne hb hqb (by decide))).trans hb, hP⟩, Rows.kept h2.row ks (fun x e => ?_), fun j hj => ?_, fun i j hi hj e => ?_, fun i j hi hj e => ?_, h.ok⟩
  · have hr := h2.row
    rw [e] at hr
    obtain ⟨rs, hrb, _⟩ := hr
    exact ty_ne hrb hqb (by decide)
  · show SetAt _ (upn B.S k (w.heap.size + 1) j) (upn B.C k w.heap.size j) (m.n / 2 ^ (j + 1)) (upw m.wd k ws j)
    unfold upn upw
    by_cases e : j = k
    · subst e
      rw [if_pos rfl, if_pos rfl, if_pos rfl]
      exact hS.kept ks (ty_ne hS.hb hqb (by decide)) (ty_ne hS.hc hqb (by decide))
    · rw [if_neg e, if_neg e, if_neg e]
      have s := h2.set j hj
      exact s.kept ks (ty_ne s.hb hqb (by decide)) (ty_ne s.hc hqb (by decide))
  · have hi' : i < m.o := hi
    have hj' : j < m.o := hj
    have e : upn B.S k (w.heap.size + 1) i = upn B.S k (w.heap.size + 1) j := e
    unfold upn at e
    by_cases e1 : i = k <;> by_cases e2 : j = k <;> simp only [e1, e2, if_true, if_false] at e
    · omega
    · have := ltS j hj'; omega
    · have := ltS i hi'; omega
    · exact h.injS i j hi' hj' e
  · have hi' : i < m.o := hi
    have hj' : j < m.o := hj
    have e : upn B.C k w.heap.size i = upn B.C k w.heap.size j := e
    unfold upn at e
    by_cases e1 : i = k <;> by_cases e2 : j = k <;> simp only [e1, e2, if_true, if_false] at e
    · omega
    · have := ltC j hj'; omega
    · have := ltC i hi'; omega
    · exact h.injC i j hi' hj' e
end Go.Proofs.YthomkkboeldgnaaGreat
/- pagemap: Open of what Plain tells. -/
namespace Go.Proofs.YthomkkboeldgnaaGreat
open Go.RowKit
set_option linter.unusedVariables false

theorem keepQ {w : World} {b q a i : Nat} {u v : Value} (hz : b ≠ q) (h : w.cell? ⟨b, i, none⟩ = some v) : (w.setCell ⟨q, a, none⟩ u).cell? ⟨b, i, none⟩ = some v :=
  Kept.cell ((Kept.refl (fun x => x = q) w).setCell (p := ⟨q, a, none⟩) rfl _) (fun e => hz e) h
theorem kept_boxQ {a b : World} {z : Nat} {o : Obj} (k : Kept none' a b) (h : a.heap[z]? = some o) : b.heap[z]? = some o := (k.block z (heap_lt h) (fun x => x)).trans h
set_option maxRecDepth 6000 in
set_option maxHeartbeats 8000000 in
theorem open_told (gp gq : Nat) (m : Mp) (D : Nat → Nat) (ho : m.o ≤ 8) (hn : m.n ≤ 1024) (hd : ∃ r, m.n = r * 2 ^ m.o) (W0 w : World) (h : Told W0 w gp gq m m.o D) (hok : ∀ i, i < m.n → clampP m (m.pg i) = m.pg i ∧ PgOk (m.pg i)) (hwd : ∀ k, k < m.o → (m.wd k).length = (m.n / 2 ^ (k + 1) + 63) / 64 ∧ ∀ i, (m.wd k).getD i 0 < 2 ^ 64) :
    Calls Tryz.prog 31 #[.int .i64 (m.o : Int), .slice (some ⟨gp, 0, none⟩) m.n m.n, .slice (some ⟨gq, 0, none⟩) m.o m.o] w fun e w' => ∃ b, e = .returned (.tuple #[.pointer (some ⟨b, 0, none⟩), .int .i64 0]) ∧ Hid (∃ B', MapAt w' b B' ⟨m.o, m.n, m.pg, fun j => if j < m.o then ofW (m.wd j) (m.n / 2 ^ (j + 1)) else (resizeM (newM m.o) m.n).wd j⟩ ∧ (∀ x, mown b B' m.o x → w.heap.size ≤ x) ∧ Kept none' w w') := by
  have HT := hid h
  have HD := hid hd
  have OK := hid hok
  have WD := hid hwd
  clear hok hwd
  have ho1 : ¬ (m.o : Int) < 0 := by omega
  have ho2 : ¬ (8 : Int) < (m.o : Int) := by omega
  have hn1 : ¬ (1024 : Int) < (m.n : Int) := by omega
  obtain ⟨z, hz⟩ : ∃ z, z = 2 ^ m.o := ⟨_, rfl⟩
  have hzi : (2 : Int) ^ m.o = (z : Int) := by rw [hz]; simp
  have hz1 : 1 ≤ z := by rw [hz]; exact pw_pos _
  have hz2 : z ≤ 256 := by rw [hz]; exact Nat.pow_le_pow_right (n := 2) (by decide) ho
  have hmz : (m.n : Int) % (z : Int) = 0 := by
    have := dv_mod hd
    rw [← hz] at this
    omega
  have hae := arr_eq
  have HZ := hid hz
  clear h hd hz
  go_enter Tryz.func31, Tryz.ntmps31
  go_wp2_with fail
  refine (new_a m.o ho w).mono ?_
  rintro e w1 ⟨b, B, rfl, hM, hK, hN⟩
  have M1 := hid hM
  have K1 := hid hK
  have N1 := hid hN
  clear hM hK hN
  go_wp2_with fail
  refine (mresize_any b B (newM m.o) m.n hn HD.out w1 M1.out).mono ?_
  rintro e w2 ⟨rfl, B2, hM, hK, hF⟩
  have M2 := hid hM
  have K2 := hid (show Kept none' w w2 from K1.out.trans hK (fun _ _ x => x) (fun x hx e => absurd (N1.out x e) (by omega)))
  have N2 := hid (show ∀ x, mown b B2 m.o x → w.heap.size ≤ x from fun x hx => (hF x hx).elim (fun h => N1.out x h) (fun h => Nat.le_trans K1.out.size h))
  clear hM hK hF M1 K1 N1
  go_wp2_with fail
  go_loopw [9, 10, 46] (fun x y i W => ∃ k : Nat, k ≤ m.n ∧ i = .int .i64 k ∧ Hid (∃ pg, MapAt W b B2 ⟨m.o, m.n, pg, (resizeM (newM m.o) m.n).wd⟩ ∧ (∀ j, j < k → pg j = m.pg j) ∧ Kept none' w W)) (fun _ _ i _ => m.n - (intOf i).toNat)
  case atStart => exact ⟨0, by omega, rfl, ⟨_, M2.out, fun j hj => absurd hj (by omega), K2.out⟩⟩
  case round =>
    clear M2 K2
    obtain ⟨k, hk, rfl, hR⟩ := hrel
    obtain ⟨pg, hM, hE, hK⟩ := hR.out
    have M3 := hid hM
    have E3 := hid hE
    have K3 := hid hK
    clear hM hE hK
    by_cases hlt : k < m.n
    · have hki : (k : Int) < (m.n : Int) := by omega
      obtain ⟨d0, d1, d2, d3, d4, d5, d6, d7, d8, d9, d10⟩ := (Row.kept HT.out.row K3.out (fun x => x)).cell k hlt
      obtain ⟨p, hp⟩ : ∃ p, p = m.pg k := ⟨_, rfl⟩
      rw [← hp] at d0 d1 d2 d3 d4 d5 d6 d7 d8 d9 d10
      have HP := hid hp
      have HLT := hid hlt
      have CL := hid (fun W (h : MapAt W b B2 ⟨m.o, m.n, pg, (resizeM (newM m.o) m.n).wd⟩) => clamped_any b B2 ⟨m.o, m.n, pg, (resizeM (newM m.o) m.n).wd⟩ p W h)
      rw [show clampP ⟨m.o, m.n, pg, (resizeM (newM m.o) m.n).wd⟩ p = p from by rw [hp]; exact (OK.out k hlt).1] at CL
      clear hp
      go_wp2_with fail
      obtain ⟨W5, hW5⟩ : ∃ W5, W5 = wr.alloc (.cells #[.int .i64 p.kd, .int .i64 p.od, .int .i64 p.cl, .int .i64 p.lv, .int .i64 p.nx, .int .i64 p.pv, .int .i64 p.fs, .int .u64 (p.b0 : Int), .int .u64 (p.b1 : Int), .int .u64 (p.b2 : Int), .int .u64 (p.b3 : Int)] 108) := ⟨_, rfl⟩
      rw [← hW5]
      have KW := hid (show Kept none' wr W5 by rw [hW5]; exact (Kept.refl none' wr).alloc _)
      have XP := hid (show W5.heap[wr.heap.size]? = some (pobj p) by rw [hW5]; exact heap_new _ _)
      have M5 := hid (M3.out.keep KW.out)
      clear hW5 d0 d1 d2 d3 d4 d5 d6 d7 d8 d9 d10
      obtain ⟨x0, x1, x2, x3, x4, x5, x6, x7, x8, x9, x10⟩ := box11 XP.out
      go_region_held3 (fun w' => w'.cell? ⟨wr.heap.size, 0, none⟩ = some (.int .i64 p.kd) ∧ w'.cell? ⟨wr.heap.size, 1, none⟩ = some (.int .i64 p.od) ∧ w'.cell? ⟨wr.heap.size, 2, none⟩ = some (.int .i64 p.cl) ∧ w'.cell? ⟨wr.heap.size, 3, none⟩ = some (.int .i64 p.lv) ∧ w'.cell? ⟨wr.heap.size, 4, none⟩ = some (.int .i64 p.nx) ∧ w'.cell? ⟨wr.heap.size, 5, none⟩ = some (.int .i64 p.pv) ∧ w'.cell? ⟨wr.heap.size, 6, none⟩ = some (.int .i64 p.fs) ∧ w'.cell? ⟨wr.heap.size, 7, none⟩ = some (.int .u64 (p.b0 : Int)) ∧ w'.cell? ⟨wr.heap.size, 8, none⟩ = some (.int .u64 (p.b1 : Int)) ∧ w'.cell? ⟨wr.heap.size, 9, none⟩ = some (.int .u64 (p.b2 : Int)) ∧ w'.cell? ⟨wr.heap.size, 10, none⟩ = some (.int .u64 (p.b3 : Int))) (first | with_reducible assumption | exact ⟨x0, x1, x2, x3, x4, x5, x6, x7, x8, x9, x10⟩) ((go_at_call 55; refine (CL.out _ (M5.out.keep (Kept.refl none' _).drew)).mono ?_; rintro e w6 ⟨rfl, hK6⟩; have K6 := hid (none_trans (Kept.refl none' W5).drew hK6); obtain ⟨x0, x1, x2, x3, x4, x5, x6, x7, x8, x9, x10⟩ := box11 (kept_boxQ K6.out XP.out); clear hK6))
      all_goals
        go_wp2_with fail
        have M6 := hid (M5.out.keep K6.out)
        obtain ⟨g, hg, hr⟩ := M6.out.has_row (show 0 < m.n by omega)
        have R6 := hid (show Row w6 g m.n pg from hr)
        have c1 := M6.out.c1 hg
        obtain ⟨d0, d1, d2, d3, d4, d5, d6, d7, d8, d9, d10⟩ := R6.out.cell k HLT.out
        have zz := RowC.froz R6.out
        have HG := hid hg
        have KK := hid (none_trans K3.out (none_trans KW.out K6.out))
        have M7 := hid (show MapAt (setP w6 g k p) b B2 ⟨m.o, m.n, upp pg k p, (resizeM (newM m.o) m.n).wd⟩ from M6.out.pages hg (setP_kept w6 g k p) (R6.out.put k HLT.out p) (fun i hi => by
          unfold upp
          split
          · rw [HP.out]; exact (OK.out k HLT.out).2
          · exact M6.out.ok i hi))
        have K7 := hid (show Kept none' w (setP w6 g k p) from KK.out.trans (setP_kept w6 g k p) (fun _ _ x => x) (fun x hx e => absurd (N2.out x (.inr (.inl (e ▸ HG.out)))) (by omega)))
        clear hg hr
        go_region
        all_goals
          generalize hW7 : setP w6 g k p = W7 at M7 K7
          unfold setP at hW7
          rw [hW7]
          clear hW7 d0 d1 d2 d3 d4 d5 d6 d7 d8 d9 d10 zz c1
          go_wp2_with fail
          exact ⟨⟨k + 1, by omega, by simp, ⟨_, M7.out.keep (Kept.refl none' _).drew, fun j hj => by
            unfold upp
            by_cases e : j = k
            · rw [if_pos e, e]; exact HP.out
            · rw [if_neg e]; exact E3.out j (by omega), K7.out.drew⟩⟩, by simp [intOf]; omega⟩
    · have hki : ¬ (k : Int) < (m.n : Int) := by omega
      have M4 := hid (show MapAt wr b B2 ⟨m.o, m.n, m.pg, (resizeM (newM m.o) m.n).wd⟩ from MapAt.congr (pg' := m.pg) M3.out (fun i hi => E3.out i (by have h1 : i < m.n := hi; omega)))
      have I0 := hid (show ∃ B', MapAt wr b B' ⟨m.o, m.n, m.pg, fun j => if j < 0 then ofW (m.wd j) (m.n / 2 ^ (j + 1)) else (resizeM (newM m.o) m.n).wd j⟩ ∧ (∀ x, mown b B' m.o x → w.heap.size ≤ x) ∧ Kept none' w wr from ⟨B2, by simpa using M4.out, N2.out, K3.out⟩)
      clear M3 E3 K3 M4 N2 hR
      go_wp2_with fail
      go_loopw [11, 12, 66] (fun x y i W => ∃ a : Nat, a ≤ m.o ∧ i = .int .i64 a ∧ Hid (∃ B', MapAt W b B' ⟨m.o, m.n, m.pg, fun j => if j < a then ofW (m.wd j) (m.n / 2 ^ (j + 1)) else (resizeM (newM m.o) m.n).wd j⟩ ∧ (∀ x, mown b B' m.o x → w.heap.size ≤ x) ∧ Kept none' w W)) (fun _ _ i _ => m.o - (intOf i).toNat)
      case atStart => exact ⟨0, by omega, rfl, I0⟩
      case round =>
        clear I0
        obtain ⟨a, ha, rfl, hR⟩ := hrel
        obtain ⟨B3, hM, hN, hK⟩ := hR.out
        have M3 := hid hM
        have N3 := hid hN
        have K3 := hid hK
        clear hM hN hK
        by_cases hlt2 : a < m.o
        · have hai : (a : Int) < (m.o : Int) := by omega
          have T3 := hid (HT.out.keep K3.out)
          obtain ⟨cs, hgq, hcs, hcc⟩ := T3.out.q
          have hwc : wr.cell? ⟨gq, a, none⟩ = some (.slice (some ⟨D a, 0, none⟩) (m.wd a).length (m.wd a).length) := by
            have := hcc a hlt2
            simp only [World.cell?, hgq]
            exact this
          obtain ⟨q, hq, cp⟩ := M3.out.cp a hlt2
          obtain ⟨cq, c2⟩ := M3.out.c2 hq
          clear hgq hcs hcc cs
          obtain ⟨cw, hcw⟩ : ∃ cw, cw = (resizeM (newM m.o) m.n).wd a := ⟨_, rfl⟩
          have S3 := hid (show SetAt wr (B3.S a) (B3.C a) (m.n / 2 ^ (a + 1)) cw from by
            have := M3.out.set a hlt2
            simp only [Nat.lt_irrefl, if_false] at this
            rw [hcw]; exact this)
          have hL : cw.length = (m.wd a).length := by rw [S3.out.len, (WD.out a hlt2).1]
          have HLT2 := hid hlt2
          have HQ := hid hq
          have SR := hid (src_block (T3.out.d a hlt2) (WD.out a hlt2).2 (m.wd a).length)
          clear hcw hlt2 hq
          go_wp2_with fail
          refine (words_any (B3.S a) (B3.C a) _ cw wr S3.out).mono ?_
          rintro e w4 ⟨rfl, -, hK, hsz⟩
          rw [hL]
          have K4 := hid (show Kept none' wr w4 from hK)
          have M4 := hid (M3.out.keep hK)
          have S4 := hid (S3.out.kept hK (fun x => x) (fun x => x))
          have SR4 := hid (SR.out.kept hK (fun _ _ x => x))
          have cp4 := K4.out.cell (fun x => x) cp
          have c24 := K4.out.cell (fun x => x) c2
          clear hK hsz hL cp c2 hwc
          go_wp2_with fail
          obtain ⟨d, hd⟩ : ∃ d, d = m.n / 2 ^ (a + 1) := ⟨_, rfl⟩
          have hdl : d ≤ 1024 := by rw [hd]; exact Nat.le_trans (Nat.div_le_self _ _) hn
          rw [← hd] at S4
          have HDD := hid hd
          clear hd
          have hbq : b ≠ q := by
            obtain ⟨cq', hb', hp'⟩ := M4.out.hb
            rw [HQ.out] at hp'
            obtain ⟨ds, hqd, _⟩ := hp'
            exact ty_ne hb' hqd (by decide)
          have zq : ∀ W, Kept none' w4 W → W.frozen? ⟨q, a, none⟩ = false := fun W kk => by
            obtain ⟨cq', hb', hp'⟩ := (M4.out.keep kk).hb
            rw [HQ.out] at hp'
            obtain ⟨ds, hqd, _⟩ := hp'
            simp [World.frozen?, hqd]
          have ZQ := hid zq
          have LN := hid (fun W (kk : Kept none' w4 W) => len_any (B3.S a) (B3.C a) d cw W (S4.out.kept kk (fun x => x) (fun x => x)))
          have OF := hid (fun W (kk : Kept none' w4 W) => of_any _ (m.wd a) (d : Int) (by omega) (by omega) W (SR4.out.kept kk (fun _ _ x => x)))
          rw [fit_nat d (by omega)] at OF
          clear zq
          have c2d : w4.drew.cell? ⟨b, 2, none⟩ = some (.slice (some ⟨q, 0, none⟩) m.o cq) := c24
          have FIN := hid (show ∀ w5, Kept none' w4 w5 → SetAt w5 (w4.heap.size + 1) w4.heap.size d (ofW (m.wd a) d) → ∃ B', MapAt (w5.setCell ⟨q, a, none⟩ (.pointer (some ⟨w4.heap.size + 1, 0, none⟩))) b B' ⟨m.o, m.n, m.pg, fun j => if j < a + 1 then ofW (m.wd j) (m.n / 2 ^ (j + 1)) else (resizeM (newM m.o) m.n).wd j⟩ ∧ (∀ x, mown b B' m.o x → w.heap.size ≤ x) ∧ Kept none' w (w5.setCell ⟨q, a, none⟩ (.pointer (some ⟨w4.heap.size + 1, 0, none⟩))) from fun w5 k5 s5 => by
            have hz4 : w.heap.size ≤ w4.heap.size := Nat.le_trans K3.out.size K4.out.size
            have hwq : w.heap.size ≤ q := N3.out q (.inr (.inr (.inl HQ.out)))
            have mn := M4.out.newset (k := a) HLT2.out HQ.out k5 (HDD.out ▸ s5)
            refine ⟨⟨B3.g, B3.P, upn B3.S a (w4.heap.size + 1), upn B3.C a w4.heap.size⟩, ?_, ?_, (none_trans K3.out (none_trans K4.out k5)).setNew (p := ⟨q, a, none⟩) (fun e => absurd e (Nat.not_lt.2 hwq)) _⟩
            · have e : (upw (fun j => if j < a then ofW (m.wd j) (m.n / 2 ^ (j + 1)) else (resizeM (newM m.o) m.n).wd j) a (ofW (m.wd a) (m.n / 2 ^ (a + 1)))) = (fun j => if j < a + 1 then ofW (m.wd j) (m.n / 2 ^ (j + 1)) else (resizeM (newM m.o) m.n).wd j) := by
                funext j
                unfold upw
                by_cases e1 : j = a
                · subst e1
                  rw [if_pos rfl, if_pos (by omega)]
                · rw [if_neg e1]
                  show (if j < a then ofW (m.wd j) (m.n / 2 ^ (j + 1)) else (resizeM (newM m.o) m.n).wd j) = _
                  by_cases e2 : j < a
                  · rw [if_pos e2, if_pos (by omega)]
                  · rw [if_neg e2, if_neg (by omega)]
              rw [← e]
              exact mn
            · rintro x (e | e | e | ⟨j, hj, e | e⟩)
              · exact N3.out x (.inl e)
              · exact N3.out x (.inr (.inl e))
              · exact N3.out x (.inr (.inr (.inl e)))
              · have e : x = upn B3.S a (w4.heap.size + 1) j := e
                unfold upn at e
                by_cases e1 : j = a
                · rw [if_pos e1] at e; omega
                · rw [if_neg e1] at e; exact N3.out x (.inr (.inr (.inr ⟨j, hj, .inl e⟩)))
              · have e : x = upn B3.C a w4.heap.size j := e
                unfold upn at e
                by_cases e1 : j = a
                · rw [if_pos e1] at e; omega
                · rw [if_neg e1] at e; exact N3.out x (.inr (.inr (.inr ⟨j, hj, .inr e⟩))))
          go_region_with (first | (go_at_call 58; refine (LN.out _ (Kept.refl none' w4).drew).mono ?_; rintro e w' ⟨rfl, rfl⟩) | (go_at_call 57; refine (OF.out _ (Kept.refl none' w4).drew).mono ?_; rintro e w5 ⟨rfl, hS5, hK5, hsz5⟩; have K5 := hid (show Kept none' w4 w5 from (Kept.refl none' w4).drew.trans hK5 (fun _ _ x => x) (fun _ _ x => x)); have c25 := K5.out.cell (fun x => x) c24; have cp5 := K5.out.cell (fun x => x) cp4; have zq5 := ZQ.out w5 K5.out; have HS5 := hid hS5; clear hS5 hK5 hsz5))
          all_goals
            have F5 := hid (FIN.out w5 K5.out HS5.out)
            generalize hW8 : w5.setCell ⟨q, a, none⟩ (.pointer (some ⟨w4.heap.size + 1, 0, none⟩)) = W8 at F5
            try rw [hW8]
            clear hW8
            go_wp2_with fail
            exact ⟨⟨a + 1, by omega, by simp, F5⟩, by simp [intOf]; omega⟩
        · have hai : ¬ (a : Int) < (m.o : Int) := by omega
          go_wp2_with fail
          have ea : a = m.o := by omega
          have M9 := M3.out
          rw [ea] at M9
          have PO := hid (show ∃ B', MapAt wr b B' ⟨m.o, m.n, m.pg, fun j => if j < m.o then ofW (m.wd j) (m.n / 2 ^ (j + 1)) else (resizeM (newM m.o) m.n).wd j⟩ ∧ (∀ x, mown b B' m.o x → w.heap.size ≤ x) ∧ Kept none' w wr from ⟨B3, M9, N3.out, K3.out⟩)
          first
            | exact ⟨rfl, .tuple #[.pointer (some ⟨b, 0, none⟩), .int .i64 0], by simp [results, Tryz.results31, go_sem], b, rfl, PO⟩
            | exact ⟨rfl, .tuple #[.pointer (some ⟨b, 0, none⟩), .int .i64 0], by simp [results, Tryz.results31, go_sem], ⟨b, rfl⟩, PO⟩
            | exact ⟨rfl, .tuple #[.pointer (some ⟨b, 0, none⟩), .int .i64 0], by simp [results, Tryz.results31, go_sem], b, PO, rfl⟩
end Go.Proofs.YthomkkboeldgnaaGreat
/- PageOpens: data that came in. -/
namespace Go.Proofs.YthomkkboeldgnaaGreat
open Go.RowKit
set_option linter.unusedVariables false

/-- Page i of a slice of pages at ⟨bl, o⟩. -/
def PgC (w : World) (bl o i : Nat) (p : Pg) : Prop := w.cell? ⟨bl, o + i * 11, none⟩ = some (.int .i64 p.kd) ∧ w.cell? ⟨bl, o + i * 11 + 1, none⟩ = some (.int .i64 p.od) ∧ w.cell? ⟨bl, o + i * 11 + 2, none⟩ = some (.int .i64 p.cl) ∧ w.cell? ⟨bl, o + i * 11 + 3, none⟩ = some (.int .i64 p.lv) ∧ w.cell? ⟨bl, o + i * 11 + 4, none⟩ = some (.int .i64 p.nx) ∧ w.cell? ⟨bl, o + i * 11 + 5, none⟩ = some (.int .i64 p.pv) ∧ w.cell? ⟨bl, o + i * 11 + 6, none⟩ = some (.int .i64 p.fs) ∧ w.cell? ⟨bl, o + i * 11 + 7, none⟩ = some (.int .u64 (p.b0 : Int)) ∧ w.cell? ⟨bl, o + i * 11 + 8, none⟩ = some (.int .u64 (p.b1 : Int)) ∧ w.cell? ⟨bl, o + i * 11 + 9, none⟩ = some (.int .u64 (p.b2 : Int)) ∧ w.cell? ⟨bl, o + i * 11 + 10, none⟩ = some (.int .u64 (p.b3 : Int))
def N64 (z : Int) : Prop := -9223372036854775808 ≤ z ∧ z ≤ 9223372036854775807
/-- What a page that came in may hold. -/
structure PgIn (p : Pg) : Prop where
  kd : N64 p.kd
  od : N64 p.od
  cl : N64 p.cl
  lv : N64 p.lv
  nx : N64 p.nx
  pv : N64 p.pv
  fs : N64 p.fs
  b0 : p.b0 < 18446744073709551616
  b1 : p.b1 < 18446744073709551616
  b2 : p.b2 < 18446744073709551616
  b3 : p.b3 < 18446744073709551616
/-- A slice of pages that came in. -/
def PagesIn (w : World) (v : Value) (n : Nat) (pg : Nat → Pg) : Prop :=
  n ≤ 9223372036854775807 ∧ ∃ oa oc, v = .slice oa n oc ∧ (n = 0 ∨ ∃ bl o, oa = some ⟨bl, o, none⟩ ∧ bl < w.heap.size ∧ ∀ i, i < n → PgIn (pg i) ∧ PgC w bl o i (pg i))
/-- A slice of slices of words that came in. -/
def PairsIn (w : World) (v : Value) (o : Nat) (ws : Nat → Value) (zs : Nat → List Nat) : Prop :=
  o ≤ 9223372036854775807 ∧ ∃ oa oc, v = .slice oa o oc ∧ (o = 0 ∨ ∃ bl f, oa = some ⟨bl, f, none⟩ ∧ bl < w.heap.size ∧ ∀ k, k < o → w.cell? ⟨bl, f + k, none⟩ = some (ws k) ∧ Src w (ws k) (zs k))
theorem PgC.kept {w w' : World} {bl o i : Nat} {p : Pg} (h : PgC w bl o i p) (k : Kept none' w w') : PgC w' bl o i p := by
  obtain ⟨d0, d1, d2, d3, d4, d5, d6, d7, d8, d9, d10⟩ := h
  exact ⟨k.cell (fun x => x) d0, k.cell (fun x => x) d1, k.cell (fun x => x) d2, k.cell (fun x => x) d3, k.cell (fun x => x) d4, k.cell (fun x => x) d5, k.cell (fun x => x) d6, k.cell (fun x => x) d7, k.cell (fun x => x) d8, k.cell (fun x => x) d9, k.cell (fun x => x) d10⟩
end Go.Proofs.YthomkkboeldgnaaGreat
