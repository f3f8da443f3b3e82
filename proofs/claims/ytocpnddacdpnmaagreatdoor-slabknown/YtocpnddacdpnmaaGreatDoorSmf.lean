/- SlabKnown. (Written by mksmf.py.) -/
import Derived.Test.YtocpnddacdpnmaaGreatDoorSme
namespace Go.Proofs.YtocpnddacdpnmaaGreatDoor
open Go.RowKit
set_option linter.unusedVariables false

/-- Eight numbers of a literal. -/
abbrev l8O (a : Int) : Obj := .cells #[.int .i64 (-1), .int .i64 (-1), .int .i64 (-1), .int .i64 (-1), .int .i64 (-1), .int .i64 (-1), .int .i64 (-1), .int .i64 a] 3
theorem l8_num (W : World) (a : Int) (f : Nat → Int) (h : ∀ j, j < 7 → f j = -1) (h7 : f 7 = a) : NumC (W.alloc (l8O a)) W.heap.size 8 f := by
  have hb := heap_new W (l8O a)
  generalize W.alloc (l8O a) = W' at *
  generalize W.heap.size = b at *
  intro j hj
  rcases (show j = 0 ∨ j = 1 ∨ j = 2 ∨ j = 3 ∨ j = 4 ∨ j = 5 ∨ j = 6 ∨ j = 7 by omega) with rfl | rfl | rfl | rfl | rfl | rfl | rfl | rfl <;> simp [World.cell?, hb]
  all_goals first | exact (h _ (by decide)).symm | exact h7.symm
theorem S4_hd (j : Nat) (h : j < 7) : hdI (S4.pl j) = -1 := by
  have key : ∀ j, j < 7 → hdI (S4.pl j) = -1 := by decide
  exact key j h
theorem S4_hd7 : hdI (S4.pl 7) = 0 := by decide
theorem S5_hd (j : Nat) (h : j < 7) : hdI (S5.pl j) = -1 := by
  have key : ∀ j, j < 7 → hdI (S5.pl j) = -1 := by decide
  exact key j h
theorem S5_hd7 : hdI (S5.pl 7) = 1 := by decide
theorem SlP.lit {S : Sb} {g k : Nat} {q : Pg} (h : SlP S g k q) {lv nx pv fs : Int} (h1 : ((ncl k - (S.fl g).length : Nat) : Int) = lv) (h2 : nxI (S.pl k) g = nx) (h3 : pvI (S.pl k) g = pv) (h4 : hdI (S.fl g) = fs) : ∃ b0 b1 b2 b3, q = ⟨4, 0, (k : Int), lv, nx, pv, fs, b0, b1, b2, b3⟩ := by
  obtain ⟨e1, e2, e3, e4, e5, e6, e7, _⟩ := h
  obtain ⟨kd, od, cl, lv', nx', pv', fs', b0, b1, b2, b3⟩ := q
  dsimp only at *
  subst e1 e2 e3
  exact ⟨b0, b1, b2, b3, by rw [e4, e5, e6, e7, h1, h2, h3, h4]⟩
theorem Tab.keep {w W : World} (h : Tab w) (k : Kept none' w W) : Tab W := fun i hi => k.cell (fun e => e) (h i hi)
abbrev pgO (a0 a1 a2 a3 a4 a5 a6 : Int) (b0 b1 b2 b3 : Nat) : Obj := .cells #[.int .i64 a0, .int .i64 a1, .int .i64 a2, .int .i64 a3, .int .i64 a4, .int .i64 a5, .int .i64 a6, .int .u64 (b0 : Int), .int .u64 (b1 : Int), .int .u64 (b2 : Int), .int .u64 (b3 : Int)] 49
theorem pgc {W : World} {y : Nat} {a0 a1 a2 a3 a4 a5 a6 : Int} {b0 b1 b2 b3 : Nat} (h : W.heap[y]? = some (pgO a0 a1 a2 a3 a4 a5 a6 b0 b1 b2 b3)) : W.cell? ⟨y, 0, none⟩ = some (.int .i64 a0) ∧ W.cell? ⟨y, 2, none⟩ = some (.int .i64 a2) ∧ W.cell? ⟨y, 3, none⟩ = some (.int .i64 a3) ∧ W.cell? ⟨y, 4, none⟩ = some (.int .i64 a4) ∧ W.cell? ⟨y, 5, none⟩ = some (.int .i64 a5) ∧ W.cell? ⟨y, 6, none⟩ = some (.int .i64 a6) := by
  refine ⟨?_, ?_, ?_, ?_, ?_, ?_⟩ <;> simp [World.cell?, h]
theorem pgc11 {W : World} {y : Nat} {a0 a1 a2 a3 a4 a5 a6 : Int} {b0 b1 b2 b3 : Nat} (h : W.heap[y]? = some (pgO a0 a1 a2 a3 a4 a5 a6 b0 b1 b2 b3)) : W.cell? ⟨y, 0, none⟩ = some (.int .i64 a0) ∧ W.cell? ⟨y, 1, none⟩ = some (.int .i64 a1) ∧ W.cell? ⟨y, 2, none⟩ = some (.int .i64 a2) ∧ W.cell? ⟨y, 3, none⟩ = some (.int .i64 a3) ∧ W.cell? ⟨y, 4, none⟩ = some (.int .i64 a4) ∧ W.cell? ⟨y, 5, none⟩ = some (.int .i64 a5) ∧ W.cell? ⟨y, 6, none⟩ = some (.int .i64 a6) ∧ W.cell? ⟨y, 7, none⟩ = some (.int .u64 (b0 : Int)) ∧ W.cell? ⟨y, 8, none⟩ = some (.int .u64 (b1 : Int)) ∧ W.cell? ⟨y, 9, none⟩ = some (.int .u64 (b2 : Int)) ∧ W.cell? ⟨y, 10, none⟩ = some (.int .u64 (b3 : Int)) ∧ ∀ i, W.frozen? ⟨y, i, none⟩ = false := by
  refine ⟨?_, ?_, ?_, ?_, ?_, ?_, ?_, ?_, ?_, ?_, ?_, fun i => ?_⟩ <;> simp [World.cell?, World.frozen?, h]
theorem heap_set7 {w : World} {k : Nat} {cs : Array Value} {t : TypeId} {z : Nat × Nat} (h : w.heap[k]? = some (.cells cs t z)) (i : Nat) (u : Value) : (w.setCell ⟨k, i, none⟩ u).heap[k]? = some (.cells (cs.setIfInBounds i u) t z) := by
  obtain ⟨hlt, hk⟩ := Array.getElem?_eq_some_iff.1 h
  show (w.heap.modify k _)[k]? = _
  rw [Array.getElem?_eq_getElem (by rw [Array.size_modify]; exact hlt), Array.getElem_modify_self, hk]
  rfl
theorem set11 {W : World} {y : Nat} {a0 a1 a2 a3 a4 a5 a6 : Int} {b0 b1 b2 b3 : Nat} (h : W.heap[y]? = some (pgO a0 a1 a2 a3 a4 a5 a6 b0 b1 b2 b3)) (c0 c1 c2 c3 c4 c5 c6 : Int) (d0 d1 d2 d3 : Nat) : (((((((((((W.setCell ⟨y, 0, none⟩ (.int .i64 c0)).setCell ⟨y, 1, none⟩ (.int .i64 c1)).setCell ⟨y, 2, none⟩ (.int .i64 c2)).setCell ⟨y, 3, none⟩ (.int .i64 c3)).setCell ⟨y, 4, none⟩ (.int .i64 c4)).setCell ⟨y, 5, none⟩ (.int .i64 c5)).setCell ⟨y, 6, none⟩ (.int .i64 c6)).setCell ⟨y, 7, none⟩ (.int .u64 (d0 : Int))).setCell ⟨y, 8, none⟩ (.int .u64 (d1 : Int))).setCell ⟨y, 9, none⟩ (.int .u64 (d2 : Int))).setCell ⟨y, 10, none⟩ (.int .u64 (d3 : Int))).heap[y]? = some (pgO c0 c1 c2 c3 c4 c5 c6 d0 d1 d2 d3) := by
  replace h : (W.setCell ⟨y, 0, none⟩ (.int .i64 c0)).heap[y]? = some (pgO c0 a1 a2 a3 a4 a5 a6 b0 b1 b2 b3) := heap_set7 h 0 _
  generalize W.setCell ⟨y, 0, none⟩ (.int .i64 c0) = W at *
  replace h : (W.setCell ⟨y, 1, none⟩ (.int .i64 c1)).heap[y]? = some (pgO c0 c1 a2 a3 a4 a5 a6 b0 b1 b2 b3) := heap_set7 h 1 _
  generalize W.setCell ⟨y, 1, none⟩ (.int .i64 c1) = W at *
  replace h : (W.setCell ⟨y, 2, none⟩ (.int .i64 c2)).heap[y]? = some (pgO c0 c1 c2 a3 a4 a5 a6 b0 b1 b2 b3) := heap_set7 h 2 _
  generalize W.setCell ⟨y, 2, none⟩ (.int .i64 c2) = W at *
  replace h : (W.setCell ⟨y, 3, none⟩ (.int .i64 c3)).heap[y]? = some (pgO c0 c1 c2 c3 a4 a5 a6 b0 b1 b2 b3) := heap_set7 h 3 _
  generalize W.setCell ⟨y, 3, none⟩ (.int .i64 c3) = W at *
  replace h : (W.setCell ⟨y, 4, none⟩ (.int .i64 c4)).heap[y]? = some (pgO c0 c1 c2 c3 c4 a5 a6 b0 b1 b2 b3) := heap_set7 h 4 _
  generalize W.setCell ⟨y, 4, none⟩ (.int .i64 c4) = W at *
  replace h : (W.setCell ⟨y, 5, none⟩ (.int .i64 c5)).heap[y]? = some (pgO c0 c1 c2 c3 c4 c5 a6 b0 b1 b2 b3) := heap_set7 h 5 _
  generalize W.setCell ⟨y, 5, none⟩ (.int .i64 c5) = W at *
  replace h : (W.setCell ⟨y, 6, none⟩ (.int .i64 c6)).heap[y]? = some (pgO c0 c1 c2 c3 c4 c5 c6 b0 b1 b2 b3) := heap_set7 h 6 _
  generalize W.setCell ⟨y, 6, none⟩ (.int .i64 c6) = W at *
  replace h : (W.setCell ⟨y, 7, none⟩ (.int .u64 (d0 : Int))).heap[y]? = some (pgO c0 c1 c2 c3 c4 c5 c6 d0 b1 b2 b3) := heap_set7 h 7 _
  generalize W.setCell ⟨y, 7, none⟩ (.int .u64 (d0 : Int)) = W at *
  replace h : (W.setCell ⟨y, 8, none⟩ (.int .u64 (d1 : Int))).heap[y]? = some (pgO c0 c1 c2 c3 c4 c5 c6 d0 d1 b2 b3) := heap_set7 h 8 _
  generalize W.setCell ⟨y, 8, none⟩ (.int .u64 (d1 : Int)) = W at *
  replace h : (W.setCell ⟨y, 9, none⟩ (.int .u64 (d2 : Int))).heap[y]? = some (pgO c0 c1 c2 c3 c4 c5 c6 d0 d1 d2 b3) := heap_set7 h 9 _
  generalize W.setCell ⟨y, 9, none⟩ (.int .u64 (d2 : Int)) = W at *
  replace h : (W.setCell ⟨y, 10, none⟩ (.int .u64 (d3 : Int))).heap[y]? = some (pgO c0 c1 c2 c3 c4 c5 c6 d0 d1 d2 d3) := heap_set7 h 10 _
  exact h
theorem set11k (W : World) (y : Nat) (c0 c1 c2 c3 c4 c5 c6 : Int) (d0 d1 d2 d3 : Nat) : Kept (fun x => x = y) W (((((((((((W.setCell ⟨y, 0, none⟩ (.int .i64 c0)).setCell ⟨y, 1, none⟩ (.int .i64 c1)).setCell ⟨y, 2, none⟩ (.int .i64 c2)).setCell ⟨y, 3, none⟩ (.int .i64 c3)).setCell ⟨y, 4, none⟩ (.int .i64 c4)).setCell ⟨y, 5, none⟩ (.int .i64 c5)).setCell ⟨y, 6, none⟩ (.int .i64 c6)).setCell ⟨y, 7, none⟩ (.int .u64 (d0 : Int))).setCell ⟨y, 8, none⟩ (.int .u64 (d1 : Int))).setCell ⟨y, 9, none⟩ (.int .u64 (d2 : Int))).setCell ⟨y, 10, none⟩ (.int .u64 (d3 : Int))) :=
  ((((((((((((Kept.refl (fun x => x = y) W).setCell (p := ⟨y, 0, none⟩) rfl _).setCell (p := ⟨y, 1, none⟩) rfl _).setCell (p := ⟨y, 2, none⟩) rfl _).setCell (p := ⟨y, 3, none⟩) rfl _).setCell (p := ⟨y, 4, none⟩) rfl _).setCell (p := ⟨y, 5, none⟩) rfl _).setCell (p := ⟨y, 6, none⟩) rfl _).setCell (p := ⟨y, 7, none⟩) rfl _).setCell (p := ⟨y, 8, none⟩) rfl _).setCell (p := ⟨y, 9, none⟩) rfl _).setCell (p := ⟨y, 10, none⟩) rfl _)
/-- A new block lies beside. -/
theorem KS7.more {w W E sb lw n f0 f1 ls S} (s : KS7 w W E sb lw n f0 f1 ls S) (o : Obj) : KS7 w (W.alloc o) (fun y => E y ∨ y = W.heap.size) sb lw n f0 f1 ls S := by
  obtain ⟨x, t, fr, h, so, v, hE, r⟩ := s
  have ka := (Kept.refl none' W).alloc o
  refine ⟨x, t, fr, h, so.keep ka, v, fun y hy => ?_, r⟩
  rcases hy with hy | rfl
  · exact ⟨Nat.lt_of_lt_of_le (hE y hy).1 ka.size, (hE y hy).2⟩
  · refine ⟨heap_lt (heap_new W o), fun e => ?_⟩
    rcases e with e | e
    · exact absurd (so.sw.pl.lt _ (.inl e)) (Nat.lt_irrefl _)
    · have := heap_lt so.sw.bx
      omega
/-- A page's box beside is written. -/
theorem SO.away {w W W' sb lw x t fr ls S h} (o : SO w W sb lw x t fr ls S h) {y : Nat} {cs : Array Value} {z : Nat × Nat} (hy : W.heap[y]? = some (.cells cs 49 z)) (hn : ¬ sown x sb y) (hw : w.heap.size ≤ y) (k : Kept (fun x => x = y) W W') : SO w W' sb lw x t fr ls S h := by
  have nb : y ≠ x.b := fun e => by
    rw [e] at hy
    exact absurd (ty_ne' hy o.sw.pl.bd.bs) (by decide)
  have nl : y ≠ x.l := fun e => by
    rw [e] at hy
    obtain ⟨cs', hl, _⟩ := o.sw.pl.bd.lr
    exact absurd (ty_ne' hy hl) (by decide)
  have np : y ≠ lw := fun e => by
    rw [e] at hy
    exact absurd (ty_ne' hy o.sw.pl.box) (by decide)
  refine ⟨⟨⟨(k.block _ (heap_lt o.sw.pl.box) (fun e => np e.symm)).trans o.sw.pl.box, o.sw.pl.bd.kept k ?_, o.sw.pl.nw, o.sw.pl.kp.trans k (fun _ _ e => e) (fun a ha e => absurd ha (by rw [e]; omega))⟩, (k.block _ (heap_lt o.sw.bx) (fun e => hn (.inr e.symm))).trans o.sw.bx, o.sw.nw, o.sw.tb⟩, o.sf, o.st, o.bm, o.si, o.hd⟩
  rintro a (ha | ha | ha) e
  · exact hn (.inl (e ▸ ha))
  · exact nb (e.symm.trans ha)
  · exact nl (e.symm.trans ha)
theorem KS7.beside {w W W' E sb lw n f0 f1 ls S} (s : KS7 w W E sb lw n f0 f1 ls S) {y : Nat} (hy : E y) {cs : Array Value} {z : Nat × Nat} (hc : W.heap[y]? = some (.cells cs 49 z)) (hw : w.heap.size ≤ y) (k : Kept (fun x => x = y) W W') : KS7 w W' E sb lw n f0 f1 ls S := by
  obtain ⟨x, t, fr, h, so, v, hE, r⟩ := s
  exact ⟨x, t, fr, h, so.away hc (hE y hy).2 hw k, v, fun z hz => ⟨Nat.lt_of_lt_of_le (hE z hz).1 k.size, (hE z hz).2⟩, r⟩
theorem p11c {W : World} {y : Nat} {q : Pg} (h : W.heap[y]? = some (pobj q)) : W.cell? ⟨y, 0, none⟩ = some (.int .i64 q.kd) ∧ W.cell? ⟨y, 2, none⟩ = some (.int .i64 q.cl) ∧ W.cell? ⟨y, 3, none⟩ = some (.int .i64 q.lv) ∧ W.cell? ⟨y, 4, none⟩ = some (.int .i64 q.nx) ∧ W.cell? ⟨y, 5, none⟩ = some (.int .i64 q.pv) ∧ W.cell? ⟨y, 6, none⟩ = some (.int .i64 q.fs) := by
  obtain ⟨h0, h1, h2, h3, h4, h5, h6, h7⟩ := box11 h
  exact ⟨h0, h2, h3, h4, h5, h6⟩
set_option maxRecDepth 20000 in
set_option maxHeartbeats 40000000 in
theorem known7 (w : World) (hT : Tab w) :
    Calls Tryz.prog 3 #[] w fun e w' => e = .returned (.bool true) ∧ Kept none' w w' := by
  have BG := hid (begin7_ok 65536 (by decide) 1 1 (by decide) (by decide) (by decide) (by decide) w hT)
  have LV := hid (fun W (k : Kept none' w W) => lives7 W (Tab.keep hT k))
  clear hT
  go_enter Tryz.func3, Tryz.ntmps3
  go_wp2_with fail
  refine BG.out.mono ?_
  rintro e w1 hB
  obtain ⟨wb, lw, sb, fv, lv, pv, qv, rfl, hx, hks, hk, hz⟩ := hB.ks
  have X1 := hid hx
  have A1 := hid hks
  have K1 := hid hk
  have HZ := hid hz
  clear hB hx hks hk hz BG
  go_wp2_with fail
  refine (LV.out _ K1.out).mono ?_
  rintro e w2 ⟨rfl, hk⟩
  have X2 := hid ((hk.block _ (heap_lt X1.out) (fun e => e)).trans X1.out)
  have K2 := hid (none_trans K1.out hk)
  have A2 := hid (A1.out.keep hk)
  clear hk LV A1 X1 K1
  obtain ⟨c3, c4⟩ := w7c X2.out
  have T := hid (A2.out.bad 8 (by decide) false)
  go_wp2_with fail
  refine T.out.mono ?_
  rintro e w3 ⟨rfl, hs, hk⟩
  have X3 := hid ((hk.block _ (heap_lt X2.out) (fun e => e)).trans X2.out)
  have K3 := hid (none_trans K2.out hk)
  have A3 := hid hs
  clear hs hk c3 c4 T A2 K2 X2
  obtain ⟨c3, c4⟩ := w7c X3.out
  have T := hid (A3.out.bad (-1) (by decide) true)
  go_wp2_with fail
  refine T.out.mono ?_
  rintro e w4 ⟨rfl, hs, hk⟩
  have X4 := hid ((hk.block _ (heap_lt X3.out) (fun e => e)).trans X3.out)
  have K4 := hid (none_trans K3.out hk)
  have A4 := hid hs
  clear hs hk c3 c4 T A3 K3 X3
  obtain ⟨c3, c4⟩ := w7c X4.out
  have T := hid A4.out.heads
  go_wp2_with fail
  refine T.out.mono ?_
  rintro e w5 ⟨b, rfl, hb, hk, hzb⟩
  have KA := hid ((Kept.refl none' w5).alloc (l8O (-1)))
  have NB := hid (hb.keep KA.out)
  have NL := hid (l8_num w5 (-1) _ (fun j _ => rfl) rfl)
  have X5 := hid ((hk.block _ (heap_lt X4.out) (fun e => e)).trans X4.out)
  have K5 := hid (none_trans K4.out hk)
  have A5 := hid (A4.out.keep hk)
  have T2 := hid (ints7 _ _ 8 8 8 _ (by decide) _ NB.out NL.out)
  clear hb hk hzb c3 c4 T A4 K4 X4 NB NL
  go_wp2_with fail
  refine T2.out.mono ?_
  rintro e w6 ⟨rfl, hk⟩
  have hk2 := none_trans KA.out hk
  have X6 := hid ((hk2.block _ (heap_lt X5.out) (fun e => e)).trans X5.out)
  have K6 := hid (none_trans K5.out hk2)
  have A6 := hid (A5.out.keep hk2)
  clear hk hk2 KA T2 A5 K5 X5
  obtain ⟨c3, c4⟩ := w7c X6.out
  have T := hid (A6.out.grow 7 (by decide) rfl)
  go_wp2_with fail
  refine T.out.mono ?_
  rintro e w7 ⟨rfl, hs, hk⟩
  have X7 := hid ((hk.block _ (heap_lt X6.out) (fun e => e.1 rfl)).trans X6.out)
  have K7 := hid (K6.out.trans hk (fun _ _ e => e) (fun y hy e => absurd hy (Nat.not_lt.2 e.2)))
  have A7 := hid (show KS7 w w7 (fun y => y = wb) sb lw 8192 [1] [] [(0, 0)] S1 from hs)
  clear hs hk c3 c4 T A6 K6 X6
  obtain ⟨c3, c4⟩ := w7c X7.out
  have T := hid (A7.out.old 7 (by decide) S1_pl S1_fl false)
  rw [show 65536 + 4096 * 0 + 1 * szC 7 = 67584 by decide] at T
  go_wp2_with fail
  refine T.out.mono ?_
  rintro e w8 ⟨rfl, hs, hk⟩
  have X8 := hid ((hk.block _ (heap_lt X7.out) (fun e => e.1 rfl)).trans X7.out)
  have K8 := hid (K7.out.trans hk (fun _ _ e => e) (fun y hy e => absurd hy (Nat.not_lt.2 e.2)))
  have A8 := hid (show KS7 w w8 (fun y => y = wb) sb lw 8192 [1] [] [(0, 0)] S2 from hs)
  clear hs hk c3 c4 T A7 K7 X7
  obtain ⟨c3, c4⟩ := w7c X8.out
  have T := hid (A8.out.here 7 (by decide) S2_pl true)
  rw [show 65536 + 4096 * 1 = 69632 by decide] at T
  go_wp2_with fail
  refine T.out.mono ?_
  rintro e w9 ⟨rfl, hs, hk⟩
  have X9 := hid ((hk.block _ (heap_lt X8.out) (fun e => e.1 rfl)).trans X8.out)
  have K9 := hid (K8.out.trans hk (fun _ _ e => e) (fun y hy e => absurd hy (Nat.not_lt.2 e.2)))
  have A9 := hid (show KS7 w w9 (fun y => y = wb) sb lw 8192 [] [] [(0, 0), (1, 0)] S3 from hs)
  clear hs hk c3 c4 T A8 K8 X8
  obtain ⟨c3, c4⟩ := w7c X9.out
  have T := hid (A9.out.stuck 6 (by decide) S3_pl6 false (.inr rfl))
  go_wp2_with fail
  refine T.out.mono ?_
  rintro e w10 ⟨rfl, hs, hk⟩
  have X10 := hid ((hk.block _ (heap_lt X9.out) (fun e => e)).trans X9.out)
  have K10 := hid (none_trans K9.out hk)
  have A10 := hid hs
  clear hs hk c3 c4 T A9 K9 X9
  obtain ⟨c3, c4⟩ := w7c X10.out
  have T := hid (A10.out.size_no 71680 (by decide) S3_no)
  go_wp2_with fail
  refine T.out.mono ?_
  rintro e w11 ⟨rfl, hs, hk⟩
  have X11 := hid ((hk.block _ (heap_lt X10.out) (fun e => e)).trans X10.out)
  have K11 := hid (none_trans K10.out hk)
  have A11 := hid hs
  clear hs hk c3 c4 T A10 K10 X10
  obtain ⟨c3, c4⟩ := w7c X11.out
  have T := hid (A11.out.give_back (a := 65536) (g := 0) (k := 7) (i := 0) ⟨rfl, by decide, by rw [S3_fl0]; exact List.not_mem_nil, by decide⟩ (by rw [S3_fl0]; decide))
  go_wp2_with fail
  refine T.out.mono ?_
  rintro e w12 ⟨rfl, hs, hk⟩
  have X12 := hid ((hk.block _ (heap_lt X11.out) (fun e => e.1 rfl)).trans X11.out)
  have K12 := hid (K11.out.trans hk (fun _ _ e => e) (fun y hy e => absurd hy (Nat.not_lt.2 e.2)))
  have A12 := hid (show KS7 w w12 (fun y => y = wb) sb lw 8192 [] [] [(0, 0), (1, 0)] S4 from hs)
  clear hs hk c3 c4 T A11 K11 X11
  obtain ⟨c3, c4⟩ := w7c X12.out
  have T := hid (A12.out.give_no 65536 (by decide) (S4_no 65536 (.inl rfl)))
  go_wp2_with fail
  refine T.out.mono ?_
  rintro e w13 ⟨rfl, hs, hk⟩
  have X13 := hid ((hk.block _ (heap_lt X12.out) (fun e => e)).trans X12.out)
  have K13 := hid (none_trans K12.out hk)
  have A13 := hid hs
  clear hs hk c3 c4 T A12 K12 X12
  obtain ⟨c3, c4⟩ := w7c X13.out
  have T := hid (A13.out.give_no 65537 (by decide) (S4_no 65537 (.inr rfl)))
  go_wp2_with fail
  refine T.out.mono ?_
  rintro e w14 ⟨rfl, hs, hk⟩
  have X14 := hid ((hk.block _ (heap_lt X13.out) (fun e => e)).trans X13.out)
  have K14 := hid (none_trans K13.out hk)
  have A14 := hid hs
  clear hs hk c3 c4 T A13 K13 X13
  obtain ⟨c3, c4⟩ := w7c X14.out
  have T := hid (A14.out.word X14.out 0 7 0 [] [] rfl S4_fl0 65536 0 (by decide) rfl)
  go_wp2_with fail
  refine T.out.mono ?_
  rintro e w15 ⟨rfl, hk⟩
  have X15 := hid ((hk.block _ (heap_lt X14.out) (fun e => e)).trans X14.out)
  have K15 := hid (none_trans K14.out hk)
  have A15 := hid (A14.out.keep hk)
  clear hk c3 c4 T A14 K14 X14
  obtain ⟨c3, c4⟩ := w7c X15.out
  have T := hid A15.out.heads
  go_wp2_with fail
  refine T.out.mono ?_
  rintro e w16 ⟨b, rfl, hb, hk, hzb⟩
  have KA := hid ((Kept.refl none' w16).alloc (l8O 0))
  have NB := hid (hb.keep KA.out)
  have NL := hid (l8_num w16 0 _ (fun j hj => S4_hd j hj) S4_hd7)
  have X16 := hid ((hk.block _ (heap_lt X15.out) (fun e => e)).trans X15.out)
  have K16 := hid (none_trans K15.out hk)
  have A16 := hid (A15.out.keep hk)
  have T2 := hid (ints7 _ _ 8 8 8 _ (by decide) _ NB.out NL.out)
  clear hb hk hzb c3 c4 T A15 K15 X15 NB NL
  go_wp2_with fail
  refine T2.out.mono ?_
  rintro e w17 ⟨rfl, hk⟩
  have hk2 := none_trans KA.out hk
  have X17 := hid ((hk2.block _ (heap_lt X16.out) (fun e => e)).trans X16.out)
  have K17 := hid (none_trans K16.out hk2)
  have A17 := hid (A16.out.keep hk2)
  clear hk hk2 KA T2 A16 K16 X16
  obtain ⟨c3, c4⟩ := w7c X17.out
  obtain ⟨mp, hm1, hm2⟩ := A17.out.map
  obtain ⟨q, hq, hm3⟩ := hm2 _ (Kept.refl none' _) 0 7 rfl
  obtain ⟨b0, b1, b2, b3, rfl⟩ := SlP.lit hq (lv := 1) (nx := 1) (pv := -1) (fs := 0) (by decide) (by decide) (by decide) (by decide)
  have MP := hid hm1
  have MA := hid hm3
  clear hm1 hm2 hq hm3
  go_wp2_with fail
  refine MP.out.mono ?_
  rintro e w18 ⟨rfl, h1⟩
  replace h1 := h1.symm
  subst h1
  go_wp2_with fail
  refine MA.out.mono ?_
  rintro e w18 ⟨rfl, hk⟩
  have hb := heap_new w18 (pgO 4 0 7 1 1 (-1) 0 b0 b1 b2 b3)
  have ka := (Kept.refl none' w18).alloc (pgO 4 0 7 1 1 (-1) 0 b0 b1 b2 b3)
  have kk := none_trans hk ka
  have X19 := hid ((kk.block _ (heap_lt X17.out) (fun e => e)).trans X17.out)
  have K19 := hid (none_trans K17.out kk)
  have A19 := hid ((A17.out.keep hk).more (pgO 4 0 7 1 1 (-1) 0 b0 b1 b2 b3))
  have YN := hid (none_trans K17.out hk).size
  have YW := hid (show w18.heap.size ≠ wb from fun e => absurd (heap_lt ((hk.block _ (heap_lt X17.out) (fun e => e)).trans X17.out)) (by rw [← e]; exact Nat.lt_irrefl _))
  have Q19 := hid hb
  clear hb ka kk hk c3 c4 MP MA A17 K17 X17
  go_upto_region 17 with fail
  generalize w18.heap.size = y0 at *
  generalize w18.alloc (pgO 4 0 7 1 1 (-1) 0 b0 b1 b2 b3) = w19 at *
  have P19 := Q19
  clear Q19
  obtain ⟨c3, c4⟩ := w7c X19.out
  obtain ⟨mp, hm1, hm2⟩ := A19.out.map
  obtain ⟨q, hq, hm3⟩ := hm2 _ (Kept.refl none' _) 1 7 rfl
  obtain ⟨d0, d1, d2, d3, rfl⟩ := SlP.lit hq (lv := 1) (nx := -1) (pv := 0) (fs := 1) (by decide) (by decide) (by decide) (by decide)
  have MP := hid hm1
  have MA := hid hm3
  clear hm1 hm2 hq hm3
  go_wp2_with fail
  refine MP.out.mono ?_
  rintro e w20 ⟨rfl, h1⟩
  replace h1 := h1.symm
  subst h1
  go_wp2_with fail
  refine MA.out.mono ?_
  rintro e w20 ⟨rfl, hk⟩
  have hb := heap_new w20 (pgO 4 0 7 1 (-1) 0 1 d0 d1 d2 d3)
  have ka := (Kept.refl none' w20).alloc (pgO 4 0 7 1 (-1) 0 1 d0 d1 d2 d3)
  have kk := none_trans hk ka
  have X21 := hid ((kk.block _ (heap_lt X19.out) (fun e => e)).trans X19.out)
  have K21 := hid (none_trans K19.out kk)
  have A21 := hid (A19.out.keep kk)
  have P21 := hid ((kk.block _ (heap_lt P19.out) (fun e => e)).trans P19.out)
  have Q21 := hid hb
  clear hb ka kk hk c3 c4 MP MA A19 K19 X19 P19
  go_upto_region 18 with fail
  generalize w20.heap.size = y1 at *
  generalize w20.alloc (pgO 4 0 7 1 (-1) 0 1 d0 d1 d2 d3) = w21 at *
  obtain ⟨c3, c4⟩ := w7c X21.out
  obtain ⟨a0, a2, a3, a4, a5, a6⟩ := pgc P21.out
  obtain ⟨g0, g2, g3, g4, g5, g6⟩ := pgc Q21.out
  have T := hid (A21.out.give_rel (a := 67584) (g := 0) (k := 7) (i := 1) ⟨rfl, by decide, by rw [S4_fl0]; decide, by decide⟩ (by rw [S4_fl0]; decide) (fun fr h0 h1 => give0 fr h0 h1))
  go_wp2_with fail
  refine T.out.mono ?_
  rintro e w22 ⟨rfl, hs, hk⟩
  have X22 := hid ((hk.block _ (heap_lt X21.out) (fun e => e.1 (.inl rfl))).trans X21.out)
  have P22 := hid ((hk.block _ (heap_lt P21.out) (fun e => e.1 (.inr rfl))).trans P21.out)
  have K22 := hid (K21.out.trans hk (fun _ _ e => e) (fun y hy e => absurd hy (Nat.not_lt.2 e.2)))
  have A22 := hid (show KS7 w w22 (fun y => y = wb ∨ y = y0) sb lw 8192 [0] [] [(1, 0)] S5 from hs)
  clear hs hk c3 c4 T A21 K21 X21 P21
  clear a0 a2 a3 a4 a5 a6 g0 g2 g3 g4 g5 g6 Q21
  obtain ⟨c3, c4⟩ := w7c X22.out
  have T := hid A22.out.heads
  go_wp2_with fail
  refine T.out.mono ?_
  rintro e w23 ⟨b, rfl, hb, hk, hzb⟩
  have KA := hid ((Kept.refl none' w23).alloc (l8O 1))
  have NB := hid (hb.keep KA.out)
  have NL := hid (l8_num w23 1 _ (fun j hj => S5_hd j hj) S5_hd7)
  have X23 := hid ((hk.block _ (heap_lt X22.out) (fun e => e)).trans X22.out)
  have P23 := hid ((hk.block _ (heap_lt P22.out) (fun e => e)).trans P22.out)
  have K23 := hid (none_trans K22.out hk)
  have A23 := hid (A22.out.keep hk)
  have T2 := hid (ints7 _ _ 8 8 8 _ (by decide) _ NB.out NL.out)
  clear hb hk hzb c3 c4 T A22 K22 X22 P22 NB NL
  go_wp2_with fail
  refine T2.out.mono ?_
  rintro e w24 ⟨rfl, hk⟩
  have hk2 := none_trans KA.out hk
  have X24 := hid ((hk2.block _ (heap_lt X23.out) (fun e => e)).trans X23.out)
  have P24 := hid ((hk2.block _ (heap_lt P23.out) (fun e => e)).trans P23.out)
  have K24 := hid (none_trans K23.out hk2)
  have A24 := hid (A23.out.keep hk2)
  clear hk hk2 KA T2 A23 K23 X23 P23
  obtain ⟨c3, c4⟩ := w7c X24.out
  have T := hid (A24.out.here 0 (by decide) S5_pl0 true)
  rw [show 65536 + 4096 * 0 = 65536 by decide] at T
  go_wp2_with fail
  refine T.out.mono ?_
  rintro e w25 ⟨rfl, hs, hk⟩
  have X25 := hid ((hk.block _ (heap_lt X24.out) (fun e => e.1 (.inl rfl))).trans X24.out)
  have P25 := hid ((hk.block _ (heap_lt P24.out) (fun e => e.1 (.inr rfl))).trans P24.out)
  have K25 := hid (K24.out.trans hk (fun _ _ e => e) (fun y hy e => absurd hy (Nat.not_lt.2 e.2)))
  have A25 := hid (show KS7 w w25 (fun y => y = wb ∨ y = y0) sb lw 8192 [] [] [(1, 0), (0, 0)] S6 from hs)
  clear hs hk c3 c4 T A24 K24 X24 P24
  obtain ⟨c3, c4⟩ := w7c X25.out
  have T := hid (A25.out.old 0 (by decide) S6_pl S6_fl true)
  rw [show 65536 + 4096 * 0 + 1 * szC 0 = 65552 by decide] at T
  go_wp2_with fail
  refine T.out.mono ?_
  rintro e w26 ⟨rfl, hs, hk⟩
  have X26 := hid ((hk.block _ (heap_lt X25.out) (fun e => e.1 (.inl rfl))).trans X25.out)
  have P26 := hid ((hk.block _ (heap_lt P25.out) (fun e => e.1 (.inr rfl))).trans P25.out)
  have K26 := hid (K25.out.trans hk (fun _ _ e => e) (fun y hy e => absurd hy (Nat.not_lt.2 e.2)))
  have A26 := hid (show KS7 w w26 (fun y => y = wb ∨ y = y0) sb lw 8192 [] [] [(1, 0), (0, 0)] S7 from hs)
  clear hs hk c3 c4 T A25 K25 X25 P25
  obtain ⟨c3, c4⟩ := w7c X26.out
  obtain ⟨mp, hm1, hm2⟩ := A26.out.map
  obtain ⟨q, hq, hm3⟩ := hm2 _ (Kept.refl none' _) 0 0 S7_c
  obtain ⟨d0, d1, d2, d3, rfl⟩ := SlP.lit hq (lv := 2) (nx := -1) (pv := -1) (fs := 2) (by decide +kernel) (by decide +kernel) (by decide +kernel) (by decide +kernel)
  have MP := hid hm1
  have MA := hid hm3
  clear hm1 hm2 hq hm3
  go_wp2_with fail
  refine MP.out.mono ?_
  rintro e w27 ⟨rfl, h1⟩
  replace h1 := h1.symm
  subst h1
  go_wp2_with fail
  refine MA.out.mono ?_
  rintro e w27 ⟨rfl, hk⟩
  have P27 := hid ((hk.block _ (heap_lt P26.out) (fun e => e)).trans P26.out)
  obtain ⟨a0, a1, a2, a3, a4, a5, a6, a7, a8, a9, a10, fz⟩ := pgc11 P27.out
  have hb := set11 P27.out 4 0 0 2 (-1) (-1) 2 d0 d1 d2 d3
  have ks := set11k w27 y0 4 0 0 2 (-1) (-1) 2 d0 d1 d2 d3
  have X27 := hid ((ks.block _ (heap_lt ((hk.block _ (heap_lt X26.out) (fun e => e)).trans X26.out)) (fun e => YW.out e.symm)).trans ((hk.block _ (heap_lt X26.out) (fun e => e)).trans X26.out))
  have K27 := hid ((none_trans K26.out hk).trans ks (fun _ _ e => e) (fun y hy e => absurd hy (Nat.not_lt.2 (by rw [e]; exact YN.out))))
  have A27 := hid ((A26.out.keep hk).beside (.inr rfl) P27.out YN.out ks)
  have Q27 := hid hb
  clear hb ks hk c3 c4 MP MA A26 K26 X26 P26 P27
  go_upto_region 23 with fail
  clear a0 a1 a2 a3 a4 a5 a6 a7 a8 a9 a10 fz
  generalize ((((((((((w27.setCell ⟨y0, 0, none⟩ (.int .i64 4)).setCell ⟨y0, 1, none⟩ (.int .i64 0)).setCell ⟨y0, 2, none⟩ (.int .i64 0)).setCell ⟨y0, 3, none⟩ (.int .i64 2)).setCell ⟨y0, 4, none⟩ (.int .i64 (-1))).setCell ⟨y0, 5, none⟩ (.int .i64 (-1))).setCell ⟨y0, 6, none⟩ (.int .i64 2)).setCell ⟨y0, 7, none⟩ (.int .u64 (d0 : Int))).setCell ⟨y0, 8, none⟩ (.int .u64 (d1 : Int))).setCell ⟨y0, 9, none⟩ (.int .u64 (d2 : Int))).setCell ⟨y0, 10, none⟩ (.int .u64 (d3 : Int)) = w28 at *
  have X28 := X27
  have K28 := K27
  have A28 := A27
  have P28 := Q27
  clear X27 K27 A27 Q27
  obtain ⟨a0, a2, a3, a4, a5, a6⟩ := pgc P28.out
  obtain ⟨c3, c4⟩ := w7c X28.out
  have T := hid (A28.out.word X28.out 0 0 2 [] (List.range' 3 253) S7_c S7_fl 65568 65584 (by decide) (by decide +kernel))
  go_wp2_with fail
  refine T.out.mono ?_
  rintro e w29 ⟨rfl, hk⟩
  have X29 := hid ((hk.block _ (heap_lt X28.out) (fun e => e)).trans X28.out)
  have P29 := hid ((hk.block _ (heap_lt P28.out) (fun e => e)).trans P28.out)
  have K29 := hid (none_trans K28.out hk)
  have A29 := hid (A28.out.keep hk)
  clear hk c3 c4 T A28 K28 X28 P28
  clear a0 a2 a3 a4 a5 a6
  obtain ⟨c3, c4⟩ := w7c X29.out
  have T := hid (A29.out.word X29.out 0 0 255 (List.range' 2 253) [] S7_c S7_fl2 69616 0 (by decide) rfl)
  go_wp2_with fail
  refine T.out.mono ?_
  rintro e w30 ⟨rfl, hk⟩
  have X30 := hid ((hk.block _ (heap_lt X29.out) (fun e => e)).trans X29.out)
  have P30 := hid ((hk.block _ (heap_lt P29.out) (fun e => e)).trans P29.out)
  have K30 := hid (none_trans K29.out hk)
  have A30 := hid (A29.out.keep hk)
  clear hk c3 c4 T A29 K29 X29 P29
  obtain ⟨c3, c4⟩ := w7c X30.out
  have T := hid (A30.out.give_back (a := 65536) (g := 0) (k := 0) (i := 0) ⟨S7_c, by decide, by decide +kernel, by decide⟩ (by decide +kernel))
  go_wp2_with fail
  refine T.out.mono ?_
  rintro e w31 ⟨rfl, hs, hk⟩
  have X31 := hid ((hk.block _ (heap_lt X30.out) (fun e => e.1 (.inl rfl))).trans X30.out)
  have P31 := hid ((hk.block _ (heap_lt P30.out) (fun e => e.1 (.inr rfl))).trans P30.out)
  have K31 := hid (K30.out.trans hk (fun _ _ e => e) (fun y hy e => absurd hy (Nat.not_lt.2 e.2)))
  have A31 := hid (show KS7 w w31 (fun y => y = wb ∨ y = y0) sb lw 8192 [] [] [(1, 0), (0, 0)] S8 from hs)
  clear hs hk c3 c4 T A30 K30 X30 P30
  obtain ⟨c3, c4⟩ := w7c X31.out
  have T := hid (A31.out.old 0 (by decide) S8_pl S8_fl true)
  rw [show 65536 + 4096 * 0 + 0 * szC 0 = 65536 by decide] at T
  go_wp2_with fail
  refine T.out.mono ?_
  rintro e w32 ⟨rfl, hs, hk⟩
  have X32 := hid ((hk.block _ (heap_lt X31.out) (fun e => e.1 (.inl rfl))).trans X31.out)
  have P32 := hid ((hk.block _ (heap_lt P31.out) (fun e => e.1 (.inr rfl))).trans P31.out)
  have K32 := hid (K31.out.trans hk (fun _ _ e => e) (fun y hy e => absurd hy (Nat.not_lt.2 e.2)))
  have A32 := hid (show KS7 w w32 (fun y => y = wb ∨ y = y0) sb lw 8192 [] [] [(1, 0), (0, 0)] (takS S8 0 0 (List.range' 2 254)) from hs)
  clear hs hk c3 c4 T A31 K31 X31 P31
  go_wp2_with fail
  go_ret
  exact ⟨rfl, K32.out⟩
end Go.Proofs.YtocpnddacdpnmaaGreatDoor
