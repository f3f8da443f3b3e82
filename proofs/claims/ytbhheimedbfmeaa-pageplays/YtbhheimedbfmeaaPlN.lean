/- played: At and Pages. -/
import Derived.Test.YtbhheimedbfmeaaPlI
import Derived.Test.YtbhheimedbfmeaaPgU
namespace Go.Proofs.Ytbhheimedbfmeaa
open Go.RowKit
set_option linter.unusedVariables false

set_option maxRecDepth 8000 in
set_option maxHeartbeats 8000000 in
theorem played_0out (b : Nat) (B : Bs) (g : Option Nat) (cp : Nat) (q : Value) (R : Nat → Nat) (m : Mp) (kk p x y : Int) (q1 : kk ≠ 1) (q2 : kk ≠ 2) (q3 : kk ≠ 3) (q4 : kk ≠ 4) (q5 : kk ≠ 5) (q6 : kk ≠ 6) (q7 : kk ≠ 7) (q8 : kk ≠ 8) (q9 : kk ≠ 9) (q10 : kk ≠ 10) (q11 : kk ≠ 11) (l : Bool) (E : Nat → Obj → Prop) (w w0 : World) (h : PR E w w0 b B g cp q R m) (hi : inR m.n p = false) :
    Calls Try.prog 46 #[.pointer (some ⟨b, 0, none⟩), rv m.o g m.n cp q, opV kk p x y l] w0 fun e w' => ∃ v', e = .returned (.tuple #[v', .bool true]) ∧ PRS E w w' b v' := by
  obtain ⟨qa, qc, rfl⟩ := h.rf.val
  have TB := three_box w0 (ro m.o g m.n cp (.slice qa m.o qc)) (opO kk p x y l) roZ
  have BX := hid (show Bx _ w0.heap.size m.o g m.n cp (.slice qa m.o qc) (opO kk p x y l) from ⟨TB.2.1, TB.2.2.1, TB.2.2.2⟩)
  have H0 := hid (h.keep TB.1)
  have HL := hid (show (∀ y, mown b B m.o y → y < w0.heap.size) ∧ (∀ y, onlyG g y → y < w0.heap.size) ∧ (∀ y, rown g (.slice qa m.o qc) R m.o y → y < w0.heap.size) ∧ w.heap.size ≤ w0.heap.size ∧ (∀ X o, E X o → X < w0.heap.size) from ⟨fun y hy => h.mp.own_lt y hy, fun y hy => h.rf.own_lt y (.inl hy), fun y hy => h.rf.own_lt y hy, h.kp.size, fun X o e => heap_lt (h.ex X o e).2.2⟩)
  have b1 : (kk == 1) = false := beq_eq_false_iff_ne.2 q1
  have b2 : (kk == 2) = false := beq_eq_false_iff_ne.2 q2
  have b3 : (kk == 3) = false := beq_eq_false_iff_ne.2 q3
  have b4 : (kk == 4) = false := beq_eq_false_iff_ne.2 q4
  have b5 : (kk == 5) = false := beq_eq_false_iff_ne.2 q5
  have b6 : (kk == 6) = false := beq_eq_false_iff_ne.2 q6
  have b7 : (kk == 7) = false := beq_eq_false_iff_ne.2 q7
  have b8 : (kk == 8) = false := beq_eq_false_iff_ne.2 q8
  have b9 : (kk == 9) = false := beq_eq_false_iff_ne.2 q9
  have b10 : (kk == 10) = false := beq_eq_false_iff_ne.2 q10
  have b11 : (kk == 11) = false := beq_eq_false_iff_ne.2 q11
  have HI := hid hi
  have HA := hid (show atP m p = zeroP by simp [atP, hi])
  clear h TB hi
  go_enter Try.func46, Try.ntmps46
  go_wp2_with fail
  generalize ((w0.alloc (ro m.o g m.n cp (.slice qa m.o qc))).alloc (opO kk p x y l)).alloc roZ = W0 at *
  obtain ⟨t0, t1, t2⟩ := box3 BX.out.t
  obtain ⟨o0, o1, o2, o3, o4⟩ := opbox BX.out.p
  have D0 := hid (show PR E w W0 b B g cp (.slice qa m.o qc) R m ∧ Bx W0 w0.heap.size m.o g m.n cp (.slice qa m.o qc) (opO kk p x y l) from ⟨H0.out, BX.out⟩)
  clear H0 BX
  go_wp2_with fail
  refine (Pair_ref g cp (.slice qa m.o qc) m D0.out.1.rf.o8 D0.out.1.rf.n1 W0 x p).mono ?_
  rintro e W5 ⟨rfl, hK⟩
  have D5 := hid (show PR E w W5 b B g cp (.slice qa m.o qc) R m ∧ Bx W5 w0.heap.size m.o g m.n cp (.slice qa m.o qc) (opO kk p x y l) from ⟨D0.out.1.keep hK, D0.out.2.kept hK (fun _ x => x.elim)⟩)
  clear D0 hK t0 t1 t2 o0 o1 o2 o3 o4
  obtain ⟨t0, t1, t2⟩ := box3 (show W5.heap[w0.heap.size]? = _ from D5.out.2.t)
  obtain ⟨o0, o1, o2, o3, o4⟩ := opbox (show W5.heap[w0.heap.size + 1]? = _ from D5.out.2.p)
  generalize pairI m x p = pv at *
  have hae := arr_eq
  go_wp2_with fail
  refine (at_any b B m p _ D5.out.1.mp).mono ?_
  rintro e W6 ⟨rfl, hk⟩
  rw [HI.out, HA.out]
  have D6 := hid (show PR E w W6 b B g cp (.slice qa m.o qc) R m ∧ Bx W6 w0.heap.size m.o g m.n cp (.slice qa m.o qc) (opO kk p x y l) from ⟨D5.out.1.keep hk, D5.out.2.kept hk (fun _ x => x.elim)⟩)
  clear hk t0 t1 t2 o0 o1 o2 o3 o4
  have ka := (Kept.refl none' W6).alloc (pobj zeroP)
  have D7 := hid (show (PR E w (W6.alloc (pobj zeroP)) b B g cp (.slice qa m.o qc) R m ∧ Bx (W6.alloc (pobj zeroP)) w0.heap.size m.o g m.n cp (.slice qa m.o qc) (opO kk p x y l)) ∧ (W6.alloc (pobj zeroP)).heap[W6.heap.size]? = some (pobj zeroP) from ⟨⟨D6.out.1.keep ka, D6.out.2.kept ka (fun _ x => x.elim)⟩, heap_new _ _⟩)
  clear ka
  obtain ⟨t0, t1, t2⟩ := box3 D7.out.1.2.t
  obtain ⟨o0, o1, o2, o3, o4⟩ := opbox D7.out.1.2.p
  go_wp2_with fail
  refine (Is_any m.n (adr g) cp (.int .i64 (m.o : Int)) (.slice qa m.o qc) p _).mono ?_
  rintro e W7 ⟨rfl, hk⟩
  rw [HI.out]
  have kd := none_trans hk (Kept.refl none' W7).drew
  have D8 := hid (show (PR E w W7.drew b B g cp (.slice qa m.o qc) R m ∧ Bx W7.drew w0.heap.size m.o g m.n cp (.slice qa m.o qc) (opO kk p x y l)) ∧ W7.drew.heap[W6.heap.size]? = some (pobj zeroP) from ⟨⟨D7.out.1.1.keep kd, D7.out.1.2.kept kd (fun _ x => x.elim)⟩, (kd.block _ (heap_lt D7.out.2) (fun x => x)).trans D7.out.2⟩)
  have HP := hid (show w0.heap.size + 2 < W6.heap.size from by have := heap_lt D6.out.2.y; omega)
  obtain ⟨P, hP⟩ : ∃ P, P = W6.heap.size := ⟨_, rfl⟩
  rw [← hP] at D8 HP
  clear hk kd t0 t1 t2 o0 o1 o2 o3 o4 D7
  go_wp2_with fail
  rw [← hP]
  clear hP
  obtain ⟨t0, t1, t2⟩ := box3 D8.out.1.2.t
  obtain ⟨o0, o1, o2, o3, o4⟩ := opbox D8.out.1.2.p
  obtain ⟨p0, p1, p2, p3, p4, p5, p6, p7, p8, p9, p10⟩ := box11 D8.out.2
  have y3 : W7.heap[w0.heap.size + 1 + 1]? = some roZ := D8.out.1.2.y
  obtain ⟨y0, y1, y2⟩ := boxZ y3
  have fz : ∀ j, W7.frozen? ⟨w0.heap.size + 1 + 1, j, none⟩ = false := (fun j => by simp [World.frozen?, y3])
  clear y3
  replace p0 : W7.drew.cell? ⟨P, 0, none⟩ = some (.int .i64 0) := p0
  replace p1 : W7.drew.cell? ⟨P, 1, none⟩ = some (.int .i64 0) := p1
  replace p2 : W7.drew.cell? ⟨P, 2, none⟩ = some (.int .i64 0) := p2
  replace p3 : W7.drew.cell? ⟨P, 3, none⟩ = some (.int .i64 0) := p3
  replace p4 : W7.drew.cell? ⟨P, 4, none⟩ = some (.int .i64 0) := p4
  replace p5 : W7.drew.cell? ⟨P, 5, none⟩ = some (.int .i64 0) := p5
  replace p6 : W7.drew.cell? ⟨P, 6, none⟩ = some (.int .i64 0) := p6
  replace p7 : W7.drew.cell? ⟨P, 7, none⟩ = some (.int .u64 0) := p7
  replace p8 : W7.drew.cell? ⟨P, 8, none⟩ = some (.int .u64 0) := p8
  replace p9 : W7.drew.cell? ⟨P, 9, none⟩ = some (.int .u64 0) := p9
  replace p10 : W7.drew.cell? ⟨P, 10, none⟩ = some (.int .u64 0) := p10
  go_region_held3 (fun w' => w'.cell? ⟨w0.heap.size, 0, none⟩ = some (.int .i64 (m.o : Int)) ∧ w'.cell? ⟨w0.heap.size, 1, none⟩ = some (.slice (adr g) m.n cp) ∧ w'.cell? ⟨w0.heap.size, 2, none⟩ = some (.slice qa m.o qc) ∧ w'.cell? ⟨P, 0, none⟩ = some (.int .i64 0) ∧ w'.cell? ⟨P, 1, none⟩ = some (.int .i64 0) ∧ w'.cell? ⟨P, 2, none⟩ = some (.int .i64 0) ∧ w'.cell? ⟨P, 3, none⟩ = some (.int .i64 0) ∧ w'.cell? ⟨P, 4, none⟩ = some (.int .i64 0) ∧ w'.cell? ⟨P, 5, none⟩ = some (.int .i64 0) ∧ w'.cell? ⟨P, 6, none⟩ = some (.int .i64 0) ∧ w'.cell? ⟨P, 7, none⟩ = some (.int .u64 0) ∧ w'.cell? ⟨P, 8, none⟩ = some (.int .u64 0) ∧ w'.cell? ⟨P, 9, none⟩ = some (.int .u64 0) ∧ w'.cell? ⟨P, 10, none⟩ = some (.int .u64 0)) (first | with_reducible exact ⟨t0, t1, t2, p0, p1, p2, p3, p4, p5, p6, p7, p8, p9, p10⟩ | with_reducible exact ⟨setM_cell (by omega) t0, setM_cell (by omega) t1, setM_cell (by omega) t2, setM_cell (by have := HP.out; omega) p0, setM_cell (by have := HP.out; omega) p1, setM_cell (by have := HP.out; omega) p2, setM_cell (by have := HP.out; omega) p3, setM_cell (by have := HP.out; omega) p4, setM_cell (by have := HP.out; omega) p5, setM_cell (by have := HP.out; omega) p6, setM_cell (by have := HP.out; omega) p7, setM_cell (by have := HP.out; omega) p8, setM_cell (by have := HP.out; omega) p9, setM_cell (by have := HP.out; omega) p10⟩ | with_reducible exact ⟨setMd_cell (by omega) t0, setMd_cell (by omega) t1, setMd_cell (by omega) t2, setMd_cell (by have := HP.out; omega) p0, setMd_cell (by have := HP.out; omega) p1, setMd_cell (by have := HP.out; omega) p2, setMd_cell (by have := HP.out; omega) p3, setMd_cell (by have := HP.out; omega) p4, setMd_cell (by have := HP.out; omega) p5, setMd_cell (by have := HP.out; omega) p6, setMd_cell (by have := HP.out; omega) p7, setMd_cell (by have := HP.out; omega) p8, setMd_cell (by have := HP.out; omega) p9, setMd_cell (by have := HP.out; omega) p10⟩) (
    (go_at_call 30; refine (pages_any b B m _ D8.out.1.1.mp).mono ?_; rintro e w9 ⟨rfl, rfl⟩))
  all_goals
    go_wp2_with fail
    refine ⟨rfl, .tuple #[rv m.o g m.n cp (.slice qa m.o qc), .bool true], by simp [results, Try.results46, go_sem, y0, y1, y2], _, rfl, ?_⟩
    refine ⟨m, B, g, cp, .slice qa m.o qc, R, rfl, ?_⟩
    first
      | (refine D8.out.1.1.setY (w0 := w0) rfl (From.refl W5 b B m.o) (heap_lt D5.out.2.y) (by have := HL.out.2.2.2.1; omega) (fun X o e => by have := HL.out.2.2.2.2 X o e; omega) (fun x hx => ?_) (fun x hx => ?_) _ _ _)
      | (refine (D8.out.1.1.setY (w0 := w0) (W2 := W7.drew) rfl (From.refl W5 b B m.o) (heap_lt D5.out.2.y) (by have := HL.out.2.2.2.1; omega) (fun X o e => by have := HL.out.2.2.2.2 X o e; omega) (fun x hx => ?_) (fun x hx => ?_) _ _ _).keep (Kept.refl none' _).drew)
    · have := HL.out.1 x hx; omega
    · have := HL.out.2.2.1 x hx; omega
set_option maxRecDepth 8000 in
set_option maxHeartbeats 8000000 in
theorem played_0in (b : Nat) (B : Bs) (g : Option Nat) (cp : Nat) (q : Value) (R : Nat → Nat) (m : Mp) (kk p x y : Int) (q1 : kk ≠ 1) (q2 : kk ≠ 2) (q3 : kk ≠ 3) (q4 : kk ≠ 4) (q5 : kk ≠ 5) (q6 : kk ≠ 6) (q7 : kk ≠ 7) (q8 : kk ≠ 8) (q9 : kk ≠ 9) (q10 : kk ≠ 10) (q11 : kk ≠ 11) (l : Bool) (E : Nat → Obj → Prop) (w w0 : World) (h : PR E w w0 b B g cp q R m) (k : Nat) (hpk : p = (k : Int)) (hk : k < m.n) :
    Calls Try.prog 46 #[.pointer (some ⟨b, 0, none⟩), rv m.o g m.n cp q, opV kk p x y l] w0 fun e w' => ∃ v', e = .returned (.tuple #[v', .bool true]) ∧ PRS E w w' b v' := by
  obtain ⟨qa, qc, rfl⟩ := h.rf.val
  have TB := three_box w0 (ro m.o g m.n cp (.slice qa m.o qc)) (opO kk p x y l) roZ
  have BX := hid (show Bx _ w0.heap.size m.o g m.n cp (.slice qa m.o qc) (opO kk p x y l) from ⟨TB.2.1, TB.2.2.1, TB.2.2.2⟩)
  have H0 := hid (h.keep TB.1)
  have HL := hid (show (∀ y, mown b B m.o y → y < w0.heap.size) ∧ (∀ y, onlyG g y → y < w0.heap.size) ∧ (∀ y, rown g (.slice qa m.o qc) R m.o y → y < w0.heap.size) ∧ w.heap.size ≤ w0.heap.size ∧ (∀ X o, E X o → X < w0.heap.size) from ⟨fun y hy => h.mp.own_lt y hy, fun y hy => h.rf.own_lt y (.inl hy), fun y hy => h.rf.own_lt y hy, h.kp.size, fun X o e => heap_lt (h.ex X o e).2.2⟩)
  have b1 : (kk == 1) = false := beq_eq_false_iff_ne.2 q1
  have b2 : (kk == 2) = false := beq_eq_false_iff_ne.2 q2
  have b3 : (kk == 3) = false := beq_eq_false_iff_ne.2 q3
  have b4 : (kk == 4) = false := beq_eq_false_iff_ne.2 q4
  have b5 : (kk == 5) = false := beq_eq_false_iff_ne.2 q5
  have b6 : (kk == 6) = false := beq_eq_false_iff_ne.2 q6
  have b7 : (kk == 7) = false := beq_eq_false_iff_ne.2 q7
  have b8 : (kk == 8) = false := beq_eq_false_iff_ne.2 q8
  have b9 : (kk == 9) = false := beq_eq_false_iff_ne.2 q9
  have b10 : (kk == 10) = false := beq_eq_false_iff_ne.2 q10
  have b11 : (kk == 11) = false := beq_eq_false_iff_ne.2 q11
  subst hpk
  have HI := hid (inR_yes hk)
  have HA := hid (show atP m (k : Int) = m.pg k by simp [atP, HI.out])
  have hki : (k : Int) < (m.n : Int) := by omega
  have hn1 := h.mp.n1
  obtain ⟨gg, rfl⟩ : ∃ gg, g = some gg := by
    obtain ⟨q', _, _, h1, _⟩ := h.rf.rq.has (by omega)
    exact ⟨q', h1⟩
  clear h TB
  go_enter Try.func46, Try.ntmps46
  go_wp2_with fail
  generalize ((w0.alloc (ro m.o (some gg) m.n cp (.slice qa m.o qc))).alloc (opO kk (k : Int) x y l)).alloc roZ = W0 at *
  obtain ⟨t0, t1, t2⟩ := box3 BX.out.t
  obtain ⟨o0, o1, o2, o3, o4⟩ := opbox BX.out.p
  have D0 := hid (show PR E w W0 b B (some gg) cp (.slice qa m.o qc) R m ∧ Bx W0 w0.heap.size m.o (some gg) m.n cp (.slice qa m.o qc) (opO kk (k : Int) x y l) from ⟨H0.out, BX.out⟩)
  clear H0 BX
  go_wp2_with fail
  refine (Pair_ref (some gg) cp (.slice qa m.o qc) m D0.out.1.rf.o8 D0.out.1.rf.n1 W0 x (k : Int)).mono ?_
  rintro e W5 ⟨rfl, hK⟩
  have D5 := hid (show PR E w W5 b B (some gg) cp (.slice qa m.o qc) R m ∧ Bx W5 w0.heap.size m.o (some gg) m.n cp (.slice qa m.o qc) (opO kk (k : Int) x y l) from ⟨D0.out.1.keep hK, D0.out.2.kept hK (fun _ x => x.elim)⟩)
  clear D0 hK t0 t1 t2 o0 o1 o2 o3 o4
  obtain ⟨t0, t1, t2⟩ := box3 (show W5.heap[w0.heap.size]? = _ from D5.out.2.t)
  obtain ⟨o0, o1, o2, o3, o4⟩ := opbox (show W5.heap[w0.heap.size + 1]? = _ from D5.out.2.p)
  generalize pairI m x (k : Int) = pv at *
  have hae := arr_eq
  go_wp2_with fail
  refine (at_any b B m (k : Int) _ D5.out.1.mp).mono ?_
  rintro e W6 ⟨rfl, hk⟩
  rw [HI.out, HA.out]
  have D6 := hid (show PR E w W6 b B (some gg) cp (.slice qa m.o qc) R m ∧ Bx W6 w0.heap.size m.o (some gg) m.n cp (.slice qa m.o qc) (opO kk (k : Int) x y l) from ⟨D5.out.1.keep hk, D5.out.2.kept hk (fun _ x => x.elim)⟩)
  clear hk t0 t1 t2 o0 o1 o2 o3 o4
  have ka := (Kept.refl none' W6).alloc (pobj (m.pg k))
  have D7 := hid (show (PR E w (W6.alloc (pobj (m.pg k))) b B (some gg) cp (.slice qa m.o qc) R m ∧ Bx (W6.alloc (pobj (m.pg k))) w0.heap.size m.o (some gg) m.n cp (.slice qa m.o qc) (opO kk (k : Int) x y l)) ∧ (W6.alloc (pobj (m.pg k))).heap[W6.heap.size]? = some (pobj (m.pg k)) from ⟨⟨D6.out.1.keep ka, D6.out.2.kept ka (fun _ x => x.elim)⟩, heap_new _ _⟩)
  clear ka
  obtain ⟨t0, t1, t2⟩ := box3 D7.out.1.2.t
  obtain ⟨o0, o1, o2, o3, o4⟩ := opbox D7.out.1.2.p
  go_wp2_with fail
  refine (Is_any m.n (adr (some gg)) cp (.int .i64 (m.o : Int)) (.slice qa m.o qc) (k : Int) _).mono ?_
  rintro e W7 ⟨rfl, hk⟩
  rw [HI.out]
  have kd := none_trans hk (Kept.refl none' W7).drew
  have D8 := hid (show (PR E w W7.drew b B (some gg) cp (.slice qa m.o qc) R m ∧ Bx W7.drew w0.heap.size m.o (some gg) m.n cp (.slice qa m.o qc) (opO kk (k : Int) x y l)) ∧ W7.drew.heap[W6.heap.size]? = some (pobj (m.pg k)) from ⟨⟨D7.out.1.1.keep kd, D7.out.1.2.kept kd (fun _ x => x.elim)⟩, (kd.block _ (heap_lt D7.out.2) (fun x => x)).trans D7.out.2⟩)
  have HP := hid (show w0.heap.size + 2 < W6.heap.size from by have := heap_lt D6.out.2.y; omega)
  obtain ⟨P, hP⟩ : ∃ P, P = W6.heap.size := ⟨_, rfl⟩
  rw [← hP] at D8 HP
  clear hk kd t0 t1 t2 o0 o1 o2 o3 o4 D7
  go_wp2_with fail
  rw [← hP]
  clear hP
  obtain ⟨t0, t1, t2⟩ := box3 D8.out.1.2.t
  obtain ⟨o0, o1, o2, o3, o4⟩ := opbox D8.out.1.2.p
  obtain ⟨p0, p1, p2, p3, p4, p5, p6, p7, p8, p9, p10⟩ := box11 D8.out.2
  have y3 : W7.heap[w0.heap.size + 1 + 1]? = some roZ := D8.out.1.2.y
  obtain ⟨y0, y1, y2⟩ := boxZ y3
  have fz : ∀ j, W7.frozen? ⟨w0.heap.size + 1 + 1, j, none⟩ = false := (fun j => by simp [World.frozen?, y3])
  clear y3
  obtain ⟨g2, hg2, _, d0, d1, d2, d3, d4, d5, d6, d7, d8, d9, d10⟩ := D8.out.1.1.rf.rq.cell k hk
  obtain rfl : gg = g2 := by simpa using hg2
  clear hg2
  have HG := hid (show gg < w0.heap.size from HL.out.2.1 gg rfl)
  replace t1 : W7.drew.cell? ⟨w0.heap.size, 1, none⟩ = some (.slice (some ⟨gg, 0, none⟩) m.n cp) := t1
  go_region_held3 (fun w' => w'.cell? ⟨w0.heap.size, 0, none⟩ = some (.int .i64 (m.o : Int)) ∧ w'.cell? ⟨w0.heap.size, 1, none⟩ = some (.slice (some ⟨gg, 0, none⟩) m.n cp) ∧ w'.cell? ⟨w0.heap.size, 2, none⟩ = some (.slice qa m.o qc) ∧ w'.cell? ⟨w0.heap.size + 1, 1, none⟩ = some (.int .i64 (k : Int)) ∧ w'.cell? ⟨P, 0, none⟩ = some (.int .i64 (m.pg k).kd) ∧ w'.cell? ⟨P, 1, none⟩ = some (.int .i64 (m.pg k).od) ∧ w'.cell? ⟨P, 2, none⟩ = some (.int .i64 (m.pg k).cl) ∧ w'.cell? ⟨P, 3, none⟩ = some (.int .i64 (m.pg k).lv) ∧ w'.cell? ⟨P, 4, none⟩ = some (.int .i64 (m.pg k).nx) ∧ w'.cell? ⟨P, 5, none⟩ = some (.int .i64 (m.pg k).pv) ∧ w'.cell? ⟨P, 6, none⟩ = some (.int .i64 (m.pg k).fs) ∧ w'.cell? ⟨P, 7, none⟩ = some (.int .u64 ((m.pg k).b0 : Int)) ∧ w'.cell? ⟨P, 8, none⟩ = some (.int .u64 ((m.pg k).b1 : Int)) ∧ w'.cell? ⟨P, 9, none⟩ = some (.int .u64 ((m.pg k).b2 : Int)) ∧ w'.cell? ⟨P, 10, none⟩ = some (.int .u64 ((m.pg k).b3 : Int)) ∧ w'.cell? ⟨gg, k * 11, none⟩ = some (.int .i64 (m.pg k).kd) ∧ w'.cell? ⟨gg, k * 11 + 1, none⟩ = some (.int .i64 (m.pg k).od) ∧ w'.cell? ⟨gg, k * 11 + 2, none⟩ = some (.int .i64 (m.pg k).cl) ∧ w'.cell? ⟨gg, k * 11 + 3, none⟩ = some (.int .i64 (m.pg k).lv) ∧ w'.cell? ⟨gg, k * 11 + 4, none⟩ = some (.int .i64 (m.pg k).nx) ∧ w'.cell? ⟨gg, k * 11 + 5, none⟩ = some (.int .i64 (m.pg k).pv) ∧ w'.cell? ⟨gg, k * 11 + 6, none⟩ = some (.int .i64 (m.pg k).fs) ∧ w'.cell? ⟨gg, k * 11 + 7, none⟩ = some (.int .u64 ((m.pg k).b0 : Int)) ∧ w'.cell? ⟨gg, k * 11 + 8, none⟩ = some (.int .u64 ((m.pg k).b1 : Int)) ∧ w'.cell? ⟨gg, k * 11 + 9, none⟩ = some (.int .u64 ((m.pg k).b2 : Int)) ∧ w'.cell? ⟨gg, k * 11 + 10, none⟩ = some (.int .u64 ((m.pg k).b3 : Int))) (first | with_reducible exact ⟨t0, t1, t2, o1, p0, p1, p2, p3, p4, p5, p6, p7, p8, p9, p10, d0, d1, d2, d3, d4, d5, d6, d7, d8, d9, d10⟩ | with_reducible exact ⟨setM_cell (by omega) t0, setM_cell (by omega) t1, setM_cell (by omega) t2, setM_cell (by omega) o1, setM_cell (by have := HP.out; omega) p0, setM_cell (by have := HP.out; omega) p1, setM_cell (by have := HP.out; omega) p2, setM_cell (by have := HP.out; omega) p3, setM_cell (by have := HP.out; omega) p4, setM_cell (by have := HP.out; omega) p5, setM_cell (by have := HP.out; omega) p6, setM_cell (by have := HP.out; omega) p7, setM_cell (by have := HP.out; omega) p8, setM_cell (by have := HP.out; omega) p9, setM_cell (by have := HP.out; omega) p10, setM_cell (by have := HG.out; omega) d0, setM_cell (by have := HG.out; omega) d1, setM_cell (by have := HG.out; omega) d2, setM_cell (by have := HG.out; omega) d3, setM_cell (by have := HG.out; omega) d4, setM_cell (by have := HG.out; omega) d5, setM_cell (by have := HG.out; omega) d6, setM_cell (by have := HG.out; omega) d7, setM_cell (by have := HG.out; omega) d8, setM_cell (by have := HG.out; omega) d9, setM_cell (by have := HG.out; omega) d10⟩ | with_reducible exact ⟨setMd_cell (by omega) t0, setMd_cell (by omega) t1, setMd_cell (by omega) t2, setMd_cell (by omega) o1, setMd_cell (by have := HP.out; omega) p0, setMd_cell (by have := HP.out; omega) p1, setMd_cell (by have := HP.out; omega) p2, setMd_cell (by have := HP.out; omega) p3, setMd_cell (by have := HP.out; omega) p4, setMd_cell (by have := HP.out; omega) p5, setMd_cell (by have := HP.out; omega) p6, setMd_cell (by have := HP.out; omega) p7, setMd_cell (by have := HP.out; omega) p8, setMd_cell (by have := HP.out; omega) p9, setMd_cell (by have := HP.out; omega) p10, setMd_cell (by have := HG.out; omega) d0, setMd_cell (by have := HG.out; omega) d1, setMd_cell (by have := HG.out; omega) d2, setMd_cell (by have := HG.out; omega) d3, setMd_cell (by have := HG.out; omega) d4, setMd_cell (by have := HG.out; omega) d5, setMd_cell (by have := HG.out; omega) d6, setMd_cell (by have := HG.out; omega) d7, setMd_cell (by have := HG.out; omega) d8, setMd_cell (by have := HG.out; omega) d9, setMd_cell (by have := HG.out; omega) d10⟩) (
    (go_at_call 30; refine (pages_any b B m _ D8.out.1.1.mp).mono ?_; rintro e w9 ⟨rfl, rfl⟩))
  all_goals
    go_wp2_with fail
    refine ⟨rfl, .tuple #[rv m.o (some gg) m.n cp (.slice qa m.o qc), .bool true], by simp [results, Try.results46, go_sem, y0, y1, y2, adr], _, rfl, ?_⟩
    refine ⟨m, B, some gg, cp, .slice qa m.o qc, R, rfl, ?_⟩
    first
      | (refine D8.out.1.1.setY (w0 := w0) rfl (From.refl W5 b B m.o) (heap_lt D5.out.2.y) (by have := HL.out.2.2.2.1; omega) (fun X o e => by have := HL.out.2.2.2.2 X o e; omega) (fun x hx => ?_) (fun x hx => ?_) _ _ _)
      | (refine (D8.out.1.1.setY (w0 := w0) (W2 := W7.drew) rfl (From.refl W5 b B m.o) (heap_lt D5.out.2.y) (by have := HL.out.2.2.2.1; omega) (fun X o e => by have := HL.out.2.2.2.2 X o e; omega) (fun x hx => ?_) (fun x hx => ?_) _ _ _).keep (Kept.refl none' _).drew)
    · have := HL.out.1 x hx; omega
    · have := HL.out.2.2.1 x hx; omega
end Go.Proofs.Ytbhheimedbfmeaa
