/- played: At and Pages. played, any call; through; PagePlays. through; PagePlays. -/
import Derived.Test.YtbhheimedbfmeaaPlI
import Derived.Test.YtbhheimedbfmeaaPgU
import Derived.Test.YtbhheimedbfmeaaPlB
import Derived.Test.YtbhheimedbfmeaaPlG
import Derived.Test.YtbhheimedbfmeaaPlJ
import Derived.Test.YtbhheimedbfmeaaCel
import Derived.Test.YtbhheimedbfmeaaOps
namespace Go.Proofs.Ytbhheimedbfmeaa
open Go.RowKit
set_option linter.unusedVariables false

set_option maxRecDepth 8000 in
set_option maxHeartbeats 8000000 in
theorem played_0out (b : Nat) (B : Bs) (g : Option Nat) (cp : Nat) (q : Value) (R : Nat → Nat) (m : Mp) (kk p x y : Int) (q1 : kk ≠ 1) (q2 : kk ≠ 2) (q3 : kk ≠ 3) (q4 : kk ≠ 4) (q5 : kk ≠ 5) (q6 : kk ≠ 6) (q7 : kk ≠ 7) (q8 : kk ≠ 8) (q9 : kk ≠ 9) (q10 : kk ≠ 10) (q11 : kk ≠ 11) (l : Bool) (E : Nat → Obj → Prop) (w w0 : World) (h : PR E w w0 b B g cp q R m) (hi : inR m.n p = false) :
    Calls Try.prog 46 #[.pointer (some ⟨b, 0, none⟩), rv m.o g m.n cp q, opV kk p x y l] w0 fun e w' => ∃ v', e = .returned (.tuple #[v', .bool true]) ∧ PRS E w w' b v' := by
  obtain ⟨qa, qc, rfl⟩ := h.rf.val
  have TB := three_box w0 (ro m.o g m.n cp (.slice qa m.o qc)) (opO kk p x y l) roZ
  have BX := hid (show Bx _ w0.heap.size m.o g m.n cp (.slice qa m.o qc) (opO kk p x y l) from ⟨TB.2.1, TB.2.2.1, TB.2.2.2⟩)
  have H0 := hid (h.keep TB.1)
  have HL := hid (show (∀ y, mown b B m.o y → y < w0.heap.size) ∧ (∀ y, onlyG g y → y < w0.heap.size) ∧ (∀ y, rown g (.slice qa m.o qc) R m.o y → y < w0.heap.size) ∧ w.heap.size ≤ w0.heap.size ∧ (∀ X o, E X o → X < w0.heap.size) from ⟨fun y hy => h.mp.own_lt y hy, fun y hy => h.rf.own_lt y (.inl hy), fun y hy => h.rf.own_lt y hy, h.kp.size, fun X o e => heap_lt (h.ex X o e).2.2⟩)
  have b1 : (kk == 1) = false := beq_eq_false_iff_ne.2 q1
  have b2 : (kk == 2) = false := beq_eq_false_iff_ne.2 q2
  have b3 : (kk == 3) = false := beq_eq_false_iff_ne.2 q3
  have b4 : (kk == 4) = false := beq_eq_false_iff_ne.2 q4
  have b5 : (kk == 5) = false := beq_eq_false_iff_ne.2 q5
  have b6 : (kk == 6) = false := beq_eq_false_iff_ne.2 q6
  have b7 : (kk == 7) = false := beq_eq_false_iff_ne.2 q7
  have b8 : (kk == 8) = false := beq_eq_false_iff_ne.2 q8
  have b9 : (kk == 9) = false := beq_eq_false_iff_ne.2 q9
  have b10 : (kk == 10) = false := beq_eq_false_iff_ne.2 q10
  have b11 : (kk == 11) = false := beq_eq_false_iff_ne.2 q11
  have HI := hid hi
  have HA := hid (show atP m p = zeroP by simp [atP, hi])
  clear h TB hi
  go_enter Try.func46, Try.ntmps46
  go_wp2_with fail
  generalize ((w0.alloc (ro m.o g m.n cp (.slice qa m.o qc))).alloc (opO kk p x y l)).alloc roZ = W0 at *
  obtain ⟨t0, t1, t2⟩ := box3 BX.out.t
  obtain ⟨o0, o1, o2, o3, o4⟩ := opbox BX.out.p
  have D0 := hid (show PR E w W0 b B g cp (.slice qa m.o qc) R m ∧ Bx W0 w0.heap.size m.o g m.n cp (.slice qa m.o qc) (opO kk p x y l) from ⟨H0.out, BX.out⟩)
  clear H0 BX
  go_wp2_with fail
  refine (Pair_ref g cp (.slice qa m.o qc) m D0.out.1.rf.o8 D0.out.1.rf.n1 W0 x p).mono ?_
  rintro e W5 ⟨rfl, hK⟩
  have D5 := hid (show PR E w W5 b B g cp (.slice qa m.o qc) R m ∧ Bx W5 w0.heap.size m.o g m.n cp (.slice qa m.o qc) (opO kk p x y l) from ⟨D0.out.1.keep hK, D0.out.2.kept hK (fun _ x => x.elim)⟩)
  clear D0 hK t0 t1 t2 o0 o1 o2 o3 o4
  obtain ⟨t0, t1, t2⟩ := box3 (show W5.heap[w0.heap.size]? = _ from D5.out.2.t)
  obtain ⟨o0, o1, o2, o3, o4⟩ := opbox (show W5.heap[w0.heap.size + 1]? = _ from D5.out.2.p)
  generalize pairI m x p = pv at *
  have hae := arr_eq
  go_wp2_with fail
  refine (at_any b B m p _ D5.out.1.mp).mono ?_
  rintro e W6 ⟨rfl, hk⟩
  rw [HI.out, HA.out]
  have D6 := hid (show PR E w W6 b B g cp (.slice qa m.o qc) R m ∧ Bx W6 w0.heap.size m.o g m.n cp (.slice qa m.o qc) (opO kk p x y l) from ⟨D5.out.1.keep hk, D5.out.2.kept hk (fun _ x => x.elim)⟩)
  clear hk t0 t1 t2 o0 o1 o2 o3 o4
  have ka := (Kept.refl none' W6).alloc (pobj zeroP)
  have D7 := hid (show (PR E w (W6.alloc (pobj zeroP)) b B g cp (.slice qa m.o qc) R m ∧ Bx (W6.alloc (pobj zeroP)) w0.heap.size m.o g m.n cp (.slice qa m.o qc) (opO kk p x y l)) ∧ (W6.alloc (pobj zeroP)).heap[W6.heap.size]? = some (pobj zeroP) from ⟨⟨D6.out.1.keep ka, D6.out.2.kept ka (fun _ x => x.elim)⟩, heap_new _ _⟩)
  clear ka
  obtain ⟨t0, t1, t2⟩ := box3 D7.out.1.2.t
  obtain ⟨o0, o1, o2, o3, o4⟩ := opbox D7.out.1.2.p
  go_wp2_with fail
  refine (Is_any m.n (adr g) cp (.int .i64 (m.o : Int)) (.slice qa m.o qc) p _).mono ?_
  rintro e W7 ⟨rfl, hk⟩
  rw [HI.out]
  have kd := none_trans hk (Kept.refl none' W7).drew
  have D8 := hid (show (PR E w W7.drew b B g cp (.slice qa m.o qc) R m ∧ Bx W7.drew w0.heap.size m.o g m.n cp (.slice qa m.o qc) (opO kk p x y l)) ∧ W7.drew.heap[W6.heap.size]? = some (pobj zeroP) from ⟨⟨D7.out.1.1.keep kd, D7.out.1.2.kept kd (fun _ x => x.elim)⟩, (kd.block _ (heap_lt D7.out.2) (fun x => x)).trans D7.out.2⟩)
  have HP := hid (show w0.heap.size + 2 < W6.heap.size from by have := heap_lt D6.out.2.y; omega)
  obtain ⟨P, hP⟩ : ∃ P, P = W6.heap.size := ⟨_, rfl⟩
  rw [← hP] at D8 HP
  clear hk kd t0 t1 t2 o0 o1 o2 o3 o4 D7
  go_wp2_with fail
  rw [← hP]
  clear hP
  obtain ⟨t0, t1, t2⟩ := box3 D8.out.1.2.t
  obtain ⟨o0, o1, o2, o3, o4⟩ := opbox D8.out.1.2.p
  obtain ⟨p0, p1, p2, p3, p4, p5, p6, p7, p8, p9, p10⟩ := box11 D8.out.2
  have y3 : W7.heap[w0.heap.size + 1 + 1]? = some roZ := D8.out.1.2.y
  obtain ⟨y0, y1, y2⟩ := boxZ y3
  have fz : ∀ j, W7.frozen? ⟨w0.heap.size + 1 + 1, j, none⟩ = false := (fun j => by simp [World.frozen?, y3])
  clear y3
  replace p0 : W7.drew.cell? ⟨P, 0, none⟩ = some (.int .i64 0) := p0
  replace p1 : W7.drew.cell? ⟨P, 1, none⟩ = some (.int .i64 0) := p1
  replace p2 : W7.drew.cell? ⟨P, 2, none⟩ = some (.int .i64 0) := p2
  replace p3 : W7.drew.cell? ⟨P, 3, none⟩ = some (.int .i64 0) := p3
  replace p4 : W7.drew.cell? ⟨P, 4, none⟩ = some (.int .i64 0) := p4
  replace p5 : W7.drew.cell? ⟨P, 5, none⟩ = some (.int .i64 0) := p5
  replace p6 : W7.drew.cell? ⟨P, 6, none⟩ = some (.int .i64 0) := p6
  replace p7 : W7.drew.cell? ⟨P, 7, none⟩ = some (.int .u64 0) := p7
  replace p8 : W7.drew.cell? ⟨P, 8, none⟩ = some (.int .u64 0) := p8
  replace p9 : W7.drew.cell? ⟨P, 9, none⟩ = some (.int .u64 0) := p9
  replace p10 : W7.drew.cell? ⟨P, 10, none⟩ = some (.int .u64 0) := p10
  go_region_held3 (fun w' => w'.cell? ⟨w0.heap.size, 0, none⟩ = some (.int .i64 (m.o : Int)) ∧ w'.cell? ⟨w0.heap.size, 1, none⟩ = some (.slice (adr g) m.n cp) ∧ w'.cell? ⟨w0.heap.size, 2, none⟩ = some (.slice qa m.o qc) ∧ w'.cell? ⟨P, 0, none⟩ = some (.int .i64 0) ∧ w'.cell? ⟨P, 1, none⟩ = some (.int .i64 0) ∧ w'.cell? ⟨P, 2, none⟩ = some (.int .i64 0) ∧ w'.cell? ⟨P, 3, none⟩ = some (.int .i64 0) ∧ w'.cell? ⟨P, 4, none⟩ = some (.int .i64 0) ∧ w'.cell? ⟨P, 5, none⟩ = some (.int .i64 0) ∧ w'.cell? ⟨P, 6, none⟩ = some (.int .i64 0) ∧ w'.cell? ⟨P, 7, none⟩ = some (.int .u64 0) ∧ w'.cell? ⟨P, 8, none⟩ = some (.int .u64 0) ∧ w'.cell? ⟨P, 9, none⟩ = some (.int .u64 0) ∧ w'.cell? ⟨P, 10, none⟩ = some (.int .u64 0)) (first | with_reducible exact ⟨t0, t1, t2, p0, p1, p2, p3, p4, p5, p6, p7, p8, p9, p10⟩ | with_reducible exact ⟨setM_cell (by omega) t0, setM_cell (by omega) t1, setM_cell (by omega) t2, setM_cell (by have := HP.out; omega) p0, setM_cell (by have := HP.out; omega) p1, setM_cell (by have := HP.out; omega) p2, setM_cell (by have := HP.out; omega) p3, setM_cell (by have := HP.out; omega) p4, setM_cell (by have := HP.out; omega) p5, setM_cell (by have := HP.out; omega) p6, setM_cell (by have := HP.out; omega) p7, setM_cell (by have := HP.out; omega) p8, setM_cell (by have := HP.out; omega) p9, setM_cell (by have := HP.out; omega) p10⟩ | with_reducible exact ⟨setMd_cell (by omega) t0, setMd_cell (by omega) t1, setMd_cell (by omega) t2, setMd_cell (by have := HP.out; omega) p0, setMd_cell (by have := HP.out; omega) p1, setMd_cell (by have := HP.out; omega) p2, setMd_cell (by have := HP.out; omega) p3, setMd_cell (by have := HP.out; omega) p4, setMd_cell (by have := HP.out; omega) p5, setMd_cell (by have := HP.out; omega) p6, setMd_cell (by have := HP.out; omega) p7, setMd_cell (by have := HP.out; omega) p8, setMd_cell (by have := HP.out; omega) p9, setMd_cell (by have := HP.out; omega) p10⟩) (
    (go_at_call 30; refine (pages_any b B m _ D8.out.1.1.mp).mono ?_; rintro e w9 ⟨rfl, rfl⟩))
  all_goals
    go_wp2_with fail
    refine ⟨rfl, .tuple #[rv m.o g m.n cp (.slice qa m.o qc), .bool true], by simp [results, Try.results46, go_sem, y0, y1, y2], _, rfl, ?_⟩
    refine ⟨m, B, g, cp, .slice qa m.o qc, R, rfl, ?_⟩
    first
      | (refine D8.out.1.1.setY (w0 := w0) rfl (From.refl W5 b B m.o) (heap_lt D5.out.2.y) (by have := HL.out.2.2.2.1; omega) (fun X o e => by have := HL.out.2.2.2.2 X o e; omega) (fun x hx => ?_) (fun x hx => ?_) _ _ _)
      | (refine (D8.out.1.1.setY (w0 := w0) (W2 := W7.drew) rfl (From.refl W5 b B m.o) (heap_lt D5.out.2.y) (by have := HL.out.2.2.2.1; omega) (fun X o e => by have := HL.out.2.2.2.2 X o e; omega) (fun x hx => ?_) (fun x hx => ?_) _ _ _).keep (Kept.refl none' _).drew)
    · have := HL.out.1 x hx; omega
    · have := HL.out.2.2.1 x hx; omega
set_option maxRecDepth 8000 in
set_option maxHeartbeats 8000000 in
theorem played_0in (b : Nat) (B : Bs) (g : Option Nat) (cp : Nat) (q : Value) (R : Nat → Nat) (m : Mp) (kk p x y : Int) (q1 : kk ≠ 1) (q2 : kk ≠ 2) (q3 : kk ≠ 3) (q4 : kk ≠ 4) (q5 : kk ≠ 5) (q6 : kk ≠ 6) (q7 : kk ≠ 7) (q8 : kk ≠ 8) (q9 : kk ≠ 9) (q10 : kk ≠ 10) (q11 : kk ≠ 11) (l : Bool) (E : Nat → Obj → Prop) (w w0 : World) (h : PR E w w0 b B g cp q R m) (k : Nat) (hpk : p = (k : Int)) (hk : k < m.n) :
    Calls Try.prog 46 #[.pointer (some ⟨b, 0, none⟩), rv m.o g m.n cp q, opV kk p x y l] w0 fun e w' => ∃ v', e = .returned (.tuple #[v', .bool true]) ∧ PRS E w w' b v' := by
  obtain ⟨qa, qc, rfl⟩ := h.rf.val
  have TB := three_box w0 (ro m.o g m.n cp (.slice qa m.o qc)) (opO kk p x y l) roZ
  have BX := hid (show Bx _ w0.heap.size m.o g m.n cp (.slice qa m.o qc) (opO kk p x y l) from ⟨TB.2.1, TB.2.2.1, TB.2.2.2⟩)
  have H0 := hid (h.keep TB.1)
  have HL := hid (show (∀ y, mown b B m.o y → y < w0.heap.size) ∧ (∀ y, onlyG g y → y < w0.heap.size) ∧ (∀ y, rown g (.slice qa m.o qc) R m.o y → y < w0.heap.size) ∧ w.heap.size ≤ w0.heap.size ∧ (∀ X o, E X o → X < w0.heap.size) from ⟨fun y hy => h.mp.own_lt y hy, fun y hy => h.rf.own_lt y (.inl hy), fun y hy => h.rf.own_lt y hy, h.kp.size, fun X o e => heap_lt (h.ex X o e).2.2⟩)
  have b1 : (kk == 1) = false := beq_eq_false_iff_ne.2 q1
  have b2 : (kk == 2) = false := beq_eq_false_iff_ne.2 q2
  have b3 : (kk == 3) = false := beq_eq_false_iff_ne.2 q3
  have b4 : (kk == 4) = false := beq_eq_false_iff_ne.2 q4
  have b5 : (kk == 5) = false := beq_eq_false_iff_ne.2 q5
  have b6 : (kk == 6) = false := beq_eq_false_iff_ne.2 q6
  have b7 : (kk == 7) = false := beq_eq_false_iff_ne.2 q7
  have b8 : (kk == 8) = false := beq_eq_false_iff_ne.2 q8
  have b9 : (kk == 9) = false := beq_eq_false_iff_ne.2 q9
  have b10 : (kk == 10) = false := beq_eq_false_iff_ne.2 q10
  have b11 : (kk == 11) = false := beq_eq_false_iff_ne.2 q11
  subst hpk
  have HI := hid (inR_yes hk)
  have HA := hid (show atP m (k : Int) = m.pg k by simp [atP, HI.out])
  have hki : (k : Int) < (m.n : Int) := by omega
  have hn1 := h.mp.n1
  obtain ⟨gg, rfl⟩ : ∃ gg, g = some gg := by
    obtain ⟨q', _, _, h1, _⟩ := h.rf.rq.has (by omega)
    exact ⟨q', h1⟩
  clear h TB
  go_enter Try.func46, Try.ntmps46
  go_wp2_with fail
  generalize ((w0.alloc (ro m.o (some gg) m.n cp (.slice qa m.o qc))).alloc (opO kk (k : Int) x y l)).alloc roZ = W0 at *
  obtain ⟨t0, t1, t2⟩ := box3 BX.out.t
  obtain ⟨o0, o1, o2, o3, o4⟩ := opbox BX.out.p
  have D0 := hid (show PR E w W0 b B (some gg) cp (.slice qa m.o qc) R m ∧ Bx W0 w0.heap.size m.o (some gg) m.n cp (.slice qa m.o qc) (opO kk (k : Int) x y l) from ⟨H0.out, BX.out⟩)
  clear H0 BX
  go_wp2_with fail
  refine (Pair_ref (some gg) cp (.slice qa m.o qc) m D0.out.1.rf.o8 D0.out.1.rf.n1 W0 x (k : Int)).mono ?_
  rintro e W5 ⟨rfl, hK⟩
  have D5 := hid (show PR E w W5 b B (some gg) cp (.slice qa m.o qc) R m ∧ Bx W5 w0.heap.size m.o (some gg) m.n cp (.slice qa m.o qc) (opO kk (k : Int) x y l) from ⟨D0.out.1.keep hK, D0.out.2.kept hK (fun _ x => x.elim)⟩)
  clear D0 hK t0 t1 t2 o0 o1 o2 o3 o4
  obtain ⟨t0, t1, t2⟩ := box3 (show W5.heap[w0.heap.size]? = _ from D5.out.2.t)
  obtain ⟨o0, o1, o2, o3, o4⟩ := opbox (show W5.heap[w0.heap.size + 1]? = _ from D5.out.2.p)
  generalize pairI m x (k : Int) = pv at *
  have hae := arr_eq
  go_wp2_with fail
  refine (at_any b B m (k : Int) _ D5.out.1.mp).mono ?_
  rintro e W6 ⟨rfl, hk⟩
  rw [HI.out, HA.out]
  have D6 := hid (show PR E w W6 b B (some gg) cp (.slice qa m.o qc) R m ∧ Bx W6 w0.heap.size m.o (some gg) m.n cp (.slice qa m.o qc) (opO kk (k : Int) x y l) from ⟨D5.out.1.keep hk, D5.out.2.kept hk (fun _ x => x.elim)⟩)
  clear hk t0 t1 t2 o0 o1 o2 o3 o4
  have ka := (Kept.refl none' W6).alloc (pobj (m.pg k))
  have D7 := hid (show (PR E w (W6.alloc (pobj (m.pg k))) b B (some gg) cp (.slice qa m.o qc) R m ∧ Bx (W6.alloc (pobj (m.pg k))) w0.heap.size m.o (some gg) m.n cp (.slice qa m.o qc) (opO kk (k : Int) x y l)) ∧ (W6.alloc (pobj (m.pg k))).heap[W6.heap.size]? = some (pobj (m.pg k)) from ⟨⟨D6.out.1.keep ka, D6.out.2.kept ka (fun _ x => x.elim)⟩, heap_new _ _⟩)
  clear ka
  obtain ⟨t0, t1, t2⟩ := box3 D7.out.1.2.t
  obtain ⟨o0, o1, o2, o3, o4⟩ := opbox D7.out.1.2.p
  go_wp2_with fail
  refine (Is_any m.n (adr (some gg)) cp (.int .i64 (m.o : Int)) (.slice qa m.o qc) (k : Int) _).mono ?_
  rintro e W7 ⟨rfl, hk⟩
  rw [HI.out]
  have kd := none_trans hk (Kept.refl none' W7).drew
  have D8 := hid (show (PR E w W7.drew b B (some gg) cp (.slice qa m.o qc) R m ∧ Bx W7.drew w0.heap.size m.o (some gg) m.n cp (.slice qa m.o qc) (opO kk (k : Int) x y l)) ∧ W7.drew.heap[W6.heap.size]? = some (pobj (m.pg k)) from ⟨⟨D7.out.1.1.keep kd, D7.out.1.2.kept kd (fun _ x => x.elim)⟩, (kd.block _ (heap_lt D7.out.2) (fun x => x)).trans D7.out.2⟩)
  have HP := hid (show w0.heap.size + 2 < W6.heap.size from by have := heap_lt D6.out.2.y; omega)
  obtain ⟨P, hP⟩ : ∃ P, P = W6.heap.size := ⟨_, rfl⟩
  rw [← hP] at D8 HP
  clear hk kd t0 t1 t2 o0 o1 o2 o3 o4 D7
  go_wp2_with fail
  rw [← hP]
  clear hP
  obtain ⟨t0, t1, t2⟩ := box3 D8.out.1.2.t
  obtain ⟨o0, o1, o2, o3, o4⟩ := opbox D8.out.1.2.p
  obtain ⟨p0, p1, p2, p3, p4, p5, p6, p7, p8, p9, p10⟩ := box11 D8.out.2
  have y3 : W7.heap[w0.heap.size + 1 + 1]? = some roZ := D8.out.1.2.y
  obtain ⟨y0, y1, y2⟩ := boxZ y3
  have fz : ∀ j, W7.frozen? ⟨w0.heap.size + 1 + 1, j, none⟩ = false := (fun j => by simp [World.frozen?, y3])
  clear y3
  obtain ⟨g2, hg2, _, d0, d1, d2, d3, d4, d5, d6, d7, d8, d9, d10⟩ := D8.out.1.1.rf.rq.cell k hk
  obtain rfl : gg = g2 := by simpa using hg2
  clear hg2
  have HG := hid (show gg < w0.heap.size from HL.out.2.1 gg rfl)
  replace t1 : W7.drew.cell? ⟨w0.heap.size, 1, none⟩ = some (.slice (some ⟨gg, 0, none⟩) m.n cp) := t1
  go_region_held3 (fun w' => w'.cell? ⟨w0.heap.size, 0, none⟩ = some (.int .i64 (m.o : Int)) ∧ w'.cell? ⟨w0.heap.size, 1, none⟩ = some (.slice (some ⟨gg, 0, none⟩) m.n cp) ∧ w'.cell? ⟨w0.heap.size, 2, none⟩ = some (.slice qa m.o qc) ∧ w'.cell? ⟨w0.heap.size + 1, 1, none⟩ = some (.int .i64 (k : Int)) ∧ w'.cell? ⟨P, 0, none⟩ = some (.int .i64 (m.pg k).kd) ∧ w'.cell? ⟨P, 1, none⟩ = some (.int .i64 (m.pg k).od) ∧ w'.cell? ⟨P, 2, none⟩ = some (.int .i64 (m.pg k).cl) ∧ w'.cell? ⟨P, 3, none⟩ = some (.int .i64 (m.pg k).lv) ∧ w'.cell? ⟨P, 4, none⟩ = some (.int .i64 (m.pg k).nx) ∧ w'.cell? ⟨P, 5, none⟩ = some (.int .i64 (m.pg k).pv) ∧ w'.cell? ⟨P, 6, none⟩ = some (.int .i64 (m.pg k).fs) ∧ w'.cell? ⟨P, 7, none⟩ = some (.int .u64 ((m.pg k).b0 : Int)) ∧ w'.cell? ⟨P, 8, none⟩ = some (.int .u64 ((m.pg k).b1 : Int)) ∧ w'.cell? ⟨P, 9, none⟩ = some (.int .u64 ((m.pg k).b2 : Int)) ∧ w'.cell? ⟨P, 10, none⟩ = some (.int .u64 ((m.pg k).b3 : Int)) ∧ w'.cell? ⟨gg, k * 11, none⟩ = some (.int .i64 (m.pg k).kd) ∧ w'.cell? ⟨gg, k * 11 + 1, none⟩ = some (.int .i64 (m.pg k).od) ∧ w'.cell? ⟨gg, k * 11 + 2, none⟩ = some (.int .i64 (m.pg k).cl) ∧ w'.cell? ⟨gg, k * 11 + 3, none⟩ = some (.int .i64 (m.pg k).lv) ∧ w'.cell? ⟨gg, k * 11 + 4, none⟩ = some (.int .i64 (m.pg k).nx) ∧ w'.cell? ⟨gg, k * 11 + 5, none⟩ = some (.int .i64 (m.pg k).pv) ∧ w'.cell? ⟨gg, k * 11 + 6, none⟩ = some (.int .i64 (m.pg k).fs) ∧ w'.cell? ⟨gg, k * 11 + 7, none⟩ = some (.int .u64 ((m.pg k).b0 : Int)) ∧ w'.cell? ⟨gg, k * 11 + 8, none⟩ = some (.int .u64 ((m.pg k).b1 : Int)) ∧ w'.cell? ⟨gg, k * 11 + 9, none⟩ = some (.int .u64 ((m.pg k).b2 : Int)) ∧ w'.cell? ⟨gg, k * 11 + 10, none⟩ = some (.int .u64 ((m.pg k).b3 : Int))) (first | with_reducible exact ⟨t0, t1, t2, o1, p0, p1, p2, p3, p4, p5, p6, p7, p8, p9, p10, d0, d1, d2, d3, d4, d5, d6, d7, d8, d9, d10⟩ | with_reducible exact ⟨setM_cell (by omega) t0, setM_cell (by omega) t1, setM_cell (by omega) t2, setM_cell (by omega) o1, setM_cell (by have := HP.out; omega) p0, setM_cell (by have := HP.out; omega) p1, setM_cell (by have := HP.out; omega) p2, setM_cell (by have := HP.out; omega) p3, setM_cell (by have := HP.out; omega) p4, setM_cell (by have := HP.out; omega) p5, setM_cell (by have := HP.out; omega) p6, setM_cell (by have := HP.out; omega) p7, setM_cell (by have := HP.out; omega) p8, setM_cell (by have := HP.out; omega) p9, setM_cell (by have := HP.out; omega) p10, setM_cell (by have := HG.out; omega) d0, setM_cell (by have := HG.out; omega) d1, setM_cell (by have := HG.out; omega) d2, setM_cell (by have := HG.out; omega) d3, setM_cell (by have := HG.out; omega) d4, setM_cell (by have := HG.out; omega) d5, setM_cell (by have := HG.out; omega) d6, setM_cell (by have := HG.out; omega) d7, setM_cell (by have := HG.out; omega) d8, setM_cell (by have := HG.out; omega) d9, setM_cell (by have := HG.out; omega) d10⟩ | with_reducible exact ⟨setMd_cell (by omega) t0, setMd_cell (by omega) t1, setMd_cell (by omega) t2, setMd_cell (by omega) o1, setMd_cell (by have := HP.out; omega) p0, setMd_cell (by have := HP.out; omega) p1, setMd_cell (by have := HP.out; omega) p2, setMd_cell (by have := HP.out; omega) p3, setMd_cell (by have := HP.out; omega) p4, setMd_cell (by have := HP.out; omega) p5, setMd_cell (by have := HP.out; omega) p6, setMd_cell (by have := HP.out; omega) p7, setMd_cell (by have := HP.out; omega) p8, setMd_cell (by have := HP.out; omega) p9, setMd_cell (by have := HP.out; omega) p10, setMd_cell (by have := HG.out; omega) d0, setMd_cell (by have := HG.out; omega) d1, setMd_cell (by have := HG.out; omega) d2, setMd_cell (by have := HG.out; omega) d3, setMd_cell (by have := HG.out; omega) d4, setMd_cell (by have := HG.out; omega) d5, setMd_cell (by have := HG.out; omega) d6, setMd_cell (by have := HG.out; omega) d7, setMd_cell (by have := HG.out; omega) d8, setMd_cell (by have := HG.out; omega) d9, setMd_cell (by have := HG.out; omega) d10⟩) (
    (go_at_call 30; refine (pages_any b B m _ D8.out.1.1.mp).mono ?_; rintro e w9 ⟨rfl, rfl⟩))
  all_goals
    go_wp2_with fail
    refine ⟨rfl, .tuple #[rv m.o (some gg) m.n cp (.slice qa m.o qc), .bool true], by simp [results, Try.results46, go_sem, y0, y1, y2, adr], _, rfl, ?_⟩
    refine ⟨m, B, some gg, cp, .slice qa m.o qc, R, rfl, ?_⟩
    first
      | (refine D8.out.1.1.setY (w0 := w0) rfl (From.refl W5 b B m.o) (heap_lt D5.out.2.y) (by have := HL.out.2.2.2.1; omega) (fun X o e => by have := HL.out.2.2.2.2 X o e; omega) (fun x hx => ?_) (fun x hx => ?_) _ _ _)
      | (refine (D8.out.1.1.setY (w0 := w0) (W2 := W7.drew) rfl (From.refl W5 b B m.o) (heap_lt D5.out.2.y) (by have := HL.out.2.2.2.1; omega) (fun X o e => by have := HL.out.2.2.2.2 X o e; omega) (fun x hx => ?_) (fun x hx => ?_) _ _ _).keep (Kept.refl none' _).drew)
    · have := HL.out.1 x hx; omega
    · have := HL.out.2.2.1 x hx; omega
theorem played_9 (b : Nat) (B : Bs) (g : Option Nat) (cp : Nat) (q : Value) (R : Nat → Nat) (m : Mp) (p x y : Int) (l : Bool) (E : Nat → Obj → Prop) (w w0 : World) (h : PR E w w0 b B g cp q R m) :
    Calls Try.prog 46 #[.pointer (some ⟨b, 0, none⟩), rv m.o g m.n cp q, opV 9 p x y l] w0 fun e w' => ∃ v', e = .returned (.tuple #[v', .bool true]) ∧ PRS E w w' b v' := by
  cases hp : hasP m x p with
  | false => exact played_9no b B g cp q R m p x y l E w w0 h hp
  | true =>
    simp only [hasP, Bool.and_eq_true] at hp
    obtain ⟨a, rfl, ha⟩ := inR_nat hp.1
    obtain ⟨c, rfl, hc⟩ := inR_nat hp.2
    exact played_9yes b B g cp q R m c a y l E w w0 h a c rfl rfl ha hc
theorem played_any (b : Nat) (v : Value) (k p x y : Int) (l : Bool) (E : Nat → Obj → Prop) (w w0 : World) (h : PRS E w w0 b v) :
    Calls Try.prog 46 #[.pointer (some ⟨b, 0, none⟩), v, opV k p x y l] w0 fun e w' => ∃ v', e = .returned (.tuple #[v', .bool true]) ∧ PRS E w w' b v' := by
  obtain ⟨m, B, g, cp, q, R, rfl, h⟩ := h
  by_cases h1 : k = 1
  · subst h1; exact played_1 b B g cp q R m p x y l E w w0 h
  by_cases h2 : k = 2
  · subst h2; exact played_2 b B g cp q R m p x y l E w w0 h
  by_cases h3 : k = 3
  · subst h3; exact played_3 b B g cp q R m p x y l E w w0 h
  by_cases h4 : k = 4
  · subst h4; exact played_4 b B g cp q R m p x y l E w w0 h
  by_cases h5 : k = 5
  · subst h5; exact played_5 b B g cp q R m p x y l E w w0 h
  by_cases h6 : k = 6
  · subst h6; exact played_6 b B g cp q R m p x y l E w w0 h
  by_cases h7 : k = 7
  · subst h7; exact played_7 b B g cp q R m p x y l E w w0 h
  by_cases h8 : k = 8
  · subst h8; exact played_8 b B g cp q R m p x y l E w w0 h
  by_cases h9 : k = 9
  · subst h9; exact played_9 b B g cp q R m p x y l E w w0 h
  by_cases h10 : k = 10
  · subst h10; exact played_10 b B g cp q R m p x y l E w w0 h
  by_cases h11 : k = 11
  · subst h11; exact played_11 b B g cp q R m p x y l E w w0 h
  cases hi : inR m.n p with
  | false => exact played_0out b B g cp q R m k p x y h1 h2 h3 h4 h5 h6 h7 h8 h9 h10 h11 l E w w0 h hi
  | true =>
    obtain ⟨a, rfl, ha⟩ := inR_nat hi
    exact played_0in b B g cp q R m k a x y h1 h2 h3 h4 h5 h6 h7 h8 h9 h10 h11 l E w w0 h a rfl ha
/-- The box that a map of the document's lies in. -/
def vobj (v : Value) (X : Nat) (W : World) : Prop := ∃ o g n cp qa qc, v = rv o g n cp (.slice qa o qc) ∧ W.heap[X]? = some (ro o g n cp (.slice qa o qc))
theorem PRS.val {E : Nat → Obj → Prop} {w W : World} {b : Nat} {v : Value} (h : PRS E w W b v) : ∃ o g n cp qa qc, v = rv o g n cp (.slice qa o qc) := by
  obtain ⟨m, B, g, cp, q, R, rfl, h⟩ := h
  obtain ⟨qa, qc, rfl⟩ := h.rf.val
  exact ⟨_, _, _, _, _, _, rfl⟩
theorem PRS.kp {E : Nat → Obj → Prop} {w W : World} {b : Nat} {v : Value} (h : PRS E w W b v) : Kept none' w W := by
  obtain ⟨m, B, g, cp, q, R, rfl, h⟩ := h
  exact h.kp
theorem PRS.box {E : Nat → Obj → Prop} {X : Nat} {o : Obj} {w W : World} {b : Nat} {v : Value} (h : PRS E w W b v) (hE : E X o) : W.heap[X]? = some o := by
  obtain ⟨m, B, g, cp, q, R, rfl, h⟩ := h
  exact (h.ex X o hE).2.2
def E1 (X : Nat) (o : Obj) : Nat → Obj → Prop := fun z u => z = X ∧ u = o
def E2 (X : Nat) (o : Obj) (Y : Nat) (o' : Obj) : Nat → Obj → Prop := fun z u => (z = X ∧ u = o) ∨ (z = Y ∧ u = o')
/-- A box of the law's own is written: what stands beside is as it was. -/
theorem PRS.turn {E : Nat → Obj → Prop} {X : Nat} {o o' : Obj} {w W W' : World} {b : Nat} {v : Value} (h : PRS E w W b v) (hE : E X o) (k : Kept (fun z => z = X) W W') (hX : w.heap.size ≤ X) (ho : W'.heap[X]? = some o') : PRS (E1 X o') w W' b v := by
  obtain ⟨m, B, g, cp, q, R, rfl, h⟩ := h
  obtain ⟨e1, e2, e3⟩ := h.ex X o hE
  exact ⟨m, B, g, cp, q, R, rfl, h.mp.kept k (fun x hx e => e1 (by have e : x = X := e; rw [← e]; exact hx)), h.rf.kept k (fun x hx e => e2 (by have e : x = X := e; rw [← e]; exact hx)), h.nm, h.nr, h.ap, h.kp.trans k (fun _ _ x => x) (fun x hx e => by have e : x = X := e; omega), fun X' o2 e => by
    obtain ⟨rfl, rfl⟩ := e
    exact ⟨e1, e2, ho⟩⟩
theorem PRS.keep {E : Nat → Obj → Prop} {w W W' : World} {b : Nat} {v : Value} (h : PRS E w W b v) (k : Kept none' W W') : PRS E w W' b v := by
  obtain ⟨m, B, g, cp, q, R, rfl, h⟩ := h
  exact ⟨m, B, g, cp, q, R, rfl, h.keep k⟩
theorem PRS.mono {E E' : Nat → Obj → Prop} {w W : World} {b : Nat} {v : Value} (h : PRS E w W b v) (he : ∀ x o, E' x o → E x o) : PRS E' w W b v := by
  obtain ⟨m, B, g, cp, q, R, rfl, h⟩ := h
  exact ⟨m, B, g, cp, q, R, rfl, h.mp, h.rf, h.nm, h.nr, h.ap, h.kp, fun X o e => h.ex X o (he X o e)⟩
/-- One box more. -/
theorem PRS.more {E : Nat → Obj → Prop} {w W : World} {b : Nat} {v : Value} (o : Obj) (h : PRS E w W b v) : PRS (fun z u => E z u ∨ (z = W.heap.size ∧ u = o)) w (W.alloc o) b v := by
  obtain ⟨m, B, g, cp, q, R, rfl, h⟩ := h
  have h2 := h.keep ((Kept.refl none' W).alloc o)
  exact ⟨m, B, g, cp, q, R, rfl, h2.mp, h2.rf, h2.nm, h2.nr, h2.ap, h2.kp, fun X o2 e => by
    rcases e with e | ⟨rfl, rfl⟩
    · exact h2.ex X o2 e
    · exact ⟨fun q => absurd (h.mp.own_lt _ q) (Nat.lt_irrefl _), fun q => absurd (h.rf.own_lt _ q) (Nat.lt_irrefl _), heap_new W _⟩⟩
/-- A box beside is written. -/
theorem PRS.side {E : Nat → Obj → Prop} {w W W' : World} {b : Nat} {v : Value} {Y : Nat} {o : Obj} (h : PRS E w W b v) (hE : E Y o) (k : Kept (fun z => z = Y) W W') (hY : w.heap.size ≤ Y) : PRS (fun z u => E z u ∧ z ≠ Y) w W' b v := by
  obtain ⟨m, B, g, cp, q, R, rfl, h⟩ := h
  obtain ⟨e1, e2, e3⟩ := h.ex Y o hE
  exact ⟨m, B, g, cp, q, R, rfl, h.mp.kept k (fun x hx e => e1 (by have e : x = Y := e; rw [← e]; exact hx)), h.rf.kept k (fun x hx e => e2 (by have e : x = Y := e; rw [← e]; exact hx)), h.nm, h.nr, h.ap, h.kp.trans k (fun _ _ x => x) (fun x hx e => by have e : x = Y := e; omega), fun X o2 e => by
    obtain ⟨x1, x2, x3⟩ := h.ex X o2 e.1
    exact ⟨x1, x2, (k.block X (heap_lt x3) e.2).trans x3⟩⟩
theorem alloc_cell {w : World} {a : Addr} {v : Value} {o : Obj} (h : w.cell? a = some v) : (w.alloc o).cell? a = some v := ((Kept.refl none' w).alloc o).cell (fun x => x) h
theorem setM_box {W : World} {X : Nat} {cs : Array Value} (hx : W.heap[X]? = some (.cells cs 51 (0, 0))) (hc : cs.size = 3) (u0 u1 u2 : Value) : (setM W X u0 u1 u2).heap[X]? = some (.cells #[u0, u1, u2] 51 (0, 0)) := by
  have := heap_set (heap_set (heap_set hx 0 u0) 1 u1) 2 u2
  rw [this]
  obtain ⟨l⟩ := cs
  match l, hc with
  | [a, b, c], _ => rfl
set_option maxRecDepth 6000 in
set_option maxHeartbeats 4000000 in
theorem through_any (b : Nat) (v : Value) (sv : Value) (n : Nat) (w w0 : World) (hS : OpsIn w sv n) (h : PRS (fun _ _ => False) w w0 b v) :
    Calls Try.prog 24 #[.pointer (some ⟨b, 0, none⟩), v, sv] w0 fun e w' => e = .returned (.bool true) ∧ Kept none' w w' := by
  obtain ⟨hn63, oa, oc, rfl, hsv⟩ := hS
  have HSV := hid hsv
  obtain ⟨o, g, nn, cp, qa, qc, rfl⟩ := h.val
  have H0 := hid ((h.more (ro o g nn cp (.slice qa o qc))).mono (E' := E1 w0.heap.size (ro o g nn cp (.slice qa o qc))) (fun x u e => .inr e))
  have HX := hid h.kp.size
  clear hsv h
  go_enter Try.func24, Try.ntmps24
  go_wp2_with fail
  go_loopw [7] (fun i W => ∃ j : Nat, j ≤ n ∧ i = .int .i64 j ∧ Hid (∃ o g nn cp qa qc, PRS (E1 w0.heap.size (ro o g nn cp (.slice qa o qc))) w W b (rv o g nn cp (.slice qa o qc)))) (fun i _ => n - (intOf i).toNat)
  case atStart => exact ⟨0, by omega, rfl, ⟨_, _, _, _, _, _, H0.out⟩⟩
  case round =>
    clear H0
    obtain ⟨j, hj, rfl, hH⟩ := hrel
    obtain ⟨o, g, nn, cp, qa, qc, hH⟩ := hH.out
    have HS := hid hH
    clear hH
    by_cases hlt : j < n
    · obtain ⟨bl, oo, rfl, hbl, hrow⟩ := HSV.out.resolve_left (by omega)
      obtain ⟨k', p', x', y', l', h1, h2, h3, h4, g0, g1, g2, g3, g4⟩ := hrow j hlt
      have OP := hid (show ∀ W, Kept none' w W → W.cell? ⟨bl, oo + j * 5, none⟩ = some (.int .i64 k') ∧ W.cell? ⟨bl, oo + j * 5 + 1, none⟩ = some (.int .i64 p') ∧ W.cell? ⟨bl, oo + j * 5 + 2, none⟩ = some (.int .i64 x') ∧ W.cell? ⟨bl, oo + j * 5 + 3, none⟩ = some (.int .i64 y') ∧ W.cell? ⟨bl, oo + j * 5 + 4, none⟩ = some (.bool l') from fun W k => ⟨k.cell (fun x => x) g0, k.cell (fun x => x) g1, k.cell (fun x => x) g2, k.cell (fun x => x) g3, k.cell (fun x => x) g4⟩)
      have hji : (j : Int) < (n : Int) := by omega
      have HBL := hid hbl
      clear hrow h1 h2 h3 h4 g0 g1 g2 g3 g4 hbl
      have D0 := hid (HS.out.keep (Kept.refl none' wr).drew)
      have DB := hid ((HS.out.more roZ).keep (Kept.refl none' _).drew)
      have HU := hid (show w0.heap.size < wr.heap.size from heap_lt (HS.out.box ⟨rfl, rfl⟩))
      obtain ⟨t0, t1, t2⟩ := box3 (D0.out.box ⟨rfl, rfl⟩)
      obtain ⟨g0, g1, g2, g3, g4⟩ := OP.out _ D0.out.kp
      obtain ⟨tb0, tb1, tb2⟩ := box3 (DB.out.box (.inl ⟨rfl, rfl⟩))
      obtain ⟨gb0, gb1, gb2, gb3, gb4⟩ := OP.out _ DB.out.kp
      go_wp2_with fail
      go_region_held3 (fun w' => w'.cell? ⟨w0.heap.size, 0, none⟩ = some (.int .i64 (o : Int)) ∧ w'.cell? ⟨w0.heap.size, 1, none⟩ = some (.slice (adr g) nn cp) ∧ w'.cell? ⟨w0.heap.size, 2, none⟩ = some (.slice qa o qc) ∧ w'.cell? ⟨bl, oo + j * 5, none⟩ = some (.int .i64 k') ∧ w'.cell? ⟨bl, oo + j * 5 + 1, none⟩ = some (.int .i64 p') ∧ w'.cell? ⟨bl, oo + j * 5 + 2, none⟩ = some (.int .i64 x') ∧ w'.cell? ⟨bl, oo + j * 5 + 3, none⟩ = some (.int .i64 y') ∧ w'.cell? ⟨bl, oo + j * 5 + 4, none⟩ = some (.bool l')) (first
        | with_reducible exact ⟨t0, t1, t2, g0, g1, g2, g3, g4⟩
        | with_reducible exact ⟨tb0, tb1, tb2, gb0, gb1, gb2, gb3, gb4⟩
        | with_reducible exact ⟨alloc_cell t0, alloc_cell t1, alloc_cell t2, alloc_cell g0, alloc_cell g1, alloc_cell g2, alloc_cell g3, alloc_cell g4⟩
        | with_reducible exact ⟨setM_cell (by have := HU.out; omega) t0, setM_cell (by have := HU.out; omega) t1, setM_cell (by have := HU.out; omega) t2, setM_cell (by have := HU.out; have := HBL.out; have := HX.out; omega) g0, setM_cell (by have := HU.out; have := HBL.out; have := HX.out; omega) g1, setM_cell (by have := HU.out; have := HBL.out; have := HX.out; omega) g2, setM_cell (by have := HU.out; have := HBL.out; have := HX.out; omega) g3, setM_cell (by have := HU.out; have := HBL.out; have := HX.out; omega) g4⟩) (first
        | (go_at_call 46; refine (played_any b (rv o g nn cp (.slice qa o qc)) k' p' x' y' l' _ w _ D0.out).mono ?_; rintro e W2 ⟨v', rfl, hP⟩; obtain ⟨o2, g2', n2, cp2, qa2, qc2, rfl⟩ := hP.val; have D2 := hid hP; clear hP t0 t1 t2 g0 g1 g2 g3 g4 tb0 tb1 tb2 gb0 gb1 gb2 gb3 gb4; obtain ⟨t0, t1, t2⟩ := box3 (D2.out.box ⟨rfl, rfl⟩); obtain ⟨g0, g1, g2, g3, g4⟩ := OP.out _ D2.out.kp)
        | (go_at_call 46; refine (played_any b (rv o g nn cp (.slice qa o qc)) k' p' x' y' l' _ w _ DB.out).mono ?_; rintro e W2 ⟨v', rfl, hP⟩; obtain ⟨o2, g2', n2, cp2, qa2, qc2, rfl⟩ := hP.val; have D2 := hid hP; clear hP t0 t1 t2 g0 g1 g2 g3 g4 tb0 tb1 tb2 gb0 gb1 gb2 gb3 gb4; obtain ⟨t0, t1, t2⟩ := box3 (D2.out.box (.inl ⟨rfl, rfl⟩)); obtain ⟨g0, g1, g2, g3, g4⟩ := OP.out _ D2.out.kp; have y3 := D2.out.box (.inr ⟨rfl, rfl⟩); obtain ⟨y0, y1, y2⟩ := boxZ y3; have fz : ∀ i, W2.frozen? ⟨wr.heap.size, i, none⟩ = false := (fun i => by simp [World.frozen?, y3]); clear y3))
      · have D3 := hid (D2.out.keep ((Kept.refl none' W2).alloc (ro o2 g2' n2 cp2 (.slice qa2 o2 qc2))))
        have U3 := hid (heap_new W2 (ro o2 g2' n2 cp2 (.slice qa2 o2 qc2)))
        obtain ⟨W3, hW3⟩ : ∃ W3, W3 = W2.alloc (ro o2 g2' n2 cp2 (.slice qa2 o2 qc2)) := ⟨_, rfl⟩
        obtain ⟨U, hU⟩ : ∃ U, U = W2.heap.size := ⟨_, rfl⟩
        rw [← hW3] at D3 U3 ⊢
        rw [← hU] at U3 ⊢
        clear hW3 hU t0 t1 t2 g0 g1 g2 g3 g4 D2
        obtain ⟨t0, t1, t2⟩ := box3 (D3.out.box ⟨rfl, rfl⟩)
        obtain ⟨u0, u1, u2⟩ := box3 U3.out
        have fx : ∀ i, W3.frozen? ⟨w0.heap.size, i, none⟩ = false := fun i => by simp [World.frozen?, D3.out.box (X := w0.heap.size) ⟨rfl, rfl⟩]
        have F3 := hid (fun (u0 u1 u2 : Value) => D3.out.turn (o' := .cells #[u0, u1, u2] 51) ⟨rfl, rfl⟩ (setM_only W3 w0.heap.size u0 u1 u2) HX.out (setM_box (D3.out.box ⟨rfl, rfl⟩) rfl u0 u1 u2))
        go_wp2_with fail
        exact ⟨⟨j + 1, by omega, by simp, ⟨o2, g2', n2, cp2, qa2, qc2, F3.out _ _ _⟩⟩, by simp [intOf]; omega⟩
      · have D3 := hid (((D2.out.side (Y := wr.heap.size) (.inr ⟨rfl, rfl⟩) (setM_only W2 wr.heap.size (.int .i64 (o2 : Int)) (.slice (adr g2') n2 cp2) (.slice qa2 o2 qc2)) (by have := HX.out; have := HU.out; omega)).mono (E' := E1 w0.heap.size (ro o g nn cp (.slice qa o qc))) (fun x u e => ⟨.inl e, by have := HU.out; have := e.1; omega⟩)))
        have U3 := hid (show (setM W2 wr.heap.size (.int .i64 (o2 : Int)) (.slice (adr g2') n2 cp2) (.slice qa2 o2 qc2)).heap[wr.heap.size]? = some (ro o2 g2' n2 cp2 (.slice qa2 o2 qc2)) from setM_box (D2.out.box (.inr ⟨rfl, rfl⟩)) rfl _ _ _)
        obtain ⟨W3, hW3⟩ : ∃ W3, W3 = ((W2.setCell ⟨wr.heap.size, 0, none⟩ (.int .i64 (o2 : Int))).setCell ⟨wr.heap.size, 1, none⟩ (.slice (adr g2') n2 cp2)).setCell ⟨wr.heap.size, 2, none⟩ (.slice qa2 o2 qc2) := ⟨_, rfl⟩
        have D3' := hid (show PRS (E1 w0.heap.size (ro o g nn cp (.slice qa o qc))) w W3 b (rv o2 g2' n2 cp2 (.slice qa2 o2 qc2)) by rw [hW3]; exact D3.out)
        have U3' := hid (show W3.heap[wr.heap.size]? = some (ro o2 g2' n2 cp2 (.slice qa2 o2 qc2)) by rw [hW3]; exact U3.out)
        rw [← hW3]
        clear D3 U3
        have D3 := D3'
        have U3 := U3'
        clear D3' U3' hW3 t0 t1 t2 g0 g1 g2 g3 g4 D2 y0 y1 y2 fz
        obtain ⟨t0, t1, t2⟩ := box3 (D3.out.box ⟨rfl, rfl⟩)
        obtain ⟨u0, u1, u2⟩ := box3 U3.out
        have fx : ∀ i, W3.frozen? ⟨w0.heap.size, i, none⟩ = false := fun i => by simp [World.frozen?, D3.out.box (X := w0.heap.size) ⟨rfl, rfl⟩]
        have F3 := hid (fun (u0 u1 u2 : Value) => D3.out.turn (o' := .cells #[u0, u1, u2] 51) ⟨rfl, rfl⟩ (setM_only W3 w0.heap.size u0 u1 u2) HX.out (setM_box (D3.out.box ⟨rfl, rfl⟩) rfl u0 u1 u2))
        go_wp2_with fail
        exact ⟨⟨j + 1, by omega, by simp, ⟨o2, g2', n2, cp2, qa2, qc2, F3.out _ _ _⟩⟩, by simp [intOf]; omega⟩
    · have hji : ¬ (j : Int) < (n : Int) := by omega
      obtain ⟨m, B, g', cp', q', R, hv, hp⟩ := HS.out
      have e0 : Value.int .i64 (o : Int) = .int .i64 (m.o : Int) := congrArg (fun v => v.cells[0]!) hv
      have e1 : Value.slice (adr g) nn cp = .slice (adr g') m.n cp' := congrArg (fun v => v.cells[1]!) hv
      have e2 : Value.slice qa o qc = q' := congrArg (fun v => v.cells[2]!) hv
      obtain ⟨qa', qc', hq'⟩ := hp.rf.val
      have X0 := hid (show wr.heap[w0.heap.size]? = some (ro m.o g' m.n cp' q') by rw [HS.out.box (X := w0.heap.size) ⟨rfl, rfl⟩, ro, e0, e1, e2])
      subst hq'
      have hp' := hid hp
      have hn1 := hp.rf.n1
      clear e0 e1 e2 hv hp HS
      go_wp2_with fail
      refine (Plain_any b B m _ hp'.out.mp).mono ?_
      rintro e W6 ⟨gp, gq, D, rfl, hT⟩
      have D6 := hid (And.intro (hp'.out.keep hT.kp) hT)
      have X6 := hid ((hT.kp.block _ (heap_lt X0.out) (fun x => x)).trans X0.out)
      clear hT X0 hp'
      obtain ⟨t0, t1, t2⟩ := box3 X6.out
      go_wp2_with fail
      refine (SamePages_ref gp g' cp' m.n m.pg hn1 _ D6.out.2.row D6.out.1.rf.rq).mono ?_
      rintro e W1 ⟨rfl, q9, hq9⟩
      have hk : Kept none' W6 W1 := by rw [hq9]; exact (Kept.refl none' _).drewN q9
      have D1 := hid (And.intro (D6.out.1.keep hk) (D6.out.2.keep hk))
      have X1 := hid ((hk.block _ (heap_lt X6.out) (fun x => x)).trans X6.out)
      clear hk hq9 t0 t1 t2 D6 X6
      obtain ⟨t0, t1, t2⟩ := box3 X1.out
      go_wp2_with fail
      refine (SameWords_told b B g' cp' (.slice qa' m.o qc') R m gp gq D _ _ _ D1.out.1.mp D1.out.1.rf D1.out.2).mono ?_
      rintro e W2 ⟨rfl, hk⟩
      have K2 := hid (none_trans D1.out.1.kp hk)
      clear hk
      go_wp2_with fail
      go_ret
      exact ⟨rfl, K2.out⟩
set_option maxRecDepth 6000 in
set_option maxHeartbeats 2000000 in
theorem plays_any (od : Int) (sv : Value) (n : Nat) (w : World) (hS : OpsIn w sv n) :
    Calls Try.prog 4 #[.int .i64 od, sv] w fun e w' => e = .returned (.bool true) ∧ Kept none' w w' := by
  have HS := hid hS
  clear hS
  go_enter Try.func4, Try.ntmps4
  go_wp2_with fail
  refine (awake_any _).mono ?_
  rintro e w1 ⟨rfl, hK⟩
  have K1 := hid hK
  clear hK
  go_wp2_with fail
  refine (new_any od _).mono ?_
  rintro e w2 ⟨b, B, rfl, hM, hK, hN⟩
  have HM := hid hM
  have HK := hid hK
  have HN := hid hN
  clear hM hK hN
  go_wp2_with fail
  refine (New_ref od _).mono ?_
  rintro e w3 ⟨q, rfl, R, hA⟩
  have PS := hid (show PRS (fun _ _ => False) w w3 b (rv (ordN od) none 0 0 q) from ⟨newM (ordN od), B, none, 0, q, R, rfl, HM.out.keep hA.kp, hA.ref, fun x hx => Nat.le_trans K1.out.size (HN.out x hx), fun x hx => (hA.own x hx).elim (fun e => by cases e) (fun e => Nat.le_trans (none_trans K1.out HK.out).size e), fun x hx hy => (hA.own x hy).elim (fun e => by cases e) (fun e => by have := HM.out.own_lt x hx; omega), none_trans (none_trans K1.out HK.out) hA.kp, fun X o e => e.elim⟩)
  clear hA HM HK HN K1
  go_wp2_with fail
  refine (through_any b _ sv n w _ HS.out PS.out).mono ?_
  rintro e w4 ⟨rfl, hK⟩
  have K4 := hid hK
  clear hK
  go_wp2_with fail
  go_ret
  exact ⟨rfl, K4.out⟩
end Go.Proofs.Ytbhheimedbfmeaa
