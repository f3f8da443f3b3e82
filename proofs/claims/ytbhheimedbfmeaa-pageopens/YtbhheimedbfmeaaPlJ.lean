/- played: Pair. played: Pair, of no pair. played: Flip. -/
import Derived.Test.YtbhheimedbfmeaaPlI
namespace Go.Proofs.Ytbhheimedbfmeaa
open Go.RowKit
set_option linter.unusedVariables false

set_option maxRecDepth 8000 in
set_option maxHeartbeats 8000000 in
theorem played_9yes (b : Nat) (B : Bs) (g : Option Nat) (cp : Nat) (q : Value) (R : Nat → Nat) (m : Mp) (p x y : Int) (l : Bool) (E : Nat → Obj → Prop) (w w0 : World) (h : PR E w w0 b B g cp q R m) (a c : Nat) (hxa : x = (a : Int)) (hpc : p = (c : Int)) (ha : a < m.o) (hc : c < m.n) :
    Calls Try.prog 46 #[.pointer (some ⟨b, 0, none⟩), rv m.o g m.n cp q, opV 9 p x y l] w0 fun e w' => ∃ v', e = .returned (.tuple #[v', .bool true]) ∧ PRS E w w' b v' := by
  obtain ⟨qa, qc, rfl⟩ := h.rf.val
  have TB := three_box w0 (ro m.o g m.n cp (.slice qa m.o qc)) (opO 9 p x y l) roZ
  have BX := hid (show Bx _ w0.heap.size m.o g m.n cp (.slice qa m.o qc) (opO 9 p x y l) from ⟨TB.2.1, TB.2.2.1, TB.2.2.2⟩)
  have H0 := hid (h.keep TB.1)
  have HL := hid (show (∀ y, mown b B m.o y → y < w0.heap.size) ∧ (∀ y, onlyG g y → y < w0.heap.size) ∧ (∀ y, rown g (.slice qa m.o qc) R m.o y → y < w0.heap.size) ∧ w.heap.size ≤ w0.heap.size ∧ (∀ X o, E X o → X < w0.heap.size) from ⟨fun y hy => h.mp.own_lt y hy, fun y hy => h.rf.own_lt y (.inl hy), fun y hy => h.rf.own_lt y hy, h.kp.size, fun X o e => heap_lt (h.ex X o e).2.2⟩)
  subst hxa hpc
  obtain ⟨j, hj⟩ : ∃ j, j = c / 2 ^ (a + 1) := ⟨_, rfl⟩
  obtain ⟨bt, hbt⟩ : ∃ bt, bt = bit (m.wd a) j := ⟨_, rfl⟩
  have fb := flip_bit h.mp a c ha hc
  have hpi : pairI m (a : Int) (c : Int) = (j : Int) := by unfold pairI; rw [if_pos fb.2.2.2.1, hj]; simp [prN]
  have HV := hid (show pairI m (a : Int) (c : Int) = (j : Int) ∧ pairV m (a : Int) (c : Int) = bt from ⟨hpi, by rw [fb.2.2.1, hbt, hj]⟩)
  have hjl : j < ln m.n a := by rw [hj]; exact half_lt h.mp.dv ha hc
  have hln : ln m.n a ≤ 1024 := Nat.le_trans (Nat.div_le_self _ _) h.mp.n1
  have RB := hid (show ∀ W, RefAt W g cp (.slice qa m.o qc) R m → ∃ q2, qa = some ⟨q2, 0, none⟩ ∧ W.cell? ⟨q2, a, none⟩ = some (.slice (some ⟨R a, 0, none⟩) (ln m.n a) (ln m.n a)) ∧ W.cell? ⟨R a, j, none⟩ = some (.bool bt) from fun W hr => by
    obtain ⟨g', cap', e1, e2⟩ := hr.pcell a ha
    have e3 := (hr.bs a ha).cell j hjl
    obtain ⟨rfl, rfl⟩ : qa = some ⟨g', 0, none⟩ ∧ qc = cap' := by simpa using e1
    exact ⟨g', rfl, e2, by rw [e3, hbt]⟩)
  obtain ⟨q2, rfl, _⟩ := RB.out w0 h.rf
  clear h TB fb hpi hj hbt
  go_enter Try.func46, Try.ntmps46
  go_wp2_with fail
  generalize ((w0.alloc (ro m.o g m.n cp (.slice (some ⟨q2, 0, none⟩) m.o qc))).alloc (opO 9 (c : Int) (a : Int) y l)).alloc roZ = W0 at *
  obtain ⟨t0, t1, t2⟩ := box3 BX.out.t
  obtain ⟨o0, o1, o2, o3, o4⟩ := opbox BX.out.p
  have D0 := hid (show PR E w W0 b B g cp (.slice (some ⟨q2, 0, none⟩) m.o qc) R m ∧ Bx W0 w0.heap.size m.o g m.n cp (.slice (some ⟨q2, 0, none⟩) m.o qc) (opO 9 (c : Int) (a : Int) y l) from ⟨H0.out, BX.out⟩)
  clear H0 BX
  go_wp2_with fail
  refine (Pair_ref g cp (.slice (some ⟨q2, 0, none⟩) m.o qc) m D0.out.1.rf.o8 D0.out.1.rf.n1 W0 (a : Int) (c : Int)).mono ?_
  rintro e W5 ⟨rfl, hK⟩
  have D5 := hid (show PR E w W5.drew b B g cp (.slice (some ⟨q2, 0, none⟩) m.o qc) R m ∧ Bx W5.drew w0.heap.size m.o g m.n cp (.slice (some ⟨q2, 0, none⟩) m.o qc) (opO 9 (c : Int) (a : Int) y l) from ⟨(D0.out.1.keep hK).keep (Kept.refl none' _).drew, (D0.out.2.kept hK (fun _ x => x.elim)).kept (Kept.refl none' _).drew (fun _ x => x.elim)⟩)
  clear D0 hK t0 t1 t2 o0 o1 o2 o3 o4
  obtain ⟨t0, t1, t2⟩ := box3 (show W5.heap[w0.heap.size]? = _ from D5.out.2.t)
  obtain ⟨o0, o1, o2, o3, o4⟩ := opbox (show W5.heap[w0.heap.size + 1]? = _ from D5.out.2.p)
  rw [HV.out.1]
  have NE := hid (show q2 < w0.heap.size ∧ R a < w0.heap.size from ⟨HL.out.2.2.1 q2 (.inr (.inl (by simp [Value.ownBlock]))), HL.out.2.2.1 (R a) (.inr (.inr ⟨a, ha, rfl⟩))⟩)
  have hai : (a : Int) < (m.o : Int) := by omega
  obtain ⟨la, hla⟩ : ∃ la, la = ln m.n a := ⟨_, rfl⟩
  rw [← hla] at hjl hln RB
  have hji : (j : Int) < (la : Int) := by omega
  have ho8 := D5.out.1.rf.o8
  clear hla
  go_wp2_with fail
  clear t0 t1 t2 o0 o1 o2 o3 o4
  obtain ⟨t0, t1, t2⟩ := box3 D5.out.2.t
  obtain ⟨o0, o1, o2, o3, o4⟩ := opbox D5.out.2.p
  obtain ⟨q3, e3, r1, r2⟩ := RB.out _ D5.out.1.rf
  obtain rfl : q2 = q3 := by simpa using e3
  clear e3
  go_region_held3 (fun w' => w'.cell? ⟨w0.heap.size, 0, none⟩ = some (.int .i64 (m.o : Int)) ∧ w'.cell? ⟨w0.heap.size, 1, none⟩ = some (.slice (adr g) m.n cp) ∧ w'.cell? ⟨w0.heap.size, 2, none⟩ = some (.slice (some ⟨q2, 0, none⟩) m.o qc) ∧ w'.cell? ⟨w0.heap.size + 1, 0, none⟩ = some (.int .i64 9) ∧ w'.cell? ⟨w0.heap.size + 1, 1, none⟩ = some (.int .i64 (c : Int)) ∧ w'.cell? ⟨w0.heap.size + 1, 2, none⟩ = some (.int .i64 (a : Int)) ∧ w'.cell? ⟨w0.heap.size + 1, 3, none⟩ = some (.int .i64 y) ∧ w'.cell? ⟨w0.heap.size + 1, 4, none⟩ = some (.bool l) ∧ w'.cell? ⟨q2, a, none⟩ = some (.slice (some ⟨R a, 0, none⟩) la la) ∧ w'.cell? ⟨R a, j, none⟩ = some (.bool bt)) (first | with_reducible exact ⟨t0, t1, t2, o0, o1, o2, o3, o4, r1, r2⟩ | with_reducible exact ⟨setM_cell (by omega) t0, setM_cell (by omega) t1, setM_cell (by omega) t2, setM_cell (by omega) o0, setM_cell (by omega) o1, setM_cell (by omega) o2, setM_cell (by omega) o3, setM_cell (by omega) o4, setM_cell (by have := NE.out.1; omega) r1, setM_cell (by have := NE.out.2; omega) r2⟩) (
    (go_at_call 19; refine (Pair_any b B m (a : Int) (c : Int) _ D5.out.1.mp).mono ?_; rintro e W2 ⟨rfl, hk⟩; rw [HV.out.2]; have D2 := hid (And.intro (D5.out.1.keep hk) (D5.out.2.kept hk (fun _ x => x.elim))); clear hk t0 t1 t2 o0 o1 o2 o3 o4 r1 r2; obtain ⟨t0, t1, t2⟩ := box3 D2.out.2.t; obtain ⟨o0, o1, o2, o3, o4⟩ := opbox D2.out.2.p; obtain ⟨q3, e3, r1, r2⟩ := RB.out _ D2.out.1.rf; obtain rfl : q2 = q3 := (by simpa using e3); clear e3; have y3 : W2.heap[w0.heap.size + 1 + 1]? = some roZ := D2.out.2.y; obtain ⟨y0, y1, y2⟩ := boxZ y3; have fz : ∀ j, W2.frozen? ⟨w0.heap.size + 1 + 1, j, none⟩ = false := (fun j => by simp [World.frozen?, y3]); clear y3))
  all_goals
    go_wp2_with fail
    refine ⟨rfl, .tuple #[rv m.o g m.n cp (.slice (some ⟨q2, 0, none⟩) m.o qc), .bool true], by simp [results, Try.results46, go_sem, y0, y1, y2], _, rfl, ?_⟩
    refine ⟨m, B, g, cp, .slice (some ⟨q2, 0, none⟩) m.o qc, R, rfl, ?_⟩
    refine D2.out.1.setY (w0 := w0) rfl (From.refl W5.drew b B m.o) (heap_lt D5.out.2.y) (by have := HL.out.2.2.2.1; omega) (fun X o e => by have := HL.out.2.2.2.2 X o e; omega) (fun x hx => ?_) (fun x hx => ?_) _ _ _
    · have := HL.out.1 x hx; omega
    · have := HL.out.2.2.1 x hx; omega
set_option maxRecDepth 8000 in
set_option maxHeartbeats 8000000 in
theorem played_9no (b : Nat) (B : Bs) (g : Option Nat) (cp : Nat) (q : Value) (R : Nat → Nat) (m : Mp) (p x y : Int) (l : Bool) (E : Nat → Obj → Prop) (w w0 : World) (h : PR E w w0 b B g cp q R m) (hp : hasP m x p = false) :
    Calls Try.prog 46 #[.pointer (some ⟨b, 0, none⟩), rv m.o g m.n cp q, opV 9 p x y l] w0 fun e w' => ∃ v', e = .returned (.tuple #[v', .bool true]) ∧ PRS E w w' b v' := by
  obtain ⟨qa, qc, rfl⟩ := h.rf.val
  have TB := three_box w0 (ro m.o g m.n cp (.slice qa m.o qc)) (opO 9 p x y l) roZ
  have BX := hid (show Bx _ w0.heap.size m.o g m.n cp (.slice qa m.o qc) (opO 9 p x y l) from ⟨TB.2.1, TB.2.2.1, TB.2.2.2⟩)
  have H0 := hid (h.keep TB.1)
  have HL := hid (show (∀ y, mown b B m.o y → y < w0.heap.size) ∧ (∀ y, onlyG g y → y < w0.heap.size) ∧ (∀ y, rown g (.slice qa m.o qc) R m.o y → y < w0.heap.size) ∧ w.heap.size ≤ w0.heap.size ∧ (∀ X o, E X o → X < w0.heap.size) from ⟨fun y hy => h.mp.own_lt y hy, fun y hy => h.rf.own_lt y (.inl hy), fun y hy => h.rf.own_lt y hy, h.kp.size, fun X o e => heap_lt (h.ex X o e).2.2⟩)
  have HV := hid (show pairI m x p = -1 ∧ pairV m x p = false from ⟨by simp [pairI, hp], by simp [pairV, hp]⟩)
  clear h TB hp
  go_enter Try.func46, Try.ntmps46
  go_wp2_with fail
  generalize ((w0.alloc (ro m.o g m.n cp (.slice qa m.o qc))).alloc (opO 9 p x y l)).alloc roZ = W0 at *
  obtain ⟨t0, t1, t2⟩ := box3 BX.out.t
  obtain ⟨o0, o1, o2, o3, o4⟩ := opbox BX.out.p
  have D0 := hid (show PR E w W0 b B g cp (.slice qa m.o qc) R m ∧ Bx W0 w0.heap.size m.o g m.n cp (.slice qa m.o qc) (opO 9 p x y l) from ⟨H0.out, BX.out⟩)
  clear H0 BX
  go_wp2_with fail
  refine (Pair_ref g cp (.slice qa m.o qc) m D0.out.1.rf.o8 D0.out.1.rf.n1 W0 x p).mono ?_
  rintro e W5 ⟨rfl, hK⟩
  have D5 := hid (show PR E w W5.drew b B g cp (.slice qa m.o qc) R m ∧ Bx W5.drew w0.heap.size m.o g m.n cp (.slice qa m.o qc) (opO 9 p x y l) from ⟨(D0.out.1.keep hK).keep (Kept.refl none' _).drew, (D0.out.2.kept hK (fun _ x => x.elim)).kept (Kept.refl none' _).drew (fun _ x => x.elim)⟩)
  clear D0 hK t0 t1 t2 o0 o1 o2 o3 o4
  obtain ⟨t0, t1, t2⟩ := box3 (show W5.heap[w0.heap.size]? = _ from D5.out.2.t)
  obtain ⟨o0, o1, o2, o3, o4⟩ := opbox (show W5.heap[w0.heap.size + 1]? = _ from D5.out.2.p)
  rw [HV.out.1]
  go_wp2_with fail
  clear t0 t1 t2 o0 o1 o2 o3 o4
  obtain ⟨t0, t1, t2⟩ := box3 D5.out.2.t
  obtain ⟨o0, o1, o2, o3, o4⟩ := opbox D5.out.2.p
  refine wp_region_held_drew (S := fun w' => w'.cell? ⟨w0.heap.size, 0, none⟩ = some (.int .i64 (m.o : Int)) ∧ w'.cell? ⟨w0.heap.size, 1, none⟩ = some (.slice (adr g) m.n cp) ∧ w'.cell? ⟨w0.heap.size, 2, none⟩ = some (.slice qa m.o qc) ∧ w'.cell? ⟨w0.heap.size + 1, 0, none⟩ = some (.int .i64 9) ∧ w'.cell? ⟨w0.heap.size + 1, 1, none⟩ = some (.int .i64 p) ∧ w'.cell? ⟨w0.heap.size + 1, 2, none⟩ = some (.int .i64 x) ∧ w'.cell? ⟨w0.heap.size + 1, 3, none⟩ = some (.int .i64 y) ∧ w'.cell? ⟨w0.heap.size + 1, 4, none⟩ = some (.bool l)) (by kernel_rfl) ⟨t0, t1, t2, o0, o1, o2, o3, o4⟩ (fun hS => ?_)
  refine wpAnyH_take (i := 1) (v := .pointer (some ⟨b, 0, none⟩)) rfl (by kernel_rfl) (by kernel_rfl) (by kernel_rfl) (fun _ _ _ h => h) (Or.inl ⟨rfl, fun w hSw => ?_⟩) hS ?_
  · obtain ⟨s0, s1, s2, s3, s4, s5, s6, s7⟩ := hSw
    go_simp
  simp only [List.getElem_toArray, List.getElem_cons_zero, List.getElem_cons_succ, Act.put, List.setIfInBounds_toArray, List.set_cons_zero, List.set_cons_succ]
  refine wpAnyH_take (i := 2) (v := .pointer (some ⟨w0.heap.size + 1, 2, none⟩)) rfl (by kernel_rfl) (by kernel_rfl) (by kernel_rfl) (fun _ _ _ h => h) (Or.inl ⟨rfl, fun w hSw => ?_⟩) hS ?_
  · obtain ⟨s0, s1, s2, s3, s4, s5, s6, s7⟩ := hSw
    go_simp
  simp only [List.getElem_toArray, List.getElem_cons_zero, List.getElem_cons_succ, Act.put, List.setIfInBounds_toArray, List.set_cons_zero, List.set_cons_succ]
  refine wpAnyH_take (i := 4) (v := .pointer (some ⟨w0.heap.size + 1, 1, none⟩)) rfl (by kernel_rfl) (by kernel_rfl) (by kernel_rfl) (fun _ _ _ h => h) (Or.inl ⟨rfl, fun w hSw => ?_⟩) hS ?_
  · obtain ⟨s0, s1, s2, s3, s4, s5, s6, s7⟩ := hSw
    go_simp
  simp only [List.getElem_toArray, List.getElem_cons_zero, List.getElem_cons_succ, Act.put, List.setIfInBounds_toArray, List.set_cons_zero, List.set_cons_succ]
  refine wpAnyH_take (i := 7) (v := .int .i64 (-1)) rfl (by kernel_rfl) (by kernel_rfl) (by kernel_rfl) (fun _ _ _ h => h) (Or.inl ⟨rfl, fun w hSw => ?_⟩) hS ?_
  · obtain ⟨s0, s1, s2, s3, s4, s5, s6, s7⟩ := hSw
    go_simp
  simp only [List.getElem_toArray, List.getElem_cons_zero, List.getElem_cons_succ, Act.put, List.setIfInBounds_toArray, List.set_cons_zero, List.set_cons_succ]
  refine wpAnyH_take (i := 8) (v := .bool false) rfl (by kernel_rfl) (by kernel_rfl) (by kernel_rfl) (fun _ _ _ h => h) (Or.inl ⟨rfl, fun w hSw => ?_⟩) hS ?_
  · obtain ⟨s0, s1, s2, s3, s4, s5, s6, s7⟩ := hSw
    go_simp
  simp only [List.getElem_toArray, List.getElem_cons_zero, List.getElem_cons_succ, Act.put, List.setIfInBounds_toArray, List.set_cons_zero, List.set_cons_succ]
  refine wpAnyH_take (i := 3) (v := .int .i64 x) rfl (by kernel_rfl) (by kernel_rfl) (by kernel_rfl) (fun _ _ _ h => h) (Or.inl ⟨rfl, fun w hSw => ?_⟩) hS ?_
  · obtain ⟨s0, s1, s2, s3, s4, s5, s6, s7⟩ := hSw
    go_simp
  simp only [List.getElem_toArray, List.getElem_cons_zero, List.getElem_cons_succ, Act.put, List.setIfInBounds_toArray, List.set_cons_zero, List.set_cons_succ]
  refine wpAnyH_take (i := 5) (v := .int .i64 p) rfl (by kernel_rfl) (by kernel_rfl) (by kernel_rfl) (fun _ _ _ h => h) (Or.inl ⟨rfl, fun w hSw => ?_⟩) hS ?_
  · obtain ⟨s0, s1, s2, s3, s4, s5, s6, s7⟩ := hSw
    go_simp
  simp only [List.getElem_toArray, List.getElem_cons_zero, List.getElem_cons_succ, Act.put, List.setIfInBounds_toArray, List.set_cons_zero, List.set_cons_succ]
  refine wpAnyH_take (i := 0) (v := .agg #[.int .i64 (m.o : Int), .slice (adr g) m.n cp, .slice qa m.o qc]) rfl (by kernel_rfl) (by kernel_rfl) (by kernel_rfl) (fun _ _ _ h => h) (Or.inl ⟨rfl, fun w hSw => ?_⟩) hS ?_
  · obtain ⟨s0, s1, s2, s3, s4, s5, s6, s7⟩ := hSw
    go_simp
  simp only [List.getElem_toArray, List.getElem_cons_zero, Act.put, List.setIfInBounds_toArray, List.set_cons_zero, List.set_cons_succ]
  refine wpAnyH_ready (rs := [6]) (by kernel_rfl) (by simp) ?_
  refine AllReadyH.cons rfl (fun K hK => ?_) AllReadyH.nil
  clear hS
  go_simp
  refine (Pair_any b B m x p _ D5.out.1.mp).mono ?_
  rintro e W2 ⟨rfl, hk⟩
  rw [HV.out.2]
  have D2 := hid (And.intro (D5.out.1.keep hk) (D5.out.2.kept hk (fun _ x => x.elim)))
  clear hk t0 t1 t2 o0 o1 o2 o3 o4
  obtain ⟨t0, t1, t2⟩ := box3 D2.out.2.t
  obtain ⟨o0, o1, o2, o3, o4⟩ := opbox D2.out.2.p
  have y3 : W2.heap[w0.heap.size + 1 + 1]? = some roZ := D2.out.2.y
  obtain ⟨y0, y1, y2⟩ := boxZ y3
  have fz : ∀ j, W2.frozen? ⟨w0.heap.size + 1 + 1, j, none⟩ = false := fun j => by simp [World.frozen?, y3]
  clear y3
  refine hK.out _ _ ⟨t0, t1, t2, o0, o1, o2, o3, o4⟩ (fun hS => ?_)
  clear hK K
  try simp only [List.getElem_toArray, List.getElem_cons_zero, List.getElem_cons_succ, Act.put, List.setIfInBounds_toArray, List.set_cons_zero, List.set_cons_succ]
  refine wpAnyH_take (i := 9) (v := .bool false) rfl (by kernel_rfl) (by kernel_rfl) (by kernel_rfl) (fun _ _ _ h => h) (Or.inl ⟨rfl, fun w hSw => ?_⟩) hS ?_
  · obtain ⟨s0, s1, s2, s3, s4, s5, s6, s7⟩ := hSw
    go_simp
  simp only [List.getElem_toArray, List.getElem_cons_zero, List.getElem_cons_succ, Act.put, List.setIfInBounds_toArray, List.set_cons_zero, List.set_cons_succ]
  refine wpAnyH_take (i := 10) (v := undef) rfl (by kernel_rfl) (by kernel_rfl) (by kernel_rfl) (fun _ _ _ h => h) (Or.inr ⟨by kernel_rfl, rfl⟩) hS ?_
  simp only [List.getElem_toArray, List.getElem_cons_zero, List.getElem_cons_succ, Act.put, List.setIfInBounds_toArray, List.set_cons_zero, List.set_cons_succ]
  refine wpAnyH_take (i := 11) (v := undef) rfl (by kernel_rfl) (by kernel_rfl) (by kernel_rfl) (fun _ _ _ h => h) (Or.inr ⟨by kernel_rfl, rfl⟩) hS ?_
  simp only [List.getElem_toArray, List.getElem_cons_zero, List.getElem_cons_succ, Act.put, List.setIfInBounds_toArray, List.set_cons_zero, List.set_cons_succ]
  refine wpAnyH_take (i := 12) (v := undef) rfl (by kernel_rfl) (by kernel_rfl) (by kernel_rfl) (fun _ _ _ h => h) (Or.inr ⟨by kernel_rfl, rfl⟩) hS ?_
  simp only [List.getElem_toArray, List.getElem_cons_zero, List.getElem_cons_succ, Act.put, List.setIfInBounds_toArray, List.set_cons_zero, List.set_cons_succ]
  refine wpAnyH_take (i := 13) (v := undef) rfl (by kernel_rfl) (by kernel_rfl) (by kernel_rfl) (fun _ _ _ h => h) (Or.inr ⟨by kernel_rfl, rfl⟩) hS ?_
  simp only [List.getElem_toArray, List.getElem_cons_zero, List.getElem_cons_succ, Act.put, List.setIfInBounds_toArray, List.set_cons_zero, List.set_cons_succ]
  refine wpAnyH_take (i := 14) (v := undef) rfl (by kernel_rfl) (by kernel_rfl) (by kernel_rfl) (fun _ _ _ h => h) (Or.inr ⟨by kernel_rfl, rfl⟩) hS ?_
  simp only [List.getElem_toArray, List.getElem_cons_zero, List.getElem_cons_succ, Act.put, List.setIfInBounds_toArray, List.set_cons_zero, List.set_cons_succ]
  refine wpAnyH_take (i := 15) (v := undef) rfl (by kernel_rfl) (by kernel_rfl) (by kernel_rfl) (fun _ _ _ h => h) (Or.inr ⟨by kernel_rfl, rfl⟩) hS ?_
  simp only [List.getElem_toArray, List.getElem_cons_zero, List.getElem_cons_succ, Act.put, List.setIfInBounds_toArray, List.set_cons_zero, List.set_cons_succ]
  refine wpAnyH_take (i := 16) (v := undef) rfl (by kernel_rfl) (by kernel_rfl) (by kernel_rfl) (fun _ _ _ h => h) (Or.inr ⟨by kernel_rfl, rfl⟩) hS ?_
  simp only [List.getElem_toArray, List.getElem_cons_zero, List.getElem_cons_succ, Act.put, List.setIfInBounds_toArray, List.set_cons_zero, List.set_cons_succ]
  refine wpAnyH_take (i := 17) (v := undef) rfl (by kernel_rfl) (by kernel_rfl) (by kernel_rfl) (fun _ _ _ h => h) (Or.inr ⟨by kernel_rfl, rfl⟩) hS ?_
  simp only [List.getElem_toArray, List.getElem_cons_zero, List.getElem_cons_succ, Act.put, List.setIfInBounds_toArray, List.set_cons_zero, List.set_cons_succ]
  refine wpAnyH_take (i := 18) (v := undef) rfl (by kernel_rfl) (by kernel_rfl) (by kernel_rfl) (fun _ _ _ h => h) (Or.inr ⟨by kernel_rfl, rfl⟩) hS ?_
  simp only [List.getElem_toArray, List.getElem_cons_zero, List.getElem_cons_succ, Act.put, List.setIfInBounds_toArray, List.set_cons_zero, List.set_cons_succ]
  refine wpAnyH_take (i := 19) (v := .bool false) rfl (by kernel_rfl) (by kernel_rfl) (by kernel_rfl) (fun _ _ _ h => h) (Or.inl ⟨rfl, fun w hSw => ?_⟩) hS ?_
  · obtain ⟨s0, s1, s2, s3, s4, s5, s6, s7⟩ := hSw
    go_simp
  simp only [List.getElem_toArray, List.getElem_cons_zero, List.getElem_cons_succ, Act.put, List.setIfInBounds_toArray, List.set_cons_zero, List.set_cons_succ]
  refine wpAnyH_take (i := 20) (v := .bool true) rfl (by kernel_rfl) (by kernel_rfl) (by kernel_rfl) (fun _ _ _ h => h) (Or.inl ⟨rfl, fun w hSw => ?_⟩) hS ?_
  · obtain ⟨s0, s1, s2, s3, s4, s5, s6, s7⟩ := hSw
    go_simp
  simp only [List.getElem_toArray, List.getElem_cons_zero, List.getElem_cons_succ, Act.put, List.setIfInBounds_toArray, List.set_cons_zero, List.set_cons_succ]
  refine wpAnyH_ready (rs := [21]) (by kernel_rfl) (by simp) ?_
  refine AllReadyH.cons rfl (fun K hK => ?_) AllReadyH.nil
  clear hS
  go_simp
  refine hK.out _ _ ⟨setM_cell (by omega) t0, setM_cell (by omega) t1, setM_cell (by omega) t2, setM_cell (by omega) o0, setM_cell (by omega) o1, setM_cell (by omega) o2, setM_cell (by omega) o3, setM_cell (by omega) o4⟩ (fun hS => ?_)
  clear hK K
  try simp only [List.getElem_toArray, List.getElem_cons_zero, List.getElem_cons_succ, Act.put, List.setIfInBounds_toArray, List.set_cons_zero, List.set_cons_succ]
  refine wpAnyH_take (i := 22) (v := .bool true) rfl (by kernel_rfl) (by kernel_rfl) (by kernel_rfl) (fun _ _ _ h => h) (Or.inl ⟨rfl, fun w hSw => ?_⟩) hS ?_
  · obtain ⟨s0, s1, s2, s3, s4, s5, s6, s7⟩ := hSw
    go_simp
  simp only [List.getElem_toArray, List.getElem_cons_zero, List.getElem_cons_succ, Act.put, List.setIfInBounds_toArray, List.set_cons_zero, List.set_cons_succ]
  refine wpAnyH_done (by kernel_rfl) ?_ _
  all_goals
    go_wp2_with fail
    refine ⟨rfl, .tuple #[rv m.o g m.n cp (.slice qa m.o qc), .bool true], by simp [results, Try.results46, go_sem, y0, y1, y2], _, rfl, ?_⟩
    refine ⟨m, B, g, cp, .slice qa m.o qc, R, rfl, ?_⟩
    refine D2.out.1.setY (w0 := w0) rfl (From.refl W5.drew b B m.o) (heap_lt D5.out.2.y) (by have := HL.out.2.2.2.1; omega) (fun X o e => by have := HL.out.2.2.2.2 X o e; omega) (fun x hx => ?_) (fun x hx => ?_) _ _ _
    · have := HL.out.1 x hx; omega
    · have := HL.out.2.2.1 x hx; omega
set_option maxRecDepth 8000 in
set_option maxHeartbeats 8000000 in
theorem played_8no (b : Nat) (B : Bs) (g : Option Nat) (cp : Nat) (q : Value) (R : Nat → Nat) (m : Mp) (p x y : Int) (l : Bool) (E : Nat → Obj → Prop) (w w0 : World) (h : PR E w w0 b B g cp q R m) (hp : hasP m x p = false) :
    Calls Try.prog 46 #[.pointer (some ⟨b, 0, none⟩), rv m.o g m.n cp q, opV 8 p x y l] w0 fun e w' => ∃ v', e = .returned (.tuple #[v', .bool true]) ∧ PRS E w w' b v' := by
  obtain ⟨qa, qc, rfl⟩ := h.rf.val
  have TB := three_box w0 (ro m.o g m.n cp (.slice qa m.o qc)) (opO 8 p x y l) roZ
  have BX := hid (show Bx _ w0.heap.size m.o g m.n cp (.slice qa m.o qc) (opO 8 p x y l) from ⟨TB.2.1, TB.2.2.1, TB.2.2.2⟩)
  have H0 := hid (h.keep TB.1)
  have HL := hid (show (∀ y, mown b B m.o y → y < w0.heap.size) ∧ (∀ y, onlyG g y → y < w0.heap.size) ∧ (∀ y, rown g (.slice qa m.o qc) R m.o y → y < w0.heap.size) ∧ w.heap.size ≤ w0.heap.size ∧ (∀ X o, E X o → X < w0.heap.size) from ⟨fun y hy => h.mp.own_lt y hy, fun y hy => h.rf.own_lt y (.inl hy), fun y hy => h.rf.own_lt y hy, h.kp.size, fun X o e => heap_lt (h.ex X o e).2.2⟩)
  have HV := hid (show pairI m x p = -1 ∧ flipE m x p = 1 ∧ flipM m x p = m ∧ pairV (flipM m x p) x p = false from by
    have e : flipM m x p = m := by simp [flipM, hp]
    exact ⟨by simp [pairI, hp], by simp [flipE, hp], e, by rw [e]; simp [pairV, hp]⟩)
  clear h TB hp
  go_enter Try.func46, Try.ntmps46
  go_wp2_with fail
  generalize ((w0.alloc (ro m.o g m.n cp (.slice qa m.o qc))).alloc (opO 8 p x y l)).alloc roZ = W0 at *
  obtain ⟨t0, t1, t2⟩ := box3 BX.out.t
  obtain ⟨o0, o1, o2, o3, o4⟩ := opbox BX.out.p
  have D0 := hid (show PR E w W0 b B g cp (.slice qa m.o qc) R m ∧ Bx W0 w0.heap.size m.o g m.n cp (.slice qa m.o qc) (opO 8 p x y l) from ⟨H0.out, BX.out⟩)
  clear H0 BX
  go_wp2_with fail
  refine (Pair_ref g cp (.slice qa m.o qc) m D0.out.1.rf.o8 D0.out.1.rf.n1 W0 x p).mono ?_
  rintro e W5 ⟨rfl, hK⟩
  have D5 := hid (show PR E w W5 b B g cp (.slice qa m.o qc) R m ∧ Bx W5 w0.heap.size m.o g m.n cp (.slice qa m.o qc) (opO 8 p x y l) from ⟨D0.out.1.keep hK, D0.out.2.kept hK (fun _ x => x.elim)⟩)
  clear D0 hK t0 t1 t2 o0 o1 o2 o3 o4
  obtain ⟨t0, t1, t2⟩ := box3 (show W5.heap[w0.heap.size]? = _ from D5.out.2.t)
  obtain ⟨o0, o1, o2, o3, o4⟩ := opbox (show W5.heap[w0.heap.size + 1]? = _ from D5.out.2.p)
  rw [HV.out.1]
  go_wp2_with fail
  refine (Flip_any b B m x p _ D5.out.1.mp).mono ?_
  rintro e W2 ⟨rfl, B', hm, hk, hF⟩
  rw [HV.out.2.2.2, HV.out.2.1]
  rw [HV.out.2.2.1] at hm
  have FIN := hid (D5.out.1.both hm hk hF rfl (D5.out.1.mid hk) (Kept.refl (onlyG g) W2))
  have B2 := hid (D5.out.2.kept hk (fun y hy => HL.out.1 y hy))
  have F2 := hid hF
  clear hm hk hF t0 t1 t2 o0 o1 o2 o3 o4
  obtain ⟨t0, t1, t2⟩ := box3 B2.out.t
  have y3 : W2.heap[w0.heap.size + 1 + 1]? = some roZ := B2.out.y
  obtain ⟨y0, y1, y2⟩ := boxZ y3
  have fz : ∀ j, W2.frozen? ⟨w0.heap.size + 1 + 1, j, none⟩ = false := fun j => by simp [World.frozen?, y3]
  clear y3
  go_wp2_with fail
  refine ⟨rfl, .tuple #[rv m.o g m.n cp (.slice qa m.o qc), .bool true], by simp [results, Try.results46, go_sem, y0, y1, y2], _, rfl, ?_⟩
  refine ⟨m, B', g, cp, .slice qa m.o qc, R, rfl, ?_⟩
  refine FIN.out.setY (w0 := w0) rfl F2.out (heap_lt D5.out.2.y) (by have := HL.out.2.2.2.1; omega) (fun X o e => by have := HL.out.2.2.2.2 X o e; omega) (fun x hx => ?_) (fun x hx => ?_) _ _ _
  · have := HL.out.1 x hx; omega
  · have := HL.out.2.2.1 x hx; omega
set_option maxRecDepth 8000 in
set_option maxHeartbeats 8000000 in
theorem played_8yes (b : Nat) (B : Bs) (g : Option Nat) (cp : Nat) (q : Value) (R : Nat → Nat) (m : Mp) (p x y : Int) (l : Bool) (E : Nat → Obj → Prop) (w w0 : World) (h : PR E w w0 b B g cp q R m) (a c : Nat) (hxa : x = (a : Int)) (hpc : p = (c : Int)) (ha : a < m.o) (hc : c < m.n) :
    Calls Try.prog 46 #[.pointer (some ⟨b, 0, none⟩), rv m.o g m.n cp q, opV 8 p x y l] w0 fun e w' => ∃ v', e = .returned (.tuple #[v', .bool true]) ∧ PRS E w w' b v' := by
  obtain ⟨qa, qc, rfl⟩ := h.rf.val
  have TB := three_box w0 (ro m.o g m.n cp (.slice qa m.o qc)) (opO 8 p x y l) roZ
  have BX := hid (show Bx _ w0.heap.size m.o g m.n cp (.slice qa m.o qc) (opO 8 p x y l) from ⟨TB.2.1, TB.2.2.1, TB.2.2.2⟩)
  have H0 := hid (h.keep TB.1)
  have HL := hid (show (∀ y, mown b B m.o y → y < w0.heap.size) ∧ (∀ y, onlyG g y → y < w0.heap.size) ∧ (∀ y, rown g (.slice qa m.o qc) R m.o y → y < w0.heap.size) ∧ w.heap.size ≤ w0.heap.size ∧ (∀ X o, E X o → X < w0.heap.size) from ⟨fun y hy => h.mp.own_lt y hy, fun y hy => h.rf.own_lt y (.inl hy), fun y hy => h.rf.own_lt y hy, h.kp.size, fun X o e => heap_lt (h.ex X o e).2.2⟩)
  subst hxa hpc
  obtain ⟨j, hj⟩ : ∃ j, j = c / 2 ^ (a + 1) := ⟨_, rfl⟩
  obtain ⟨bt, hbt⟩ : ∃ bt, bt = bit (m.wd a) j := ⟨_, rfl⟩
  have fb := flip_bit h.mp a c ha hc
  rw [← hj, ← hbt] at fb
  have hpi : pairI m (a : Int) (c : Int) = (j : Int) := by unfold pairI; rw [if_pos fb.2.2.2.1, hj]; simp [prN]
  have HV := hid (show pairI m (a : Int) (c : Int) = (j : Int) ∧ pairV (flipM m (a : Int) (c : Int)) (a : Int) (c : Int) = !bt ∧ flipE m (a : Int) (c : Int) = 0 from ⟨hpi, fb.2.1, by simp [flipE, fb.2.2.2.1]⟩)
  have HFM := hid (show flipM m (a : Int) (c : Int) = { m with wd := upw m.wd a (flipW (m.wd a) j) } ∧ ∀ i, bit (flipW (m.wd a) j) i = (if i = j then !bt else bit (m.wd a) i) from ⟨fb.1, fb.2.2.2.2⟩)
  have hjl : j < ln m.n a := by rw [hj]; exact half_lt h.mp.dv ha hc
  have hln : ln m.n a ≤ 1024 := Nat.le_trans (Nat.div_le_self _ _) h.mp.n1
  have RB := hid (show ∀ W (m2 : Mp), m2.o = m.o → m2.n = m.n → RefAt W g cp (.slice qa m.o qc) R m2 → ∃ q2, qa = some ⟨q2, 0, none⟩ ∧ W.cell? ⟨q2, a, none⟩ = some (.slice (some ⟨R a, 0, none⟩) (ln m.n a) (ln m.n a)) ∧ W.cell? ⟨R a, j, none⟩ = some (.bool (bit (m2.wd a) j)) ∧ W.frozen? ⟨R a, j, none⟩ = false from fun W m2 ho hn hr => by
    obtain ⟨g', cap', e1, e2⟩ := hr.pcell a (by omega)
    have e3 := (hr.bs a (by omega)).cell j (by rw [hn]; exact hjl)
    have e4 := (hr.bs a (by omega)).froz j
    obtain ⟨rfl, rfl⟩ : qa = some ⟨g', 0, none⟩ ∧ qc = cap' := by
      rw [ho] at e1
      simpa using e1
    rw [hn] at e2
    exact ⟨g', rfl, e2, e3, e4⟩)
  have HBT := hid hbt
  obtain ⟨q2, rfl, _⟩ := RB.out w0 m rfl rfl h.rf
  clear h TB fb hpi hj hbt
  go_enter Try.func46, Try.ntmps46
  go_wp2_with fail
  generalize ((w0.alloc (ro m.o g m.n cp (.slice (some ⟨q2, 0, none⟩) m.o qc))).alloc (opO 8 (c : Int) (a : Int) y l)).alloc roZ = W0 at *
  obtain ⟨t0, t1, t2⟩ := box3 BX.out.t
  obtain ⟨o0, o1, o2, o3, o4⟩ := opbox BX.out.p
  have D0 := hid (show PR E w W0 b B g cp (.slice (some ⟨q2, 0, none⟩) m.o qc) R m ∧ Bx W0 w0.heap.size m.o g m.n cp (.slice (some ⟨q2, 0, none⟩) m.o qc) (opO 8 (c : Int) (a : Int) y l) from ⟨H0.out, BX.out⟩)
  clear H0 BX
  go_wp2_with fail
  refine (Pair_ref g cp (.slice (some ⟨q2, 0, none⟩) m.o qc) m D0.out.1.rf.o8 D0.out.1.rf.n1 W0 (a : Int) (c : Int)).mono ?_
  rintro e W5 ⟨rfl, hK⟩
  have D5 := hid (show PR E w W5 b B g cp (.slice (some ⟨q2, 0, none⟩) m.o qc) R m ∧ Bx W5 w0.heap.size m.o g m.n cp (.slice (some ⟨q2, 0, none⟩) m.o qc) (opO 8 (c : Int) (a : Int) y l) from ⟨D0.out.1.keep hK, D0.out.2.kept hK (fun _ x => x.elim)⟩)
  clear D0 hK t0 t1 t2 o0 o1 o2 o3 o4
  obtain ⟨t0, t1, t2⟩ := box3 (show W5.heap[w0.heap.size]? = _ from D5.out.2.t)
  obtain ⟨o0, o1, o2, o3, o4⟩ := opbox (show W5.heap[w0.heap.size + 1]? = _ from D5.out.2.p)
  rw [HV.out.1]
  have hai : (a : Int) < (m.o : Int) := by omega
  obtain ⟨la, hla⟩ : ∃ la, la = ln m.n a := ⟨_, rfl⟩
  have HLA := hid hla
  have hjla : j < la := by rw [hla]; exact hjl
  have hlab : la ≤ 1024 := by rw [hla]; exact hln
  rw [← hla] at RB
  have hji : (j : Int) < (la : Int) := by omega
  have ho8 := D5.out.1.rf.o8
  clear hla
  go_wp2_with fail
  refine (Flip_any b B m (a : Int) (c : Int) _ D5.out.1.mp).mono ?_
  rintro e W2 ⟨rfl, B', hm, hk, hF⟩
  rw [HV.out.2.1, HV.out.2.2]
  have M2 := hid hm
  have K2 := hid hk
  have F2 := hid hF
  have R2 := hid (D5.out.1.mid hk)
  have B2 := hid (D5.out.2.kept hk (fun y hy => HL.out.1 y hy))
  clear hm hk hF t0 t1 t2 o0 o1 o2 o3 o4
  obtain ⟨t0, t1, t2⟩ := box3 B2.out.t
  obtain ⟨o0, o1, o2, o3, o4⟩ := opbox B2.out.p
  obtain ⟨q3, e3, r1, r2, r3⟩ := RB.out _ m rfl rfl R2.out
  obtain rfl : q2 = q3 := by simpa using e3
  clear e3
  rw [← HBT.out] at r2
  go_wp2_with fail
  go_region
  all_goals
    have R3 := hid (show RefAt (W2.setCell ⟨R a, j, none⟩ (.bool (!bt))).drew g cp (.slice (some ⟨q2, 0, none⟩) m.o qc) R (flipM m (a : Int) (c : Int)) from by
      rw [HFM.out.1]
      exact (R2.out.flip a j ha (by rw [← HLA.out]; exact hjla) (flipW (m.wd a) j) (!bt) HFM.out.2).keep (Kept.refl none' _).drew)
    have KS := hid (show Kept (fun z => z = R a) W2 (W2.setCell ⟨R a, j, none⟩ (.bool (!bt))).drew from ((Kept.refl (fun z => z = R a) W2).setCell (p := ⟨R a, j, none⟩) rfl _).drew)
    have FIN := hid (D5.out.1.bothS M2.out K2.out F2.out (flip_o m _ _) R3.out KS.out (fun z e => .inr (.inr ⟨a, ha, e⟩)))
    have B3 := hid (B2.out.kept KS.out (fun z e => by have := HL.out.2.2.1 (R a) (.inr (.inr ⟨a, ha, rfl⟩)); omega))
    obtain ⟨W3, hW3⟩ : ∃ W3, W3 = (W2.setCell ⟨R a, j, none⟩ (.bool (!bt))).drew := ⟨_, rfl⟩
    rw [← hW3] at R3 FIN B3 ⊢
    clear hW3 KS t0 t1 t2 o0 o1 o2 o3 o4 r1 r2 r3 R2 B2 M2 K2
    obtain ⟨t0, t1, t2⟩ := box3 B3.out.t
    obtain ⟨o0, o1, o2, o3, o4⟩ := opbox B3.out.p
    obtain ⟨q3, e3, r1, r2, r3⟩ := RB.out _ (flipM m (a : Int) (c : Int)) (flip_o m _ _) (flip_n m _ _) R3.out
    obtain rfl : q2 = q3 := by simpa using e3
    rw [show bit ((flipM m (a : Int) (c : Int)).wd a) j = !bt by rw [HFM.out.1]; show bit (upw m.wd a (flipW (m.wd a) j) a) j = _; unfold upw; rw [if_pos rfl, HFM.out.2, if_pos rfl]] at r2
    clear e3
    have y3 : W3.heap[w0.heap.size + 1 + 1]? = some roZ := B3.out.y
    obtain ⟨y0, y1, y2⟩ := boxZ y3
    have fz : ∀ j, W3.frozen? ⟨w0.heap.size + 1 + 1, j, none⟩ = false := fun j => by simp [World.frozen?, y3]
    clear y3
    have NE := hid (show q2 < w0.heap.size ∧ R a < w0.heap.size from ⟨HL.out.2.2.1 q2 (.inr (.inl (by simp [Value.ownBlock]))), HL.out.2.2.1 (R a) (.inr (.inr ⟨a, ha, rfl⟩))⟩)
    go_wp2_with fail
    have kd := (Kept.refl none' W3).drew
    replace t0 := kd.cell (fun x => x) t0
    replace t1 := kd.cell (fun x => x) t1
    replace t2 := kd.cell (fun x => x) t2
    replace o2 := kd.cell (fun x => x) o2
    replace r1 := kd.cell (fun x => x) r1
    replace r2 := kd.cell (fun x => x) r2
    clear kd o0 o1 o3 o4
    go_region_held3 (fun w' => w'.cell? ⟨w0.heap.size, 0, none⟩ = some (.int .i64 (m.o : Int)) ∧ w'.cell? ⟨w0.heap.size, 1, none⟩ = some (.slice (adr g) m.n cp) ∧ w'.cell? ⟨w0.heap.size, 2, none⟩ = some (.slice (some ⟨q2, 0, none⟩) m.o qc) ∧ w'.cell? ⟨w0.heap.size + 1, 2, none⟩ = some (.int .i64 (a : Int)) ∧ w'.cell? ⟨q2, a, none⟩ = some (.slice (some ⟨R a, 0, none⟩) la la) ∧ w'.cell? ⟨R a, j, none⟩ = some (.bool (!bt))) (first | with_reducible exact ⟨t0, t1, t2, o2, r1, r2⟩ | with_reducible exact ⟨setMd_cell (by omega) t0, setMd_cell (by omega) t1, setMd_cell (by omega) t2, setMd_cell (by omega) o2, setMd_cell (by have := NE.out.1; omega) r1, setMd_cell (by have := NE.out.2; omega) r2⟩) (fail)
    all_goals
      go_wp2_with fail
      refine ⟨rfl, .tuple #[rv m.o g m.n cp (.slice (some ⟨q2, 0, none⟩) m.o qc), .bool true], by simp [results, Try.results46, go_sem, y0, y1, y2], _, rfl, ?_⟩
      refine ⟨flipM m (a : Int) (c : Int), B', g, cp, .slice (some ⟨q2, 0, none⟩) m.o qc, R, by rw [flip_o, flip_n], ?_⟩
      refine (FIN.out.setY (w0 := w0) (flip_o m _ _) F2.out (heap_lt D5.out.2.y) (by have := HL.out.2.2.2.1; omega) (fun X o e => by have := HL.out.2.2.2.2 X o e; omega) (fun x hx => ?_) (fun x hx => ?_) _ _ _).keep (Kept.refl none' _).drew
      · have := HL.out.1 x hx; omega
      · have := HL.out.2.2.1 x hx; omega
theorem played_8 (b : Nat) (B : Bs) (g : Option Nat) (cp : Nat) (q : Value) (R : Nat → Nat) (m : Mp) (p x y : Int) (l : Bool) (E : Nat → Obj → Prop) (w w0 : World) (h : PR E w w0 b B g cp q R m) :
    Calls Try.prog 46 #[.pointer (some ⟨b, 0, none⟩), rv m.o g m.n cp q, opV 8 p x y l] w0 fun e w' => ∃ v', e = .returned (.tuple #[v', .bool true]) ∧ PRS E w w' b v' := by
  cases hp : hasP m x p with
  | false => exact played_8no b B g cp q R m p x y l E w w0 h hp
  | true =>
    simp only [hasP, Bool.and_eq_true] at hp
    obtain ⟨a, rfl, ha⟩ := inR_nat hp.1
    obtain ⟨c, rfl, hc⟩ := inR_nat hp.2
    exact played_8yes b B g cp q R m c a y l E w w0 h a c rfl rfl ha hc
end Go.Proofs.Ytbhheimedbfmeaa
