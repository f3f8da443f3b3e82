/- played: Run. played: Slab. played: Own. played: Chain. played: First. -/
import Derived.Test.YtbhheimedbfmeaaPlA
namespace Go.Proofs.Ytbhheimedbfmeaa
open Go.RowKit
set_option linter.unusedVariables false

set_option maxRecDepth 8000 in
set_option maxHeartbeats 8000000 in
theorem played_3 (b : Nat) (B : Bs) (g : Option Nat) (cp : Nat) (q : Value) (R : Nat → Nat) (m : Mp) (p x y : Int) (l : Bool) (E : Nat → Obj → Prop) (w w0 : World) (h : PR E w w0 b B g cp q R m) :
    Calls Try.prog 46 #[.pointer (some ⟨b, 0, none⟩), rv m.o g m.n cp q, opV 3 p x y l] w0 fun e w' => ∃ v', e = .returned (.tuple #[v', .bool true]) ∧ PRS E w w' b v' := by
  obtain ⟨qa, qc, rfl⟩ := h.rf.val
  have TB := three_box w0 (ro m.o g m.n cp (.slice qa m.o qc)) (opO 3 p x y l) roZ
  have BX := hid (show Bx _ w0.heap.size m.o g m.n cp (.slice qa m.o qc) (opO 3 p x y l) from ⟨TB.2.1, TB.2.2.1, TB.2.2.2⟩)
  have H0 := hid (h.keep TB.1)
  have HL := hid (show (∀ y, mown b B m.o y → y < w0.heap.size) ∧ (∀ y, onlyG g y → y < w0.heap.size) ∧ (∀ y, rown g (.slice qa m.o qc) R m.o y → y < w0.heap.size) ∧ w.heap.size ≤ w0.heap.size ∧ (∀ X o, E X o → X < w0.heap.size) from ⟨fun y hy => h.mp.own_lt y hy, fun y hy => h.rf.own_lt y (.inl hy), fun y hy => h.rf.own_lt y hy, h.kp.size, fun X o e => heap_lt (h.ex X o e).2.2⟩)
  clear h TB
  go_enter Try.func46, Try.ntmps46
  go_wp2_with fail
  generalize ((w0.alloc (ro m.o g m.n cp (.slice qa m.o qc))).alloc (opO 3 p x y l)).alloc roZ = W0 at *
  obtain ⟨t0, t1, t2⟩ := box3 BX.out.t
  obtain ⟨o0, o1, o2, o3, o4⟩ := opbox BX.out.p
  have D0 := hid (show PR E w W0.drew b B g cp (.slice qa m.o qc) R m ∧ Bx W0.drew w0.heap.size m.o g m.n cp (.slice qa m.o qc) (opO 3 p x y l) from ⟨H0.out.keep (Kept.refl none' _).drew, BX.out.kept (Kept.refl none' _).drew (fun _ x => x.elim)⟩)
  go_wp2_with fail
  clear t0 t1 t2 o0 o1 o2 o3 o4
  obtain ⟨t0, t1, t2⟩ := box3 D0.out.2.t
  obtain ⟨o0, o1, o2, o3, o4⟩ := opbox D0.out.2.p
  go_region_held3 (fun w' => w'.cell? ⟨w0.heap.size, 0, none⟩ = some (.int .i64 (m.o : Int)) ∧ w'.cell? ⟨w0.heap.size, 1, none⟩ = some (.slice (adr g) m.n cp) ∧ w'.cell? ⟨w0.heap.size, 2, none⟩ = some (.slice qa m.o qc) ∧ w'.cell? ⟨w0.heap.size + 1, 0, none⟩ = some (.int .i64 3) ∧ w'.cell? ⟨w0.heap.size + 1, 1, none⟩ = some (.int .i64 p) ∧ w'.cell? ⟨w0.heap.size + 1, 2, none⟩ = some (.int .i64 x) ∧ w'.cell? ⟨w0.heap.size + 1, 3, none⟩ = some (.int .i64 y) ∧ w'.cell? ⟨w0.heap.size + 1, 4, none⟩ = some (.bool l)) (first | with_reducible exact ⟨t0, t1, t2, o0, o1, o2, o3, o4⟩ | with_reducible exact ⟨setM_cell (by omega) t0, setM_cell (by omega) t1, setM_cell (by omega) t2, setM_cell (by omega) o0, setM_cell (by omega) o1, setM_cell (by omega) o2, setM_cell (by omega) o3, setM_cell (by omega) o4⟩) (first
    | (go_at_call 12; refine (Run_any b B m p x y _ D0.out.1.mp).mono ?_; rintro e W1 ⟨rfl, hm, hk⟩; have hF := From.refl W0.drew b B m.o; have B1 := hid (D0.out.2.kept hk (fun y hy => HL.out.1 y hy)); have R1 := hid (D0.out.1.mid hk); have M1 := hid hm; have K1 := hid hk; have F1 := hid hF; clear hm hk hF t0 t1 t2 o0 o1 o2 o3 o4; obtain ⟨t0, t1, t2⟩ := box3 B1.out.t; obtain ⟨o0, o1, o2, o3, o4⟩ := opbox B1.out.p)
    | (go_at_call 59; refine (Run_ref g cp (.slice qa m.o qc) R m _ R1.out H0.out.mp.dv p x y).mono ?_; rintro e W2 ⟨rfl, hr, hk⟩; have FIN := hid (D0.out.1.both M1.out K1.out F1.out (run_o m p x y) hr hk); have B2 := hid (B1.out.kept hk (fun y hy => HL.out.2.1 y hy)); clear hr hk t0 t1 t2 o0 o1 o2 o3 o4; obtain ⟨t0, t1, t2⟩ := box3 B2.out.t; obtain ⟨o0, o1, o2, o3, o4⟩ := opbox B2.out.p; have y3 : W2.heap[w0.heap.size + 1 + 1]? = some roZ := B2.out.y; obtain ⟨y0, y1, y2⟩ := boxZ y3; have fz : ∀ j, W2.frozen? ⟨w0.heap.size + 1 + 1, j, none⟩ = false := (fun j => by simp [World.frozen?, y3]); clear y3))
  all_goals
    go_wp2_with fail
    refine ⟨rfl, .tuple #[rv m.o g m.n cp (.slice qa m.o qc), .bool true], by simp [results, Try.results46, go_sem, y0, y1, y2], _, rfl, ?_⟩
    refine ⟨runM m p x y, B, g, cp, .slice qa m.o qc, R, by rw [run_o, run_n], ?_⟩
    refine FIN.out.setY (w0 := w0) (run_o m p x y) F1.out (heap_lt D0.out.2.y) (by have := HL.out.2.2.2.1; omega) (fun X o e => by have := HL.out.2.2.2.2 X o e; omega) (fun x hx => ?_) (fun x hx => ?_) _ _ _
    · have := HL.out.1 x hx; omega
    · have := HL.out.2.2.1 x hx; omega
set_option maxRecDepth 8000 in
set_option maxHeartbeats 8000000 in
theorem played_4 (b : Nat) (B : Bs) (g : Option Nat) (cp : Nat) (q : Value) (R : Nat → Nat) (m : Mp) (p x y : Int) (l : Bool) (E : Nat → Obj → Prop) (w w0 : World) (h : PR E w w0 b B g cp q R m) :
    Calls Try.prog 46 #[.pointer (some ⟨b, 0, none⟩), rv m.o g m.n cp q, opV 4 p x y l] w0 fun e w' => ∃ v', e = .returned (.tuple #[v', .bool true]) ∧ PRS E w w' b v' := by
  obtain ⟨qa, qc, rfl⟩ := h.rf.val
  have TB := three_box w0 (ro m.o g m.n cp (.slice qa m.o qc)) (opO 4 p x y l) roZ
  have BX := hid (show Bx _ w0.heap.size m.o g m.n cp (.slice qa m.o qc) (opO 4 p x y l) from ⟨TB.2.1, TB.2.2.1, TB.2.2.2⟩)
  have H0 := hid (h.keep TB.1)
  have HL := hid (show (∀ y, mown b B m.o y → y < w0.heap.size) ∧ (∀ y, onlyG g y → y < w0.heap.size) ∧ (∀ y, rown g (.slice qa m.o qc) R m.o y → y < w0.heap.size) ∧ w.heap.size ≤ w0.heap.size ∧ (∀ X o, E X o → X < w0.heap.size) from ⟨fun y hy => h.mp.own_lt y hy, fun y hy => h.rf.own_lt y (.inl hy), fun y hy => h.rf.own_lt y hy, h.kp.size, fun X o e => heap_lt (h.ex X o e).2.2⟩)
  clear h TB
  go_enter Try.func46, Try.ntmps46
  go_wp2_with fail
  generalize ((w0.alloc (ro m.o g m.n cp (.slice qa m.o qc))).alloc (opO 4 p x y l)).alloc roZ = W0 at *
  obtain ⟨t0, t1, t2⟩ := box3 BX.out.t
  obtain ⟨o0, o1, o2, o3, o4⟩ := opbox BX.out.p
  have D0 := hid (show PR E w W0.drew b B g cp (.slice qa m.o qc) R m ∧ Bx W0.drew w0.heap.size m.o g m.n cp (.slice qa m.o qc) (opO 4 p x y l) from ⟨H0.out.keep (Kept.refl none' _).drew, BX.out.kept (Kept.refl none' _).drew (fun _ x => x.elim)⟩)
  go_wp2_with fail
  clear t0 t1 t2 o0 o1 o2 o3 o4
  obtain ⟨t0, t1, t2⟩ := box3 D0.out.2.t
  obtain ⟨o0, o1, o2, o3, o4⟩ := opbox D0.out.2.p
  go_region_held3 (fun w' => w'.cell? ⟨w0.heap.size, 0, none⟩ = some (.int .i64 (m.o : Int)) ∧ w'.cell? ⟨w0.heap.size, 1, none⟩ = some (.slice (adr g) m.n cp) ∧ w'.cell? ⟨w0.heap.size, 2, none⟩ = some (.slice qa m.o qc) ∧ w'.cell? ⟨w0.heap.size + 1, 0, none⟩ = some (.int .i64 4) ∧ w'.cell? ⟨w0.heap.size + 1, 1, none⟩ = some (.int .i64 p) ∧ w'.cell? ⟨w0.heap.size + 1, 2, none⟩ = some (.int .i64 x) ∧ w'.cell? ⟨w0.heap.size + 1, 3, none⟩ = some (.int .i64 y) ∧ w'.cell? ⟨w0.heap.size + 1, 4, none⟩ = some (.bool l)) (first | with_reducible exact ⟨t0, t1, t2, o0, o1, o2, o3, o4⟩ | with_reducible exact ⟨setM_cell (by omega) t0, setM_cell (by omega) t1, setM_cell (by omega) t2, setM_cell (by omega) o0, setM_cell (by omega) o1, setM_cell (by omega) o2, setM_cell (by omega) o3, setM_cell (by omega) o4⟩) (first
    | (go_at_call 15; refine (Slab_any b B m p x _ D0.out.1.mp).mono ?_; rintro e W1 ⟨rfl, B', hm, hk, hF⟩; have B1 := hid (D0.out.2.kept hk (fun y hy => HL.out.1 y hy)); have R1 := hid (D0.out.1.mid hk); have M1 := hid hm; have K1 := hid hk; have F1 := hid hF; clear hm hk hF t0 t1 t2 o0 o1 o2 o3 o4; obtain ⟨t0, t1, t2⟩ := box3 B1.out.t; obtain ⟨o0, o1, o2, o3, o4⟩ := opbox B1.out.p)
    | (go_at_call 60; refine (Slab_ref g cp (.slice qa m.o qc) R m _ R1.out p x).mono ?_; rintro e W2 ⟨rfl, hr, hk⟩; have FIN := hid (D0.out.1.both M1.out K1.out F1.out (slab_o m p x) hr hk); have B2 := hid (B1.out.kept hk (fun y hy => HL.out.2.1 y hy)); clear hr hk t0 t1 t2 o0 o1 o2 o3 o4; obtain ⟨t0, t1, t2⟩ := box3 B2.out.t; obtain ⟨o0, o1, o2, o3, o4⟩ := opbox B2.out.p; have y3 : W2.heap[w0.heap.size + 1 + 1]? = some roZ := B2.out.y; obtain ⟨y0, y1, y2⟩ := boxZ y3; have fz : ∀ j, W2.frozen? ⟨w0.heap.size + 1 + 1, j, none⟩ = false := (fun j => by simp [World.frozen?, y3]); clear y3))
  all_goals
    go_wp2_with fail
    refine ⟨rfl, .tuple #[rv m.o g m.n cp (.slice qa m.o qc), .bool true], by simp [results, Try.results46, go_sem, y0, y1, y2], _, rfl, ?_⟩
    refine ⟨slabM m p x, B', g, cp, .slice qa m.o qc, R, by rw [slab_o, slab_n], ?_⟩
    refine FIN.out.setY (w0 := w0) (slab_o m p x) F1.out (heap_lt D0.out.2.y) (by have := HL.out.2.2.2.1; omega) (fun X o e => by have := HL.out.2.2.2.2 X o e; omega) (fun x hx => ?_) (fun x hx => ?_) _ _ _
    · have := HL.out.1 x hx; omega
    · have := HL.out.2.2.1 x hx; omega
set_option maxRecDepth 8000 in
set_option maxHeartbeats 8000000 in
theorem played_5 (b : Nat) (B : Bs) (g : Option Nat) (cp : Nat) (q : Value) (R : Nat → Nat) (m : Mp) (p x y : Int) (l : Bool) (E : Nat → Obj → Prop) (w w0 : World) (h : PR E w w0 b B g cp q R m) :
    Calls Try.prog 46 #[.pointer (some ⟨b, 0, none⟩), rv m.o g m.n cp q, opV 5 p x y l] w0 fun e w' => ∃ v', e = .returned (.tuple #[v', .bool true]) ∧ PRS E w w' b v' := by
  obtain ⟨qa, qc, rfl⟩ := h.rf.val
  have TB := three_box w0 (ro m.o g m.n cp (.slice qa m.o qc)) (opO 5 p x y l) roZ
  have BX := hid (show Bx _ w0.heap.size m.o g m.n cp (.slice qa m.o qc) (opO 5 p x y l) from ⟨TB.2.1, TB.2.2.1, TB.2.2.2⟩)
  have H0 := hid (h.keep TB.1)
  have HL := hid (show (∀ y, mown b B m.o y → y < w0.heap.size) ∧ (∀ y, onlyG g y → y < w0.heap.size) ∧ (∀ y, rown g (.slice qa m.o qc) R m.o y → y < w0.heap.size) ∧ w.heap.size ≤ w0.heap.size ∧ (∀ X o, E X o → X < w0.heap.size) from ⟨fun y hy => h.mp.own_lt y hy, fun y hy => h.rf.own_lt y (.inl hy), fun y hy => h.rf.own_lt y hy, h.kp.size, fun X o e => heap_lt (h.ex X o e).2.2⟩)
  clear h TB
  go_enter Try.func46, Try.ntmps46
  go_wp2_with fail
  generalize ((w0.alloc (ro m.o g m.n cp (.slice qa m.o qc))).alloc (opO 5 p x y l)).alloc roZ = W0 at *
  obtain ⟨t0, t1, t2⟩ := box3 BX.out.t
  obtain ⟨o0, o1, o2, o3, o4⟩ := opbox BX.out.p
  have D0 := hid (show PR E w W0.drew b B g cp (.slice qa m.o qc) R m ∧ Bx W0.drew w0.heap.size m.o g m.n cp (.slice qa m.o qc) (opO 5 p x y l) from ⟨H0.out.keep (Kept.refl none' _).drew, BX.out.kept (Kept.refl none' _).drew (fun _ x => x.elim)⟩)
  go_wp2_with fail
  clear t0 t1 t2 o0 o1 o2 o3 o4
  obtain ⟨t0, t1, t2⟩ := box3 D0.out.2.t
  obtain ⟨o0, o1, o2, o3, o4⟩ := opbox D0.out.2.p
  go_region_held3 (fun w' => w'.cell? ⟨w0.heap.size, 0, none⟩ = some (.int .i64 (m.o : Int)) ∧ w'.cell? ⟨w0.heap.size, 1, none⟩ = some (.slice (adr g) m.n cp) ∧ w'.cell? ⟨w0.heap.size, 2, none⟩ = some (.slice qa m.o qc) ∧ w'.cell? ⟨w0.heap.size + 1, 0, none⟩ = some (.int .i64 5) ∧ w'.cell? ⟨w0.heap.size + 1, 1, none⟩ = some (.int .i64 p) ∧ w'.cell? ⟨w0.heap.size + 1, 2, none⟩ = some (.int .i64 x) ∧ w'.cell? ⟨w0.heap.size + 1, 3, none⟩ = some (.int .i64 y) ∧ w'.cell? ⟨w0.heap.size + 1, 4, none⟩ = some (.bool l)) (first | with_reducible exact ⟨t0, t1, t2, o0, o1, o2, o3, o4⟩ | with_reducible exact ⟨setM_cell (by omega) t0, setM_cell (by omega) t1, setM_cell (by omega) t2, setM_cell (by omega) o0, setM_cell (by omega) o1, setM_cell (by omega) o2, setM_cell (by omega) o3, setM_cell (by omega) o4⟩) (first
    | (go_at_call 16; refine (Own_any b B m p x l _ D0.out.1.mp).mono ?_; rintro e W1 ⟨rfl, B', hm, hk, hF⟩; have B1 := hid (D0.out.2.kept hk (fun y hy => HL.out.1 y hy)); have R1 := hid (D0.out.1.mid hk); have M1 := hid hm; have K1 := hid hk; have F1 := hid hF; clear hm hk hF t0 t1 t2 o0 o1 o2 o3 o4; obtain ⟨t0, t1, t2⟩ := box3 B1.out.t; obtain ⟨o0, o1, o2, o3, o4⟩ := opbox B1.out.p)
    | (go_at_call 61; refine (Own_ref g cp (.slice qa m.o qc) R m _ R1.out H0.out.mp.ok p x l).mono ?_; rintro e W2 ⟨rfl, hr, hk⟩; have FIN := hid (D0.out.1.both M1.out K1.out F1.out (own_o m p x l) hr hk); have B2 := hid (B1.out.kept hk (fun y hy => HL.out.2.1 y hy)); clear hr hk t0 t1 t2 o0 o1 o2 o3 o4; obtain ⟨t0, t1, t2⟩ := box3 B2.out.t; obtain ⟨o0, o1, o2, o3, o4⟩ := opbox B2.out.p; have y3 : W2.heap[w0.heap.size + 1 + 1]? = some roZ := B2.out.y; obtain ⟨y0, y1, y2⟩ := boxZ y3; have fz : ∀ j, W2.frozen? ⟨w0.heap.size + 1 + 1, j, none⟩ = false := (fun j => by simp [World.frozen?, y3]); clear y3))
  all_goals
    go_wp2_with fail
    refine ⟨rfl, .tuple #[rv m.o g m.n cp (.slice qa m.o qc), .bool true], by simp [results, Try.results46, go_sem, y0, y1, y2], _, rfl, ?_⟩
    refine ⟨ownM m p x l, B', g, cp, .slice qa m.o qc, R, by rw [own_o, own_n], ?_⟩
    refine FIN.out.setY (w0 := w0) (own_o m p x l) F1.out (heap_lt D0.out.2.y) (by have := HL.out.2.2.2.1; omega) (fun X o e => by have := HL.out.2.2.2.2 X o e; omega) (fun x hx => ?_) (fun x hx => ?_) _ _ _
    · have := HL.out.1 x hx; omega
    · have := HL.out.2.2.1 x hx; omega
set_option maxRecDepth 8000 in
set_option maxHeartbeats 8000000 in
theorem played_6 (b : Nat) (B : Bs) (g : Option Nat) (cp : Nat) (q : Value) (R : Nat → Nat) (m : Mp) (p x y : Int) (l : Bool) (E : Nat → Obj → Prop) (w w0 : World) (h : PR E w w0 b B g cp q R m) :
    Calls Try.prog 46 #[.pointer (some ⟨b, 0, none⟩), rv m.o g m.n cp q, opV 6 p x y l] w0 fun e w' => ∃ v', e = .returned (.tuple #[v', .bool true]) ∧ PRS E w w' b v' := by
  obtain ⟨qa, qc, rfl⟩ := h.rf.val
  have TB := three_box w0 (ro m.o g m.n cp (.slice qa m.o qc)) (opO 6 p x y l) roZ
  have BX := hid (show Bx _ w0.heap.size m.o g m.n cp (.slice qa m.o qc) (opO 6 p x y l) from ⟨TB.2.1, TB.2.2.1, TB.2.2.2⟩)
  have H0 := hid (h.keep TB.1)
  have HL := hid (show (∀ y, mown b B m.o y → y < w0.heap.size) ∧ (∀ y, onlyG g y → y < w0.heap.size) ∧ (∀ y, rown g (.slice qa m.o qc) R m.o y → y < w0.heap.size) ∧ w.heap.size ≤ w0.heap.size ∧ (∀ X o, E X o → X < w0.heap.size) from ⟨fun y hy => h.mp.own_lt y hy, fun y hy => h.rf.own_lt y (.inl hy), fun y hy => h.rf.own_lt y hy, h.kp.size, fun X o e => heap_lt (h.ex X o e).2.2⟩)
  clear h TB
  go_enter Try.func46, Try.ntmps46
  go_wp2_with fail
  generalize ((w0.alloc (ro m.o g m.n cp (.slice qa m.o qc))).alloc (opO 6 p x y l)).alloc roZ = W0 at *
  obtain ⟨t0, t1, t2⟩ := box3 BX.out.t
  obtain ⟨o0, o1, o2, o3, o4⟩ := opbox BX.out.p
  have D0 := hid (show PR E w W0.drew b B g cp (.slice qa m.o qc) R m ∧ Bx W0.drew w0.heap.size m.o g m.n cp (.slice qa m.o qc) (opO 6 p x y l) from ⟨H0.out.keep (Kept.refl none' _).drew, BX.out.kept (Kept.refl none' _).drew (fun _ x => x.elim)⟩)
  go_wp2_with fail
  clear t0 t1 t2 o0 o1 o2 o3 o4
  obtain ⟨t0, t1, t2⟩ := box3 D0.out.2.t
  obtain ⟨o0, o1, o2, o3, o4⟩ := opbox D0.out.2.p
  go_region_held3 (fun w' => w'.cell? ⟨w0.heap.size, 0, none⟩ = some (.int .i64 (m.o : Int)) ∧ w'.cell? ⟨w0.heap.size, 1, none⟩ = some (.slice (adr g) m.n cp) ∧ w'.cell? ⟨w0.heap.size, 2, none⟩ = some (.slice qa m.o qc) ∧ w'.cell? ⟨w0.heap.size + 1, 0, none⟩ = some (.int .i64 6) ∧ w'.cell? ⟨w0.heap.size + 1, 1, none⟩ = some (.int .i64 p) ∧ w'.cell? ⟨w0.heap.size + 1, 2, none⟩ = some (.int .i64 x) ∧ w'.cell? ⟨w0.heap.size + 1, 3, none⟩ = some (.int .i64 y) ∧ w'.cell? ⟨w0.heap.size + 1, 4, none⟩ = some (.bool l)) (first | with_reducible exact ⟨t0, t1, t2, o0, o1, o2, o3, o4⟩ | with_reducible exact ⟨setM_cell (by omega) t0, setM_cell (by omega) t1, setM_cell (by omega) t2, setM_cell (by omega) o0, setM_cell (by omega) o1, setM_cell (by omega) o2, setM_cell (by omega) o3, setM_cell (by omega) o4⟩) (first
    | (go_at_call 17; refine (Chain_any b B m p x y _ D0.out.1.mp).mono ?_; rintro e W1 ⟨rfl, B', hm, hk, hF⟩; have B1 := hid (D0.out.2.kept hk (fun y hy => HL.out.1 y hy)); have R1 := hid (D0.out.1.mid hk); have M1 := hid hm; have K1 := hid hk; have F1 := hid hF; clear hm hk hF t0 t1 t2 o0 o1 o2 o3 o4; obtain ⟨t0, t1, t2⟩ := box3 B1.out.t; obtain ⟨o0, o1, o2, o3, o4⟩ := opbox B1.out.p)
    | (go_at_call 62; refine (Chain_ref g cp (.slice qa m.o qc) R m _ R1.out H0.out.mp.ok p x y).mono ?_; rintro e W2 ⟨rfl, hr, hk⟩; have FIN := hid (D0.out.1.both M1.out K1.out F1.out (chain_o m p x y) hr hk); have B2 := hid (B1.out.kept hk (fun y hy => HL.out.2.1 y hy)); clear hr hk t0 t1 t2 o0 o1 o2 o3 o4; obtain ⟨t0, t1, t2⟩ := box3 B2.out.t; obtain ⟨o0, o1, o2, o3, o4⟩ := opbox B2.out.p; have y3 : W2.heap[w0.heap.size + 1 + 1]? = some roZ := B2.out.y; obtain ⟨y0, y1, y2⟩ := boxZ y3; have fz : ∀ j, W2.frozen? ⟨w0.heap.size + 1 + 1, j, none⟩ = false := (fun j => by simp [World.frozen?, y3]); clear y3))
  all_goals
    go_wp2_with fail
    refine ⟨rfl, .tuple #[rv m.o g m.n cp (.slice qa m.o qc), .bool true], by simp [results, Try.results46, go_sem, y0, y1, y2], _, rfl, ?_⟩
    refine ⟨chainM m p x y, B', g, cp, .slice qa m.o qc, R, by rw [chain_o, chain_n], ?_⟩
    refine FIN.out.setY (w0 := w0) (chain_o m p x y) F1.out (heap_lt D0.out.2.y) (by have := HL.out.2.2.2.1; omega) (fun X o e => by have := HL.out.2.2.2.2 X o e; omega) (fun x hx => ?_) (fun x hx => ?_) _ _ _
    · have := HL.out.1 x hx; omega
    · have := HL.out.2.2.1 x hx; omega
set_option maxRecDepth 8000 in
set_option maxHeartbeats 8000000 in
theorem played_7 (b : Nat) (B : Bs) (g : Option Nat) (cp : Nat) (q : Value) (R : Nat → Nat) (m : Mp) (p x y : Int) (l : Bool) (E : Nat → Obj → Prop) (w w0 : World) (h : PR E w w0 b B g cp q R m) :
    Calls Try.prog 46 #[.pointer (some ⟨b, 0, none⟩), rv m.o g m.n cp q, opV 7 p x y l] w0 fun e w' => ∃ v', e = .returned (.tuple #[v', .bool true]) ∧ PRS E w w' b v' := by
  obtain ⟨qa, qc, rfl⟩ := h.rf.val
  have TB := three_box w0 (ro m.o g m.n cp (.slice qa m.o qc)) (opO 7 p x y l) roZ
  have BX := hid (show Bx _ w0.heap.size m.o g m.n cp (.slice qa m.o qc) (opO 7 p x y l) from ⟨TB.2.1, TB.2.2.1, TB.2.2.2⟩)
  have H0 := hid (h.keep TB.1)
  have HL := hid (show (∀ y, mown b B m.o y → y < w0.heap.size) ∧ (∀ y, onlyG g y → y < w0.heap.size) ∧ (∀ y, rown g (.slice qa m.o qc) R m.o y → y < w0.heap.size) ∧ w.heap.size ≤ w0.heap.size ∧ (∀ X o, E X o → X < w0.heap.size) from ⟨fun y hy => h.mp.own_lt y hy, fun y hy => h.rf.own_lt y (.inl hy), fun y hy => h.rf.own_lt y hy, h.kp.size, fun X o e => heap_lt (h.ex X o e).2.2⟩)
  clear h TB
  go_enter Try.func46, Try.ntmps46
  go_wp2_with fail
  generalize ((w0.alloc (ro m.o g m.n cp (.slice qa m.o qc))).alloc (opO 7 p x y l)).alloc roZ = W0 at *
  obtain ⟨t0, t1, t2⟩ := box3 BX.out.t
  obtain ⟨o0, o1, o2, o3, o4⟩ := opbox BX.out.p
  have D0 := hid (show PR E w W0.drew b B g cp (.slice qa m.o qc) R m ∧ Bx W0.drew w0.heap.size m.o g m.n cp (.slice qa m.o qc) (opO 7 p x y l) from ⟨H0.out.keep (Kept.refl none' _).drew, BX.out.kept (Kept.refl none' _).drew (fun _ x => x.elim)⟩)
  go_wp2_with fail
  clear t0 t1 t2 o0 o1 o2 o3 o4
  obtain ⟨t0, t1, t2⟩ := box3 D0.out.2.t
  obtain ⟨o0, o1, o2, o3, o4⟩ := opbox D0.out.2.p
  go_region_held3 (fun w' => w'.cell? ⟨w0.heap.size, 0, none⟩ = some (.int .i64 (m.o : Int)) ∧ w'.cell? ⟨w0.heap.size, 1, none⟩ = some (.slice (adr g) m.n cp) ∧ w'.cell? ⟨w0.heap.size, 2, none⟩ = some (.slice qa m.o qc) ∧ w'.cell? ⟨w0.heap.size + 1, 0, none⟩ = some (.int .i64 7) ∧ w'.cell? ⟨w0.heap.size + 1, 1, none⟩ = some (.int .i64 p) ∧ w'.cell? ⟨w0.heap.size + 1, 2, none⟩ = some (.int .i64 x) ∧ w'.cell? ⟨w0.heap.size + 1, 3, none⟩ = some (.int .i64 y) ∧ w'.cell? ⟨w0.heap.size + 1, 4, none⟩ = some (.bool l)) (first | with_reducible exact ⟨t0, t1, t2, o0, o1, o2, o3, o4⟩ | with_reducible exact ⟨setM_cell (by omega) t0, setM_cell (by omega) t1, setM_cell (by omega) t2, setM_cell (by omega) o0, setM_cell (by omega) o1, setM_cell (by omega) o2, setM_cell (by omega) o3, setM_cell (by omega) o4⟩) (first
    | (go_at_call 18; refine (First_any b B m p x _ D0.out.1.mp).mono ?_; rintro e W1 ⟨rfl, B', hm, hk, hF⟩; have B1 := hid (D0.out.2.kept hk (fun y hy => HL.out.1 y hy)); have R1 := hid (D0.out.1.mid hk); have M1 := hid hm; have K1 := hid hk; have F1 := hid hF; clear hm hk hF t0 t1 t2 o0 o1 o2 o3 o4; obtain ⟨t0, t1, t2⟩ := box3 B1.out.t; obtain ⟨o0, o1, o2, o3, o4⟩ := opbox B1.out.p)
    | (go_at_call 63; refine (First_ref g cp (.slice qa m.o qc) R m _ R1.out H0.out.mp.ok p x).mono ?_; rintro e W2 ⟨rfl, hr, hk⟩; have FIN := hid (D0.out.1.both M1.out K1.out F1.out (first_o m p x) hr hk); have B2 := hid (B1.out.kept hk (fun y hy => HL.out.2.1 y hy)); clear hr hk t0 t1 t2 o0 o1 o2 o3 o4; obtain ⟨t0, t1, t2⟩ := box3 B2.out.t; obtain ⟨o0, o1, o2, o3, o4⟩ := opbox B2.out.p; have y3 : W2.heap[w0.heap.size + 1 + 1]? = some roZ := B2.out.y; obtain ⟨y0, y1, y2⟩ := boxZ y3; have fz : ∀ j, W2.frozen? ⟨w0.heap.size + 1 + 1, j, none⟩ = false := (fun j => by simp [World.frozen?, y3]); clear y3))
  all_goals
    go_wp2_with fail
    refine ⟨rfl, .tuple #[rv m.o g m.n cp (.slice qa m.o qc), .bool true], by simp [results, Try.results46, go_sem, y0, y1, y2], _, rfl, ?_⟩
    refine ⟨firstM m p x, B', g, cp, .slice qa m.o qc, R, by rw [first_o, first_n], ?_⟩
    refine FIN.out.setY (w0 := w0) (first_o m p x) F1.out (heap_lt D0.out.2.y) (by have := HL.out.2.2.2.1; omega) (fun X o e => by have := HL.out.2.2.2.2 X o e; omega) (fun x hx => ?_) (fun x hx => ?_) _ _ _
    · have := HL.out.1 x hx; omega
    · have := HL.out.2.2.1 x hx; omega
end Go.Proofs.Ytbhheimedbfmeaa
