/- played: Head, Grow, Shrink. played: Shrink. played: Plain. -/
import Derived.Test.YtbhheimedbfmeaaPlA
import Derived.Test.YtbhheimedbfmeaaPlI
import Derived.Test.YtbhheimedbfmeaaSam
namespace Go.Proofs.Ytbhheimedbfmeaa
open Go.RowKit
set_option linter.unusedVariables false

theorem Head_any (b : Nat) (B : Bs) (m : Mp) (i : Int) (w : World) (h : MapAt w b B m) :
    Calls Try.prog 14 #[.pointer (some ⟨b, 0, none⟩), .int .i64 i] w fun e w' => e = .returned (.int .i64 (headV m i)) ∧ Kept none' w w' := by
  cases hi : inR m.n i with
  | false =>
    rw [show headV m i = -1 by simp [headV, hi]]
    refine (Head_out b B m i w h hi).mono ?_
    rintro e w' ⟨rfl, rfl⟩
    exact ⟨rfl, Kept.refl _ _⟩
  | true =>
    obtain ⟨k, rfl, hk⟩ := inR_nat hi
    obtain ⟨o, ho⟩ : ∃ o : Nat, (m.pg k).od = o := Int.eq_ofNat_of_zero_le (h.ok k hk).o0
    rw [show headV m (k : Int) = ((k / 2 ^ o * 2 ^ o : Nat) : Int) by simp [headV, hi, ho]]
    refine (Head_in b B m k o w h hk ho).mono ?_
    rintro e w' ⟨rfl, rfl⟩
    exact ⟨rfl, Kept.refl _ _⟩
/-- A call that answers another map of the document's. -/
theorem PR.both2 {E : Nat → Obj → Prop} {w W W1 W2 : World} {b : Nat} {B B' : Bs} {g g' : Option Nat} {cp cp' : Nat} {q q' : Value} {R R' : Nat → Nat} {m m' : Mp} (h : PR E w W b B g cp q R m) (hm : MapAt W1 b B' m') (hk1 : Kept (mown b B m.o) W W1) (hF : From W b B B' m.o) (ho : m'.o = m.o) (hr : RefAt W2 g' cp' q' R' m') (hn : ∀ y, rown g' q' R' m'.o y → rown g q R m.o y ∨ W1.heap.size ≤ y) (hk2 : Kept none' W1 W2) : PR E w W2 b B' g' cp' q' R' m' := by
  have lt : ∀ x, rown g q R m.o x → x < W.heap.size := fun x hx => h.rf.own_lt x hx
  have apm : ∀ x, mown b B' m.o x → ¬ rown g q R m.o x := fun x hx hy => (hF x hx).elim (fun e => h.ap x e hy) (fun e => by have := lt x hy; omega)
  have k1 : Kept none' w W1 := h.kp.trans hk1 (fun _ _ x => x) (fun x hx e => absurd (h.nm x e) (by omega))
  refine ⟨hm.keep hk2, hr, fun x hx => ?_, fun x hx => (hn x hx).elim (h.nr x) (fun e => Nat.le_trans k1.size e), fun x hx hy => ?_, none_trans k1 hk2, fun X o e => ?_⟩
  · rw [ho] at hx
    exact (hF x hx).elim (h.nm x) (fun e => Nat.le_trans h.kp.size e)
  · rcases hn x hy with q | q
    · exact apm x (ho ▸ hx) q
    · have := hm.own_lt x hx; omega
  · obtain ⟨e1, e2, e3⟩ := h.ex X o e
    have x1 := (hk1.block X (heap_lt e3) e1).trans e3
    refine ⟨fun q => ?_, fun q => (hn X q).elim e2 (fun z => by have := heap_lt x1; omega), (hk2.block X (heap_lt x1) (fun x => x)).trans x1⟩
    rw [ho] at q
    exact (hF X q).elim e1 (fun z => by have := heap_lt e3; omega)
set_option maxRecDepth 8000 in
set_option maxHeartbeats 8000000 in
theorem played_10 (b : Nat) (B : Bs) (g : Option Nat) (cp : Nat) (q : Value) (R : Nat → Nat) (m : Mp) (p x y : Int) (l : Bool) (E : Nat → Obj → Prop) (w w0 : World) (h : PR E w w0 b B g cp q R m) :
    Calls Try.prog 46 #[.pointer (some ⟨b, 0, none⟩), rv m.o g m.n cp q, opV 10 p x y l] w0 fun e w' => ∃ v', e = .returned (.tuple #[v', .bool true]) ∧ PRS E w w' b v' := by
  obtain ⟨qa, qc, rfl⟩ := h.rf.val
  have TB := three_box w0 (ro m.o g m.n cp (.slice qa m.o qc)) (opO 10 p x y l) roZ
  have BX := hid (show Bx _ w0.heap.size m.o g m.n cp (.slice qa m.o qc) (opO 10 p x y l) from ⟨TB.2.1, TB.2.2.1, TB.2.2.2⟩)
  have H0 := hid (h.keep TB.1)
  have HL := hid (show (∀ y, mown b B m.o y → y < w0.heap.size) ∧ (∀ y, onlyG g y → y < w0.heap.size) ∧ (∀ y, rown g (.slice qa m.o qc) R m.o y → y < w0.heap.size) ∧ w.heap.size ≤ w0.heap.size ∧ (∀ X o, E X o → X < w0.heap.size) from ⟨fun y hy => h.mp.own_lt y hy, fun y hy => h.rf.own_lt y (.inl hy), fun y hy => h.rf.own_lt y hy, h.kp.size, fun X o e => heap_lt (h.ex X o e).2.2⟩)
  clear h TB
  go_enter Try.func46, Try.ntmps46
  go_wp2_with fail
  generalize ((w0.alloc (ro m.o g m.n cp (.slice qa m.o qc))).alloc (opO 10 p x y l)).alloc roZ = W0 at *
  obtain ⟨t0, t1, t2⟩ := box3 BX.out.t
  obtain ⟨o0, o1, o2, o3, o4⟩ := opbox BX.out.p
  have D0 := hid (show PR E w W0 b B g cp (.slice qa m.o qc) R m ∧ Bx W0 w0.heap.size m.o g m.n cp (.slice qa m.o qc) (opO 10 p x y l) from ⟨H0.out, BX.out⟩)
  clear H0 BX
  go_wp2_with fail
  refine (Pair_ref g cp (.slice qa m.o qc) m D0.out.1.rf.o8 D0.out.1.rf.n1 W0 x p).mono ?_
  rintro e W5 ⟨rfl, hK⟩
  have D5 := hid (show PR E w W5.drew b B g cp (.slice qa m.o qc) R m ∧ Bx W5.drew w0.heap.size m.o g m.n cp (.slice qa m.o qc) (opO 10 p x y l) from ⟨(D0.out.1.keep hK).keep (Kept.refl none' _).drew, (D0.out.2.kept hK (fun _ x => x.elim)).kept (Kept.refl none' _).drew (fun _ x => x.elim)⟩)
  clear D0 hK t0 t1 t2 o0 o1 o2 o3 o4
  obtain ⟨t0, t1, t2⟩ := box3 (show W5.heap[w0.heap.size]? = _ from D5.out.2.t)
  obtain ⟨o0, o1, o2, o3, o4⟩ := opbox (show W5.heap[w0.heap.size + 1]? = _ from D5.out.2.p)
  generalize pairI m x p = pv at *
  go_wp2_with fail
  clear t0 t1 t2 o0 o1 o2 o3 o4
  obtain ⟨t0, t1, t2⟩ := box3 D5.out.2.t
  obtain ⟨o0, o1, o2, o3, o4⟩ := opbox D5.out.2.p
  go_region_held3 (fun w' => w'.cell? ⟨w0.heap.size, 0, none⟩ = some (.int .i64 (m.o : Int)) ∧ w'.cell? ⟨w0.heap.size, 1, none⟩ = some (.slice (adr g) m.n cp) ∧ w'.cell? ⟨w0.heap.size, 2, none⟩ = some (.slice qa m.o qc) ∧ w'.cell? ⟨w0.heap.size + 1, 0, none⟩ = some (.int .i64 10) ∧ w'.cell? ⟨w0.heap.size + 1, 1, none⟩ = some (.int .i64 p) ∧ w'.cell? ⟨w0.heap.size + 1, 2, none⟩ = some (.int .i64 x) ∧ w'.cell? ⟨w0.heap.size + 1, 3, none⟩ = some (.int .i64 y) ∧ w'.cell? ⟨w0.heap.size + 1, 4, none⟩ = some (.bool l)) (first | with_reducible exact ⟨t0, t1, t2, o0, o1, o2, o3, o4⟩ | with_reducible exact ⟨setM_cell (by omega) t0, setM_cell (by omega) t1, setM_cell (by omega) t2, setM_cell (by omega) o0, setM_cell (by omega) o1, setM_cell (by omega) o2, setM_cell (by omega) o3, setM_cell (by omega) o4⟩) (first
    | (go_at_call 14; refine (Head_any b B m p _ D5.out.1.mp).mono ?_; rintro e W1 ⟨rfl, hk⟩; have D1 := hid (And.intro (D5.out.1.keep hk) (D5.out.2.kept hk (fun _ x => x.elim))); clear hk t0 t1 t2 o0 o1 o2 o3 o4; obtain ⟨t0, t1, t2⟩ := box3 D1.out.2.t; obtain ⟨o0, o1, o2, o3, o4⟩ := opbox D1.out.2.p)
    | (go_at_call 65; refine (Head_ref g cp (.slice qa m.o qc) m D1.out.1.rf.n1 _ D1.out.1.rf.rq D1.out.1.mp.ok p).mono ?_; rintro e W2 ⟨rfl, hk⟩; have D2 := hid (And.intro (D1.out.1.keep hk) (D1.out.2.kept hk (fun _ x => x.elim))); clear hk t0 t1 t2 o0 o1 o2 o3 o4; obtain ⟨t0, t1, t2⟩ := box3 D2.out.2.t; obtain ⟨o0, o1, o2, o3, o4⟩ := opbox D2.out.2.p; have y3 : W2.heap[w0.heap.size + 1 + 1]? = some roZ := D2.out.2.y; obtain ⟨y0, y1, y2⟩ := boxZ y3; have fz : ∀ j, W2.frozen? ⟨w0.heap.size + 1 + 1, j, none⟩ = false := (fun j => by simp [World.frozen?, y3]); clear y3))
  all_goals
    go_wp2_with fail
    refine ⟨rfl, .tuple #[rv m.o g m.n cp (.slice qa m.o qc), .bool true], by simp [results, Try.results46, go_sem, y0, y1, y2], _, rfl, ?_⟩
    refine ⟨m, B, g, cp, .slice qa m.o qc, R, rfl, ?_⟩
    refine D2.out.1.setY (w0 := w0) rfl (From.refl W5.drew b B m.o) (heap_lt D5.out.2.y) (by have := HL.out.2.2.2.1; omega) (fun X o e => by have := HL.out.2.2.2.2 X o e; omega) (fun x hx => ?_) (fun x hx => ?_) _ _ _
    · have := HL.out.1 x hx; omega
    · have := HL.out.2.2.1 x hx; omega
set_option maxRecDepth 8000 in
set_option maxHeartbeats 8000000 in
theorem played_1 (b : Nat) (B : Bs) (g : Option Nat) (cp : Nat) (q : Value) (R : Nat → Nat) (m : Mp) (p x y : Int) (l : Bool) (E : Nat → Obj → Prop) (w w0 : World) (h : PR E w w0 b B g cp q R m) :
    Calls Try.prog 46 #[.pointer (some ⟨b, 0, none⟩), rv m.o g m.n cp q, opV 1 p x y l] w0 fun e w' => ∃ v', e = .returned (.tuple #[v', .bool true]) ∧ PRS E w w' b v' := by
  obtain ⟨qa, qc, rfl⟩ := h.rf.val
  have TB := three_box w0 (ro m.o g m.n cp (.slice qa m.o qc)) (opO 1 p x y l) roZ
  have BX := hid (show Bx _ w0.heap.size m.o g m.n cp (.slice qa m.o qc) (opO 1 p x y l) from ⟨TB.2.1, TB.2.2.1, TB.2.2.2⟩)
  have H0 := hid (h.keep TB.1)
  have HL := hid (show (∀ y, mown b B m.o y → y < w0.heap.size) ∧ (∀ y, rown g (.slice qa m.o qc) R m.o y → y < w0.heap.size) ∧ w.heap.size ≤ w0.heap.size ∧ (∀ X o, E X o → X < w0.heap.size) from ⟨fun y hy => h.mp.own_lt y hy, fun y hy => h.rf.own_lt y hy, h.kp.size, fun X o e => heap_lt (h.ex X o e).2.2⟩)
  clear h TB
  go_enter Try.func46, Try.ntmps46
  go_wp2_with fail
  generalize ((w0.alloc (ro m.o g m.n cp (.slice qa m.o qc))).alloc (opO 1 p x y l)).alloc roZ = W0 at *
  obtain ⟨t0, t1, t2⟩ := box3 BX.out.t
  obtain ⟨o0, o1, o2, o3, o4⟩ := opbox BX.out.p
  refine (Grow_any b B m W0 H0.out.mp).mono ?_
  rintro e W1 ⟨rfl, B', hm, hk, hF⟩
  have B1 := hid (BX.out.kept hk (fun y hy => HL.out.1 y hy))
  have R1 := hid (H0.out.mid hk)
  have M1 := hid hm
  have K1 := hid hk
  have F1 := hid hF
  clear hm hk hF t0 t1 t2 o0 o1 o2 o3 o4
  obtain ⟨t0, t1, t2⟩ := box3 B1.out.t
  go_wp2_with fail
  refine (Grow_ref b B g cp (.slice qa m.o qc) R m W1 W0 H0.out.mp R1.out).mono ?_
  rintro e W2 ⟨g', cp', q', rfl, R', hr, hn, hk⟩
  obtain ⟨qa', qc', rfl⟩ := hr.val
  have FIN := hid (H0.out.both2 M1.out K1.out F1.out (grow_o m) hr hn hk)
  have B2 := hid (B1.out.kept hk (fun _ x => x.elim))
  have HN := hid (show ∀ y, rown g' (.slice qa' (growM m).o qc') R' (growM m).o y → y ≠ w0.heap.size + 1 + 1 from fun y hy e => (hn y hy).elim (fun q => by have := HL.out.2.1 y q; omega) (fun q => by have := heap_lt B1.out.y; omega))
  clear hr hn hk t0 t1 t2
  have y3 : W2.heap[w0.heap.size + 1 + 1]? = some roZ := B2.out.y
  obtain ⟨y0, y1, y2⟩ := boxZ y3
  have fz : ∀ j, W2.frozen? ⟨w0.heap.size + 1 + 1, j, none⟩ = false := fun j => by simp [World.frozen?, y3]
  clear y3
  go_wp2_with fail
  refine ⟨rfl, .tuple #[rv (growM m).o g' (growM m).n cp' (.slice qa' (growM m).o qc'), .bool true], by simp [results, Try.results46, go_sem, y0, y1, y2], _, rfl, ?_⟩
  refine ⟨growM m, B', g', cp', .slice qa' (growM m).o qc', R', rfl, ?_⟩
  refine FIN.out.kept (setM_only W2 _ _ _ _) (fun x hx e => ?_) (fun x hx e => HN.out x hx e) (fun x e => by have := HL.out.2.2.1; omega) (fun X o e e2 => by have := HL.out.2.2.2 X o e; omega)
  have e : x = w0.heap.size + 1 + 1 := e
  rw [grow_o] at hx
  rcases F1.out x hx with q | q
  · have := HL.out.1 x q; omega
  · have := heap_lt BX.out.y; omega
/-- The document's map answers first, the program's behind it. -/
theorem PR.both3 {E : Nat → Obj → Prop} {w W W1 W2 W3 : World} {b : Nat} {B B' : Bs} {g g' : Option Nat} {cp cp' : Nat} {q q' : Value} {R R' : Nat → Nat} {m m' : Mp} (h : PR E w W b B g cp q R m) (hr : RefAt W1 g' cp' q' R' m') (hn : ∀ y, rown g' q' R' m'.o y → rown g q R m.o y ∨ W.heap.size ≤ y) (hk1 : Kept none' W W1) (hk2 : Kept none' W1 W2) (hm : MapAt W3 b B' m') (hk3 : Kept (mown b B m.o) W2 W3) (hF : From W2 b B B' m.o) (ho : m'.o = m.o) : PR E w W3 b B' g' cp' q' R' m' := by
  have lm : ∀ x, mown b B m.o x → x < W.heap.size := fun x hx => h.mp.own_lt x hx
  have l1 : ∀ x, rown g' q' R' m'.o x → x < W1.heap.size := fun x hx => hr.own_lt x hx
  have dis : ∀ x, mown b B m.o x → ¬ rown g' q' R' m'.o x := fun x hx hy => (hn x hy).elim (h.ap x hx) (fun e => by have := lm x hx; omega)
  have k2 : Kept none' w W2 := none_trans h.kp (none_trans hk1 hk2)
  refine ⟨hm, (hr.keep hk2).kept hk3 (fun x hx e => dis x e hx), fun x hx => ?_, fun x hx => (hn x hx).elim (h.nr x) (fun e => Nat.le_trans h.kp.size e), fun x hx hy => ?_, k2.trans hk3 (fun _ _ x => x) (fun x hx e => absurd (h.nm x e) (by omega)), fun X o e => ?_⟩
  · rw [ho] at hx
    exact (hF x hx).elim (h.nm x) (fun e => Nat.le_trans k2.size e)
  · rw [ho] at hx
    rcases hF x hx with e | e
    · exact dis x e hy
    · have := l1 x hy; have := hk2.size; omega
  · obtain ⟨e1, e2, e3⟩ := h.ex X o e
    have k02 := none_trans hk1 hk2
    have x1 := (k02.block X (heap_lt e3) (fun x => x)).trans e3
    refine ⟨fun q => ?_, fun q => (hn X q).elim e2 (fun z => by have := heap_lt e3; omega), (hk3.block X (heap_lt x1) e1).trans x1⟩
    rw [ho] at q
    exact (hF X q).elim e1 (fun z => by have := heap_lt x1; omega)
set_option maxRecDepth 8000 in
set_option maxHeartbeats 8000000 in
theorem played_2 (b : Nat) (B : Bs) (g : Option Nat) (cp : Nat) (q : Value) (R : Nat → Nat) (m : Mp) (p x y : Int) (l : Bool) (E : Nat → Obj → Prop) (w w0 : World) (h : PR E w w0 b B g cp q R m) :
    Calls Try.prog 46 #[.pointer (some ⟨b, 0, none⟩), rv m.o g m.n cp q, opV 2 p x y l] w0 fun e w' => ∃ v', e = .returned (.tuple #[v', .bool true]) ∧ PRS E w w' b v' := by
  obtain ⟨qa, qc, rfl⟩ := h.rf.val
  have TB := three_box w0 (ro m.o g m.n cp (.slice qa m.o qc)) (opO 2 p x y l) roZ
  have BX := hid (show Bx _ w0.heap.size m.o g m.n cp (.slice qa m.o qc) (opO 2 p x y l) from ⟨TB.2.1, TB.2.2.1, TB.2.2.2⟩)
  have H0 := hid (h.keep TB.1)
  have HL := hid (show (∀ y, mown b B m.o y → y < w0.heap.size) ∧ (∀ y, rown g (.slice qa m.o qc) R m.o y → y < w0.heap.size) ∧ w.heap.size ≤ w0.heap.size ∧ (∀ X o, E X o → X < w0.heap.size) from ⟨fun y hy => h.mp.own_lt y hy, fun y hy => h.rf.own_lt y hy, h.kp.size, fun X o e => heap_lt (h.ex X o e).2.2⟩)
  clear h TB
  go_enter Try.func46, Try.ntmps46
  go_wp2_with fail
  generalize ((w0.alloc (ro m.o g m.n cp (.slice qa m.o qc))).alloc (opO 2 p x y l)).alloc roZ = W0 at *
  obtain ⟨t0, t1, t2⟩ := box3 BX.out.t
  obtain ⟨o0, o1, o2, o3, o4⟩ := opbox BX.out.p
  go_wp2_with fail
  refine (Shrink_ref b B g cp (.slice qa m.o qc) R m W0 W0 H0.out.mp H0.out.rf x).mono ?_
  rintro e W1 ⟨q', rfl, R', hr, hn, hk⟩
  obtain ⟨qa', qc', rfl⟩ := hr.val
  have ka := (Kept.refl none' W1).alloc (ro (shrinkM m x).o g (shrinkM m x).n cp (.slice qa' (shrinkM m x).o qc'))
  have U2 := hid (heap_new W1 (ro (shrinkM m x).o g (shrinkM m x).n cp (.slice qa' (shrinkM m x).o qc')))
  have B2 := hid ((BX.out.kept hk (fun _ x => x.elim)).kept ka (fun _ x => x.elim))
  have M2 := hid (H0.out.mp.keep (none_trans hk ka))
  have RR := hid (show RefAt W1 g cp (.slice qa' (shrinkM m x).o qc') R' (shrinkM m x) from hr)
  have RN := hid hn
  have K1 := hid hk
  have K2 := hid ka
  have HU := hid (show w0.heap.size + 2 < W1.heap.size from by have := heap_lt (BX.out.kept hk (fun _ x => x.elim)).y; omega)
  have NY := hid (show ∀ y, rown g (.slice qa' (shrinkM m x).o qc') R' (shrinkM m x).o y → y ≠ w0.heap.size + 1 + 1 from fun y hy e => (hn y hy).elim (fun q => by have := HL.out.2.1 y q; omega) (fun q => by have := heap_lt BX.out.y; omega))
  clear hr hn hk ka t0 t1 t2 o0 o1 o2 o3 o4
  obtain ⟨n', hn'⟩ : ∃ n', n' = (shrinkM m x).n := ⟨_, rfl⟩
  obtain ⟨o', ho'⟩ : ∃ o', o' = (shrinkM m x).o := ⟨_, rfl⟩
  have HN := hid hn'
  have HO := hid ho'
  rw [← hn', ← ho'] at U2 B2 M2 K2 ⊢
  rw [← ho'] at RR RN NY
  clear hn' ho'
  go_wp2_with fail
  obtain ⟨U, hU⟩ : ∃ U, U = W1.heap.size := ⟨_, rfl⟩
  rw [← hU] at U2 HU
  generalize W1.alloc (ro o' g n' cp (.slice qa' o' qc')) = W2 at *
  rw [← hU]
  clear hU
  have kd := (Kept.refl none' W2).drew
  have U3 := hid (show W2.drew.heap[U]? = _ from U2.out)
  have B3 := hid (B2.out.kept kd (fun _ x => x.elim))
  have M3 := hid (M2.out.keep kd)
  have K3 := hid (none_trans K2.out kd)
  clear U2 B2 M2 K2 kd
  obtain ⟨t0, t1, t2⟩ := box3 U3.out
  obtain ⟨o0, o1, o2, o3, o4⟩ := opbox B3.out.p
  go_region_held3 (fun w' => w'.cell? ⟨U, 0, none⟩ = some (.int .i64 (o' : Int)) ∧ w'.cell? ⟨U, 1, none⟩ = some (.slice (adr g) n' cp) ∧ w'.cell? ⟨U, 2, none⟩ = some (.slice qa' o' qc') ∧ w'.cell? ⟨w0.heap.size + 1, 2, none⟩ = some (.int .i64 x)) (first | with_reducible exact ⟨t0, t1, t2, o2⟩ | with_reducible exact ⟨setM_cell (by have := HU.out; omega) t0, setM_cell (by have := HU.out; omega) t1, setM_cell (by have := HU.out; omega) t2, setM_cell (by omega) o2⟩) (
    (go_at_call 23; refine (Shrink_any b B m x _ M3.out).mono ?_; rintro e W4 ⟨rfl, B', hm, hk, hF⟩; have B4 := hid (B3.out.kept hk (fun y hy => HL.out.1 y hy)); have U4 := hid ((hk.block U (heap_lt U3.out) (fun e => by have := HL.out.1 U e; have := HU.out; omega)).trans U3.out); have FIN := hid (H0.out.both3 (HO.out ▸ RR.out) (HO.out ▸ RN.out) K1.out K3.out hm hk hF (shrink_o m x)); have F4 := hid hF; clear hm hk hF t0 t1 t2 o0 o1 o2 o3 o4; obtain ⟨t0, t1, t2⟩ := box3 U4.out; obtain ⟨o0, o1, o2, o3, o4⟩ := opbox B4.out.p; have y3 : W4.heap[w0.heap.size + 1 + 1]? = some roZ := B4.out.y; obtain ⟨y0, y1, y2⟩ := boxZ y3; have fz : ∀ j, W4.frozen? ⟨w0.heap.size + 1 + 1, j, none⟩ = false := (fun j => by simp [World.frozen?, y3]); clear y3))
  all_goals
    go_wp2_with fail
    refine ⟨rfl, .tuple #[rv o' g n' cp (.slice qa' o' qc'), .bool true], by simp [results, Try.results46, go_sem, y0, y1, y2], _, rfl, ?_⟩
    refine ⟨shrinkM m x, B', g, cp, .slice qa' (shrinkM m x).o qc', R', by rw [← HO.out, ← HN.out], ?_⟩
    refine FIN.out.kept (setM_only W4 _ _ _ _) (fun z hz e => ?_) (fun z hz e => by rw [← HO.out] at hz; exact NY.out z hz e) (fun z e => by have := HL.out.2.2.1; omega) (fun X o e e2 => by have := HL.out.2.2.2 X o e; omega)
    have e : z = w0.heap.size + 1 + 1 := e
    rw [shrink_o] at hz
    rcases F4.out z hz with q | q
    · have := HL.out.1 z q; omega
    · have := heap_lt B3.out.y; omega
theorem SamePages_nil (gp n c : Nat) (hn : n = 0) (w : World) :
    Calls Try.prog 29 #[.slice (some ⟨gp, 0, none⟩) n n, .slice none 0 c] w fun e w' => e = .returned (.bool true) ∧ ∃ q, w' = w.drewN q := by
  subst hn
  go_enter Try.func29, Try.ntmps29
  go_wp2_with fail
  go_loopw [5] (fun i W => i = .int .i64 0 ∧ W = w) (fun _ _ => 0)
  case atStart => exact ⟨rfl, rfl⟩
  case round =>
    obtain ⟨rfl, rfl⟩ := hrel
    go_wp2_with fail
    go_ret
    exact ⟨rfl, 0, rfl⟩
/-- What the map told and the document's own pages are the same. -/
theorem SamePages_ref (gp : Nat) (g : Option Nat) (cp n : Nat) (pg : Nat → Pg) (hn : n ≤ 1024) (w : World) (h : Row w gp n pg) (hq : Rq w g n pg) :
    Calls Try.prog 29 #[.slice (some ⟨gp, 0, none⟩) n n, .slice (adr g) n cp] w fun e w' => e = .returned (.bool true) ∧ ∃ q, w' = w.drewN q := by
  cases g with
  | none =>
    have h0 : n = 0 := hq
    subst h0
    exact SamePages_nil gp 0 cp rfl w
  | some q' =>
    obtain ⟨N, pg', h1, h2, h3⟩ := hq
    exact SamePages_true gp q' n n cp n N pg pg' hn (Nat.le_refl _) h1 (fun i hi => (h3 i hi).symm) w h h2
/-- The words that the map told are those of the document's own map. -/
theorem SameWords_told (b : Nat) (B : Bs) (g : Option Nat) (cp : Nat) (q : Value) (R : Nat → Nat) (m : Mp) (gp gq : Nat) (D : Nat → Nat) (W0 w wM : World) (hM : MapAt wM b B m) (hr : RefAt w g cp q R m) (hT : Told W0 w gp gq m m.o D) :
    Calls Try.prog 47 #[.slice (some ⟨gq, 0, none⟩) m.o m.o, rv m.o g m.n cp q] w fun e w' => e = .returned (.bool true) ∧ Kept none' w w' := by
  refine SameWords_ref g cp q R m gq D w hr (fun k hk => ?_) hT.d (fun k hk => (hM.set k hk).len) (fun k hk => (hM.set k hk).ok) (fun k hk => (hM.set k hk).lt64)
  obtain ⟨cs, hg, hs, hc⟩ := hT.q
  have := hc k hk
  simp [World.cell?, hg, this]
set_option maxRecDepth 8000 in
set_option maxHeartbeats 8000000 in
theorem played_11 (b : Nat) (B : Bs) (g : Option Nat) (cp : Nat) (q : Value) (R : Nat → Nat) (m : Mp) (p x y : Int) (l : Bool) (E : Nat → Obj → Prop) (w w0 : World) (h : PR E w w0 b B g cp q R m) :
    Calls Try.prog 46 #[.pointer (some ⟨b, 0, none⟩), rv m.o g m.n cp q, opV 11 p x y l] w0 fun e w' => ∃ v', e = .returned (.tuple #[v', .bool true]) ∧ PRS E w w' b v' := by
  obtain ⟨qa, qc, rfl⟩ := h.rf.val
  have TB := three_box w0 (ro m.o g m.n cp (.slice qa m.o qc)) (opO 11 p x y l) roZ
  have BX := hid (show Bx _ w0.heap.size m.o g m.n cp (.slice qa m.o qc) (opO 11 p x y l) from ⟨TB.2.1, TB.2.2.1, TB.2.2.2⟩)
  have H0 := hid (h.keep TB.1)
  have HL := hid (show (∀ y, mown b B m.o y → y < w0.heap.size) ∧ (∀ y, onlyG g y → y < w0.heap.size) ∧ (∀ y, rown g (.slice qa m.o qc) R m.o y → y < w0.heap.size) ∧ w.heap.size ≤ w0.heap.size ∧ (∀ X o, E X o → X < w0.heap.size) from ⟨fun y hy => h.mp.own_lt y hy, fun y hy => h.rf.own_lt y (.inl hy), fun y hy => h.rf.own_lt y hy, h.kp.size, fun X o e => heap_lt (h.ex X o e).2.2⟩)
  clear h TB
  go_enter Try.func46, Try.ntmps46
  go_wp2_with fail
  generalize ((w0.alloc (ro m.o g m.n cp (.slice qa m.o qc))).alloc (opO 11 p x y l)).alloc roZ = W0 at *
  obtain ⟨t0, t1, t2⟩ := box3 BX.out.t
  obtain ⟨o0, o1, o2, o3, o4⟩ := opbox BX.out.p
  have D0 := hid (show PR E w W0 b B g cp (.slice qa m.o qc) R m ∧ Bx W0 w0.heap.size m.o g m.n cp (.slice qa m.o qc) (opO 11 p x y l) from ⟨H0.out, BX.out⟩)
  clear H0 BX
  go_wp2_with fail
  refine (Pair_ref g cp (.slice qa m.o qc) m D0.out.1.rf.o8 D0.out.1.rf.n1 W0 x p).mono ?_
  rintro e W5 ⟨rfl, hK⟩
  have D5 := hid (show PR E w W5 b B g cp (.slice qa m.o qc) R m ∧ Bx W5 w0.heap.size m.o g m.n cp (.slice qa m.o qc) (opO 11 p x y l) from ⟨D0.out.1.keep hK, D0.out.2.kept hK (fun _ x => x.elim)⟩)
  clear D0 hK t0 t1 t2 o0 o1 o2 o3 o4
  obtain ⟨t0, t1, t2⟩ := box3 (show W5.heap[w0.heap.size]? = _ from D5.out.2.t)
  obtain ⟨o0, o1, o2, o3, o4⟩ := opbox (show W5.heap[w0.heap.size + 1]? = _ from D5.out.2.p)
  generalize pairI m x p = pv at *
  go_wp2_with fail
  refine (Plain_any b B m _ D5.out.1.mp).mono ?_
  rintro e W6 ⟨gp, gq, D, rfl, hT⟩
  have kd := none_trans hT.kp (Kept.refl none' W6).drew
  have D6 := hid (show (PR E w W6.drew b B g cp (.slice qa m.o qc) R m ∧ Bx W6.drew w0.heap.size m.o g m.n cp (.slice qa m.o qc) (opO 11 p x y l)) ∧ Told W5 W6.drew gp gq m m.o D from ⟨⟨D5.out.1.keep kd, D5.out.2.kept kd (fun _ x => x.elim)⟩, hT.keep (Kept.refl none' _).drew⟩)
  have hn1 := D5.out.1.rf.n1
  clear hT kd t0 t1 t2 o0 o1 o2 o3 o4
  go_wp2_with fail
  obtain ⟨t0, t1, t2⟩ := box3 D6.out.1.2.t
  go_region_held3 (fun w' => w'.cell? ⟨w0.heap.size, 0, none⟩ = some (.int .i64 (m.o : Int)) ∧ w'.cell? ⟨w0.heap.size, 1, none⟩ = some (.slice (adr g) m.n cp) ∧ w'.cell? ⟨w0.heap.size, 2, none⟩ = some (.slice qa m.o qc)) (first | with_reducible exact ⟨t0, t1, t2⟩ | with_reducible exact ⟨setM_cell (by omega) t0, setM_cell (by omega) t1, setM_cell (by omega) t2⟩) (first
    | (go_at_call 29; refine (SamePages_ref gp g cp m.n m.pg hn1 _ D6.out.2.row D6.out.1.1.rf.rq).mono ?_; rintro e W1 ⟨rfl, q9, hq9⟩; have hk : Kept none' W6.drew W1 := (by rw [hq9]; exact (Kept.refl none' _).drewN q9); have D1 := hid (And.intro (And.intro (D6.out.1.1.keep hk) (D6.out.1.2.kept hk (fun _ x => x.elim))) (D6.out.2.keep hk)); clear hk hq9 t0 t1 t2; obtain ⟨t0, t1, t2⟩ := box3 D1.out.1.2.t)
    | (go_at_call 47; refine (SameWords_told b B g cp (.slice qa m.o qc) R m gp gq D _ _ _ D1.out.1.1.mp D1.out.1.1.rf D1.out.2).mono ?_; rintro e W2 ⟨rfl, hk⟩; have D2 := hid (And.intro (D1.out.1.1.keep hk) (D1.out.1.2.kept hk (fun _ x => x.elim))); clear hk t0 t1 t2; obtain ⟨t0, t1, t2⟩ := box3 D2.out.2.t; have y3 : W2.heap[w0.heap.size + 1 + 1]? = some roZ := D2.out.2.y; obtain ⟨y0, y1, y2⟩ := boxZ y3; have fz : ∀ j, W2.frozen? ⟨w0.heap.size + 1 + 1, j, none⟩ = false := (fun j => by simp [World.frozen?, y3]); clear y3))
  all_goals
    go_wp2_with fail
    refine ⟨rfl, .tuple #[rv m.o g m.n cp (.slice qa m.o qc), .bool true], by simp [results, Try.results46, go_sem, y0, y1, y2], _, rfl, ?_⟩
    refine ⟨m, B, g, cp, .slice qa m.o qc, R, rfl, ?_⟩
    refine D2.out.1.setY (w0 := w0) rfl (From.refl W5 b B m.o) (heap_lt D5.out.2.y) (by have := HL.out.2.2.2.1; omega) (fun X o e => by have := HL.out.2.2.2.2 X o e; omega) (fun x hx => ?_) (fun x hx => ?_) _ _ _
    · have := HL.out.1 x hx; omega
    · have := HL.out.2.2.1 x hx; omega
end Go.Proofs.Ytbhheimedbfmeaa
