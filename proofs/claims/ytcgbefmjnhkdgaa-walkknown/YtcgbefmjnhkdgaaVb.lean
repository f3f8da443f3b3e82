import Derived.Test.YtcgbefmjnhkdgaaWq
set_option maxRecDepth 1000000
set_option maxHeartbeats 80000000
/- croftref9.Copied: what it makes. -/
namespace Go.Proofs.Ytcgbefmjnhkdgaa
open Go.RowKit
set_option linter.unusedVariables false
/-- An image that can be copied. -/
structure ImZ (I : Img) : Prop where
  m : I.nm ≤ 140737488355328
  p : I.np * 88 ≤ 140737488355328
  r : I.no * 24 ≤ 140737488355328
  u : ∀ i, i < I.no → (I.pr i).length * 8 ≤ 140737488355328
  h : I.hd.length * 8 ≤ 140737488355328
  t : I.pt.length * 8 ≤ 140737488355328
theorem info_pg9 : (Try.prog.info? 39).map (fun i => (i.zero, i.size, i.bytes)) = some (some (pgV zeroP), 11, 88) := by kernel_rfl
theorem info_w9 : (Try.prog.info? 22).map (fun i => (i.zero, i.size, i.bytes)) = some (some (.int .u64 0), 1, 8) := by kernel_rfl
theorem info_i9 : (Try.prog.info? 3).map (fun i => (i.zero, i.size, i.bytes)) = some (some (.int .i64 0), 1, 8) := by kernel_rfl
theorem info_s9 : (Try.prog.info? 28).map (fun i => (i.zero, i.size, i.bytes)) = some (some (.slice none 0 0), 1, 24) := by kernel_rfl
theorem make_xr (t e : TypeId) (z : Value) (size bytes : Nat) (hu : Try.prog.underlying t = some (.slice e)) (hi : (Try.prog.info? e).map (fun i => (i.zero, i.size, i.bytes)) = some (some z, size, bytes)) (hz : z.cells.size = size) (n : Nat) (hb : n * bytes ≤ 140737488355328) (hn : n ≤ 9223372036854775807) (s : Nat) (w : World) (hs : s < w.heap.size) :
    ∃ w1, (Instr.makeSlice t (.int .i64 (n : Int)) (.int .i64 (n : Int))).run Try.prog w = .ok (.slice (some ⟨w.heap.size, 0, none⟩) n n) w1 ∧ XR s w1 (.slice (some ⟨w.heap.size, 0, none⟩) n n) n e (n * size) (fun j => z.cells[j % size]!) ∧ Kept none' w w1 ∧ w1.heap.size = w.heap.size + 1 := by
  obtain ⟨i, hi', hzz⟩ := Option.map_eq_some_iff.1 hi
  simp only [Prod.mk.injEq] at hzz
  have hbi : (i.bytes : Int) * (n : Int) ≤ 281474976710656 := by
    rw [hzz.2.2, show ((bytes : Int) * (n : Int)) = ((n * bytes : Nat) : Int) by rw [Int.natCast_mul, Int.mul_comm]]
    omega
  have hr := run_make (P := Try.prog) w t e i z hu hi' hzz.1 .i64 .i64 (n : Int) (n : Int) (by omega) (Int.le_refl _) hbi (by omega)
  simp only [Int.toNat_natCast] at hr
  refine ⟨_, hr, ⟨_, _, hs, rfl, heap_new w _, by rw [size_madeCells, hzz.2.1], fun j hj => ?_⟩, (Kept.refl none' w).alloc _, by simp⟩
  rw [hzz.2.1]
  simp only [madeCells]
  rw [Array.getElem?_map, Array.getElem?_range, if_pos hj, Option.map_some, hz]
theorem XR.row {s w g n pg F} (h : XR s w (.slice (some ⟨g, 0, none⟩) n n) n 39 (n * 11) F) (e : ∀ i, i < n → ∀ j, j < 11 → F (i * 11 + j) = ((pg i : Pg)).fld j) : Row w g n pg := by
  obtain ⟨b, cs, h1, h2, h3, h4, h5⟩ := h
  cases h2
  exact ⟨cs, h3, h4, fun i hi j hj => (h5 _ (by omega)).trans (by rw [e i hi j hj])⟩
theorem row_xr {s w g n pg} (h : Row w g n pg) (hs : s < g) : XR s w (.slice (some ⟨g, 0, none⟩) n n) n 39 (n * 11) fun j => (pg (j / 11)).fld (j % 11) := by
  obtain ⟨cs, h3, h4, h5⟩ := h
  refine ⟨g, cs, hs, rfl, h3, h4, fun j hj => ?_⟩
  have := h5 (j / 11) (by omega) (j % 11) (by omega)
  rwa [show j / 11 * 11 + j % 11 = j by omega] at this
theorem gs_ty {w0 W : World} {e : TypeId} {size : Nat} {v : Value} {n : Nat} {xs : List Value} (h : GS w0 W e size v n xs) {x : Nat} (hx : v.ownBlock = some x) : ∃ cs, W.heap[x]? = some (.cells cs e (0, 0)) := by
  rcases h.own.2 with ⟨rfl, _⟩ | ⟨g, cap, cur, rfl, hb, hg, h3⟩
  · simp [Value.ownBlock] at hx
  · simp [Value.ownBlock] at hx
    rw [← hx]
    exact ⟨cur, hg⟩
/-- A row of slices of words: one more. -/
theorem GS.pushW {w0 W : World} {v : Value} {n : Nat} {xs : List Value} (h : GS w0 W 28 1 v n xs) (oa : Option Addr) (l c : Nat) (hn : (n + 1) * 24 ≤ 140737488355328) :
    ∃ g cap w', (∀ t, (Builtin.append_ #[27, 27] t #[v, .slice (some ⟨W.heap.size, 0, none⟩) 1 1]).run Try.prog (W.alloc (.cells #[.slice oa l c] 28)) = .ok (.slice (some ⟨g, 0, none⟩) (n + 1) cap) w') ∧ GS w0 w' 28 1 (.slice (some ⟨g, 0, none⟩) (n + 1) cap) (n + 1) (xs ++ [.slice oa l c]) ∧ Kept (fun b => v.ownBlock = some b) W w' := by
  obtain ⟨i, hi, hzz⟩ := Option.map_eq_some_iff.1 info_s9
  simp only [Prod.mk.injEq] at hzz
  have ka := (Kept.refl none' W).alloc (.cells #[.slice oa l c] 28)
  obtain ⟨g, cap, w', h1, h2, h5, h6, h7⟩ := (GS.keep h ka).pushM 27 i (.slice none 0 0) 24 Try.underlying27 hi hzz.1 hzz.2.1 hzz.2.2 rfl (by decide) ⟨W.heap.size, 0, none⟩ 1 1 (by decide) [.slice oa l c] rfl (fun j u hj => cells_new (cs := #[.slice oa l c]) j u hj) (by simp [Value.oneCell']) (by simp only [maxLen]; omega) (by omega)
  exact ⟨g, cap, w', h1, h2, ka.trans h6 (fun _ _ e => e.elim) (fun _ _ e => e)⟩
/-- A copied image, block by block. -/
structure CpD (s : Nat) (w0 w : World) (I : Img) (V : ImV) (xs : List Value) : Prop where
  ok : ImOk I
  m : XR s w V.m I.nm 5 I.nm fun j => .int .u8 (I.mem j : Int)
  p : XR s w V.p I.np 39 (I.np * 11) fun j => (I.pg (j / 11)).fld (j % 11)
  r : GS w0 w 28 1 V.r I.no xs
  u : ∀ i, i < I.no → XR s w (xs.getD i (.slice none 0 0)) (I.pr i).length 22 (I.pr i).length fun j => .int .u64 (((I.pr i).getD j 0 : Nat) : Int)
  h : XR s w V.h I.hd.length 22 I.hd.length fun j => .int .u64 ((I.hd.getD j 0 : Nat) : Int)
  t : XR s w V.t I.pt.length 3 I.pt.length fun j => .int .i64 (I.pt.getD j 0)
theorem CpD.keep {s : Nat} {w0 w W : World} {I : Img} {V : ImV} {xs : List Value} (h : CpD s w0 w I V xs) (hk : Kept none' w W) : CpD s w0 W I V xs :=
  ⟨h.ok, h.m.keep hk, h.p.keep hk, GS.keep h.r hk, fun i hi => (h.u i hi).keep hk, h.h.keep hk, h.t.keep hk⟩
theorem CpD.d {s : Nat} {w0 w : World} {I : Img} {V : ImV} {xs : List Value} (h : CpD s w0 w I V xs) : ImD w I V := by
  obtain ⟨ok, hm, hp, hr, hu, hh, ht⟩ := h
  obtain ⟨m, p, r, q, t⟩ := V
  obtain ⟨bm, cm, a1, rfl, a2, a3, a4⟩ := hm
  obtain ⟨bp, cp, b1, rfl, b2, b3, b4⟩ := hp
  obtain ⟨bh, ch, d1, rfl, d2, d3, d4⟩ := hh
  obtain ⟨bt, ct, e1, rfl, e2, e3, e4⟩ := ht
  refine ⟨ok.b64, ok.lim, ok.ord, ok.reg, ⟨ok.nm, _, _, rfl, .inr ⟨_, _, rfl, heap_lt a2, fun i hi => ⟨ok.mem i hi, ?_⟩⟩⟩, ?_, ⟨ok.np, _, _, rfl, .inr ⟨_, _, rfl, heap_lt b2, fun i hi => ⟨ok.pg i hi, fun j hj => ?_⟩⟩⟩, ⟨fun i => xs.getD i (.slice none 0 0), ok.no, ?_⟩, ⟨ok.nh, _, _, rfl, .inr ⟨_, _, rfl, heap_lt d2, fun i hi => ⟨ok.hd i hi, ?_⟩⟩⟩, ⟨ok.nt, _, _, rfl, .inr ⟨_, _, rfl, heap_lt e2, fun i hi => ⟨ok.pt i hi, ?_⟩⟩⟩⟩
  · simp [World.cell?, a2, a4 i hi]
  · intro a n c e
    cases e
    exact Nat.le_refl _
  · have := b4 (i * 11 + j) (by omega)
    dsimp only at this
    rw [show (i * 11 + j) / 11 = i by omega, show (i * 11 + j) % 11 = j by omega] at this
    simp [World.cell?, b2, this]
  · rcases hr.own.2 with ⟨h1, h0⟩ | ⟨g, cap, cur, h1, _, hg, _, _, hs, ht'⟩
    · have h1' : r = .slice none 0 0 := h1
      subst h1'
      exact ⟨none, 0, by rw [h0], .inl h0⟩
    · have h1' : r = .slice (some ⟨g, 0, none⟩) I.no cap := h1
      subst h1'
      refine ⟨_, _, rfl, .inr ⟨g, 0, rfl, heap_lt hg, fun i hi => ⟨?_, ?_⟩⟩⟩
      · have hl := hr.own.1
        have e1 : xs[i]? = cur.toList[i]? := by rw [← ht', List.getElem?_take_of_lt (by omega)]
        have e2 : xs[i]? = some (xs.getD i (.slice none 0 0)) := by
          rw [List.getD, List.getElem?_eq_getElem (by omega)]
          rfl
        rw [e2, Array.getElem?_toList] at e1
        simp only [World.cell?, hg, Nat.zero_add, ← e1]
        rfl
      · have hx := hu i hi
        obtain ⟨b, cs, g1, g2, g3, g4, g5⟩ := hu i hi
        rw [g2] at hx
        refine ⟨ok.pr i hi, _, _, g2, .inr ⟨_, rfl, heap_lt g3, fun j hj => ?_⟩⟩
        rw [show (⟨b, 0, none⟩ : Addr).add j = ⟨b, j, none⟩ by (unfold Addr.add; simp; intro e; exact e.symm)]
        exact hx.cell hj
  · simp [World.cell?, d2, d4 i hi]
  · simp [World.cell?, e2, e4 i hi]
/-- What an image in memory may hold. -/
theorem ImD.ok {w : World} {I : Img} {V : ImV} (h : ImD w I V) : ImOk I := by
  obtain ⟨m1, ma, mc, m2, m3⟩ := h.mem
  obtain ⟨p1, pa, pc, p2, p3⟩ := h.pgs
  obtain ⟨ws, r1, ra, rc, r2, r3⟩ := h.prs
  obtain ⟨h1, ha, hc, h2, h3⟩ := h.hds
  obtain ⟨t1, ta, tc, t2, t3⟩ := h.pts
  refine ⟨h.b64, h.lim, h.ord, h.reg, m1, p1, r1, h1, t1, fun i hi => ?_, fun i hi => ?_, fun i hi => ?_, fun i hi => ?_, fun i hi => ?_⟩
  · rcases m3 with e | ⟨_, _, _, _, k⟩
    · omega
    · exact (k i hi).1
  · rcases p3 with e | ⟨_, _, _, _, k⟩
    · omega
    · exact (k i hi).1
  · rcases r3 with e | ⟨_, _, _, _, k⟩
    · omega
    · exact (k i hi).2.1
  · rcases h3 with e | ⟨_, _, _, _, k⟩
    · omega
    · exact (k i hi).1
  · rcases t3 with e | ⟨_, _, _, _, k⟩
    · omega
    · exact (k i hi).1
end Go.Proofs.Ytcgbefmjnhkdgaa
/- croftref9.Copied, the walk. (Written by mk9c.py.) -/
namespace Go.Proofs.Ytcgbefmjnhkdgaa
open Go.RowKit
set_option linter.unusedVariables false
set_option maxHeartbeats 8000000
set_option maxRecDepth 6000
/-- A row is copied up to a. -/
abbrev upTo (F Z : Nat → Value) (a : Nat) : Nat → Value := fun j => if j < a then F j else Z j
theorem up_step {F Z : Nat → Value} {a : Nat} : (fun j => if j = a then F a else upTo F Z a j) = upTo F Z (a + 1) := by
  funext j
  unfold upTo
  by_cases e : j = a
  · subst e
    simp
  · by_cases l : j < a
    · rw [if_neg e, if_pos l, if_pos (by omega)]
    · rw [if_neg e, if_neg l, if_neg (by omega)]
theorem set1_kept {w0 w : World} {b k : Nat} {x : Value} (h : Kept none' w0 w) (hb : w0.heap.size ≤ b) : Kept none' w0 (w.setCell ⟨b, k, none⟩ x) :=
  h.trans ((Kept.refl (fun y => y = b) w).setCell (p := ⟨b, k, none⟩) rfl x) (fun _ _ y => y) (fun y hy e => by omega)
theorem XR.up {s n N : Nat} {w : World} {b : Nat} {T : TypeId} {F Z : Nat → Value} {m c a : Nat} (h : XR s w (.slice (some ⟨b, 0, none⟩) m c) n T N (upTo F Z a)) (ha : a < N) : XR s (w.setCell ⟨b, a, none⟩ (F a)) (.slice (some ⟨b, 0, none⟩) m c) n T N (upTo F Z (a + 1)) := by
  have := h.put ha (F a)
  rwa [up_step] at this
theorem XR.done {s n N : Nat} {w : World} {v : Value} {T : TypeId} {F Z : Nat → Value} {a : Nat} (h : XR s w v n T N (upTo F Z a)) (ha : N ≤ a) : XR s w v n T N F := h.congr fun j hj => if_pos (by omega)
/-- The rows of words that are copied. -/
structure PrC (s : Nat) (w0 w : World) (I : Img) (v : Value) (a : Nat) (xs : List Value) : Prop where
  r : GS w0 w 28 1 v a xs
  u : ∀ i, i < a → XR s w (xs.getD i (.slice none 0 0)) (I.pr i).length 22 (I.pr i).length fun j => .int .u64 (((I.pr i).getD j 0 : Nat) : Int)
theorem PrC.keep {s : Nat} {w0 w W : World} {I : Img} {v : Value} {a : Nat} {xs : List Value} (h : PrC s w0 w I v a xs) (hk : Kept none' w W) : PrC s w0 W I v a xs :=
  ⟨GS.keep h.r hk, fun i hi => (h.u i hi).keep hk⟩
theorem PrC.push {s : Nat} {w0 w W : World} {I : Img} {v v' : Value} {a b l c : Nat} {xs : List Value} (h : PrC s w0 w I v a xs) (hx : XR s w (.slice (some ⟨b, 0, none⟩) l c) (I.pr a).length 22 (I.pr a).length fun j => .int .u64 (((I.pr a).getD j 0 : Nat) : Int)) (hg : GS w0 W 28 1 v' (a + 1) (xs ++ [.slice (some ⟨b, 0, none⟩) l c])) (hk : Kept (fun b => v.ownBlock = some b) w W) : PrC s w0 W I v' (a + 1) (xs ++ [.slice (some ⟨b, 0, none⟩) l c]) := by
  have hl := h.r.own.1
  have ap : ∀ {n N : Nat} {u : Value} {F : Nat → Value}, XR s w u n 22 N F → XR s W u n 22 N F := fun hu => hu.keepS hk fun y hy e => by
    obtain ⟨c1, e1⟩ := hu.ty hy
    obtain ⟨c2, e2⟩ := gs_ty h.r e
    rw [e1] at e2
    cases e2
  refine ⟨hg, fun i hi => ?_⟩
  by_cases e : i = a
  · subst e
    have : (xs ++ [Value.slice (some ⟨b, 0, none⟩) l c]).getD i (.slice none 0 0) = .slice (some ⟨b, 0, none⟩) l c := by
      rw [List.getD, List.getElem?_append_right (by omega), show i - xs.length = 0 by omega]
      rfl
    rw [this]
    exact ap hx
  · have : (xs ++ [Value.slice (some ⟨b, 0, none⟩) l c]).getD i (.slice none 0 0) = xs.getD i (.slice none 0 0) := by
      rw [List.getD, List.getD, List.getElem?_append_left (by omega)]
    rw [this]
    exact ap (h.u i (by omega))
theorem GS.moved {w w0 W W' : World} {e : TypeId} {size : Nat} {v : Value} {n : Nat} {xs : List Value} {S : Nat → Prop} (h : GS w0 W e size v n xs) (kS : Kept S W W') (hS : ∀ b, v.ownBlock = some b → ¬ S b) (hle : w.heap.size ≤ w0.heap.size) (kF : Kept none' w W') : GS w W' e size v n xs := by
  refine ⟨⟨h.own.1, ?_⟩, fun g cap e => Nat.le_trans hle (h.new g cap e), kF⟩
  rcases h.own.2 with h0 | ⟨g, cap, cur, e, hb, hg, h3⟩
  · exact .inl h0
  · exact .inr ⟨g, cap, cur, e, hb, (kS.block g (heap_lt hg) (hS g (by rw [e]; rfl))).trans hg, h3⟩
theorem Copied_any (I : Img) (V : ImV) (w : World) (hI : ImD w I V) (hZ : ImZ I) :
    Calls Try.prog 14 #[imA I V] w fun e w' => ∃ V' xs, e = .returned (imA I V') ∧ CpD w.heap.size w w' I V' xs ∧ Kept none' w w' := by
  have OK := hid hI.ok
  obtain ⟨⟨ma, mc, hm⟩, ⟨pa, pc, hp⟩, ⟨ra, rc, hr⟩, ⟨ha, hc, hh⟩, ⟨ta, tc, ht⟩, -⟩ := hI.sl
  obtain ⟨vm, vp, vr, vh, vt⟩ := V
  dsimp only at hm hp hr hh ht
  subst hm hp hr hh ht
  obtain ⟨nm, hnm⟩ : ∃ n, n = I.nm := ⟨_, rfl⟩
  obtain ⟨np, hnp⟩ : ∃ n, n = I.np := ⟨_, rfl⟩
  obtain ⟨no, hno⟩ : ∃ n, n = I.no := ⟨_, rfl⟩
  obtain ⟨nh, hnh⟩ : ∃ n, n = I.hd.length := ⟨_, rfl⟩
  obtain ⟨nt, hnt⟩ : ∃ n, n = I.pt.length := ⟨_, rfl⟩
  have NM := hid hnm
  have NP := hid hnp
  have NO := hid hno
  have NH := hid hnh
  have NT := hid hnt
  have HZ := hid hZ
  have B1 := hid (show nm ≤ 9223372036854775807 by rw [hnm]; exact hI.ok.nm)
  have B2 := hid (show np ≤ 9223372036854775807 by rw [hnp]; exact hI.ok.np)
  have B3 := hid (show no ≤ 9223372036854775807 by rw [hno]; exact hI.ok.no)
  have B4 := hid (show nh ≤ 9223372036854775807 by rw [hnh]; exact hI.ok.nh)
  have B5 := hid (show nt ≤ 9223372036854775807 by rw [hnt]; exact hI.ok.nt)
  have ID := hid hI
  rw [← hnm, ← hnp, ← hno, ← hnh, ← hnt] at ID
  rw [← hnm, ← hnp, ← hno, ← hnh, ← hnt]
  clear hI hZ hnm hnp hno hnh hnt
  go_enter Try.func14, Try.ntmps14
  go_upto_region 1 with fail
  refine gen_world (P := fun W => Code.wp Try.prog _ _ _ W) _ ?_
  intro W0 hW0
  have IM0 := hid (show ImAt W0 w.heap.size I ⟨.slice ma nm mc, .slice pa np pc, .slice ra no rc, .slice ha nh hc, .slice ta nt tc⟩ by
    subst hW0
    refine ⟨?_, ID.out.keep (((Kept.refl _ w).alloc _).alloc _)⟩
    show ((w.heap.push _).push _)[w.heap.size]? = _
    rw [Array.getElem?_push, if_neg (by simp), Array.getElem?_push, if_pos rfl])
  have RB0 := hid (show W0.heap[w.heap.size + 1]? = some imZ by subst hW0; exact heap_new2 w _ _)
  have K0 := hid (show Kept none' w W0 by subst hW0; exact ((Kept.refl _ w).alloc _).alloc _)
  obtain ⟨ib, hib⟩ : ∃ ib, ib = w.heap.size := ⟨_, rfl⟩
  obtain ⟨rb, hrb⟩ : ∃ rb, rb = ib + 1 := ⟨_, rfl⟩
  have IB := hid hib
  have RBE := hid hrb
  rw [← hib] at IM0 RB0 ⊢
  rw [← hrb] at RB0 ⊢
  clear hW0 hib hrb ID
  obtain ⟨c0, c1, c2, c3, c4, c5, c6, c7, c8⟩ := IM0.out.cells
  obtain ⟨g1, hg1⟩ : ∃ g, g = W0.heap.size := ⟨_, rfl⟩
  obtain ⟨W1, mk1, x1, k1, -⟩ := make_xr 25 5 (.int .u8 0) 1 1 Try.underlying25 info_u8 rfl nm (by have := HZ.out.m; rw [← NM.out] at this; omega) B1.out rb W0 (heap_lt RB0.out)
  rw [← hg1] at mk1 x1
  have G1 := hid (show rb < g1 ∧ g1 = W0.heap.size from ⟨by rw [hg1]; exact heap_lt RB0.out, hg1⟩)
  have X1 := hid (show XR rb W1 (.slice (some ⟨g1, 0, none⟩) nm nm) nm 5 nm (upTo (fun j => .int .u8 (I.mem j : Int)) (fun j => (Value.cells (.int .u8 0))[j % 1]!) 0) by
    have := x1.congr (G := upTo (fun j => .int .u8 (I.mem j : Int)) (fun j => (Value.cells (.int .u8 0))[j % 1]!) 0) fun j hj => (if_neg (by omega)).symm
    rwa [Nat.mul_one] at this)
  have Q1 := hid k1
  clear x1 k1 hg1
  go_wp2_with fail
  clear c0 c1 c2 c3 c4 c5 c6 c7 c8 mk1
  go_loopw [4] (fun iv W => ∃ a : Nat, a ≤ nm ∧ iv = .int .i64 a ∧ Hid (Kept none' W0 W ∧ XR rb W (.slice (some ⟨g1, 0, none⟩) nm nm) nm 5 nm (upTo (fun j => .int .u8 (I.mem j : Int)) (fun j => (Value.cells (.int .u8 0))[j % 1]!) a))) (fun iv _ => nm - (intOf iv).toNat)
  case atStart => exact ⟨0, Nat.zero_le _, rfl, hid ⟨Q1.out, X1.out⟩⟩
  case round =>
    clear Q1 X1
    obtain ⟨a, ha', rfl, hG⟩ := hrel
    have IMa := hid (IM0.out.keep hG.out.1)
    obtain ⟨c0, c1, c2, c3, c4, c5, c6, c7, c8⟩ := IMa.out.cells
    by_cases hlt : a < nm
    · have hai : (a : Int) < (nm : Int) := by omega
      obtain ⟨bl, o, rfl, hs⟩ : ∃ bl o, ma = some ⟨bl, o, none⟩ ∧ wr.cell? ⟨bl, o + a, none⟩ = some (.int .u8 (I.mem a : Int)) := by
        obtain ⟨-, oa, oc, e1, e2⟩ := IMa.out.d.mem
        cases e1
        rcases e2 with e2 | ⟨bl, o, rfl, -, hc'⟩
        · rw [NM.out] at hlt; omega
        · exact ⟨bl, o, rfl, (hc' a (by rw [← NM.out]; exact hlt)).2⟩
      have t0 := hG.out.2.cell (j := a) hlt
      have z0 := hG.out.2.frz a
      have R2 := hid (set1_kept (k := a) (x := (fun j => .int .u8 (I.mem j : Int)) a) hG.out.1 (Nat.le_of_eq G1.out.2.symm))
      have R3 := hid (hG.out.2.up hlt)
      have HLT := hid hlt
      clear hG hlt
      go_wp2_with fail
      have hw : wrap64 ((a : Int) + 1) = ((a + 1 : Nat) : Int) := by have := B1.out; have := HLT.out; rw [wrap64]; omega
      rw [hw]
      exact ⟨⟨a + 1, by have := HLT.out; omega, rfl, hid ⟨R2.out, R3.out⟩⟩, by have := HLT.out; simp only [intOf, Int.toNat_natCast]; omega⟩
    · have hai : ¬ (a : Int) < (nm : Int) := by omega
      have K1 := hid hG.out.1
      have D1 := hid (hG.out.2.done (by omega))
      have RB1 := hid ((hG.out.1.block _ (heap_lt RB0.out) (fun x => x)).trans RB0.out)
      clear hG
      have ea : nm = a := by omega
      subst ea
      go_upto_region 6 with fail
      clear c0 c1 c2 c3 c4 c5 c6 c7 c8
      have IM1 := IMa
      clear IMa
      obtain ⟨V1, hV1⟩ : ∃ W, W = wr := ⟨_, rfl⟩
      rw [← hV1] at K1 D1 RB1 IM1 ⊢
      clear hV1 hai ha'
      obtain ⟨c0, c1, c2, c3, c4, c5, c6, c7, c8⟩ := IM1.out.cells
      obtain ⟨g2, hg2⟩ : ∃ g, g = V1.heap.size := ⟨_, rfl⟩
      obtain ⟨W2, mk2, x2, k2, -⟩ := make_xr 26 39 (pgV zeroP) 11 88 Try.underlying26 info_pg9 rfl np (by have := HZ.out.p; rw [← NP.out] at this; omega) B2.out rb V1 (heap_lt RB1.out)
      rw [← hg2] at mk2 x2
      have G2 := hid (show rb < g2 ∧ g2 = V1.heap.size from ⟨by rw [hg2]; exact heap_lt RB1.out, hg2⟩)
      have X2 := hid (show Row W2 g2 np (fun i => if i < 0 then I.pg i else zeroP) from x2.row fun i hi j hj => by
        rw [if_neg (by omega)]
        rw [show (i * 11 + j) % 11 = j by omega]
        revert j
        exact lt11 rfl rfl rfl rfl rfl rfl rfl rfl rfl rfl rfl)
      have Q2 := hid k2
      clear x2 k2 hg2
      go_wp2_with fail
      clear c0 c1 c2 c3 c4 c5 c6 c7 c8 mk2
      go_loopw [6] (fun iv W => ∃ a : Nat, a ≤ np ∧ iv = .int .i64 a ∧ Hid (Kept none' V1 W ∧ Row W g2 np (fun i => if i < a then I.pg i else zeroP))) (fun iv _ => np - (intOf iv).toNat)
      case atStart => exact ⟨0, Nat.zero_le _, rfl, hid ⟨Q2.out, X2.out⟩⟩
      case round =>
        clear Q2 X2
        obtain ⟨a, ha', rfl, hG⟩ := hrel
        have IMa := hid (IM1.out.keep hG.out.1)
        obtain ⟨c0, c1, c2, c3, c4, c5, c6, c7, c8⟩ := IMa.out.cells
        by_cases hlt : a < np
        · have hai : (a : Int) < (np : Int) := by omega
          obtain ⟨bl, o, oc, hv, hpi, hpc⟩ := IMa.out.page a (by rw [← NP.out]; exact hlt)
          cases hv
          obtain ⟨d0, d1, d2, d3, d4, d5, d6, d7, d8, d9, d10⟩ := hpc.c
          obtain ⟨e0, e1, e2, e3, e4, e5, e6, e7, e8, e9, e10⟩ := hG.out.2.cell a hlt
          have zz := RowC.froz hG.out.2
          obtain ⟨p, hp⟩ : ∃ p, p = I.pg a := ⟨_, rfl⟩
          rw [← hp] at d0 d1 d2 d3 d4 d5 d6 d7 d8 d9 d10
          have HP := hid hp
          have R3 := hid (hG.out.2.put a hlt p)
          have R2 := hid (show Kept none' V1 (setP wr g2 a p) from hG.out.1.trans (setP_kept wr g2 a _) (fun _ _ x => x) (fun x hx e => by have := G2.out; omega))
          have HLT := hid hlt
          clear hG hpi hpc hp
          go_wp2_with fail
          have hw : wrap64 ((a : Int) + 1) = ((a + 1 : Nat) : Int) := by have := B2.out; have := HLT.out; rw [wrap64]; omega
          rw [hw]
          refine ⟨⟨a + 1, by have := HLT.out; omega, rfl, hid ⟨R2.out, R3.out.congr fun i hi => ?_⟩⟩, by have := HLT.out; simp only [intOf, Int.toNat_natCast]; omega⟩
          unfold upp
          by_cases e : i = a
          · rw [if_pos e, if_pos (by omega), e]
            exact HP.out
          · rw [if_neg e]
            show (if i < a then I.pg i else zeroP) = _
            by_cases l : i < a
            · rw [if_pos l, if_pos (by omega)]
            · rw [if_neg l, if_neg (by omega)]
        · have hai : ¬ (a : Int) < (np : Int) := by omega
          have K2 := hid hG.out.1
          have D2 := hid (row_xr (hG.out.2.congr (pg' := I.pg) fun i hi => if_pos (by omega)) G2.out.1)
          have RB2 := hid ((hG.out.1.block _ (heap_lt RB1.out) (fun x => x)).trans RB1.out)
          clear hG
          have ea : np = a := by omega
          subst ea
          go_upto_region 12 with fail
          clear c0 c1 c2 c3 c4 c5 c6 c7 c8
          have IM2 := IMa
          clear IMa
          obtain ⟨V2, hV2⟩ : ∃ W, W = wr := ⟨_, rfl⟩
          rw [← hV2] at K2 D2 RB2 IM2 ⊢
          clear hV2 hai ha'
          go_wp2_with fail
          go_loopw [7, 8] (fun pv iv W => ∃ (a : Nat) (xs : List Value), a ≤ no ∧ iv = .int .i64 a ∧ Hid (PrC rb V2 W I pv a xs)) (fun _ iv _ => no - (intOf iv).toNat)
          case atStart => exact ⟨0, [], Nat.zero_le _, rfl, hid ⟨GS.nil _ _ _ _ (Kept.refl _ _), fun i hi => by omega⟩⟩
          case round =>
            obtain ⟨a, xs, ha', rfl, hG⟩ := hrel
            have IMa := hid (IM2.out.keep hG.out.r.kp)
            obtain ⟨c0, c1, c2, c3, c4, c5, c6, c7, c8⟩ := IMa.out.cells
            obtain ⟨va, vc, hva⟩ := own_val hG.out.r.own
            subst hva
            by_cases hlt : a < no
            · have hai : (a : Int) < (no : Int) := by omega
              have hlt' : a < I.no := by rw [← NO.out]; exact hlt
              obtain ⟨ws, hSL⟩ := IMa.out.d.prs
              obtain ⟨-, oa, oc, e1, e2⟩ := hSL
              cases e1
              obtain ⟨bl, o, rfl, hcc, hsr⟩ : ∃ bl o, ra = some ⟨bl, o, none⟩ ∧ wr.cell? ⟨bl, o + a, none⟩ = some (ws a) ∧ Src wr (ws a) (I.pr a) := by
                rcases e2 with e2 | ⟨bl, o, rfl, -, hc'⟩
                · omega
                · exact ⟨bl, o, rfl, (hc' a hlt').1, (hc' a hlt').2⟩
              clear e2
              obtain ⟨h64, so, sc, hws, hsc⟩ := hsr
              rw [hws] at hcc
              obtain ⟨n, hn⟩ : ∃ n, n = (I.pr a).length := ⟨_, rfl⟩
              rw [← hn] at hcc
              have HN := hid hn
              have BN := hid (show n ≤ 9223372036854775807 by have := HZ.out.u a hlt'; omega)
              have SRC := hid (show ∀ W, Kept none' wr W → ∀ j, j < n → ∃ bb oo, so = some ⟨bb, oo, none⟩ ∧ W.cell? ⟨bb, oo + j, none⟩ = some (.int .u64 (((I.pr a).getD j 0 : Nat) : Int)) from fun W hW j hj => by
                rcases hsc with e | ⟨ad, rfl, -, hc'⟩
                · rw [hn, e] at hj; simp at hj
                · have g0 := hc' 0 (by omega)
                  have e0 : ad.add 0 = ad := by simp [Addr.add]
                  rw [e0] at g0
                  obtain ⟨bb, oo, s⟩ := ad
                  cases s with
                  | some s => simp [World.cell?] at g0; split at g0 <;> simp at g0
                  | none =>
                    have := hc' j (by omega)
                    rw [Addr.add_lit] at this
                    exact ⟨bb, oo, rfl, hW.cell (fun x => x) this⟩)
              have OUT := hid (show ∀ W, Kept none' wr W → W.cell? ⟨bl, o + a, none⟩ = some (.slice so n sc) from fun W hW => hW.cell (fun x => x) hcc)
              have HLT := hid hlt
              have rbl := (hG.out.r.kp.block _ (heap_lt RB2.out) (fun x => x)).trans RB2.out
              obtain ⟨g3, hg3⟩ : ∃ g, g = wr.heap.size := ⟨_, rfl⟩
              obtain ⟨W3, mk3, x3, k3, -⟩ := make_xr 28 22 (.int .u64 0) 1 8 Try.underlying28 info_w9 rfl n (by have := HZ.out.u a hlt'; omega) BN.out rb wr (heap_lt rbl)
              rw [← hg3] at mk3 x3
              have G3 := hid (show rb < g3 ∧ g3 = wr.heap.size from ⟨by rw [hg3]; exact heap_lt rbl, hg3⟩)
              have X3 := hid (show XR rb W3 (.slice (some ⟨g3, 0, none⟩) n n) n 22 n (upTo (fun j => .int .u64 (((I.pr a).getD j 0 : Nat) : Int)) (fun j => (Value.cells (.int .u64 0))[j % 1]!) 0) by
                have := x3.congr (G := upTo (fun j => .int .u64 (((I.pr a).getD j 0 : Nat) : Int)) (fun j => (Value.cells (.int .u64 0))[j % 1]!) 0) fun j hj => (if_neg (by omega)).symm
                rwa [Nat.mul_one] at this)
              have Q3 := hid k3
              clear x3 k3 hg3 hws hsc h64 hn hlt hlt' rbl
              go_wp2_with fail
              clear c0 c1 c2 c3 c4 c5 c6 c7 c8 mk3 hcc
              obtain ⟨wq, hwq⟩ : ∃ W, W = wr := ⟨_, rfl⟩
              rw [← hwq] at hG IMa SRC OUT G3 Q3
              clear hwq
              go_loopw [10] (fun iv W => ∃ b : Nat, b ≤ n ∧ iv = .int .i64 b ∧ Hid (Kept none' wq W ∧ XR rb W (.slice (some ⟨g3, 0, none⟩) n n) n 22 n (upTo (fun j => .int .u64 (((I.pr a).getD j 0 : Nat) : Int)) (fun j => (Value.cells (.int .u64 0))[j % 1]!) b))) (fun iv _ => n - (intOf iv).toNat)
              case atStart => exact ⟨0, Nat.zero_le _, rfl, hid ⟨Q3.out, X3.out⟩⟩
              case round =>
                clear Q3 X3
                obtain ⟨b, hb', rfl, hJ⟩ := hrel
                have IMb := hid (IMa.out.keep hJ.out.1)
                obtain ⟨c0, c1, c2, c3, c4, c5, c6, c7, c8⟩ := IMb.out.cells
                by_cases hlt : b < n
                · have hbi : (b : Int) < (n : Int) := by omega
                  have hcc := OUT.out _ hJ.out.1
                  obtain ⟨bb, oo, rfl, hs⟩ := SRC.out _ hJ.out.1 b hlt
                  have t0 := hJ.out.2.cell (j := b) hlt
                  have z0 := hJ.out.2.frz b
                  have R2 := hid (set1_kept (k := b) (x := .int .u64 (((I.pr a).getD b 0 : Nat) : Int)) hJ.out.1 (Nat.le_of_eq G3.out.2.symm))
                  have R3 := hid (hJ.out.2.up hlt)
                  have HLB := hid hlt
                  clear hJ hlt
                  go_wp2_with fail
                  have hw : wrap64 ((b : Int) + 1) = ((b + 1 : Nat) : Int) := by have := BN.out; have := HLB.out; rw [wrap64]; omega
                  rw [hw]
                  exact ⟨⟨b + 1, by have := HLB.out; omega, rfl, hid ⟨R2.out, R3.out⟩⟩, by have := HLB.out; simp only [intOf, Int.toNat_natCast]; omega⟩
                · have hbi : ¬ (b : Int) < (n : Int) := by omega
                  have KJ := hid hJ.out.1
                  have PX := hid (hG.out.keep hJ.out.1)
                  have XD := hid (hJ.out.2.done (by omega))
                  rw [HN.out] at XD
                  clear hJ
                  have eb : n = b := by omega
                  subst eb
                  obtain ⟨gg, cap, W5, HAP, G5, K5⟩ := GS.pushW PX.out.r (some ⟨g3, 0, none⟩) n n (by have h1 := HZ.out.r; have h2 := HLT.out; omega)
                  have P5 := hid (show PrC rb V2 W5 I (.slice (some ⟨gg, 0, none⟩) (a + 1) cap) (a + 1) (xs ++ [.slice (some ⟨g3, 0, none⟩) n n]) from PX.out.push (by rw [← HN.out] at XD ⊢; exact XD.out) G5 K5)
                  have HAP := hid HAP
                  clear G5 K5 c0 c1 c2 c3 c4 c5 c6 c7 c8
                  go_wp2_with (at_builtin; refine Lib.wpList_append_run _ rfl _ _ _ _ rfl _ _ rfl rfl _ _ (HAP.out _) ?_)
                  go_round
                  case rel => exact ⟨a + 1, _, by have := HLT.out; omega, by have : wrap64 ((a : Int) + 1) = ((a + 1 : Nat) : Int) := (by have := B3.out; have := HLT.out; rw [wrap64]; omega); rw [this], P5⟩
                  case measure => have hw : wrap64 ((a : Int) + 1) = ((a + 1 : Nat) : Int) := (by have := B3.out; have := HLT.out; rw [wrap64]; omega); rw [hw]; have := HLT.out; simp only [intOf, Int.toNat_natCast]; omega
            · have hai : ¬ (a : Int) < (no : Int) := by omega
              have K3 := hid hG.out.r.kp
              have ea : no = a := by omega
              subst ea
              have D3 := hid hG.out
              have RB3 := hid ((hG.out.r.kp.block _ (heap_lt RB2.out) (fun x => x)).trans RB2.out)
              clear hG
              go_upto_region 21 with fail
              clear c0 c1 c2 c3 c4 c5 c6 c7 c8
              have IM3 := IMa
              clear IMa
              obtain ⟨V3, hV3⟩ : ∃ W, W = wr := ⟨_, rfl⟩
              rw [← hV3] at K3 D3 RB3 IM3 ⊢
              clear hV3 hai ha'
              obtain ⟨c0, c1, c2, c3, c4, c5, c6, c7, c8⟩ := IM3.out.cells
              obtain ⟨g4, hg4⟩ : ∃ g, g = V3.heap.size := ⟨_, rfl⟩
              obtain ⟨W4, mk4, x4, k4, -⟩ := make_xr 28 22 (.int .u64 0) 1 8 Try.underlying28 info_w9 rfl nh (by have := HZ.out.h; rw [← NH.out] at this; omega) B4.out rb V3 (heap_lt RB3.out)
              rw [← hg4] at mk4 x4
              have G4 := hid (show rb < g4 ∧ g4 = V3.heap.size from ⟨by rw [hg4]; exact heap_lt RB3.out, hg4⟩)
              have X4 := hid (show XR rb W4 (.slice (some ⟨g4, 0, none⟩) nh nh) nh 22 nh (upTo (fun j => .int .u64 ((I.hd.getD j 0 : Nat) : Int)) (fun j => (Value.cells (.int .u64 0))[j % 1]!) 0) by
                have := x4.congr (G := upTo (fun j => .int .u64 ((I.hd.getD j 0 : Nat) : Int)) (fun j => (Value.cells (.int .u64 0))[j % 1]!) 0) fun j hj => (if_neg (by omega)).symm
                rwa [Nat.mul_one] at this)
              have Q4 := hid k4
              clear x4 k4 hg4
              go_wp2_with fail
              clear c0 c1 c2 c3 c4 c5 c6 c7 c8 mk4
              go_loopw [12] (fun iv W => ∃ a : Nat, a ≤ nh ∧ iv = .int .i64 a ∧ Hid (Kept none' V3 W ∧ XR rb W (.slice (some ⟨g4, 0, none⟩) nh nh) nh 22 nh (upTo (fun j => .int .u64 ((I.hd.getD j 0 : Nat) : Int)) (fun j => (Value.cells (.int .u64 0))[j % 1]!) a))) (fun iv _ => nh - (intOf iv).toNat)
              case atStart => exact ⟨0, Nat.zero_le _, rfl, hid ⟨Q4.out, X4.out⟩⟩
              case round =>
                clear Q4 X4
                obtain ⟨a, ha', rfl, hG⟩ := hrel
                have IMa := hid (IM3.out.keep hG.out.1)
                obtain ⟨c0, c1, c2, c3, c4, c5, c6, c7, c8⟩ := IMa.out.cells
                by_cases hlt : a < nh
                · have hai : (a : Int) < (nh : Int) := by omega
                  obtain ⟨bl, o, rfl, hs⟩ : ∃ bl o, ha = some ⟨bl, o, none⟩ ∧ wr.cell? ⟨bl, o + a, none⟩ = some (.int .u64 ((I.hd.getD a 0 : Nat) : Int)) := by
                    obtain ⟨-, oa, oc, e1, e2⟩ := IMa.out.d.hds
                    cases e1
                    rcases e2 with e2 | ⟨bl, o, rfl, -, hc'⟩
                    · rw [NH.out] at hlt; omega
                    · exact ⟨bl, o, rfl, (hc' a (by rw [← NH.out]; exact hlt)).2⟩
                  have t0 := hG.out.2.cell (j := a) hlt
                  have z0 := hG.out.2.frz a
                  have R2 := hid (set1_kept (k := a) (x := (fun j => .int .u64 ((I.hd.getD j 0 : Nat) : Int)) a) hG.out.1 (Nat.le_of_eq G4.out.2.symm))
                  have R3 := hid (hG.out.2.up hlt)
                  have HLT := hid hlt
                  clear hG hlt
                  go_wp2_with fail
                  have hw : wrap64 ((a : Int) + 1) = ((a + 1 : Nat) : Int) := by have := B4.out; have := HLT.out; rw [wrap64]; omega
                  rw [hw]
                  exact ⟨⟨a + 1, by have := HLT.out; omega, rfl, hid ⟨R2.out, R3.out⟩⟩, by have := HLT.out; simp only [intOf, Int.toNat_natCast]; omega⟩
                · have hai : ¬ (a : Int) < (nh : Int) := by omega
                  have K4 := hid hG.out.1
                  have D4 := hid (hG.out.2.done (by omega))
                  have RB4 := hid ((hG.out.1.block _ (heap_lt RB3.out) (fun x => x)).trans RB3.out)
                  clear hG
                  have ea : nh = a := by omega
                  subst ea
                  go_upto_region 26 with fail
                  clear c0 c1 c2 c3 c4 c5 c6 c7 c8
                  have IM4 := IMa
                  clear IMa
                  obtain ⟨V4, hV4⟩ : ∃ W, W = wr := ⟨_, rfl⟩
                  rw [← hV4] at K4 D4 RB4 IM4 ⊢
                  clear hV4 hai ha'
                  obtain ⟨c0, c1, c2, c3, c4, c5, c6, c7, c8⟩ := IM4.out.cells
                  obtain ⟨g5, hg5⟩ : ∃ g, g = V4.heap.size := ⟨_, rfl⟩
                  obtain ⟨W5, mk5, x5, k5, -⟩ := make_xr 29 3 (.int .i64 0) 1 8 Try.underlying29 info_i9 rfl nt (by have := HZ.out.t; rw [← NT.out] at this; omega) B5.out rb V4 (heap_lt RB4.out)
                  rw [← hg5] at mk5 x5
                  have G5 := hid (show rb < g5 ∧ g5 = V4.heap.size from ⟨by rw [hg5]; exact heap_lt RB4.out, hg5⟩)
                  have X5 := hid (show XR rb W5 (.slice (some ⟨g5, 0, none⟩) nt nt) nt 3 nt (upTo (fun j => .int .i64 (I.pt.getD j 0)) (fun j => (Value.cells (.int .i64 0))[j % 1]!) 0) by
                    have := x5.congr (G := upTo (fun j => .int .i64 (I.pt.getD j 0)) (fun j => (Value.cells (.int .i64 0))[j % 1]!) 0) fun j hj => (if_neg (by omega)).symm
                    rwa [Nat.mul_one] at this)
                  have Q5 := hid k5
                  clear x5 k5 hg5
                  go_wp2_with fail
                  clear c0 c1 c2 c3 c4 c5 c6 c7 c8 mk5
                  go_loopw [14] (fun iv W => ∃ a : Nat, a ≤ nt ∧ iv = .int .i64 a ∧ Hid (Kept none' V4 W ∧ XR rb W (.slice (some ⟨g5, 0, none⟩) nt nt) nt 3 nt (upTo (fun j => .int .i64 (I.pt.getD j 0)) (fun j => (Value.cells (.int .i64 0))[j % 1]!) a))) (fun iv _ => nt - (intOf iv).toNat)
                  case atStart => exact ⟨0, Nat.zero_le _, rfl, hid ⟨Q5.out, X5.out⟩⟩
                  case round =>
                    clear Q5 X5
                    obtain ⟨a, ha', rfl, hG⟩ := hrel
                    have IMa := hid (IM4.out.keep hG.out.1)
                    obtain ⟨c0, c1, c2, c3, c4, c5, c6, c7, c8⟩ := IMa.out.cells
                    by_cases hlt : a < nt
                    · have hai : (a : Int) < (nt : Int) := by omega
                      obtain ⟨bl, o, rfl, hs⟩ : ∃ bl o, ta = some ⟨bl, o, none⟩ ∧ wr.cell? ⟨bl, o + a, none⟩ = some (.int .i64 (I.pt.getD a 0)) := by
                        obtain ⟨-, oa, oc, e1, e2⟩ := IMa.out.d.pts
                        cases e1
                        rcases e2 with e2 | ⟨bl, o, rfl, -, hc'⟩
                        · rw [NT.out] at hlt; omega
                        · exact ⟨bl, o, rfl, (hc' a (by rw [← NT.out]; exact hlt)).2⟩
                      have t0 := hG.out.2.cell (j := a) hlt
                      have z0 := hG.out.2.frz a
                      have R2 := hid (set1_kept (k := a) (x := (fun j => .int .i64 (I.pt.getD j 0)) a) hG.out.1 (Nat.le_of_eq G5.out.2.symm))
                      have R3 := hid (hG.out.2.up hlt)
                      have HLT := hid hlt
                      clear hG hlt
                      go_wp2_with fail
                      have hw : wrap64 ((a : Int) + 1) = ((a + 1 : Nat) : Int) := by have := B5.out; have := HLT.out; rw [wrap64]; omega
                      rw [hw]
                      exact ⟨⟨a + 1, by have := HLT.out; omega, rfl, hid ⟨R2.out, R3.out⟩⟩, by have := HLT.out; simp only [intOf, Int.toNat_natCast]; omega⟩
                    · have hai : ¬ (a : Int) < (nt : Int) := by omega
                      have K5 := hid hG.out.1
                      have D5 := hid (hG.out.2.done (by omega))
                      have RB5 := hid ((hG.out.1.block _ (heap_lt RB4.out) (fun x => x)).trans RB4.out)
                      clear hG
                      have ea : nt = a := by omega
                      subst ea
                      go_upto_region 31 with fail
                      clear c0 c1 c2 c3 c4 c5 c6 c7 c8
                      have IM5 := IMa
                      clear IMa
                      obtain ⟨V5, hV5⟩ : ∃ W, W = wr := ⟨_, rfl⟩
                      rw [← hV5] at K5 D5 RB5 IM5 ⊢
                      clear hV5 hai ha'
                      obtain ⟨c0, c1, c2, c3, c4, c5, c6, c7, c8⟩ := IM5.out.cells
                      have B := RB5.out
                      have f0 : V5.cell? ⟨rb, 0, none⟩ = some (.int .u64 0) := by simp [World.cell?, B]
                      have y0 : V5.frozen? ⟨rb, 0, none⟩ = false := by simp [World.frozen?, B]
                      have f1 : V5.cell? ⟨rb, 1, none⟩ = some (.int .i64 0) := by simp [World.cell?, B]
                      have y1 : V5.frozen? ⟨rb, 1, none⟩ = false := by simp [World.frozen?, B]
                      have f2 : V5.cell? ⟨rb, 2, none⟩ = some (.int .i64 0) := by simp [World.cell?, B]
                      have y2 : V5.frozen? ⟨rb, 2, none⟩ = false := by simp [World.frozen?, B]
                      have f3 : V5.cell? ⟨rb, 3, none⟩ = some (.int .i64 0) := by simp [World.cell?, B]
                      have y3 : V5.frozen? ⟨rb, 3, none⟩ = false := by simp [World.frozen?, B]
                      have f4 : V5.cell? ⟨rb, 4, none⟩ = some (.slice none 0 0) := by simp [World.cell?, B]
                      have y4 : V5.frozen? ⟨rb, 4, none⟩ = false := by simp [World.frozen?, B]
                      have f5 : V5.cell? ⟨rb, 5, none⟩ = some (.slice none 0 0) := by simp [World.cell?, B]
                      have y5 : V5.frozen? ⟨rb, 5, none⟩ = false := by simp [World.frozen?, B]
                      have f6 : V5.cell? ⟨rb, 6, none⟩ = some (.slice none 0 0) := by simp [World.cell?, B]
                      have y6 : V5.frozen? ⟨rb, 6, none⟩ = false := by simp [World.frozen?, B]
                      have f7 : V5.cell? ⟨rb, 7, none⟩ = some (.slice none 0 0) := by simp [World.cell?, B]
                      have y7 : V5.frozen? ⟨rb, 7, none⟩ = false := by simp [World.frozen?, B]
                      have f8 : V5.cell? ⟨rb, 8, none⟩ = some (.slice none 0 0) := by simp [World.cell?, B]
                      have y8 : V5.frozen? ⟨rb, 8, none⟩ = false := by simp [World.frozen?, B]
                      clear B
                      go_wp2_with fail
                      have ez1 := NM.out
                      have ez2 := NP.out
                      have ez3 := NO.out
                      have ez4 := NH.out
                      have ez5 := NT.out
                      subst ez1 ez2 ez3 ez4 ez5
                      have kS := ((((((((((Kept.refl (fun b => b = rb) V5).setCell (p := ⟨rb, 0, none⟩) rfl (.int .u64 (I.base : Int))).setCell (p := ⟨rb, 1, none⟩) rfl (.int .i64 I.lim)).setCell (p := ⟨rb, 2, none⟩) rfl (.int .i64 I.ord)).setCell (p := ⟨rb, 3, none⟩) rfl (.int .i64 I.reg)).setCell (p := ⟨rb, 4, none⟩) rfl (.slice (some ⟨g1, 0, none⟩) I.nm I.nm)).setCell (p := ⟨rb, 5, none⟩) rfl (.slice (some ⟨g2, 0, none⟩) I.np I.np)).setCell (p := ⟨rb, 6, none⟩) rfl (.slice va I.no vc)).setCell (p := ⟨rb, 7, none⟩) rfl (.slice (some ⟨g4, 0, none⟩) I.hd.length I.hd.length)).setCell (p := ⟨rb, 8, none⟩) rfl (.slice (some ⟨g5, 0, none⟩) I.pt.length I.pt.length))
                      refine bodyPost_ret (results_cell_row rfl _ _ _ _ _ _ _ rfl (st9 RB5.out _ _ _ _ _ _ _ _ _) Try.underlying31 rfl (by kernel_rfl)) rfl ?_
                      have nf : ∀ {n N : Nat} {V : World} {v : Value} {T : TypeId} {F : Nat → Value}, XR rb V v n T N F → ∀ b, v.ownBlock = some b → ¬ b = rb := fun h b hb e => by have := h.own hb; omega
                      have kE : Kept none' W0 V5 := none_trans K1.out (none_trans K2.out (none_trans K3.out (none_trans K4.out K5.out)))
                      have k15 : Kept none' V1 V5 := none_trans K2.out (none_trans K3.out (none_trans K4.out K5.out))
                      have k25 : Kept none' V2 V5 := none_trans K3.out (none_trans K4.out K5.out)
                      have k35 : Kept none' V3 V5 := none_trans K4.out K5.out
                      have d1 := D1.out.keep k15
                      have d2 := D2.out.keep k25
                      have d3 := D3.out.keep k35
                      have d4 := D4.out.keep K5.out
                      have d5 := D5.out
                      have hle : w.heap.size ≤ rb := by have := IB.out; have := RBE.out; omega
                      have kw : Kept none' w V2 := none_trans K0.out (none_trans K1.out K2.out)
                      have hnr : ∀ b, (Value.slice va I.no vc).ownBlock = some b → ¬ b = rb := fun b hb e => by
                        obtain ⟨c, hc⟩ := gs_ty d3.r hb
                        rw [e, RB5.out] at hc
                        cases hc
                      have kF := (none_trans K0.out kE).trans kS (fun _ _ x => x) (fun x hx e => absurd hx (by have := IB.out; have := RBE.out; omega))
                      have hr := GS.moved d3.r kS hnr kw.size kF
                      refine ⟨⟨.slice (some ⟨g1, 0, none⟩) I.nm I.nm, .slice (some ⟨g2, 0, none⟩) I.np I.np, .slice va I.no vc, .slice (some ⟨g4, 0, none⟩) I.hd.length I.hd.length, .slice (some ⟨g5, 0, none⟩) I.pt.length I.pt.length⟩, rfl, ⟨xs, ?_⟩, kF⟩
                      exact ⟨OK.out, (d1.keepS kS (nf d1)).le hle, (d2.keepS kS (nf d2)).le hle, hr, fun i hi => ((d3.u i hi).keepS kS (nf (d3.u i hi))).le hle, (d4.keepS kS (nf d4)).le hle, (d5.keepS kS (nf d5)).le hle⟩
end Go.Proofs.Ytcgbefmjnhkdgaa
