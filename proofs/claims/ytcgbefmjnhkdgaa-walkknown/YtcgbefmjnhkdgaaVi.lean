import Derived.Test.YtcgbefmjnhkdgaaVc
set_option maxRecDepth 1000000
set_option maxHeartbeats 80000000
/- WalkKnown: an image in its box, changed step by step. -/
namespace Go.Proofs.Ytcgbefmjnhkdgaa
open Go.RowKit
set_option linter.unusedVariables false
/-- The slices of an image whose rows are whole blocks. -/
abbrev kV (I : Img) (bm bp br bh bt : Nat) : ImV := ⟨.slice (some ⟨bm, 0, none⟩) I.nm I.nm, .slice (some ⟨bp, 0, none⟩) I.np I.np, .slice (some ⟨br, 0, none⟩) I.no I.no, .slice (some ⟨bh, 0, none⟩) I.hd.length I.hd.length, .slice (some ⟨bt, 0, none⟩) I.pt.length I.pt.length⟩
abbrev kW (I : Img) (bu : Nat) : Nat → Value := fun _ => .slice (some ⟨bu, 0, none⟩) (I.pr 0).length (I.pr 0).length
theorem ImX.ki {s : Nat} {w : World} {I : Img} {V : ImV} {ws : Nat → Value} (h : ImX s w I V ws) (h1 : I.no = 1) : ∃ bm bp br bu bh bt, V = kV I bm bp br bh bt ∧ ImX s w I (kV I bm bp br bh bt) (kW I bu) := by
  have hx := h
  obtain ⟨m, p, r, q, t⟩ := V
  obtain ⟨bm, cm, a1, e1, -⟩ := h.m
  obtain ⟨bp, cp, b1, e2, -⟩ := h.p
  obtain ⟨br, cr, c1, e3, c2, c3, c4⟩ := h.r
  obtain ⟨bh, ch, d1, e4, -⟩ := h.h
  obtain ⟨bt, ct, f1, e5, -⟩ := h.t
  obtain ⟨bu, cu, g1, e6, -⟩ := h.u 0 (by omega)
  dsimp only at e1 e2 e3 e4 e5
  subst e1 e2 e3 e4 e5
  refine ⟨bm, bp, br, bu, bh, bt, rfl, hx.ok, hx.m, hx.p, hx.r.congr fun j hj => ?_, fun i hi => ?_, hx.h, hx.t⟩
  · have : j = 0 := by omega
    subst this
    exact e6
  · have : i = 0 := by omega
    subst this
    have := hx.u 0 hi
    rw [e6] at this
    exact this
structure KI (s : Nat) (W : World) (b : Nat) (I : Img) (bm bp br bu bh bt : Nat) : Prop where
  bx : W.heap[b]? = some (imO I (kV I bm bp br bh bt))
  x : ImX s W I (kV I bm bp br bh bt) (kW I bu)
  sb : s ≤ b
  o1 : I.no = 1
theorem KI.keep {s W W' b I bm bp br bu bh bt} (h : KI s W b I bm bp br bu bh bt) (hk : Kept none' W W') : KI s W' b I bm bp br bu bh bt :=
  ⟨(hk.block _ (heap_lt h.bx) (fun x => x)).trans h.bx, h.x.keep hk, h.sb, h.o1⟩
theorem KI.at {s W b I bm bp br bu bh bt} (h : KI s W b I bm bp br bu bh bt) : ImAt W b I (kV I bm bp br bh bt) := ⟨h.bx, h.x.d⟩
theorem bt_ne {W : World} {x y : Nat} {c d : Array Value} {T U : TypeId} (h : W.heap[x]? = some (.cells c T)) (k : W.heap[y]? = some (.cells d U)) (hT : T ≠ U) : ¬ x = y := by
  rintro rfl
  rw [h] at k
  cases k
  exact hT rfl
theorem XR.hp {s n N : Nat} {w : World} {b m c : Nat} {T : TypeId} {F : Nat → Value} (h : XR s w (.slice (some ⟨b, 0, none⟩) m c) n T N F) : s < b ∧ ∃ cs, w.heap[b]? = some (.cells cs T) := ⟨h.own rfl, h.ty rfl⟩
/-- One row was written; the others stay. -/
theorem XR.far {s n N : Nat} {w W : World} {b m c t : Nat} {T U : TypeId} {F : Nat → Value} {cs : Array Value} (h : XR s w (.slice (some ⟨b, 0, none⟩) m c) n T N F) (hk : Kept (fun y => y = t) w W) (ht : w.heap[t]? = some (.cells cs U)) (hT : T ≠ U) : XR s W (.slice (some ⟨b, 0, none⟩) m c) n T N F :=
  h.keepS hk fun y hy e => by
    obtain ⟨c1, e1⟩ := h.ty hy
    rw [e] at e1
    exact bt_ne e1 ht hT rfl
theorem set_k {W : World} {t k : Nat} {x : Value} : Kept (fun y => y = t) W (W.setCell ⟨t, k, none⟩ x) := (Kept.refl (fun y => y = t) W).setCell (p := ⟨t, k, none⟩) rfl x
theorem KI.pg {s W b I bm bp br bu bh bt} (h : KI s W b I bm bp br bu bh bt) (k : Nat) (x : Value) (pg' : Nat → Pg) (hk : k < I.np * 11) (hok : ∀ i, i < I.np → PgIn (pg' i)) (hc : ∀ j, j < I.np * 11 → (if j = k then x else (I.pg (j / 11)).fld (j % 11)) = (pg' (j / 11)).fld (j % 11)) :
    KI s (W.setCell ⟨bp, k, none⟩ x) b { I with pg := pg' } bm bp br bu bh bt ∧ s < bp := by
  obtain ⟨hs, cs, ht⟩ := h.x.p.hp
  have ok := h.x.ok
  refine ⟨⟨(set_k.block b (heap_lt h.bx) (fun e => bt_ne h.bx ht (by decide) e)).trans h.bx, ⟨⟨ok.b64, ok.lim, ok.ord, ok.reg, ok.nm, ok.np, ok.no, ok.nh, ok.nt, ok.mem, hok, ok.pr, ok.hd, ok.pt⟩, h.x.m.far set_k ht (by decide), (h.x.p.put hk x).congr hc, h.x.r.far set_k ht (by decide), fun i hi => (h.x.u i hi).far set_k ht (by decide), h.x.h.far set_k ht (by decide), h.x.t.far set_k ht (by decide)⟩, h.sb, h.o1⟩, hs⟩
theorem KI.page {s W b I bm bp br bu bh bt} (h : KI s W b I bm bp br bu bh bt) (i : Nat) (p : Pg) (hi : i < I.np) (hp : PgIn p) : KI s (setP W bp i p) b { I with pg := upp I.pg i p } bm bp br bu bh bt ∧ s < bp := by
  obtain ⟨hs, cs, ht⟩ := h.x.p.hp
  have ok := h.x.ok
  have hk := setP_kept W bp i p
  have hr : Row W bp I.np I.pg := h.x.p.row fun a ha j hj => by rw [show (a * 11 + j) / 11 = a by omega, show (a * 11 + j) % 11 = j by omega]
  refine ⟨⟨(hk.block b (heap_lt h.bx) (fun e => bt_ne h.bx ht (by decide) e)).trans h.bx, ⟨⟨ok.b64, ok.lim, ok.ord, ok.reg, ok.nm, ok.np, ok.no, ok.nh, ok.nt, ok.mem, fun a ha => ?_, ok.pr, ok.hd, ok.pt⟩, h.x.m.far hk ht (by decide), row_xr (hr.put i hi p) hs, h.x.r.far hk ht (by decide), fun i hi => (h.x.u i hi).far hk ht (by decide), h.x.h.far hk ht (by decide), h.x.t.far hk ht (by decide)⟩, h.sb, h.o1⟩, hs⟩
  show PgIn (upp I.pg i p a)
  unfold upp
  split
  · exact hp
  · exact ok.pg a ha
theorem KI.mem {s W b I bm bp br bu bh bt} (h : KI s W b I bm bp br bu bh bt) (k v : Nat) (hk : k < I.nm) (hv : v < 256) : KI s (W.setCell ⟨bm, k, none⟩ (.int .u8 (v : Int))) b (setM I k v) bm bp br bu bh bt ∧ s < bm := by
  obtain ⟨hs, cs, ht⟩ := h.x.m.hp
  have ok := h.x.ok
  refine ⟨⟨(set_k.block b (heap_lt h.bx) (fun e => bt_ne h.bx ht (by decide) e)).trans h.bx, ⟨⟨ok.b64, ok.lim, ok.ord, ok.reg, ok.nm, ok.np, ok.no, ok.nh, ok.nt, fun i hi => ?_, ok.pg, ok.pr, ok.hd, ok.pt⟩, (h.x.m.put hk _).congr fun j hj => ?_, h.x.p.far set_k ht (by decide), h.x.r.far set_k ht (by decide), fun i hi => (h.x.u i hi).far set_k ht (by decide), h.x.h.far set_k ht (by decide), h.x.t.far set_k ht (by decide)⟩, h.sb, h.o1⟩, hs⟩
  · show (if i = k then v else I.mem i) < 256
    split
    · exact hv
    · exact ok.mem i hi
  · show _ = Value.int .u8 (((if j = k then v else I.mem j) : Nat) : Int)
    by_cases e : j = k
    · rw [if_pos e, if_pos e]
    · rw [if_neg e, if_neg e]
theorem KI.pt {s W b I bm bp br bu bh bt} (h : KI s W b I bm bp br bu bh bt) (k : Nat) (x : Int) (hx : N64 x) (hk : k < I.pt.length) : KI s (W.setCell ⟨bt, k, none⟩ (.int .i64 x)) b { I with pt := I.pt.set k x } bm bp br bu bh bt ∧ s < bt := by
  obtain ⟨hs, cs, ht⟩ := h.x.t.hp
  have ok := h.x.ok
  have hg : ∀ j, j < I.pt.length → (I.pt.set k x).getD j 0 = if j = k then x else I.pt.getD j 0 := fun j hj => by
    rw [List.getD, List.getElem?_set]
    by_cases e : k = j
    · rw [if_pos e, if_pos (by omega), if_pos e.symm]; rfl
    · rw [if_neg e, if_neg (fun e' => e e'.symm)]; rfl
  refine ⟨⟨?_, ⟨⟨ok.b64, ok.lim, ok.ord, ok.reg, ok.nm, ok.np, ok.no, ok.nh, by show (I.pt.set k x).length ≤ _; rw [List.length_set]; exact ok.nt, ok.mem, ok.pg, ok.pr, ok.hd, fun i hi => ?_⟩, h.x.m.far set_k ht (by decide), h.x.p.far set_k ht (by decide), h.x.r.far set_k ht (by decide), fun i hi => (h.x.u i hi).far set_k ht (by decide), h.x.h.far set_k ht (by decide), ?_⟩, h.sb, h.o1⟩, hs⟩
  · refine ((set_k.block b (heap_lt h.bx) (fun e => bt_ne h.bx ht (by decide) e)).trans h.bx).trans ?_
    simp only [imO, List.length_set]
  · rw [show ({ I with pt := I.pt.set k x } : Img).pt = I.pt.set k x from rfl, List.length_set] at hi
    show N64 ((I.pt.set k x).getD i 0)
    rw [hg i hi]
    split
    · exact hx
    · exact ok.pt i hi
  · show XR s _ (.slice (some ⟨bt, 0, none⟩) (I.pt.set k x).length (I.pt.set k x).length) (I.pt.set k x).length 3 (I.pt.set k x).length fun j => .int .i64 ((I.pt.set k x).getD j 0)
    rw [List.length_set]
    refine (h.x.t.put hk (.int .i64 x)).congr fun j hj => ?_
    rw [hg j hj]
    split <;> rfl
theorem KI.pr {s W b I bm bp br bu bh bt} (h : KI s W b I bm bp br bu bh bt) (hne : ¬ bh = bu) (k x : Nat) (hx : x < 2 ^ 64) (hk : k < (I.pr 0).length) : KI s (W.setCell ⟨bu, k, none⟩ (.int .u64 (x : Int))) b { I with pr := fun _ => (I.pr 0).set k x } bm bp br bu bh bt ∧ s < bu := by
  have hu0 := h.x.u 0 (by rw [h.o1]; decide)
  obtain ⟨hs, cs, ht⟩ := hu0.hp
  have ok := h.x.ok
  have hg : ∀ j, j < (I.pr 0).length → ((I.pr 0).set k x).getD j 0 = if j = k then x else (I.pr 0).getD j 0 := fun j hj => by
    rw [List.getD, List.getElem?_set]
    by_cases e : k = j
    · rw [if_pos e, if_pos (by omega), if_pos e.symm]; rfl
    · rw [if_neg e, if_neg (fun e' => e e'.symm)]; rfl
  have hl : kW { I with pr := fun _ => (I.pr 0).set k x } bu = kW I bu := by
    funext i
    simp [kW]
  refine ⟨⟨(set_k.block b (heap_lt h.bx) (fun e => bt_ne h.bx ht (by decide) e)).trans h.bx, ?_, h.sb, h.o1⟩, hs⟩
  rw [hl]
  refine ⟨⟨ok.b64, ok.lim, ok.ord, ok.reg, ok.nm, ok.np, ok.no, ok.nh, ok.nt, ok.mem, ok.pg, fun i hi j => ?_, ok.hd, ok.pt⟩, h.x.m.far set_k ht (by decide), h.x.p.far set_k ht (by decide), h.x.r.far set_k ht (by decide), fun i hi => ?_, h.x.h.keepS set_k fun y hy e => ?_, h.x.t.far set_k ht (by decide)⟩
  · show ((I.pr 0).set k x).getD j 0 < 2 ^ 64
    by_cases e : j < (I.pr 0).length
    · rw [hg j e]
      split
      · exact hx
      · exact ok.pr 0 (by rw [h.o1]; decide) j
    · rw [List.getD, List.getElem?_eq_none (by rw [List.length_set]; omega)]
      decide
  · show XR s _ (.slice (some ⟨bu, 0, none⟩) (I.pr 0).length (I.pr 0).length) ((I.pr 0).set k x).length 22 ((I.pr 0).set k x).length fun j => .int .u64 ((((I.pr 0).set k x).getD j 0 : Nat) : Int)
    rw [List.length_set]
    refine (hu0.put hk (.int .u64 (x : Int))).congr fun j hj => ?_
    rw [hg j hj]
    split <;> rfl
  · have : bh = y := by simpa [Value.ownBlock] using hy
    exact hne (this.trans e)
theorem box_k {W : World} {b : Nat} {k : Nat} {x : Value} {s : Nat} {I : Img} {bm bp br bu bh bt : Nat} (h : KI s W b I bm bp br bu bh bt) : ∀ {n N m c y : Nat} {T : TypeId} {F : Nat → Value}, XR s W (.slice (some ⟨y, 0, none⟩) m c) n T N F → T ≠ 31 → XR s (W.setCell ⟨b, k, none⟩ x) (.slice (some ⟨y, 0, none⟩) m c) n T N F := fun hx hT => hx.far set_k h.bx hT
theorem KI.lim {s W b I bm bp br bu bh bt} (h : KI s W b I bm bp br bu bh bt) (x : Int) (hx : N64 x) : KI s (W.setCell ⟨b, 1, none⟩ (.int .i64 x)) b { I with lim := x } bm bp br bu bh bt := by
  have ok := h.x.ok
  exact ⟨set_at h.bx _, ⟨⟨ok.b64, hx, ok.ord, ok.reg, ok.nm, ok.np, ok.no, ok.nh, ok.nt, ok.mem, ok.pg, ok.pr, ok.hd, ok.pt⟩, box_k h h.x.m (by decide), box_k h h.x.p (by decide), box_k h h.x.r (by decide), fun i hi => box_k h (h.x.u i hi) (by decide), box_k h h.x.h (by decide), box_k h h.x.t (by decide)⟩, h.sb, h.o1⟩
theorem KI.hd {s W b I bm bp br bu bh bt} (h : KI s W b I bm bp br bu bh bt) (l : List Nat) (cs : Array Value) (hl : l.length ≤ 9223372036854775807) (hx : ∀ i, i < l.length → l.getD i 0 < 18446744073709551616) (h1 : cs.size = l.length) (h2 : ∀ j, j < l.length → cs[j]? = some (.int .u64 ((l.getD j 0 : Nat) : Int))) :
    KI s ((W.alloc (.cells cs 22)).setCell ⟨b, 7, none⟩ (.slice (some ⟨W.heap.size, 0, none⟩) l.length l.length)) b { I with hd := l } bm bp br bu W.heap.size bt := by
  have ok := h.x.ok
  have ka : Kept none' W (W.alloc (.cells cs 22)) := (Kept.refl _ W).alloc _
  have h' := h.keep ka
  have hb := heap_lt h.bx
  refine ⟨set_at h'.bx _, ⟨⟨ok.b64, ok.lim, ok.ord, ok.reg, ok.nm, ok.np, ok.no, hl, ok.nt, ok.mem, ok.pg, ok.pr, hx, ok.pt⟩, box_k h' h'.x.m (by decide), box_k h' h'.x.p (by decide), box_k h' h'.x.r (by decide), fun i hi => box_k h' (h'.x.u i hi) (by decide), ?_, box_k h' h'.x.t (by decide)⟩, h.sb, h.o1⟩
  refine box_k h' (⟨W.heap.size, cs, by have := h.sb; omega, rfl, heap_new _ _, h1, h2⟩ : XR s _ (.slice (some ⟨W.heap.size, 0, none⟩) l.length l.length) l.length 22 l.length fun j => .int .u64 ((l.getD j 0 : Nat) : Int)) (by decide)
theorem st9g {W : World} {s : Nat} {y0 y1 y2 y3 y4 y5 y6 y7 y8 : Value} (b0 : W.heap[s]? = some (.cells #[y0, y1, y2, y3, y4, y5, y6, y7, y8] 31)) (x0 x1 x2 x3 x4 x5 x6 x7 x8 : Value) : (((((((((W.setCell ⟨s, 0, none⟩ x0).setCell ⟨s, 1, none⟩ x1).setCell ⟨s, 2, none⟩ x2).setCell ⟨s, 3, none⟩ x3).setCell ⟨s, 4, none⟩ x4).setCell ⟨s, 5, none⟩ x5).setCell ⟨s, 6, none⟩ x6).setCell ⟨s, 7, none⟩ x7).setCell ⟨s, 8, none⟩ x8).heap[s]? = some (.cells #[x0, x1, x2, x3, x4, x5, x6, x7, x8] 31) := by
  refine (set_at (k := 8) (set_at (k := 7) (set_at (k := 6) (set_at (k := 5) (set_at (k := 4) (set_at (k := 3) (set_at (k := 2) (set_at (k := 1) (set_at (k := 0) b0 x0) x1) x2) x3) x4) x5) x6) x7) x8).trans ?_
  simp only [List.setIfInBounds_toArray, List.set_cons_zero, List.set_cons_succ]
theorem st9k {W : World} {s : Nat} (x0 x1 x2 x3 x4 x5 x6 x7 x8 : Value) : Kept (fun y => y = s) W (((((((((W.setCell ⟨s, 0, none⟩ x0).setCell ⟨s, 1, none⟩ x1).setCell ⟨s, 2, none⟩ x2).setCell ⟨s, 3, none⟩ x3).setCell ⟨s, 4, none⟩ x4).setCell ⟨s, 5, none⟩ x5).setCell ⟨s, 6, none⟩ x6).setCell ⟨s, 7, none⟩ x7).setCell ⟨s, 8, none⟩ x8) :=
  (((((((((Kept.refl (fun y => y = s) W).setCell (p := ⟨s, 0, none⟩) rfl x0).setCell (p := ⟨s, 1, none⟩) rfl x1).setCell (p := ⟨s, 2, none⟩) rfl x2).setCell (p := ⟨s, 3, none⟩) rfl x3).setCell (p := ⟨s, 4, none⟩) rfl x4).setCell (p := ⟨s, 5, none⟩) rfl x5).setCell (p := ⟨s, 6, none⟩) rfl x6).setCell (p := ⟨s, 7, none⟩) rfl x7).setCell (p := ⟨s, 8, none⟩) rfl x8
/-- The box holds a new image. -/
theorem KI.new {s W W' b I0 bm0 bp0 br0 bu0 bh0 bt0 I bm bp br bu bh bt} (h0 : KI s W b I0 bm0 bp0 br0 bu0 bh0 bt0) (hx : ImX s W I (kV I bm bp br bh bt) (kW I bu)) (o1 : I.no = 1) (hk : Kept (fun y => y = b) W W') (hb : W'.heap[b]? = some (imO I (kV I bm bp br bh bt))) : KI s W' b I bm bp br bu bh bt :=
  ⟨hb, ⟨hx.ok, hx.m.far hk h0.bx (by decide), hx.p.far hk h0.bx (by decide), hx.r.far hk h0.bx (by decide), fun i hi => (hx.u i hi).far hk h0.bx (by decide), hx.h.far hk h0.bx (by decide), hx.t.far hk h0.bx (by decide)⟩, h0.sb, o1⟩
end Go.Proofs.Ytcgbefmjnhkdgaa
/- WalkKnown, the walk. (Written by mk9k.py.) -/
namespace Go.Proofs.Ytcgbefmjnhkdgaa
open Go.RowKit
set_option linter.unusedVariables false
set_option maxHeartbeats 16000000
set_option maxRecDepth 6000
theorem fdC (a0 a1 a2 a3 : Int) (v4 v5 v6 v7 v8 : Value) (w : World) : Sem.run Try.prog (Instr.field 31 (.agg #[.int .u64 a0, .int .i64 a1, .int .i64 a2, .int .i64 a3, v4, v5, v6, v7, v8]) 0) w = .ok (.agg #[.int .u64 a0, .int .i64 a1, .int .i64 a2]) w := by kernel_rfl
theorem fdT (a0 a1 a2 a3 : Int) (v4 v5 v6 v7 v8 : Value) (w : World) : Sem.run Try.prog (Instr.field 31 (.agg #[.int .u64 a0, .int .i64 a1, .int .i64 a2, .int .i64 a3, v4, v5, v6, v7, v8]) 6) w = .ok v8 w := by kernel_rfl
theorem KI.hd2 {s W b I bm bp br bu bh bt} (h : KI s W b I bm bp br bu bh bt) (l : List Nat) (cs : Array Value) (hl : l.length ≤ 9223372036854775807) (hx : ∀ i, i < l.length → l.getD i 0 < 18446744073709551616) (h1 : cs.size = l.length) (h2 : ∀ j, j < l.length → cs[j]? = some (.int .u64 ((l.getD j 0 : Nat) : Int))) :
    KI s ((W.setCell ⟨b, 7, none⟩ (.slice (some ⟨W.heap.size, 0, none⟩) l.length l.length)).alloc (.cells cs 22)) b { I with hd := l } bm bp br bu W.heap.size bt := by
  have ok := h.x.ok
  have hb := heap_lt h.bx
  have hsz : (W.setCell ⟨b, 7, none⟩ (.slice (some ⟨W.heap.size, 0, none⟩) l.length l.length)).heap.size = W.heap.size := by simp
  have ka : Kept none' (W.setCell ⟨b, 7, none⟩ (.slice (some ⟨W.heap.size, 0, none⟩) l.length l.length)) ((W.setCell ⟨b, 7, none⟩ (.slice (some ⟨W.heap.size, 0, none⟩) l.length l.length)).alloc (.cells cs 22)) := (Kept.refl _ _).alloc _
  have hn := heap_new (W.setCell ⟨b, 7, none⟩ (.slice (some ⟨W.heap.size, 0, none⟩) l.length l.length)) (.cells cs 22)
  rw [hsz] at hn
  exact ⟨(ka.block b (by rw [hsz]; exact hb) (fun x => x)).trans (set_at h.bx _), ⟨⟨ok.b64, ok.lim, ok.ord, ok.reg, ok.nm, ok.np, ok.no, hl, ok.nt, ok.mem, ok.pg, ok.pr, hx, ok.pt⟩, (box_k h h.x.m (by decide)).keep ka, (box_k h h.x.p (by decide)).keep ka, (box_k h h.x.r (by decide)).keep ka, fun i hi => (box_k h (h.x.u i hi) (by decide)).keep ka, ⟨W.heap.size, cs, by have := h.sb; omega, rfl, hn, h1, h2⟩, (box_k h h.x.t (by decide)).keep ka⟩, h.sb, h.o1⟩
theorem KI.fz {s W b I bm bp br bu bh bt} (h : KI s W b I bm bp br bu bh bt) (k : Nat) : W.frozen? ⟨b, k, none⟩ = false := by simp [World.frozen?, h.bx]
theorem lit_row {N : World} {cs : Array Value} (l : List (Nat × Nat)) (h : ∀ j, j < l.length → cs[j * 2]? = some (.int .u64 ((l.getD j (0, 0)).1 : Int)) ∧ cs[j * 2 + 1]? = some (.int .u64 ((l.getD j (0, 0)).2 : Int))) : RBk (N.alloc (.cells cs 42)) (.slice (some ⟨N.heap.size, 0, none⟩) l.length l.length) l := by
  have hh := heap_new N (.cells cs 42)
  exact ⟨_, _, rfl, .inr ⟨_, rfl, heap_lt hh, fun j hj => ⟨by simp only [World.cell?, hh]; exact (h j hj).1, by simp only [World.cell?, hh]; exact (h j hj).2⟩⟩⟩
theorem al3_1 (w : World) (a b c : Obj) : (((w.alloc a).alloc b).alloc c).heap[w.heap.size + 1]? = some b := by
  show (((w.heap.push a).push b).push c)[w.heap.size + 1]? = _
  rw [Array.getElem?_push, if_neg (by simp only [Array.size_push]; omega), Array.getElem?_push, if_pos (by simp only [Array.size_push])]
theorem al3_2 (w : World) (a b c : Obj) : (((w.alloc a).alloc b).alloc c).heap[w.heap.size + 1 + 1]? = some c := by
  show (((w.heap.push a).push b).push c)[w.heap.size + 1 + 1]? = _
  rw [Array.getElem?_push, if_pos (by simp only [Array.size_push])]
def noI : Img := { voI with reg := 0, nm := 0, np := 0, pr := fun _ => [], hd := [0, 0] }
def kA : Img := { voI with lim := 65 }
def kB : Img := { voI with hd := [0, 65536, 0] }
def kC : Img := { voI with pg := fun i => if i = 0 then (⟨0, 1, 0, 0, -1, -1, -1, 0, 0, 0, 0⟩ : Pg) else ⟨2, 1, 0, 0, -1, -1, -1, 0, 0, 0, 0⟩ }
def kD : Img := { voI with pg := fun i => if i = 0 then (⟨0, 1, 0, 0, -1, -1, -1, 0, 0, 0, 0⟩ : Pg) else ⟨1, 0, 0, 0, -1, -1, -1, 0, 0, 0, 0⟩ }
def kE : Img := { voI with pg := fun i => if i = 0 then (⟨0, 0, 0, 0, -1, -1, -1, 0, 0, 0, 0⟩ : Pg) else ⟨1, 1, 0, 0, -1, -1, -1, 0, 0, 0, 0⟩ }
def kF : Img := { kE with pg := upp kE.pg 1 ⟨0, 0, 0, 0, -1, -1, -1, 0, 0, 0, 0⟩ }
def kG : Img := { voI with pg := upp voI.pg 0 ⟨2, 0, 0, 0, -1, -1, -1, 0, 0, 0, 0⟩ }
def kH : Img := { kG with pg := upp kG.pg 1 ⟨0, 0, 0, 0, -1, -1, -1, 0, 0, 0, 0⟩ }
def kI : Img := { kH with hd := [69632, 0] }
def kJ : Img := { kI with pr := fun _ => (kI.pr 0).set 0 1 }
def kK : Img := setM kJ 4104 1
def kL : Img := setM kK 4104 0
def kM : Img := setM kL 4098 1
def kN : Img := { slI with pg := fun i => if i = 0 then (⟨4, 0, 7, 1, -1, -1, -1, 2, 0, 0, 0⟩ : Pg) else ⟨2, 0, 0, 0, -1, -1, -1, 0, 0, 0, 0⟩ }
def kO : Img := { slI with pt := slI.pt.set 7 (-1) }
def kP : Img := { slI with pg := fun i => if i = 0 then (⟨4, 0, 7, 2, -1, -1, 0, 2, 0, 0, 0⟩ : Pg) else ⟨2, 0, 0, 0, -1, -1, -1, 0, 0, 0, 0⟩ }
def kQ : Img := { kP with pg := fun i => if i = 0 then (⟨4, 0, 7, 2, -1, -1, 0, 3, 0, 0, 0⟩ : Pg) else ⟨2, 0, 0, 0, -1, -1, -1, 0, 0, 0, 0⟩ }
def kR : Img := { kQ with pg := fun i => if i = 0 then (⟨4, 0, 7, 2, -1, -1, -1, 3, 0, 0, 0⟩ : Pg) else ⟨2, 0, 0, 0, -1, -1, -1, 0, 0, 0, 0⟩ }
def kS : Img := { kR with pt := kR.pt.set 7 (-1) }
def kT : Img := { kS with pg := fun i => if i = 0 then (⟨4, 0, 7, 2, 1, -1, -1, 3, 0, 0, 0⟩ : Pg) else ⟨2, 0, 0, 0, -1, -1, -1, 0, 0, 0, 0⟩ }
theorem walkKnown_any (w : World) : Calls Try.prog 3 #[] w fun e w' => e = .returned (.bool true) ∧ Kept none' w w' := by
  have VD := hid (fun W => void_any W)
  have AW := hid (fun W => awake_any W)
  have SL := hid (fun W => slabbed_any W)
  obtain ⟨s0, hs0⟩ : ∃ s, s = w.heap.size := ⟨_, rfl⟩
  have HS0 := hid hs0
  clear hs0
  go_enter Try.func3, Try.ntmps3
  go_wp2_with fail
  refine (VD.out _).mono ?_
  rintro e w1 ⟨V, rfl, hV, k1⟩
  obtain ⟨v1, v2, v3, v4, v5⟩ := V
  clear hV
  have K1 := hid k1
  clear k1
  have FC := fdC
  have FT := fdT
  go_wp2_with fail
  refine (VD.out _).mono ?_
  rintro e w2 ⟨V, rfl, hV, k2⟩
  obtain ⟨ws, hX⟩ := hV.x
  obtain ⟨bm, bp, br, bu, bh, bt, rfl, hX⟩ := hX.ki rfl
  have h1 := (k2.block _ (heap_lt (al3_1 _ _ _ _)) (fun x => x)).trans (al3_1 _ _ _ _)
  have h2 := (k2.block _ (heap_lt (al3_2 _ _ _ _)) (fun x => x)).trans (al3_2 _ _ _ _)
  have HT := hid hX.t
  have H1 := hid h1
  have H2 := hid h2
  have K2 := hid (show Kept none' w w2 from none_trans K1.out (none_trans ((((Kept.refl _ w1).alloc _).alloc _).alloc _) k2))
  clear hV hX k2 h1 h2 K1
  go_upto_region 2 with fail
  refine gen_world (P := fun W => Code.wp Try.prog _ _ _ W) _ ?_
  intro W0 hW
  have ka : Kept none' w2 W0 := by subst hW; exact (Kept.refl _ w2).alloc _
  have IN := hid (show ImAt W0 w2.heap.size noI ⟨.slice none 0 0, .slice none 0 0, .slice (some ⟨w1.heap.size + 1, 0, none⟩) 1 1, .slice (some ⟨w1.heap.size + 1 + 1, 0, none⟩) 2 2, .slice (some ⟨bt, 0, none⟩) 8 8⟩ from ⟨by subst hW; exact heap_new _ _, by
    refine ImD.keep ?_ ka
    obtain ⟨tb, tc, t1, t2, t3, t4, t5⟩ := HT.out
    cases t2
    refine ⟨by decide, by decide, by decide, by decide, ⟨by decide, _, _, rfl, .inl rfl⟩, fun a n c e => by cases e; exact Nat.le_refl _, ⟨by decide, _, _, rfl, .inl rfl⟩, ⟨fun _ => .slice (some ⟨w1.heap.size, 0, none⟩) 0 0, by decide, _, _, rfl, .inr ⟨_, 0, rfl, heap_lt H1.out, fun i hi => ?_⟩⟩, ⟨by decide, _, _, rfl, .inr ⟨_, 0, rfl, heap_lt H2.out, fun i hi => ?_⟩⟩, ⟨by decide, _, _, rfl, .inr ⟨_, 0, rfl, heap_lt t3, fun i hi => ?_⟩⟩⟩
    · have hi : i < 1 := hi
      obtain rfl : i = 0 := by omega
      exact ⟨by simp [World.cell?, H1.out], fun j => by show ([] : List Nat).getD j 0 < _; simp, _, _, rfl, .inl rfl⟩
    · have hi : i < 2 := hi
      rcases i with _|_|i
      · exact ⟨by decide, by simp [World.cell?, H2.out]; rfl⟩
      · exact ⟨by decide, by simp [World.cell?, H2.out]; rfl⟩
      · omega
    · have hi : i < 8 := hi
      have := t5 i hi
      refine ⟨?_, ?_⟩
      · rcases i with _|_|_|_|_|_|_|_|i
        all_goals first | decide | omega
      · simp [World.cell?, t3, this]
        rfl⟩)
  have KK := hid (none_trans K2.out ka)
  clear hW ka HT H1 H2 K2 FC FT
  generalize w2.heap.size = nb at *
  go_wp2_with fail
  refine (AW.out _).mono ?_
  rintro e W1 ⟨rfl, k⟩
  replace IN := hid (IN.out.keep k)
  replace KK := hid (none_trans KK.out k)
  clear k
  go_wp2_with fail
  refine (VD.out _).mono ?_
  rintro e W2 ⟨V, rfl, hV, k⟩
  obtain ⟨ws, hX⟩ := hV.x
  replace IN := hid (IN.out.keep k)
  replace KK := hid (none_trans KK.out k)
  have BL := hid (Blocks_any voI V W2 hX.d)
  obtain ⟨bm1, bp1, br1, bu1, bh1, bt1, hVe, -⟩ := hX.ki rfl
  subst hVe
  clear hV hX k
  go_wp2_with fail
  refine BL.out.mono ?_
  rintro e W3 ⟨lv, rfl, hB⟩
  have EB : blks voI = [] := by decide +kernel
  have RB := hid hB.rb
  rw [EB] at RB
  obtain ⟨va, vc, hva, -⟩ := RB.out
  subst hva
  replace IN := hid (IN.out.keep hB.kp)
  replace KK := hid (none_trans KK.out hB.kp)
  have IS := hid (is_any noI _ 0 0 W3 IN.out.d true (by decide +kernel))
  obtain ⟨c0, c1, c2, c3, c4, c5, c6, c7, c8⟩ := IN.out.cells
  clear hB BL EB RB
  go_wp2_with fail
  refine IS.out.mono ?_
  rintro e W4 ⟨rfl, k⟩
  replace IN := hid (IN.out.keep k)
  replace KK := hid (none_trans KK.out k)
  have BL := hid (Blocks_any noI _ W4 IN.out.d)
  clear k IS c0 c1 c2 c3 c4 c5 c6 c7 c8
  obtain ⟨c0, c1, c2, c3, c4, c5, c6, c7, c8⟩ := IN.out.cells
  go_wp2_with fail
  refine BL.out.mono ?_
  rintro e W5 ⟨lv, rfl, hB⟩
  have EB : blks noI = [] := by decide +kernel
  have RB := hid hB.rb
  rw [EB] at RB
  obtain ⟨va, vc, hva, -⟩ := RB.out
  subst hva
  replace KK := hid (none_trans KK.out hB.kp)
  clear hB BL EB RB IN c0 c1 c2 c3 c4 c5 c6 c7 c8
  go_wp2_with fail
  refine (VD.out _).mono ?_
  rintro e W6 ⟨V, rfl, hV, k⟩
  obtain ⟨ws, hX⟩ := hV.x
  obtain ⟨bmW7, bpW7, brW7, buW7, bhW7, btW7, rfl, hY⟩ := hX.ki rfl
  have HX := hid (hY.le (show s0 ≤ W5.heap.size by have := KK.out.size; have := HS0.out; omega))
  replace KK := hid (none_trans KK.out k)
  clear hV hX hY k
  go_upto_region 5 with fail
  refine gen_world (P := fun W => Code.wp Try.prog _ _ _ W) _ ?_
  intro W7 hW
  have KC := hid (show KI s0 W7 W6.heap.size voI bmW7 bpW7 brW7 buW7 bhW7 btW7 from by subst hW; exact ⟨heap_new _ _, HX.out.keep ((Kept.refl _ _).alloc _), by have := KK.out.size; have := HS0.out; omega, rfl⟩)
  replace KK := hid (show Kept none' w W7 from by subst hW; exact none_trans KK.out ((Kept.refl _ _).alloc _))
  clear hW HX
  generalize W6.heap.size = b at *
  obtain ⟨-, f1, -⟩ := KC.out.at.cells
  have y1 := KC.out.fz 1
  go_upto_region 6 with fail
  refine gen_world (P := fun W => Code.wp Try.prog _ _ _ W) _ ?_
  intro W8 hW
  have KN := hid (show KI s0 W8 b kA bmW7 bpW7 brW7 buW7 bhW7 btW7 from by subst hW; exact KC.out.lim 65 (by decide))
  replace KK := hid (show Kept none' w W8 from KK.out.trans (show Kept (fun y => y = b) W7 W8 from by subst hW; exact set_k) (fun _ _ x => x) (fun y hy e => by have := HS0.out; have := KC.out.sb; omega))
  replace KC := KN
  clear hW KN f1 y1
  have IS := hid (is_any kA _ 1 0 W8 KC.out.at.d true (by decide +kernel))
  obtain ⟨c0, c1, c2, c3, c4, c5, c6, c7, c8⟩ := KC.out.at.cells
  go_wp2_with fail
  refine IS.out.mono ?_
  rintro e W9 ⟨rfl, k⟩
  replace KC := hid (KC.out.keep k)
  replace KK := hid (none_trans KK.out k)
  clear k IS c0 c1 c2 c3 c4 c5 c6 c7 c8
  go_wp2_with fail
  refine (VD.out _).mono ?_
  rintro e W10 ⟨V, rfl, hV, k⟩
  obtain ⟨ws, hX⟩ := hV.x
  obtain ⟨bmW11, bpW11, brW11, buW11, bhW11, btW11, rfl, hY⟩ := hX.ki rfl
  have HX := hid (hY.le (show s0 ≤ W9.heap.size by have := KK.out.size; have := HS0.out; omega))
  replace KC := hid (KC.out.keep k)
  replace KK := hid (none_trans KK.out k)
  clear hX hY k hV
  obtain ⟨f0, f1, f2, f3, f4, f5, f6, f7, f8⟩ := KC.out.at.cells
  have y0 := KC.out.fz 0
  have y1 := KC.out.fz 1
  have y2 := KC.out.fz 2
  have y3 := KC.out.fz 3
  have y4 := KC.out.fz 4
  have y5 := KC.out.fz 5
  have y6 := KC.out.fz 6
  have y7 := KC.out.fz 7
  have y8 := KC.out.fz 8
  go_upto_region 9 with fail
  refine gen_world (P := fun W => Code.wp Try.prog _ _ _ W) _ ?_
  intro W11 hW
  have KN := hid (show KI s0 W11 b voI bmW11 bpW11 brW11 buW11 bhW11 btW11 from by subst hW; exact KI.new KC.out HX.out rfl (st9k _ _ _ _ _ _ _ _ _) (st9g KC.out.bx _ _ _ _ _ _ _ _ _))
  replace KK := hid (show Kept none' w W11 from KK.out.trans (show Kept (fun y => y = b) W10 W11 from by subst hW; exact st9k _ _ _ _ _ _ _ _ _) (fun _ _ x => x) (fun y hy e => by have := HS0.out; have := KC.out.sb; omega))
  replace KC := KN
  clear hW KN HX f0 y0 f1 y1 f2 y2 f3 y3 f4 y4 f5 y5 f6 y6 f7 y7 f8 y8
  have KA := hid (KC.out.keep ((Kept.refl _ W11).alloc (.cells #[.int .u64 0, .int .u64 65536, .int .u64 0] 22)))
  obtain ⟨-, -, -, -, -, -, -, f7, -⟩ := KA.out.at.cells
  have y7 := KA.out.fz 7
  have hbl : b < W11.heap.size := heap_lt KC.out.bx
  go_upto_region 10 with fail
  refine gen_world (P := fun W => Code.wp Try.prog _ _ _ W) _ ?_
  intro W12 hW
  have KN := hid (show KI s0 W12 b kB bmW11 bpW11 brW11 buW11 W11.heap.size btW11 from by subst hW; exact KC.out.hd2 [0, 65536, 0] #[.int .u64 0, .int .u64 65536, .int .u64 0] (by decide) (by decide) rfl (by
    intro j hj
    have hj : j < 3 := hj
    rcases j with _|_|_|j
    all_goals first | rfl | omega))
  have HNE := hid (show ¬ W11.heap.size = buW11 from fun e => by
    obtain ⟨_, cs, hh⟩ := (KC.out.x.u 0 (by decide)).hp
    have := heap_lt hh
    omega)
  replace KK := hid (show Kept none' w W12 from by subst hW; exact (KK.out.trans (set_k (t := b)) (fun _ _ x => x) (fun y hy e => by have := HS0.out; have := KC.out.sb; omega)).alloc _)
  replace KC := KN
  clear hW KN f7 y7 KA hbl
  obtain ⟨bhW12, hbh⟩ : ∃ x, x = W11.heap.size := ⟨_, rfl⟩
  rw [← hbh] at KC HNE
  clear hbh
  have IS := hid (is_any kB _ 2 4 W12 KC.out.at.d true (by decide +kernel))
  obtain ⟨c0, c1, c2, c3, c4, c5, c6, c7, c8⟩ := KC.out.at.cells
  go_wp2_with fail
  refine IS.out.mono ?_
  rintro e W13 ⟨rfl, k⟩
  replace KC := hid (KC.out.keep k)
  replace KK := hid (none_trans KK.out k)
  clear k IS c0 c1 c2 c3 c4 c5 c6 c7 c8
  go_wp2_with fail
  refine (VD.out _).mono ?_
  rintro e W14 ⟨V, rfl, hV, k⟩
  obtain ⟨ws, hX⟩ := hV.x
  obtain ⟨bmW15, bpW15, brW15, buW15, bhW15, btW15, rfl, hY⟩ := hX.ki rfl
  have HX := hid (hY.le (show s0 ≤ W13.heap.size by have := KK.out.size; have := HS0.out; omega))
  replace KC := hid (KC.out.keep k)
  replace KK := hid (none_trans KK.out k)
  clear hX hY k hV
  obtain ⟨f0, f1, f2, f3, f4, f5, f6, f7, f8⟩ := KC.out.at.cells
  have y0 := KC.out.fz 0
  have y1 := KC.out.fz 1
  have y2 := KC.out.fz 2
  have y3 := KC.out.fz 3
  have y4 := KC.out.fz 4
  have y5 := KC.out.fz 5
  have y6 := KC.out.fz 6
  have y7 := KC.out.fz 7
  have y8 := KC.out.fz 8
  go_upto_region 13 with fail
  refine gen_world (P := fun W => Code.wp Try.prog _ _ _ W) _ ?_
  intro W15 hW
  have KN := hid (show KI s0 W15 b voI bmW15 bpW15 brW15 buW15 bhW15 btW15 from by subst hW; exact KI.new KC.out HX.out rfl (st9k _ _ _ _ _ _ _ _ _) (st9g KC.out.bx _ _ _ _ _ _ _ _ _))
  replace KK := hid (show Kept none' w W15 from KK.out.trans (show Kept (fun y => y = b) W14 W15 from by subst hW; exact st9k _ _ _ _ _ _ _ _ _) (fun _ _ x => x) (fun y hy e => by have := HS0.out; have := KC.out.sb; omega))
  replace KC := KN
  clear hW KN HX f0 y0 f1 y1 f2 y2 f3 y3 f4 y4 f5 y5 f6 y6 f7 y7 f8 y8
  have c5 : W15.cell? ⟨b, 5, none⟩ = some (.slice (some ⟨bpW15, 0, none⟩) 2 2) := KC.out.at.cells.2.2.2.2.2.1
  have t0 := KC.out.x.p.cell (j := 11) (by decide)
  have z0 := KC.out.x.p.frz 11
  go_upto_region 14 with fail
  refine gen_world (P := fun W => Code.wp Try.prog _ _ _ W) _ ?_
  intro W16 hW
  have KN := hid (show KI s0 W16 b kC bmW15 bpW15 brW15 buW15 bhW15 btW15 ∧ s0 < bpW15 from by subst hW; exact KC.out.pg 11 (.int .i64 2) kC.pg (by decide) (by
    intro i hi
    have hi : i < 2 := hi
    have : i = 0 ∨ i = 1 := by omega
    rcases this with rfl | rfl <;> exact ⟨by decide, by decide, by decide, by decide, by decide, by decide, by decide, by decide, by decide, by decide, by decide⟩) (by
    intro j hj
    have hj : j < 22 := hj
    rcases j with _|_|_|_|_|_|_|_|_|_|_|_|_|_|_|_|_|_|_|_|_|_|j
    all_goals first | rfl | omega))
  replace KK := hid (show Kept none' w W16 from KK.out.trans (show Kept (fun y => y = bpW15) W15 W16 from by subst hW; exact set_k) (fun _ _ x => x) (fun y hy e => by have := HS0.out; have := KN.out.2; omega))
  replace KC := hid KN.out.1
  clear hW KN c5 t0 z0
  have IS := hid (is_any kC _ 4 1 W16 KC.out.at.d true (by decide +kernel))
  obtain ⟨c0, c1, c2, c3, c4, c5, c6, c7, c8⟩ := KC.out.at.cells
  go_wp2_with fail
  refine IS.out.mono ?_
  rintro e W17 ⟨rfl, k⟩
  replace KC := hid (KC.out.keep k)
  replace KK := hid (none_trans KK.out k)
  clear k IS c0 c1 c2 c3 c4 c5 c6 c7 c8
  go_wp2_with fail
  refine (VD.out _).mono ?_
  rintro e W18 ⟨V, rfl, hV, k⟩
  obtain ⟨ws, hX⟩ := hV.x
  obtain ⟨bmW19, bpW19, brW19, buW19, bhW19, btW19, rfl, hY⟩ := hX.ki rfl
  have HX := hid (hY.le (show s0 ≤ W17.heap.size by have := KK.out.size; have := HS0.out; omega))
  replace KC := hid (KC.out.keep k)
  replace KK := hid (none_trans KK.out k)
  clear hX hY k hV
  obtain ⟨f0, f1, f2, f3, f4, f5, f6, f7, f8⟩ := KC.out.at.cells
  have y0 := KC.out.fz 0
  have y1 := KC.out.fz 1
  have y2 := KC.out.fz 2
  have y3 := KC.out.fz 3
  have y4 := KC.out.fz 4
  have y5 := KC.out.fz 5
  have y6 := KC.out.fz 6
  have y7 := KC.out.fz 7
  have y8 := KC.out.fz 8
  go_upto_region 17 with fail
  refine gen_world (P := fun W => Code.wp Try.prog _ _ _ W) _ ?_
  intro W19 hW
  have KN := hid (show KI s0 W19 b voI bmW19 bpW19 brW19 buW19 bhW19 btW19 from by subst hW; exact KI.new KC.out HX.out rfl (st9k _ _ _ _ _ _ _ _ _) (st9g KC.out.bx _ _ _ _ _ _ _ _ _))
  replace KK := hid (show Kept none' w W19 from KK.out.trans (show Kept (fun y => y = b) W18 W19 from by subst hW; exact st9k _ _ _ _ _ _ _ _ _) (fun _ _ x => x) (fun y hy e => by have := HS0.out; have := KC.out.sb; omega))
  replace KC := KN
  clear hW KN HX f0 y0 f1 y1 f2 y2 f3 y3 f4 y4 f5 y5 f6 y6 f7 y7 f8 y8
  have c5 : W19.cell? ⟨b, 5, none⟩ = some (.slice (some ⟨bpW19, 0, none⟩) 2 2) := KC.out.at.cells.2.2.2.2.2.1
  have t0 := KC.out.x.p.cell (j := 12) (by decide)
  have z0 := KC.out.x.p.frz 12
  go_upto_region 18 with fail
  refine gen_world (P := fun W => Code.wp Try.prog _ _ _ W) _ ?_
  intro W20 hW
  have KN := hid (show KI s0 W20 b kD bmW19 bpW19 brW19 buW19 bhW19 btW19 ∧ s0 < bpW19 from by subst hW; exact KC.out.pg 12 (.int .i64 0) kD.pg (by decide) (by
    intro i hi
    have hi : i < 2 := hi
    have : i = 0 ∨ i = 1 := by omega
    rcases this with rfl | rfl <;> exact ⟨by decide, by decide, by decide, by decide, by decide, by decide, by decide, by decide, by decide, by decide, by decide⟩) (by
    intro j hj
    have hj : j < 22 := hj
    rcases j with _|_|_|_|_|_|_|_|_|_|_|_|_|_|_|_|_|_|_|_|_|_|j
    all_goals first | rfl | omega))
  replace KK := hid (show Kept none' w W20 from KK.out.trans (show Kept (fun y => y = bpW19) W19 W20 from by subst hW; exact set_k) (fun _ _ x => x) (fun y hy e => by have := HS0.out; have := KN.out.2; omega))
  replace KC := hid KN.out.1
  clear hW KN c5 t0 z0
  have IS := hid (is_any kD _ 4 1 W20 KC.out.at.d true (by decide +kernel))
  obtain ⟨c0, c1, c2, c3, c4, c5, c6, c7, c8⟩ := KC.out.at.cells
  go_wp2_with fail
  refine IS.out.mono ?_
  rintro e W21 ⟨rfl, k⟩
  replace KC := hid (KC.out.keep k)
  replace KK := hid (none_trans KK.out k)
  clear k IS c0 c1 c2 c3 c4 c5 c6 c7 c8
  go_wp2_with fail
  refine (VD.out _).mono ?_
  rintro e W22 ⟨V, rfl, hV, k⟩
  obtain ⟨ws, hX⟩ := hV.x
  obtain ⟨bmW23, bpW23, brW23, buW23, bhW23, btW23, rfl, hY⟩ := hX.ki rfl
  have HX := hid (hY.le (show s0 ≤ W21.heap.size by have := KK.out.size; have := HS0.out; omega))
  replace KC := hid (KC.out.keep k)
  replace KK := hid (none_trans KK.out k)
  clear hX hY k hV
  obtain ⟨f0, f1, f2, f3, f4, f5, f6, f7, f8⟩ := KC.out.at.cells
  have y0 := KC.out.fz 0
  have y1 := KC.out.fz 1
  have y2 := KC.out.fz 2
  have y3 := KC.out.fz 3
  have y4 := KC.out.fz 4
  have y5 := KC.out.fz 5
  have y6 := KC.out.fz 6
  have y7 := KC.out.fz 7
  have y8 := KC.out.fz 8
  go_upto_region 21 with fail
  refine gen_world (P := fun W => Code.wp Try.prog _ _ _ W) _ ?_
  intro W23 hW
  have KN := hid (show KI s0 W23 b voI bmW23 bpW23 brW23 buW23 bhW23 btW23 from by subst hW; exact KI.new KC.out HX.out rfl (st9k _ _ _ _ _ _ _ _ _) (st9g KC.out.bx _ _ _ _ _ _ _ _ _))
  replace KK := hid (show Kept none' w W23 from KK.out.trans (show Kept (fun y => y = b) W22 W23 from by subst hW; exact st9k _ _ _ _ _ _ _ _ _) (fun _ _ x => x) (fun y hy e => by have := HS0.out; have := KC.out.sb; omega))
  replace KC := KN
  clear hW KN HX f0 y0 f1 y1 f2 y2 f3 y3 f4 y4 f5 y5 f6 y6 f7 y7 f8 y8
  have c5 : W23.cell? ⟨b, 5, none⟩ = some (.slice (some ⟨bpW23, 0, none⟩) 2 2) := KC.out.at.cells.2.2.2.2.2.1
  have t0 := KC.out.x.p.cell (j := 1) (by decide)
  have z0 := KC.out.x.p.frz 1
  go_upto_region 22 with fail
  refine gen_world (P := fun W => Code.wp Try.prog _ _ _ W) _ ?_
  intro W24 hW
  have KN := hid (show KI s0 W24 b kE bmW23 bpW23 brW23 buW23 bhW23 btW23 ∧ s0 < bpW23 from by subst hW; exact KC.out.pg 1 (.int .i64 0) kE.pg (by decide) (by
    intro i hi
    have hi : i < 2 := hi
    have : i = 0 ∨ i = 1 := by omega
    rcases this with rfl | rfl <;> exact ⟨by decide, by decide, by decide, by decide, by decide, by decide, by decide, by decide, by decide, by decide, by decide⟩) (by
    intro j hj
    have hj : j < 22 := hj
    rcases j with _|_|_|_|_|_|_|_|_|_|_|_|_|_|_|_|_|_|_|_|_|_|j
    all_goals first | rfl | omega))
  replace KK := hid (show Kept none' w W24 from KK.out.trans (show Kept (fun y => y = bpW23) W23 W24 from by subst hW; exact set_k) (fun _ _ x => x) (fun y hy e => by have := HS0.out; have := KN.out.2; omega))
  replace KC := hid KN.out.1
  clear hW KN c5 t0 z0
  have c5 : W24.cell? ⟨b, 5, none⟩ = some (.slice (some ⟨bpW23, 0, none⟩) 2 2) := KC.out.at.cells.2.2.2.2.2.1
  have r0 : W24.cell? ⟨bpW23, 0, none⟩ = some ((⟨0, 0, 0, 0, -1, -1, -1, 0, 0, 0, 0⟩ : Pg).fld 0) := KC.out.x.p.cell (j := 0) (by decide)
  have r1 : W24.cell? ⟨bpW23, 1, none⟩ = some ((⟨0, 0, 0, 0, -1, -1, -1, 0, 0, 0, 0⟩ : Pg).fld 1) := KC.out.x.p.cell (j := 1) (by decide)
  have r2 : W24.cell? ⟨bpW23, 2, none⟩ = some ((⟨0, 0, 0, 0, -1, -1, -1, 0, 0, 0, 0⟩ : Pg).fld 2) := KC.out.x.p.cell (j := 2) (by decide)
  have r3 : W24.cell? ⟨bpW23, 3, none⟩ = some ((⟨0, 0, 0, 0, -1, -1, -1, 0, 0, 0, 0⟩ : Pg).fld 3) := KC.out.x.p.cell (j := 3) (by decide)
  have r4 : W24.cell? ⟨bpW23, 4, none⟩ = some ((⟨0, 0, 0, 0, -1, -1, -1, 0, 0, 0, 0⟩ : Pg).fld 4) := KC.out.x.p.cell (j := 4) (by decide)
  have r5 : W24.cell? ⟨bpW23, 5, none⟩ = some ((⟨0, 0, 0, 0, -1, -1, -1, 0, 0, 0, 0⟩ : Pg).fld 5) := KC.out.x.p.cell (j := 5) (by decide)
  have r6 : W24.cell? ⟨bpW23, 6, none⟩ = some ((⟨0, 0, 0, 0, -1, -1, -1, 0, 0, 0, 0⟩ : Pg).fld 6) := KC.out.x.p.cell (j := 6) (by decide)
  have r7 : W24.cell? ⟨bpW23, 7, none⟩ = some ((⟨0, 0, 0, 0, -1, -1, -1, 0, 0, 0, 0⟩ : Pg).fld 7) := KC.out.x.p.cell (j := 7) (by decide)
  have r8 : W24.cell? ⟨bpW23, 8, none⟩ = some ((⟨0, 0, 0, 0, -1, -1, -1, 0, 0, 0, 0⟩ : Pg).fld 8) := KC.out.x.p.cell (j := 8) (by decide)
  have r9 : W24.cell? ⟨bpW23, 9, none⟩ = some ((⟨0, 0, 0, 0, -1, -1, -1, 0, 0, 0, 0⟩ : Pg).fld 9) := KC.out.x.p.cell (j := 9) (by decide)
  have r10 : W24.cell? ⟨bpW23, 10, none⟩ = some ((⟨0, 0, 0, 0, -1, -1, -1, 0, 0, 0, 0⟩ : Pg).fld 10) := KC.out.x.p.cell (j := 10) (by decide)
  simp only [Pg.fld] at r0 r1 r2 r3 r4 r5 r6 r7 r8 r9 r10
  have t0 := KC.out.x.p.cell (j := 11) (by decide)
  have t1 := KC.out.x.p.cell (j := 12) (by decide)
  have t2 := KC.out.x.p.cell (j := 13) (by decide)
  have t3 := KC.out.x.p.cell (j := 14) (by decide)
  have t4 := KC.out.x.p.cell (j := 15) (by decide)
  have t5 := KC.out.x.p.cell (j := 16) (by decide)
  have t6 := KC.out.x.p.cell (j := 17) (by decide)
  have t7 := KC.out.x.p.cell (j := 18) (by decide)
  have t8 := KC.out.x.p.cell (j := 19) (by decide)
  have t9 := KC.out.x.p.cell (j := 20) (by decide)
  have t10 := KC.out.x.p.cell (j := 21) (by decide)
  have z0 := KC.out.x.p.frz 11
  have z1 := KC.out.x.p.frz 12
  have z2 := KC.out.x.p.frz 13
  have z3 := KC.out.x.p.frz 14
  have z4 := KC.out.x.p.frz 15
  have z5 := KC.out.x.p.frz 16
  have z6 := KC.out.x.p.frz 17
  have z7 := KC.out.x.p.frz 18
  have z8 := KC.out.x.p.frz 19
  have z9 := KC.out.x.p.frz 20
  have z10 := KC.out.x.p.frz 21
  go_wp2_with fail
  go_region
  go_upto_region 23 with fail
  refine gen_world (P := fun W => Code.wp Try.prog _ _ _ W) _ ?_
  intro W25 hW
  have KN := hid (show KI s0 W25 b kF bmW23 bpW23 brW23 buW23 bhW23 btW23 ∧ s0 < bpW23 from by subst hW; exact ⟨(KC.out.page 1 ⟨0, 0, 0, 0, -1, -1, -1, 0, 0, 0, 0⟩ (by decide) ⟨by decide, by decide, by decide, by decide, by decide, by decide, by decide, by decide, by decide, by decide, by decide⟩).1.keep ((Kept.refl none' _).drew), (KC.out.page 1 ⟨0, 0, 0, 0, -1, -1, -1, 0, 0, 0, 0⟩ (by decide) ⟨by decide, by decide, by decide, by decide, by decide, by decide, by decide, by decide, by decide, by decide, by decide⟩).2⟩)
  replace KK := hid (show Kept none' w W25 from by subst hW; exact (KK.out.trans (setP_kept _ bpW23 1 ⟨0, 0, 0, 0, -1, -1, -1, 0, 0, 0, 0⟩) (fun _ _ x => x) (fun y hy e => by have := HS0.out; have := KN.out.2; omega)).drew)
  replace KC := hid KN.out.1
  clear hW KN c5 t0 z0 t1 z1 t2 z2 t3 z3 t4 z4 t5 z5 t6 z6 t7 z7 t8 z8 t9 z9 t10 z10 r0 r1 r2 r3 r4 r5 r6 r7 r8 r9 r10
  have IS := hid (is_any kF _ 6 0 W25 KC.out.at.d true (by decide +kernel))
  obtain ⟨c0, c1, c2, c3, c4, c5, c6, c7, c8⟩ := KC.out.at.cells
  go_wp2_with fail
  refine IS.out.mono ?_
  rintro e W26 ⟨rfl, k⟩
  replace KC := hid (KC.out.keep k)
  replace KK := hid (none_trans KK.out k)
  clear k IS c0 c1 c2 c3 c4 c5 c6 c7 c8
  go_wp2_with fail
  refine (VD.out _).mono ?_
  rintro e W27 ⟨V, rfl, hV, k⟩
  obtain ⟨ws, hX⟩ := hV.x
  obtain ⟨bmW28, bpW28, brW28, buW28, bhW28, btW28, rfl, hY⟩ := hX.ki rfl
  have HX := hid (hY.le (show s0 ≤ W26.heap.size by have := KK.out.size; have := HS0.out; omega))
  replace KC := hid (KC.out.keep k)
  replace KK := hid (none_trans KK.out k)
  clear hX hY k hV
  obtain ⟨f0, f1, f2, f3, f4, f5, f6, f7, f8⟩ := KC.out.at.cells
  have y0 := KC.out.fz 0
  have y1 := KC.out.fz 1
  have y2 := KC.out.fz 2
  have y3 := KC.out.fz 3
  have y4 := KC.out.fz 4
  have y5 := KC.out.fz 5
  have y6 := KC.out.fz 6
  have y7 := KC.out.fz 7
  have y8 := KC.out.fz 8
  go_upto_region 26 with fail
  refine gen_world (P := fun W => Code.wp Try.prog _ _ _ W) _ ?_
  intro W28 hW
  have KN := hid (show KI s0 W28 b voI bmW28 bpW28 brW28 buW28 bhW28 btW28 from by subst hW; exact KI.new KC.out HX.out rfl (st9k _ _ _ _ _ _ _ _ _) (st9g KC.out.bx _ _ _ _ _ _ _ _ _))
  replace KK := hid (show Kept none' w W28 from KK.out.trans (show Kept (fun y => y = b) W27 W28 from by subst hW; exact st9k _ _ _ _ _ _ _ _ _) (fun _ _ x => x) (fun y hy e => by have := HS0.out; have := KC.out.sb; omega))
  replace KC := KN
  clear hW KN HX f0 y0 f1 y1 f2 y2 f3 y3 f4 y4 f5 y5 f6 y6 f7 y7 f8 y8
  have c5 : W28.cell? ⟨b, 5, none⟩ = some (.slice (some ⟨bpW28, 0, none⟩) 2 2) := KC.out.at.cells.2.2.2.2.2.1
  have t0 := KC.out.x.p.cell (j := 0) (by decide)
  have t1 := KC.out.x.p.cell (j := 1) (by decide)
  have t2 := KC.out.x.p.cell (j := 2) (by decide)
  have t3 := KC.out.x.p.cell (j := 3) (by decide)
  have t4 := KC.out.x.p.cell (j := 4) (by decide)
  have t5 := KC.out.x.p.cell (j := 5) (by decide)
  have t6 := KC.out.x.p.cell (j := 6) (by decide)
  have t7 := KC.out.x.p.cell (j := 7) (by decide)
  have t8 := KC.out.x.p.cell (j := 8) (by decide)
  have t9 := KC.out.x.p.cell (j := 9) (by decide)
  have t10 := KC.out.x.p.cell (j := 10) (by decide)
  have z0 := KC.out.x.p.frz 0
  have z1 := KC.out.x.p.frz 1
  have z2 := KC.out.x.p.frz 2
  have z3 := KC.out.x.p.frz 3
  have z4 := KC.out.x.p.frz 4
  have z5 := KC.out.x.p.frz 5
  have z6 := KC.out.x.p.frz 6
  have z7 := KC.out.x.p.frz 7
  have z8 := KC.out.x.p.frz 8
  have z9 := KC.out.x.p.frz 9
  have z10 := KC.out.x.p.frz 10
  go_upto_region 27 with fail
  refine gen_world (P := fun W => Code.wp Try.prog _ _ _ W) _ ?_
  intro W29 hW
  have KN := hid (show KI s0 W29 b kG bmW28 bpW28 brW28 buW28 bhW28 btW28 ∧ s0 < bpW28 from by subst hW; exact KC.out.page 0 ⟨2, 0, 0, 0, -1, -1, -1, 0, 0, 0, 0⟩ (by decide) ⟨by decide, by decide, by decide, by decide, by decide, by decide, by decide, by decide, by decide, by decide, by decide⟩)
  replace KK := hid (show Kept none' w W29 from KK.out.trans (show Kept (fun y => y = bpW28) W28 W29 from by subst hW; exact setP_kept _ _ 0 ⟨2, 0, 0, 0, -1, -1, -1, 0, 0, 0, 0⟩) (fun _ _ x => x) (fun y hy e => by have := HS0.out; have := KN.out.2; omega))
  replace KC := hid KN.out.1
  clear hW KN c5 t0 z0 t1 z1 t2 z2 t3 z3 t4 z4 t5 z5 t6 z6 t7 z7 t8 z8 t9 z9 t10 z10
  have c5 : W29.cell? ⟨b, 5, none⟩ = some (.slice (some ⟨bpW28, 0, none⟩) 2 2) := KC.out.at.cells.2.2.2.2.2.1
  have t0 := KC.out.x.p.cell (j := 11) (by decide)
  have t1 := KC.out.x.p.cell (j := 12) (by decide)
  have t2 := KC.out.x.p.cell (j := 13) (by decide)
  have t3 := KC.out.x.p.cell (j := 14) (by decide)
  have t4 := KC.out.x.p.cell (j := 15) (by decide)
  have t5 := KC.out.x.p.cell (j := 16) (by decide)
  have t6 := KC.out.x.p.cell (j := 17) (by decide)
  have t7 := KC.out.x.p.cell (j := 18) (by decide)
  have t8 := KC.out.x.p.cell (j := 19) (by decide)
  have t9 := KC.out.x.p.cell (j := 20) (by decide)
  have t10 := KC.out.x.p.cell (j := 21) (by decide)
  have z0 := KC.out.x.p.frz 11
  have z1 := KC.out.x.p.frz 12
  have z2 := KC.out.x.p.frz 13
  have z3 := KC.out.x.p.frz 14
  have z4 := KC.out.x.p.frz 15
  have z5 := KC.out.x.p.frz 16
  have z6 := KC.out.x.p.frz 17
  have z7 := KC.out.x.p.frz 18
  have z8 := KC.out.x.p.frz 19
  have z9 := KC.out.x.p.frz 20
  have z10 := KC.out.x.p.frz 21
  go_upto_region 28 with fail
  refine gen_world (P := fun W => Code.wp Try.prog _ _ _ W) _ ?_
  intro W30 hW
  have KN := hid (show KI s0 W30 b kH bmW28 bpW28 brW28 buW28 bhW28 btW28 ∧ s0 < bpW28 from by subst hW; exact KC.out.page 1 ⟨0, 0, 0, 0, -1, -1, -1, 0, 0, 0, 0⟩ (by decide) ⟨by decide, by decide, by decide, by decide, by decide, by decide, by decide, by decide, by decide, by decide, by decide⟩)
  replace KK := hid (show Kept none' w W30 from KK.out.trans (show Kept (fun y => y = bpW28) W29 W30 from by subst hW; exact setP_kept _ _ 1 ⟨0, 0, 0, 0, -1, -1, -1, 0, 0, 0, 0⟩) (fun _ _ x => x) (fun y hy e => by have := HS0.out; have := KN.out.2; omega))
  replace KC := hid KN.out.1
  clear hW KN c5 t0 z0 t1 z1 t2 z2 t3 z3 t4 z4 t5 z5 t6 z6 t7 z7 t8 z8 t9 z9 t10 z10
  have KA := hid (KC.out.keep ((Kept.refl _ W30).alloc (.cells #[.int .u64 69632, .int .u64 0] 22)))
  obtain ⟨-, -, -, -, -, -, -, f7, -⟩ := KA.out.at.cells
  have y7 := KA.out.fz 7
  have hbl : b < W30.heap.size := heap_lt KC.out.bx
  go_upto_region 29 with fail
  refine gen_world (P := fun W => Code.wp Try.prog _ _ _ W) _ ?_
  intro W31 hW
  have KN := hid (show KI s0 W31 b kI bmW28 bpW28 brW28 buW28 W30.heap.size btW28 from by subst hW; exact KC.out.hd2 [69632, 0] #[.int .u64 69632, .int .u64 0] (by decide) (by decide) rfl (by
    intro j hj
    have hj : j < 2 := hj
    rcases j with _|_|j
    all_goals first | rfl | omega))
  have HNE := hid (show ¬ W30.heap.size = buW28 from fun e => by
    obtain ⟨_, cs, hh⟩ := (KC.out.x.u 0 (by decide)).hp
    have := heap_lt hh
    omega)
  replace KK := hid (show Kept none' w W31 from by subst hW; exact (KK.out.trans (set_k (t := b)) (fun _ _ x => x) (fun y hy e => by have := HS0.out; have := KC.out.sb; omega)).alloc _)
  replace KC := KN
  clear hW KN f7 y7 KA hbl
  obtain ⟨bhW31, hbh⟩ : ∃ x, x = W30.heap.size := ⟨_, rfl⟩
  rw [← hbh] at KC HNE
  clear hbh
  have IS := hid (is_any kI _ 7 0 W31 KC.out.at.d true (by decide +kernel))
  obtain ⟨c0, c1, c2, c3, c4, c5, c6, c7, c8⟩ := KC.out.at.cells
  go_wp2_with fail
  refine IS.out.mono ?_
  rintro e W32 ⟨rfl, k⟩
  replace KC := hid (KC.out.keep k)
  replace KK := hid (none_trans KK.out k)
  clear k IS c0 c1 c2 c3 c4 c5 c6 c7 c8
  have c6 : W32.cell? ⟨b, 6, none⟩ = some (.slice (some ⟨brW28, 0, none⟩) 1 1) := KC.out.at.cells.2.2.2.2.2.2.1
  have u0 : W32.cell? ⟨brW28, 0, none⟩ = some (.slice (some ⟨buW28, 0, none⟩) 1 1) := KC.out.x.r.cell (j := 0) (by decide)
  have t0 := (KC.out.x.u 0 (by decide)).cell (j := 0) (by decide)
  have z0 := (KC.out.x.u 0 (by decide)).frz 0
  go_upto_region 32 with fail
  refine gen_world (P := fun W => Code.wp Try.prog _ _ _ W) _ ?_
  intro W33 hW
  have KN := hid (show KI s0 W33 b kJ bmW28 bpW28 brW28 buW28 bhW31 btW28 ∧ s0 < buW28 from by subst hW; exact KC.out.pr HNE.out 0 1 (by decide) (by decide))
  replace KK := hid (show Kept none' w W33 from KK.out.trans (show Kept (fun y => y = buW28) W32 W33 from by subst hW; exact set_k) (fun _ _ x => x) (fun y hy e => by have := HS0.out; have := KN.out.2; omega))
  replace KC := hid KN.out.1
  clear hW KN c6 u0 t0 z0
  have IS := hid (is_any kJ _ 0 0 W33 KC.out.at.d true (by decide +kernel))
  obtain ⟨c0, c1, c2, c3, c4, c5, c6, c7, c8⟩ := KC.out.at.cells
  go_wp2_with fail
  refine IS.out.mono ?_
  rintro e W34 ⟨rfl, k⟩
  replace KC := hid (KC.out.keep k)
  replace KK := hid (none_trans KK.out k)
  clear k IS c0 c1 c2 c3 c4 c5 c6 c7 c8
  have BL := hid (Blocks_any kJ _ W34 KC.out.at.d)
  obtain ⟨c0, c1, c2, c3, c4, c5, c6, c7, c8⟩ := KC.out.at.cells
  go_wp2_with fail
  refine BL.out.mono ?_
  rintro e W35 ⟨lv, rfl, hB⟩
  have EB : blks kJ = [(65536, 4096)] := by decide +kernel
  have RB := hid hB.rb
  rw [EB] at RB
  replace KC := hid (KC.out.keep hB.kp)
  replace KK := hid (none_trans KK.out hB.kp)
  obtain ⟨va, vc, hva, -⟩ := RB.out
  subst hva
  clear hB BL EB c0 c1 c2 c3 c4 c5 c6 c7 c8
  have KA := hid (show Kept none' W35 (W35.alloc (.cells #[.int .u64 65536, .int .u64 4096] 42)) from (Kept.refl _ W35).alloc _)
  have SM := hid (Same9_yes (.slice va 1 vc) (.slice (some ⟨W35.heap.size, 0, none⟩) 1 1) [(65536, 4096)] (W35.alloc (.cells #[.int .u64 65536, .int .u64 4096] 42)) (by decide) (RB.out.keep KA.out) (lit_row [(65536, 4096)] fun j hj => by
    have hj : j < 1 := hj
    rcases j with _|j
    all_goals first | exact ⟨rfl, rfl⟩ | omega))
  go_wp2_with fail
  refine SM.out.mono ?_
  rintro e W36 ⟨rfl, k⟩
  replace KC := hid (KC.out.keep (none_trans KA.out k))
  replace KK := hid (none_trans KK.out (none_trans KA.out k))
  clear k SM KA RB
  have c4 : W36.cell? ⟨b, 4, none⟩ = some (.slice (some ⟨bmW28, 0, none⟩) 8192 8192) := KC.out.at.cells.2.2.2.2.1
  have t0 := KC.out.x.m.cell (j := 4104) (by decide)
  have z0 := KC.out.x.m.frz 4104
  go_upto_region 35 with fail
  refine gen_world (P := fun W => Code.wp Try.prog _ _ _ W) _ ?_
  intro W37 hW
  have KN := hid (show KI s0 W37 b kK bmW28 bpW28 brW28 buW28 bhW31 btW28 ∧ s0 < bmW28 from by subst hW; exact KC.out.mem 4104 1 (by decide) (by decide))
  replace KK := hid (show Kept none' w W37 from KK.out.trans (show Kept (fun y => y = bmW28) W36 W37 from by subst hW; exact set_k) (fun _ _ x => x) (fun y hy e => by have := HS0.out; have := KN.out.2; omega))
  replace KC := hid KN.out.1
  clear hW KN c4 t0 z0
  have IS := hid (is_any kK _ 8 0 W37 KC.out.at.d true (by decide +kernel))
  obtain ⟨c0, c1, c2, c3, c4, c5, c6, c7, c8⟩ := KC.out.at.cells
  go_wp2_with fail
  refine IS.out.mono ?_
  rintro e W38 ⟨rfl, k⟩
  replace KC := hid (KC.out.keep k)
  replace KK := hid (none_trans KK.out k)
  clear k IS c0 c1 c2 c3 c4 c5 c6 c7 c8
  have BL := hid (Blocks_any kK _ W38 KC.out.at.d)
  obtain ⟨c0, c1, c2, c3, c4, c5, c6, c7, c8⟩ := KC.out.at.cells
  go_wp2_with fail
  refine BL.out.mono ?_
  rintro e W39 ⟨lv, rfl, hB⟩
  have EB : blks kK = [] := by decide +kernel
  have RB := hid hB.rb
  rw [EB] at RB
  replace KC := hid (KC.out.keep hB.kp)
  replace KK := hid (none_trans KK.out hB.kp)
  obtain ⟨va, vc, hva, -⟩ := RB.out
  subst hva
  clear hB BL EB c0 c1 c2 c3 c4 c5 c6 c7 c8
  clear RB
  have c4 : W39.cell? ⟨b, 4, none⟩ = some (.slice (some ⟨bmW28, 0, none⟩) 8192 8192) := KC.out.at.cells.2.2.2.2.1
  have t0 := KC.out.x.m.cell (j := 4104) (by decide)
  have z0 := KC.out.x.m.frz 4104
  go_upto_region 38 with fail
  refine gen_world (P := fun W => Code.wp Try.prog _ _ _ W) _ ?_
  intro W40 hW
  have KN := hid (show KI s0 W40 b kL bmW28 bpW28 brW28 buW28 bhW31 btW28 ∧ s0 < bmW28 from by subst hW; exact KC.out.mem 4104 0 (by decide) (by decide))
  replace KK := hid (show Kept none' w W40 from KK.out.trans (show Kept (fun y => y = bmW28) W39 W40 from by subst hW; exact set_k) (fun _ _ x => x) (fun y hy e => by have := HS0.out; have := KN.out.2; omega))
  replace KC := hid KN.out.1
  clear hW KN c4 t0 z0
  have c4 : W40.cell? ⟨b, 4, none⟩ = some (.slice (some ⟨bmW28, 0, none⟩) 8192 8192) := KC.out.at.cells.2.2.2.2.1
  have t0 := KC.out.x.m.cell (j := 4098) (by decide)
  have z0 := KC.out.x.m.frz 4098
  go_upto_region 39 with fail
  refine gen_world (P := fun W => Code.wp Try.prog _ _ _ W) _ ?_
  intro W41 hW
  have KN := hid (show KI s0 W41 b kM bmW28 bpW28 brW28 buW28 bhW31 btW28 ∧ s0 < bmW28 from by subst hW; exact KC.out.mem 4098 1 (by decide) (by decide))
  replace KK := hid (show Kept none' w W41 from KK.out.trans (show Kept (fun y => y = bmW28) W40 W41 from by subst hW; exact set_k) (fun _ _ x => x) (fun y hy e => by have := HS0.out; have := KN.out.2; omega))
  replace KC := hid KN.out.1
  clear hW KN c4 t0 z0
  have IS := hid (is_any kM _ 8 0 W41 KC.out.at.d true (by decide +kernel))
  obtain ⟨c0, c1, c2, c3, c4, c5, c6, c7, c8⟩ := KC.out.at.cells
  go_wp2_with fail
  refine IS.out.mono ?_
  rintro e W42 ⟨rfl, k⟩
  replace KC := hid (KC.out.keep k)
  replace KK := hid (none_trans KK.out k)
  clear k IS c0 c1 c2 c3 c4 c5 c6 c7 c8
  go_wp2_with fail
  refine (SL.out _).mono ?_
  rintro e W43 ⟨V, ws, rfl, hX, k⟩
  obtain ⟨bmW44, bpW44, brW44, buW44, bhW44, btW44, rfl, hY⟩ := hX.ki rfl
  have HX := hid (hY.le (show s0 ≤ W42.heap.size by have := KK.out.size; have := HS0.out; omega))
  replace KC := hid (KC.out.keep k)
  replace KK := hid (none_trans KK.out k)
  clear hX hY k
  obtain ⟨f0, f1, f2, f3, f4, f5, f6, f7, f8⟩ := KC.out.at.cells
  have y0 := KC.out.fz 0
  have y1 := KC.out.fz 1
  have y2 := KC.out.fz 2
  have y3 := KC.out.fz 3
  have y4 := KC.out.fz 4
  have y5 := KC.out.fz 5
  have y6 := KC.out.fz 6
  have y7 := KC.out.fz 7
  have y8 := KC.out.fz 8
  go_upto_region 42 with fail
  refine gen_world (P := fun W => Code.wp Try.prog _ _ _ W) _ ?_
  intro W44 hW
  have KN := hid (show KI s0 W44 b slI bmW44 bpW44 brW44 buW44 bhW44 btW44 from by subst hW; exact KI.new KC.out HX.out rfl (st9k _ _ _ _ _ _ _ _ _) (st9g KC.out.bx _ _ _ _ _ _ _ _ _))
  replace KK := hid (show Kept none' w W44 from KK.out.trans (show Kept (fun y => y = b) W43 W44 from by subst hW; exact st9k _ _ _ _ _ _ _ _ _) (fun _ _ x => x) (fun y hy e => by have := HS0.out; have := KC.out.sb; omega))
  replace KC := KN
  clear hW KN HX f0 y0 f1 y1 f2 y2 f3 y3 f4 y4 f5 y5 f6 y6 f7 y7 f8 y8
  have IS := hid (is_any slI _ 0 0 W44 KC.out.at.d true (by decide +kernel))
  obtain ⟨c0, c1, c2, c3, c4, c5, c6, c7, c8⟩ := KC.out.at.cells
  go_wp2_with fail
  refine IS.out.mono ?_
  rintro e W45 ⟨rfl, k⟩
  replace KC := hid (KC.out.keep k)
  replace KK := hid (none_trans KK.out k)
  clear k IS c0 c1 c2 c3 c4 c5 c6 c7 c8
  have BL := hid (Blocks_any slI _ W45 KC.out.at.d)
  obtain ⟨c0, c1, c2, c3, c4, c5, c6, c7, c8⟩ := KC.out.at.cells
  go_wp2_with fail
  refine BL.out.mono ?_
  rintro e W46 ⟨lv, rfl, hB⟩
  have EB : blks slI = [(67584, 2048), (69632, 4096)] := by decide +kernel
  have RB := hid hB.rb
  rw [EB] at RB
  replace KC := hid (KC.out.keep hB.kp)
  replace KK := hid (none_trans KK.out hB.kp)
  obtain ⟨va, vc, hva, -⟩ := RB.out
  subst hva
  clear hB BL EB c0 c1 c2 c3 c4 c5 c6 c7 c8
  have KA := hid (show Kept none' W46 (W46.alloc (.cells #[.int .u64 67584, .int .u64 2048, .int .u64 69632, .int .u64 4096] 42)) from (Kept.refl _ W46).alloc _)
  have SM := hid (Same9_yes (.slice va 2 vc) (.slice (some ⟨W46.heap.size, 0, none⟩) 2 2) [(67584, 2048), (69632, 4096)] (W46.alloc (.cells #[.int .u64 67584, .int .u64 2048, .int .u64 69632, .int .u64 4096] 42)) (by decide) (RB.out.keep KA.out) (lit_row [(67584, 2048), (69632, 4096)] fun j hj => by
    have hj : j < 2 := hj
    rcases j with _|_|j
    all_goals first | exact ⟨rfl, rfl⟩ | omega))
  go_wp2_with fail
  refine SM.out.mono ?_
  rintro e W47 ⟨rfl, k⟩
  replace KC := hid (KC.out.keep (none_trans KA.out k))
  replace KK := hid (none_trans KK.out (none_trans KA.out k))
  clear k SM KA RB
  have c5 : W47.cell? ⟨b, 5, none⟩ = some (.slice (some ⟨bpW44, 0, none⟩) 2 2) := KC.out.at.cells.2.2.2.2.2.1
  have t0 := KC.out.x.p.cell (j := 6) (by decide)
  have z0 := KC.out.x.p.frz 6
  go_upto_region 45 with fail
  refine gen_world (P := fun W => Code.wp Try.prog _ _ _ W) _ ?_
  intro W48 hW
  have KN := hid (show KI s0 W48 b kN bmW44 bpW44 brW44 buW44 bhW44 btW44 ∧ s0 < bpW44 from by subst hW; exact KC.out.pg 6 (.int .i64 (-1)) kN.pg (by decide) (by
    intro i hi
    have hi : i < 2 := hi
    have : i = 0 ∨ i = 1 := by omega
    rcases this with rfl | rfl <;> exact ⟨by decide, by decide, by decide, by decide, by decide, by decide, by decide, by decide, by decide, by decide, by decide⟩) (by
    intro j hj
    have hj : j < 22 := hj
    rcases j with _|_|_|_|_|_|_|_|_|_|_|_|_|_|_|_|_|_|_|_|_|_|j
    all_goals first | rfl | omega))
  replace KK := hid (show Kept none' w W48 from KK.out.trans (show Kept (fun y => y = bpW44) W47 W48 from by subst hW; exact set_k) (fun _ _ x => x) (fun y hy e => by have := HS0.out; have := KN.out.2; omega))
  replace KC := hid KN.out.1
  clear hW KN c5 t0 z0
  have IS := hid (is_any kN _ 9 0 W48 KC.out.at.d true (by decide +kernel))
  obtain ⟨c0, c1, c2, c3, c4, c5, c6, c7, c8⟩ := KC.out.at.cells
  go_wp2_with fail
  refine IS.out.mono ?_
  rintro e W49 ⟨rfl, k⟩
  replace KC := hid (KC.out.keep k)
  replace KK := hid (none_trans KK.out k)
  clear k IS c0 c1 c2 c3 c4 c5 c6 c7 c8
  go_wp2_with fail
  refine (SL.out _).mono ?_
  rintro e W50 ⟨V, ws, rfl, hX, k⟩
  obtain ⟨bmW51, bpW51, brW51, buW51, bhW51, btW51, rfl, hY⟩ := hX.ki rfl
  have HX := hid (hY.le (show s0 ≤ W49.heap.size by have := KK.out.size; have := HS0.out; omega))
  replace KC := hid (KC.out.keep k)
  replace KK := hid (none_trans KK.out k)
  clear hX hY k
  obtain ⟨f0, f1, f2, f3, f4, f5, f6, f7, f8⟩ := KC.out.at.cells
  have y0 := KC.out.fz 0
  have y1 := KC.out.fz 1
  have y2 := KC.out.fz 2
  have y3 := KC.out.fz 3
  have y4 := KC.out.fz 4
  have y5 := KC.out.fz 5
  have y6 := KC.out.fz 6
  have y7 := KC.out.fz 7
  have y8 := KC.out.fz 8
  go_upto_region 48 with fail
  refine gen_world (P := fun W => Code.wp Try.prog _ _ _ W) _ ?_
  intro W51 hW
  have KN := hid (show KI s0 W51 b slI bmW51 bpW51 brW51 buW51 bhW51 btW51 from by subst hW; exact KI.new KC.out HX.out rfl (st9k _ _ _ _ _ _ _ _ _) (st9g KC.out.bx _ _ _ _ _ _ _ _ _))
  replace KK := hid (show Kept none' w W51 from KK.out.trans (show Kept (fun y => y = b) W50 W51 from by subst hW; exact st9k _ _ _ _ _ _ _ _ _) (fun _ _ x => x) (fun y hy e => by have := HS0.out; have := KC.out.sb; omega))
  replace KC := KN
  clear hW KN HX f0 y0 f1 y1 f2 y2 f3 y3 f4 y4 f5 y5 f6 y6 f7 y7 f8 y8
  have c8 : W51.cell? ⟨b, 8, none⟩ = some (.slice (some ⟨btW51, 0, none⟩) 8 8) := KC.out.at.cells.2.2.2.2.2.2.2.2
  have t0 := KC.out.x.t.cell (j := 7) (by decide)
  have z0 := KC.out.x.t.frz 7
  go_upto_region 49 with fail
  refine gen_world (P := fun W => Code.wp Try.prog _ _ _ W) _ ?_
  intro W52 hW
  have KN := hid (show KI s0 W52 b kO bmW51 bpW51 brW51 buW51 bhW51 btW51 ∧ s0 < btW51 from by subst hW; exact KC.out.pt 7 (-1) (by decide) (by decide))
  replace KK := hid (show Kept none' w W52 from KK.out.trans (show Kept (fun y => y = btW51) W51 W52 from by subst hW; exact set_k) (fun _ _ x => x) (fun y hy e => by have := HS0.out; have := KN.out.2; omega))
  replace KC := hid KN.out.1
  clear hW KN c8 t0 z0
  have IS := hid (is_any kO _ 10 7 W52 KC.out.at.d true (by decide +kernel))
  obtain ⟨c0, c1, c2, c3, c4, c5, c6, c7, c8⟩ := KC.out.at.cells
  go_wp2_with fail
  refine IS.out.mono ?_
  rintro e W53 ⟨rfl, k⟩
  replace KC := hid (KC.out.keep k)
  replace KK := hid (none_trans KK.out k)
  clear k IS c0 c1 c2 c3 c4 c5 c6 c7 c8
  go_wp2_with fail
  refine (SL.out _).mono ?_
  rintro e W54 ⟨V, ws, rfl, hX, k⟩
  obtain ⟨bmW55, bpW55, brW55, buW55, bhW55, btW55, rfl, hY⟩ := hX.ki rfl
  have HX := hid (hY.le (show s0 ≤ W53.heap.size by have := KK.out.size; have := HS0.out; omega))
  replace KC := hid (KC.out.keep k)
  replace KK := hid (none_trans KK.out k)
  clear hX hY k
  obtain ⟨f0, f1, f2, f3, f4, f5, f6, f7, f8⟩ := KC.out.at.cells
  have y0 := KC.out.fz 0
  have y1 := KC.out.fz 1
  have y2 := KC.out.fz 2
  have y3 := KC.out.fz 3
  have y4 := KC.out.fz 4
  have y5 := KC.out.fz 5
  have y6 := KC.out.fz 6
  have y7 := KC.out.fz 7
  have y8 := KC.out.fz 8
  go_upto_region 52 with fail
  refine gen_world (P := fun W => Code.wp Try.prog _ _ _ W) _ ?_
  intro W55 hW
  have KN := hid (show KI s0 W55 b slI bmW55 bpW55 brW55 buW55 bhW55 btW55 from by subst hW; exact KI.new KC.out HX.out rfl (st9k _ _ _ _ _ _ _ _ _) (st9g KC.out.bx _ _ _ _ _ _ _ _ _))
  replace KK := hid (show Kept none' w W55 from KK.out.trans (show Kept (fun y => y = b) W54 W55 from by subst hW; exact st9k _ _ _ _ _ _ _ _ _) (fun _ _ x => x) (fun y hy e => by have := HS0.out; have := KC.out.sb; omega))
  replace KC := KN
  clear hW KN HX f0 y0 f1 y1 f2 y2 f3 y3 f4 y4 f5 y5 f6 y6 f7 y7 f8 y8
  have c5 : W55.cell? ⟨b, 5, none⟩ = some (.slice (some ⟨bpW55, 0, none⟩) 2 2) := KC.out.at.cells.2.2.2.2.2.1
  have t0 := KC.out.x.p.cell (j := 3) (by decide)
  have z0 := KC.out.x.p.frz 3
  go_upto_region 53 with fail
  refine gen_world (P := fun W => Code.wp Try.prog _ _ _ W) _ ?_
  intro W56 hW
  have KN := hid (show KI s0 W56 b kP bmW55 bpW55 brW55 buW55 bhW55 btW55 ∧ s0 < bpW55 from by subst hW; exact KC.out.pg 3 (.int .i64 2) kP.pg (by decide) (by
    intro i hi
    have hi : i < 2 := hi
    have : i = 0 ∨ i = 1 := by omega
    rcases this with rfl | rfl <;> exact ⟨by decide, by decide, by decide, by decide, by decide, by decide, by decide, by decide, by decide, by decide, by decide⟩) (by
    intro j hj
    have hj : j < 22 := hj
    rcases j with _|_|_|_|_|_|_|_|_|_|_|_|_|_|_|_|_|_|_|_|_|_|j
    all_goals first | rfl | omega))
  replace KK := hid (show Kept none' w W56 from KK.out.trans (show Kept (fun y => y = bpW55) W55 W56 from by subst hW; exact set_k) (fun _ _ x => x) (fun y hy e => by have := HS0.out; have := KN.out.2; omega))
  replace KC := hid KN.out.1
  clear hW KN c5 t0 z0
  have c5 : W56.cell? ⟨b, 5, none⟩ = some (.slice (some ⟨bpW55, 0, none⟩) 2 2) := KC.out.at.cells.2.2.2.2.2.1
  have t0 := KC.out.x.p.cell (j := 7) (by decide)
  have z0 := KC.out.x.p.frz 7
  go_upto_region 54 with fail
  refine gen_world (P := fun W => Code.wp Try.prog _ _ _ W) _ ?_
  intro W57 hW
  have KN := hid (show KI s0 W57 b kQ bmW55 bpW55 brW55 buW55 bhW55 btW55 ∧ s0 < bpW55 from by subst hW; exact KC.out.pg 7 (.int .u64 3) kQ.pg (by decide) (by
    intro i hi
    have hi : i < 2 := hi
    have : i = 0 ∨ i = 1 := by omega
    rcases this with rfl | rfl <;> exact ⟨by decide, by decide, by decide, by decide, by decide, by decide, by decide, by decide, by decide, by decide, by decide⟩) (by
    intro j hj
    have hj : j < 22 := hj
    rcases j with _|_|_|_|_|_|_|_|_|_|_|_|_|_|_|_|_|_|_|_|_|_|j
    all_goals first | rfl | omega))
  replace KK := hid (show Kept none' w W57 from KK.out.trans (show Kept (fun y => y = bpW55) W56 W57 from by subst hW; exact set_k) (fun _ _ x => x) (fun y hy e => by have := HS0.out; have := KN.out.2; omega))
  replace KC := hid KN.out.1
  clear hW KN c5 t0 z0
  have c5 : W57.cell? ⟨b, 5, none⟩ = some (.slice (some ⟨bpW55, 0, none⟩) 2 2) := KC.out.at.cells.2.2.2.2.2.1
  have t0 := KC.out.x.p.cell (j := 6) (by decide)
  have z0 := KC.out.x.p.frz 6
  go_upto_region 55 with fail
  refine gen_world (P := fun W => Code.wp Try.prog _ _ _ W) _ ?_
  intro W58 hW
  have KN := hid (show KI s0 W58 b kR bmW55 bpW55 brW55 buW55 bhW55 btW55 ∧ s0 < bpW55 from by subst hW; exact KC.out.pg 6 (.int .i64 (-1)) kR.pg (by decide) (by
    intro i hi
    have hi : i < 2 := hi
    have : i = 0 ∨ i = 1 := by omega
    rcases this with rfl | rfl <;> exact ⟨by decide, by decide, by decide, by decide, by decide, by decide, by decide, by decide, by decide, by decide, by decide⟩) (by
    intro j hj
    have hj : j < 22 := hj
    rcases j with _|_|_|_|_|_|_|_|_|_|_|_|_|_|_|_|_|_|_|_|_|_|j
    all_goals first | rfl | omega))
  replace KK := hid (show Kept none' w W58 from KK.out.trans (show Kept (fun y => y = bpW55) W57 W58 from by subst hW; exact set_k) (fun _ _ x => x) (fun y hy e => by have := HS0.out; have := KN.out.2; omega))
  replace KC := hid KN.out.1
  clear hW KN c5 t0 z0
  have IS := hid (is_any kR _ 10 7 W58 KC.out.at.d true (by decide +kernel))
  obtain ⟨c0, c1, c2, c3, c4, c5, c6, c7, c8⟩ := KC.out.at.cells
  go_wp2_with fail
  refine IS.out.mono ?_
  rintro e W59 ⟨rfl, k⟩
  replace KC := hid (KC.out.keep k)
  replace KK := hid (none_trans KK.out k)
  clear k IS c0 c1 c2 c3 c4 c5 c6 c7 c8
  have c8 : W59.cell? ⟨b, 8, none⟩ = some (.slice (some ⟨btW55, 0, none⟩) 8 8) := KC.out.at.cells.2.2.2.2.2.2.2.2
  have t0 := KC.out.x.t.cell (j := 7) (by decide)
  have z0 := KC.out.x.t.frz 7
  go_upto_region 58 with fail
  refine gen_world (P := fun W => Code.wp Try.prog _ _ _ W) _ ?_
  intro W60 hW
  have KN := hid (show KI s0 W60 b kS bmW55 bpW55 brW55 buW55 bhW55 btW55 ∧ s0 < btW55 from by subst hW; exact KC.out.pt 7 (-1) (by decide) (by decide))
  replace KK := hid (show Kept none' w W60 from KK.out.trans (show Kept (fun y => y = btW55) W59 W60 from by subst hW; exact set_k) (fun _ _ x => x) (fun y hy e => by have := HS0.out; have := KN.out.2; omega))
  replace KC := hid KN.out.1
  clear hW KN c8 t0 z0
  have IS := hid (is_any kS _ 0 0 W60 KC.out.at.d true (by decide +kernel))
  obtain ⟨c0, c1, c2, c3, c4, c5, c6, c7, c8⟩ := KC.out.at.cells
  go_wp2_with fail
  refine IS.out.mono ?_
  rintro e W61 ⟨rfl, k⟩
  replace KC := hid (KC.out.keep k)
  replace KK := hid (none_trans KK.out k)
  clear k IS c0 c1 c2 c3 c4 c5 c6 c7 c8
  have c5 : W61.cell? ⟨b, 5, none⟩ = some (.slice (some ⟨bpW55, 0, none⟩) 2 2) := KC.out.at.cells.2.2.2.2.2.1
  have t0 := KC.out.x.p.cell (j := 4) (by decide)
  have z0 := KC.out.x.p.frz 4
  go_upto_region 61 with fail
  refine gen_world (P := fun W => Code.wp Try.prog _ _ _ W) _ ?_
  intro W62 hW
  have KN := hid (show KI s0 W62 b kT bmW55 bpW55 brW55 buW55 bhW55 btW55 ∧ s0 < bpW55 from by subst hW; exact KC.out.pg 4 (.int .i64 1) kT.pg (by decide) (by
    intro i hi
    have hi : i < 2 := hi
    have : i = 0 ∨ i = 1 := by omega
    rcases this with rfl | rfl <;> exact ⟨by decide, by decide, by decide, by decide, by decide, by decide, by decide, by decide, by decide, by decide, by decide⟩) (by
    intro j hj
    have hj : j < 22 := hj
    rcases j with _|_|_|_|_|_|_|_|_|_|_|_|_|_|_|_|_|_|_|_|_|_|j
    all_goals first | rfl | omega))
  replace KK := hid (show Kept none' w W62 from KK.out.trans (show Kept (fun y => y = bpW55) W61 W62 from by subst hW; exact set_k) (fun _ _ x => x) (fun y hy e => by have := HS0.out; have := KN.out.2; omega))
  replace KC := hid KN.out.1
  clear hW KN c5 t0 z0
  have IS := hid (is_any kT _ 11 0 W62 KC.out.at.d true (by decide +kernel))
  obtain ⟨c0, c1, c2, c3, c4, c5, c6, c7, c8⟩ := KC.out.at.cells
  go_wp2_with fail
  refine IS.out.mono ?_
  rintro e W63 ⟨rfl, k⟩
  replace KC := hid (KC.out.keep k)
  replace KK := hid (none_trans KK.out k)
  clear k IS c0 c1 c2 c3 c4 c5 c6 c7 c8
  go_wp2_with fail
  go_ret
  exact ⟨rfl, KK.out⟩
end Go.Proofs.Ytcgbefmjnhkdgaa
