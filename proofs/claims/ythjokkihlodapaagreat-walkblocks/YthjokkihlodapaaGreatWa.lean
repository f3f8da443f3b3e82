import Derived.Test.YthjokkihlodapaaGreatXz
set_option maxRecDepth 1000000
set_option maxHeartbeats 80000000
/- croftlaw9: images block by block. -/
namespace Go.Proofs.YthjokkihlodapaaGreat
open Go.RowKit
set_option linter.unusedVariables false
set_option maxHeartbeats 8000000
set_option maxRecDepth 6000
/-- A row that is one whole block, newer than s: n elements, N cells. -/
def XR (s : Nat) (w : World) (v : Value) (n : Nat) (T : TypeId) (N : Nat) (F : Nat → Value) : Prop := ∃ b cs, s < b ∧ v = .slice (some ⟨b, 0, none⟩) n n ∧ w.heap[b]? = some (.cells cs T) ∧ cs.size = N ∧ ∀ j, j < N → cs[j]? = some (F j)
theorem XR.keepS {s n N : Nat} {w W : World} {v : Value} {T : TypeId} {F : Nat → Value} {S : Nat → Prop} (h : XR s w v n T N F) (hk : Kept S w W) (hS : ∀ b, v.ownBlock = some b → ¬ S b) : XR s W v n T N F := by
  obtain ⟨b, cs, h1, rfl, h3, h4⟩ := h
  exact ⟨b, cs, h1, rfl, (hk.block _ (heap_lt h3) (hS b rfl)).trans h3, h4⟩
theorem XR.keep {s n N : Nat} {w W : World} {v : Value} {T : TypeId} {F : Nat → Value} (h : XR s w v n T N F) (hk : Kept none' w W) : XR s W v n T N F := h.keepS hk fun _ _ x => x
theorem XR.ty {s n N : Nat} {w : World} {v : Value} {T : TypeId} {F : Nat → Value} (h : XR s w v n T N F) {b : Nat} (hb : v.ownBlock = some b) : ∃ cs, w.heap[b]? = some (.cells cs T) := by
  obtain ⟨b, cs, h1, rfl, h3, h4⟩ := h
  simp [Value.ownBlock] at hb
  subst hb
  exact ⟨cs, h3⟩
theorem XR.own {s n N : Nat} {w : World} {v : Value} {T : TypeId} {F : Nat → Value} (h : XR s w v n T N F) {b : Nat} (hb : v.ownBlock = some b) : s < b := by
  obtain ⟨b, cs, h1, rfl, h3, h4⟩ := h
  simp [Value.ownBlock] at hb
  subst hb
  exact h1
theorem XR.apart {s s' n n' N N' : Nat} {w : World} {v u : Value} {T U : TypeId} {F G : Nat → Value} (h : XR s w v n T N F) (k : XR s' w u n' U N' G) (hT : T ≠ U) {b : Nat} (hb : u.ownBlock = some b) : ∀ c, v.ownBlock = some c → ¬ c = b := by
  rintro c hc rfl
  obtain ⟨c1, e1⟩ := h.ty hc
  obtain ⟨c2, e2⟩ := k.ty hb
  rw [e1] at e2
  cases e2
  exact hT rfl
theorem XR.cell {s n N : Nat} {w : World} {b : Nat} {T : TypeId} {F : Nat → Value} {m c : Nat} (h : XR s w (.slice (some ⟨b, 0, none⟩) m c) n T N F) {j : Nat} (hj : j < N) : w.cell? ⟨b, j, none⟩ = some (F j) := by
  obtain ⟨b', cs, h1, e, h3, h4, h5⟩ := h
  cases e
  simp [World.cell?, h3, h5 j hj]
theorem XR.frz {s n N : Nat} {w : World} {b : Nat} {T : TypeId} {F : Nat → Value} {m c : Nat} (h : XR s w (.slice (some ⟨b, 0, none⟩) m c) n T N F) (j : Nat) : w.frozen? ⟨b, j, none⟩ = false := by
  obtain ⟨b', cs, h1, e, h3, h4, h5⟩ := h
  cases e
  simp [World.frozen?, h3]
theorem XR.put {s n N : Nat} {w : World} {b : Nat} {T : TypeId} {F : Nat → Value} {m c : Nat} (h : XR s w (.slice (some ⟨b, 0, none⟩) m c) n T N F) {k : Nat} (hk : k < N) (x : Value) : XR s (w.setCell ⟨b, k, none⟩ x) (.slice (some ⟨b, 0, none⟩) m c) n T N fun j => if j = k then x else F j := by
  obtain ⟨b', cs, h1, e, h3, h4, h5⟩ := h
  cases e
  refine ⟨_, cs.setIfInBounds k x, h1, rfl, set_at h3 x, by simpa using h4, fun j hj => ?_⟩
  by_cases e : j = k
  · subst e
    simp [h4, hj]
  · show _ = some (if j = k then x else F j)
    rw [if_neg e, Array.getElem?_setIfInBounds_ne (Ne.symm e)]
    exact h5 j hj
theorem XR.congr {s n N : Nat} {w : World} {v : Value} {T : TypeId} {F G : Nat → Value} (h : XR s w v n T N F) (e : ∀ j, j < N → F j = G j) : XR s w v n T N G := by
  obtain ⟨b, cs, h1, h2, h3, h4, h5⟩ := h
  exact ⟨b, cs, h1, h2, h3, h4, fun j hj => (h5 j hj).trans (by rw [e j hj])⟩
/-- What an image may hold. -/
structure ImOk (I : Img) : Prop where
  b64 : I.base < 18446744073709551616
  lim : N64 I.lim
  ord : N64 I.ord
  reg : N64 I.reg
  nm : I.nm ≤ 9223372036854775807
  np : I.np ≤ 9223372036854775807
  no : I.no ≤ 9223372036854775807
  nh : I.hd.length ≤ 9223372036854775807
  nt : I.pt.length ≤ 9223372036854775807
  mem : ∀ i, i < I.nm → I.mem i < 256
  pg : ∀ i, i < I.np → PgIn (I.pg i)
  pr : ∀ i, i < I.no → ∀ j, (I.pr i).getD j 0 < 2 ^ 64
  hd : ∀ i, i < I.hd.length → I.hd.getD i 0 < 18446744073709551616
  pt : ∀ i, i < I.pt.length → N64 (I.pt.getD i 0)
structure ImX (s : Nat) (w : World) (I : Img) (V : ImV) (ws : Nat → Value) : Prop where
  ok : ImOk I
  m : XR s w V.m I.nm 5 I.nm fun j => .int .u8 (I.mem j : Int)
  p : XR s w V.p I.np 52 (I.np * 11) fun j => (I.pg (j / 11)).fld (j % 11)
  r : XR s w V.r I.no 28 I.no ws
  u : ∀ i, i < I.no → XR s w (ws i) (I.pr i).length 22 (I.pr i).length fun j => .int .u64 (((I.pr i).getD j 0 : Nat) : Int)
  h : XR s w V.h I.hd.length 22 I.hd.length fun j => .int .u64 ((I.hd.getD j 0 : Nat) : Int)
  t : XR s w V.t I.pt.length 3 I.pt.length fun j => .int .i64 (I.pt.getD j 0)
theorem ImX.keep {s : Nat} {w W : World} {I : Img} {V : ImV} {ws : Nat → Value} (h : ImX s w I V ws) (hk : Kept none' w W) : ImX s W I V ws :=
  ⟨h.ok, h.m.keep hk, h.p.keep hk, h.r.keep hk, fun i hi => (h.u i hi).keep hk, h.h.keep hk, h.t.keep hk⟩
theorem XR.le {s s' n N : Nat} {w : World} {v : Value} {T : TypeId} {F : Nat → Value} (h : XR s w v n T N F) (e : s' ≤ s) : XR s' w v n T N F := by
  obtain ⟨b, cs, h1, h2, h3⟩ := h
  exact ⟨b, cs, by omega, h2, h3⟩
theorem ImX.le {s s' : Nat} {w : World} {I : Img} {V : ImV} {ws : Nat → Value} (h : ImX s w I V ws) (e : s' ≤ s) : ImX s' w I V ws :=
  ⟨h.ok, h.m.le e, h.p.le e, h.r.le e, fun i hi => (h.u i hi).le e, h.h.le e, h.t.le e⟩
theorem ImX.d {s : Nat} {w : World} {I : Img} {V : ImV} {ws : Nat → Value} (h : ImX s w I V ws) : ImD w I V := by
  obtain ⟨ok, hm, hp, hr, hu, hh, ht⟩ := h
  obtain ⟨m, p, r, q, t⟩ := V
  obtain ⟨bm, cm, a1, rfl, a2, a3, a4⟩ := hm
  obtain ⟨bp, cp, b1, rfl, b2, b3, b4⟩ := hp
  obtain ⟨br, cr, c1, rfl, c2, c3, c4⟩ := hr
  obtain ⟨bh, ch, d1, rfl, d2, d3, d4⟩ := hh
  obtain ⟨bt, ct, e1, rfl, e2, e3, e4⟩ := ht
  refine ⟨ok.b64, ok.lim, ok.ord, ok.reg, ⟨ok.nm, _, _, rfl, .inr ⟨_, _, rfl, heap_lt a2, fun i hi => ⟨ok.mem i hi, ?_⟩⟩⟩, ?_, ⟨ok.np, _, _, rfl, .inr ⟨_, _, rfl, heap_lt b2, fun i hi => ⟨ok.pg i hi, fun j hj => ?_⟩⟩⟩, ⟨ws, ok.no, _, _, rfl, .inr ⟨_, _, rfl, heap_lt c2, fun i hi => ⟨?_, ?_⟩⟩⟩, ⟨ok.nh, _, _, rfl, .inr ⟨_, _, rfl, heap_lt d2, fun i hi => ⟨ok.hd i hi, ?_⟩⟩⟩, ⟨ok.nt, _, _, rfl, .inr ⟨_, _, rfl, heap_lt e2, fun i hi => ⟨ok.pt i hi, ?_⟩⟩⟩⟩
  · simp [World.cell?, a2, a4 i hi]
  · intro a n c e
    cases e
    exact Nat.le_refl _
  · have := b4 (i * 11 + j) (by omega)
    dsimp only at this
    rw [show (i * 11 + j) / 11 = i by omega, show (i * 11 + j) % 11 = j by omega] at this
    simp [World.cell?, b2, this]
  · simp [World.cell?, c2, c4 i hi]
  · have hx := hu i hi
    obtain ⟨b, cs, g1, g2, g3, g4, g5⟩ := hu i hi
    rw [g2] at hx
    refine ⟨ok.pr i hi, _, _, g2, .inr ⟨_, rfl, heap_lt g3, fun j hj => ?_⟩⟩
    rw [show (⟨b, 0, none⟩ : Addr).add j = ⟨b, j, none⟩ by (unfold Addr.add; simp; intro e; exact e.symm)]
    exact hx.cell hj
  · simp [World.cell?, d2, d4 i hi]
  · simp [World.cell?, e2, e4 i hi]
theorem XBk.xr {s n N : Nat} {w : World} {v : Value} {T : TypeId} {cs : Array Value} {F : Nat → Value} (h : XBk s w v n T cs) (hn : cs.size = N) (hF : ∀ j, j < N → cs[j]? = some (F j)) : XR s w v n T N F := by
  obtain ⟨b, h1, h2, h3⟩ := h
  exact ⟨b, cs, h1, h2, h3, hn, hF⟩
theorem vo_ok : ImOk voI := by
  refine ⟨by decide, by decide, by decide, by decide, by decide, by decide, by decide, by decide, by decide, fun _ _ => Nat.zero_lt_succ _, fun i hi => ?_, fun i hi j => ?_, ?_, ?_⟩
  · have : i = 0 ∨ i = 1 := by have : voI.np = 2 := rfl; omega
    rcases this with rfl | rfl <;> exact ⟨by decide, by decide, by decide, by decide, by decide, by decide, by decide, by decide, by decide, by decide, by decide⟩
  · show ([0] : List Nat).getD j 0 < _
    match j with
    | 0 => decide
    | j + 1 => simp
  · decide
  · decide
theorem zb_size (n : Nat) : (zb n).size = n := by
  unfold zb madeCells
  simp
theorem VoK.x {s : Nat} {w : World} {V : ImV} (h : VoK s w V) : ∃ ws, ImX s w voI V ws := by
  obtain ⟨u, h1, h2⟩ := h.r.2
  refine ⟨fun _ => u, vo_ok, h.m.2.xr (zb_size 8192) fun j hj => zb_get 8192 j hj, h.p.2.xr rfl fun j hj => ?_, h1.xr rfl fun j hj => ?_, fun i hi => h2.2.xr rfl fun j hj => ?_, h.h.2.xr rfl fun j hj => ?_, h.t.2.xr rfl fun j hj => ?_⟩
  · have hj : j < 22 := hj
    rcases j with _|_|_|_|_|_|_|_|_|_|_|_|_|_|_|_|_|_|_|_|_|_|j
    all_goals first | rfl | omega
  · have hj : j < 1 := hj
    obtain rfl : j = 0 := by omega
    rfl
  · have hj : j < 1 := hj
    obtain rfl : j = 0 := by omega
    rfl
  · have hj : j < 2 := hj
    rcases j with _|_|j
    all_goals first | rfl | omega
  · have hj : j < 8 := hj
    rcases j with _|_|_|_|_|_|_|_|j
    all_goals first | rfl | omega
end Go.Proofs.YthjokkihlodapaaGreat
/- croftlaw9: slabbed, the walk. -/
namespace Go.Proofs.YthjokkihlodapaaGreat
open Go.RowKit
set_option linter.unusedVariables false
set_option maxHeartbeats 8000000
set_option maxRecDepth 6000
abbrev slP : Pg := ⟨4, 0, 7, 1, -1, -1, 0, 2, 0, 0, 0⟩
abbrev liP : Pg := ⟨2, 0, 0, 0, -1, -1, -1, 0, 0, 0, 0⟩
/-- The image of chapter 9's last examples. -/
def slI : Img := { voI with pg := fun i => if i = 0 then slP else liP, hd := [0, 0], pt := [-1, -1, -1, -1, -1, -1, -1, 0] }
abbrev slC : Array Value := #[.int .i64 4, .int .i64 0, .int .i64 7, .int .i64 1, .int .i64 (-1), .int .i64 (-1), .int .i64 0, .int .u64 2, .int .u64 0, .int .u64 0, .int .u64 0, .int .i64 2, .int .i64 0, .int .i64 0, .int .i64 0, .int .i64 (-1), .int .i64 (-1), .int .i64 (-1), .int .u64 0, .int .u64 0, .int .u64 0, .int .u64 0]
theorem gen_world {P : World → Prop} (w : World) (h : ∀ W, W = w → P W) : P w := h w rfl
theorem al4_k {w W : World} {a b c d : Obj} (h : W = (((w.alloc a).alloc b).alloc c).alloc d) : Kept none' w W := h ▸ (((((Kept.refl none' w).alloc a).alloc b).alloc c).alloc d)
theorem al4_0 {w W : World} {a b c d : Obj} (h : W = (((w.alloc a).alloc b).alloc c).alloc d) : W.heap[w.heap.size]? = some a := by
  subst h
  show ((((w.heap.push a).push b).push c).push d)[w.heap.size]? = _
  rw [Array.getElem?_push, if_neg (by simp only [Array.size_push]; omega), Array.getElem?_push, if_neg (by simp only [Array.size_push]; omega), Array.getElem?_push, if_neg (by simp only [Array.size_push]; omega), Array.getElem?_push, if_pos rfl]
theorem al4_2 {w W : World} {a b c d : Obj} (h : W = (((w.alloc a).alloc b).alloc c).alloc d) : W.heap[w.heap.size + 1 + 1]? = some c := by
  subst h
  show ((((w.heap.push a).push b).push c).push d)[w.heap.size + 1 + 1]? = _
  rw [Array.getElem?_push, if_neg (by simp only [Array.size_push]; omega), Array.getElem?_push, if_pos (by simp only [Array.size_push])]
theorem al4_3 {w W : World} {a b c d : Obj} (h : W = (((w.alloc a).alloc b).alloc c).alloc d) : W.heap[w.heap.size + 1 + 1 + 1]? = some d := by
  subst h
  show ((((w.heap.push a).push b).push c).push d)[w.heap.size + 1 + 1 + 1]? = _
  rw [Array.getElem?_push, if_pos (by simp only [Array.size_push])]
theorem sl_ok : ImOk slI := by
  refine ⟨by decide, by decide, by decide, by decide, by decide, by decide, by decide, by decide, by decide, fun _ _ => Nat.zero_lt_succ _, fun i hi => ?_, vo_ok.pr, ?_, ?_⟩
  · have : i = 0 ∨ i = 1 := by have : slI.np = 2 := rfl; omega
    rcases this with rfl | rfl <;> exact ⟨by decide, by decide, by decide, by decide, by decide, by decide, by decide, by decide, by decide, by decide, by decide⟩
  · decide
  · decide
theorem slabbed_any (w : World) : Calls Tryz.prog 14 #[] w fun e w' => ∃ V ws, e = .returned (imA slI V) ∧ ImX w.heap.size w' slI V ws ∧ Kept none' w w' := by
  have VD := hid (fun W => void_any W)
  go_enter Tryz.func14, Tryz.ntmps14
  go_wp2_with fail
  refine (VD.out _).mono ?_
  have X0 : (w.alloc imZ).heap[w.heap.size]? = some imZ := heap_new w imZ
  have K0 : Kept none' w (w.alloc imZ) := (Kept.refl _ w).alloc _
  have SZ : w.heap.size ≤ (w.alloc imZ).heap.size := K0.size
  rintro e w1 ⟨V, rfl, hV, hK⟩
  obtain ⟨ws, hX⟩ := hV.x
  replace hX := hX.le SZ
  have X1 : w1.heap[w.heap.size]? = some imZ := (hK.block _ (heap_lt X0) (fun x => x)).trans X0
  have HK := hid (none_trans K0 hK)
  clear hV hK SZ X0 K0
  obtain ⟨v1, v2, v3, v4, v5⟩ := V
  have HX := hid hX
  obtain ⟨bm, cm, a1, q1, a2, a3, a4⟩ := hX.m
  obtain ⟨bp, cp, b1, q2, b2, b3, b4⟩ := hX.p
  obtain ⟨br, cr, c1, q3, c2, c3, c4⟩ := hX.r
  obtain ⟨bh, ch, d1, q4, d2, d3, d4⟩ := hX.h
  obtain ⟨bt, ct, e1, q5, e2, e3, e4⟩ := hX.t
  clear hX a2 a3 a4 b2 b3 b4 c2 c3 c4 d2 d3 d4 e2 e3 e4
  have q1' : v1 = .slice (some ⟨bm, 0, none⟩) 8192 8192 := q1
  have q2' : v2 = .slice (some ⟨bp, 0, none⟩) 2 2 := q2
  have q3' : v3 = .slice (some ⟨br, 0, none⟩) 1 1 := q3
  have q4' : v4 = .slice (some ⟨bh, 0, none⟩) 2 2 := q4
  have q5' : v5 = .slice (some ⟨bt, 0, none⟩) 8 8 := q5
  clear q1 q2 q3 q4 q5
  subst q1' q2' q3' q4' q5'
  have t7 := HX.out.t.cell (j := 7) (by decide)
  have z7 := HX.out.t.frz 7
  have n1 : bt < w1.heap.size := lt_of_cell t7
  have n0 : w.heap.size < w1.heap.size := heap_lt X1
  have BT := hid e1
  clear a1 b1 c1 d1 e1
  have c0 : w1.cell? ⟨w.heap.size, 0, none⟩ = some (.int .u64 0) := by simp [World.cell?, X1]
  have z0 : w1.frozen? ⟨w.heap.size, 0, none⟩ = false := by simp [World.frozen?, X1]
  have c1 : w1.cell? ⟨w.heap.size, 1, none⟩ = some ((.int .i64 0)) := by simp [World.cell?, X1]
  have z1 : w1.frozen? ⟨w.heap.size, 1, none⟩ = false := by simp [World.frozen?, X1]
  have c2 : w1.cell? ⟨w.heap.size, 2, none⟩ = some ((.int .i64 0)) := by simp [World.cell?, X1]
  have z2 : w1.frozen? ⟨w.heap.size, 2, none⟩ = false := by simp [World.frozen?, X1]
  have c3 : w1.cell? ⟨w.heap.size, 3, none⟩ = some ((.int .i64 0)) := by simp [World.cell?, X1]
  have z3 : w1.frozen? ⟨w.heap.size, 3, none⟩ = false := by simp [World.frozen?, X1]
  have c4 : w1.cell? ⟨w.heap.size, 4, none⟩ = some ((.slice none 0 0)) := by simp [World.cell?, X1]
  have z4 : w1.frozen? ⟨w.heap.size, 4, none⟩ = false := by simp [World.frozen?, X1]
  have c5 : w1.cell? ⟨w.heap.size, 5, none⟩ = some ((.slice none 0 0)) := by simp [World.cell?, X1]
  have z5 : w1.frozen? ⟨w.heap.size, 5, none⟩ = false := by simp [World.frozen?, X1]
  have c6 : w1.cell? ⟨w.heap.size, 6, none⟩ = some ((.slice none 0 0)) := by simp [World.cell?, X1]
  have z6 : w1.frozen? ⟨w.heap.size, 6, none⟩ = false := by simp [World.frozen?, X1]
  have c7 : w1.cell? ⟨w.heap.size, 7, none⟩ = some ((.slice none 0 0)) := by simp [World.cell?, X1]
  have z7' : w1.frozen? ⟨w.heap.size, 7, none⟩ = false := by simp [World.frozen?, X1]
  have c8 : w1.cell? ⟨w.heap.size, 8, none⟩ = some ((.slice none 0 0)) := by simp [World.cell?, X1]
  have z8 : w1.frozen? ⟨w.heap.size, 8, none⟩ = false := by simp [World.frozen?, X1]
  have XX := hid X1
  clear X1
  go_upto_region 6 with fail
  refine gen_world (P := fun W => Code.wp Tryz.prog _ _ _ W) _ ?_
  intro W hW
  have k4 := al4_k hW
  have X4 := al4_0 hW
  have HP := hid (al4_2 hW)
  have HH := hid (al4_3 hW)
  have sz : w1.heap.size + 1 + 1 + 1 < W.heap.size := heap_lt HH.out
  clear hW
  replace t7 := k4.cell (fun x => x) t7
  have y7 : W.frozen? ⟨bt, 7, none⟩ = false := by
    have := (HX.out.t.keep k4).frz 7
    exact this
  have i8 : W.cell? ⟨w1.heap.size, 8, none⟩ = some (.slice (some ⟨bt, 0, none⟩) 8 8) := by simp [World.cell?, X4]
  have HX4 := hid X4
  have K4 := hid k4
  clear X4 k4 z7
  go_upto_region 7 with fail
  refine gen_world (P := fun W => Code.wp Tryz.prog _ _ _ W) _ ?_
  intro W5 hW5
  have k5 : Kept (fun b => b = bt) W W5 := hW5 ▸ (Kept.refl (fun b => b = bt) W).setCell (p := ⟨bt, 7, none⟩) rfl (.int .i64 0)
  have X5 := (k5.block _ (heap_lt HX4.out) (fun e => by omega)).trans HX4.out
  have B5 := (k5.block _ (Nat.lt_of_lt_of_le (heap_lt XX.out) K4.out.size) (fun e => by have := BT.out; omega)).trans ((K4.out.block _ (heap_lt XX.out) (fun x => x)).trans XX.out)
  have HT5 := hid (show XR w.heap.size W5 (.slice (some ⟨bt, 0, none⟩) 8 8) 8 3 8 fun j => .int .i64 (slI.pt.getD j 0) from hW5 ▸ (((HX.out.t.keep K4.out).put (k := 7) (by decide) (.int .i64 0)).congr fun j hj => by
    have hj : j < 8 := hj
    rcases j with _|_|_|_|_|_|_|_|j
    all_goals first | rfl | omega))
  clear hW5
  have K5 := hid k5
  have HB5 := hid B5
  have m0 : W5.cell? ⟨w1.heap.size, 0, none⟩ = some (.int .u64 (voI.base : Int)) := by simp [World.cell?, X5]
  have m1 : W5.cell? ⟨w1.heap.size, 1, none⟩ = some (.int .i64 voI.lim) := by simp [World.cell?, X5]
  have m2 : W5.cell? ⟨w1.heap.size, 2, none⟩ = some (.int .i64 voI.ord) := by simp [World.cell?, X5]
  have m3 : W5.cell? ⟨w1.heap.size, 3, none⟩ = some (.int .i64 voI.reg) := by simp [World.cell?, X5]
  have m4 : W5.cell? ⟨w1.heap.size, 4, none⟩ = some (.slice (some ⟨bm, 0, none⟩) 8192 8192) := by simp [World.cell?, X5]
  have m5 : W5.cell? ⟨w1.heap.size, 5, none⟩ = some (.slice (some ⟨w1.heap.size + 1 + 1, 0, none⟩) 2 2) := by simp [World.cell?, X5]
  have m6 : W5.cell? ⟨w1.heap.size, 6, none⟩ = some (.slice (some ⟨br, 0, none⟩) 1 1) := by simp [World.cell?, X5]
  have m7 : W5.cell? ⟨w1.heap.size, 7, none⟩ = some (.slice (some ⟨w1.heap.size + 1 + 1 + 1, 0, none⟩) 2 2) := by simp [World.cell?, X5]
  have m8 : W5.cell? ⟨w1.heap.size, 8, none⟩ = some (.slice (some ⟨bt, 0, none⟩) 8 8) := by simp [World.cell?, X5]
  clear c0 c1 c2 c3 c4 c5 c6 c7 c8 z0 z1 z2 z3 z4 z5 z6 z7' z8
  have c0 : W5.cell? ⟨w.heap.size, 0, none⟩ = some ((.int .u64 0)) := by simp [World.cell?, B5]
  have z0 : W5.frozen? ⟨w.heap.size, 0, none⟩ = false := by simp [World.frozen?, B5]
  have c1 : W5.cell? ⟨w.heap.size, 1, none⟩ = some ((.int .i64 0)) := by simp [World.cell?, B5]
  have z1 : W5.frozen? ⟨w.heap.size, 1, none⟩ = false := by simp [World.frozen?, B5]
  have c2 : W5.cell? ⟨w.heap.size, 2, none⟩ = some ((.int .i64 0)) := by simp [World.cell?, B5]
  have z2 : W5.frozen? ⟨w.heap.size, 2, none⟩ = false := by simp [World.frozen?, B5]
  have c3 : W5.cell? ⟨w.heap.size, 3, none⟩ = some ((.int .i64 0)) := by simp [World.cell?, B5]
  have z3 : W5.frozen? ⟨w.heap.size, 3, none⟩ = false := by simp [World.frozen?, B5]
  have c4 : W5.cell? ⟨w.heap.size, 4, none⟩ = some ((.slice none 0 0)) := by simp [World.cell?, B5]
  have z4 : W5.frozen? ⟨w.heap.size, 4, none⟩ = false := by simp [World.frozen?, B5]
  have c5 : W5.cell? ⟨w.heap.size, 5, none⟩ = some ((.slice none 0 0)) := by simp [World.cell?, B5]
  have z5 : W5.frozen? ⟨w.heap.size, 5, none⟩ = false := by simp [World.frozen?, B5]
  have c6 : W5.cell? ⟨w.heap.size, 6, none⟩ = some ((.slice none 0 0)) := by simp [World.cell?, B5]
  have z6 : W5.frozen? ⟨w.heap.size, 6, none⟩ = false := by simp [World.frozen?, B5]
  have c7 : W5.cell? ⟨w.heap.size, 7, none⟩ = some ((.slice none 0 0)) := by simp [World.cell?, B5]
  have z7 : W5.frozen? ⟨w.heap.size, 7, none⟩ = false := by simp [World.frozen?, B5]
  have c8 : W5.cell? ⟨w.heap.size, 8, none⟩ = some ((.slice none 0 0)) := by simp [World.cell?, B5]
  have z8 : W5.frozen? ⟨w.heap.size, 8, none⟩ = false := by simp [World.frozen?, B5]
  clear k5 X5 B5 t7 y7 i8
  go_wp2_with fail
  have kS := (((((((((Kept.refl (fun b => b = w.heap.size) W5).setCell (p := ⟨w.heap.size, 0, none⟩) rfl (.int .u64 (voI.base : Int))).setCell (p := ⟨w.heap.size, 1, none⟩) rfl (.int .i64 voI.lim)).setCell (p := ⟨w.heap.size, 2, none⟩) rfl (.int .i64 voI.ord)).setCell (p := ⟨w.heap.size, 3, none⟩) rfl (.int .i64 voI.reg)).setCell (p := ⟨w.heap.size, 4, none⟩) rfl (.slice (some ⟨bm, 0, none⟩) 8192 8192)).setCell (p := ⟨w.heap.size, 5, none⟩) rfl (.slice (some ⟨w1.heap.size + 1 + 1, 0, none⟩) 2 2)).setCell (p := ⟨w.heap.size, 6, none⟩) rfl (.slice (some ⟨br, 0, none⟩) 1 1)).setCell (p := ⟨w.heap.size, 7, none⟩) rfl (.slice (some ⟨w1.heap.size + 1 + 1 + 1, 0, none⟩) 2 2)).setCell (p := ⟨w.heap.size, 8, none⟩) rfl (.slice (some ⟨bt, 0, none⟩) 8 8)
  refine bodyPost_ret (results_cell_row rfl _ _ _ _ _ _ _ rfl (st9 HB5.out _ _ _ _ _ _ _ _ _) Tryz.underlying31 rfl (by kernel_rfl)) rfl ?_
  have nf : ∀ {n N : Nat} {V : World} {v : Value} {T : TypeId} {F : Nat → Value}, XR w.heap.size V v n T N F → ∀ b, v.ownBlock = some b → ¬ b = w.heap.size := fun h b hb e => by have := h.own hb; omega
  have gm := HX.out.m.keep K4.out
  have gr := HX.out.r.keep K4.out
  have gu := fun i hi => (HX.out.u i hi).keep K4.out
  have gt := HX.out.t.keep K4.out
  have hm := gm.keepS K5.out (gm.apart gt (by decide) rfl)
  have hr := gr.keepS K5.out (gr.apart gt (by decide) rfl)
  have hu := fun i hi => (gu i hi).keepS K5.out ((gu i hi).apart gt (by decide) rfl)
  have hp : XR w.heap.size W5 (.slice (some ⟨w1.heap.size + 1 + 1, 0, none⟩) 2 2) 2 52 22 fun j => (slI.pg (j / 11)).fld (j % 11) := by
    refine ⟨_, _, by omega, rfl, (K5.out.block _ (heap_lt HP.out) (fun e => by omega)).trans HP.out, rfl, fun j hj => ?_⟩
    rcases j with _|_|_|_|_|_|_|_|_|_|_|_|_|_|_|_|_|_|_|_|_|_|j
    all_goals first | rfl | omega
  have hh : XR w.heap.size W5 (.slice (some ⟨w1.heap.size + 1 + 1 + 1, 0, none⟩) 2 2) 2 22 2 fun j => .int .u64 ((slI.hd.getD j 0 : Nat) : Int) := by
    refine ⟨_, _, by omega, rfl, (K5.out.block _ (heap_lt HH.out) (fun e => by omega)).trans HH.out, rfl, fun j hj => ?_⟩
    rcases j with _|_|j
    all_goals first | rfl | omega
  have k0 : Kept none' w _ := ((none_trans HK.out K4.out).trans K5.out (fun _ _ x => x) (fun x hx e => absurd hx (by have := BT.out; omega))).trans kS (fun _ _ x => x) (fun x hx e => absurd hx (by omega))
  exact ⟨⟨.slice (some ⟨bm, 0, none⟩) 8192 8192, .slice (some ⟨w1.heap.size + 1 + 1, 0, none⟩) 2 2, .slice (some ⟨br, 0, none⟩) 1 1, .slice (some ⟨w1.heap.size + 1 + 1 + 1, 0, none⟩) 2 2, .slice (some ⟨bt, 0, none⟩) 8 8⟩, ws, rfl, ⟨sl_ok, hm.keepS kS (nf hm), hp.keepS kS (nf hp), hr.keepS kS (nf hr), fun i hi => (hu i hi).keepS kS (nf (hu i hi)), hh.keepS kS (nf hh), HT5.out.keepS kS (nf HT5.out)⟩, k0⟩
end Go.Proofs.YthjokkihlodapaaGreat
