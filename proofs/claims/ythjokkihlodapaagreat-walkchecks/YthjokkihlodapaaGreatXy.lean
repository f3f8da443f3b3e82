import Derived.Test.YthjokkihlodapaaGreatXo
import Derived.Laws.Rows
set_option maxRecDepth 1000000
set_option maxHeartbeats 80000000
/- croftlaw9: void. -/
namespace Go.Proofs.YthjokkihlodapaaGreat
open Go.RowKit
set_option linter.unusedVariables false
set_option maxHeartbeats 16000000
set_option maxRecDepth 6000
/-- A page that begins a free block, and its second. -/
abbrev frP : Pg := ⟨0, 1, 0, 0, -1, -1, -1, 0, 0, 0, 0⟩
abbrev reP : Pg := ⟨1, 1, 0, 0, -1, -1, -1, 0, 0, 0, 0⟩
/-- The image of a wholly free region of two pages. -/
def voI : Img := ⟨65536, 2, 1, 1, 8192, fun _ => 0, 2, fun i => if i = 0 then frP else reP, 1, fun _ => [0], [0, 65536], [-1, -1, -1, -1, -1, -1, -1, -1]⟩
/-- A slice that is one whole block, newer than s. -/
def XBk (s : Nat) (w : World) (v : Value) (n : Nat) (T : TypeId) (cs : Array Value) : Prop := ∃ b, s < b ∧ v = .slice (some ⟨b, 0, none⟩) n n ∧ w.heap[b]? = some (.cells cs T)
theorem XBk.keep {s n : Nat} {w W : World} {v : Value} {T : TypeId} {cs : Array Value} (h : XBk s w v n T cs) (hk : Kept none' w W) : XBk s W v n T cs := by
  obtain ⟨b, h1, h2, h3⟩ := h
  exact ⟨b, h1, h2, (hk.block _ (heap_lt h3) (fun x => x)).trans h3⟩
abbrev pgL9 (p : Pg) : List Value := [.int .i64 p.kd, .int .i64 p.od, .int .i64 p.cl, .int .i64 p.lv, .int .i64 p.nx, .int .i64 p.pv, .int .i64 p.fs, .int .u64 (p.b0 : Int), .int .u64 (p.b1 : Int), .int .u64 (p.b2 : Int), .int .u64 (p.b3 : Int)]
abbrev vpC : Array Value := #[.int .i64 0, .int .i64 1, .int .i64 0, .int .i64 0, .int .i64 (-1), .int .i64 (-1), .int .i64 (-1), .int .u64 0, .int .u64 0, .int .u64 0, .int .u64 0, .int .i64 1, .int .i64 1, .int .i64 0, .int .i64 0, .int .i64 (-1), .int .i64 (-1), .int .i64 (-1), .int .u64 0, .int .u64 0, .int .u64 0, .int .u64 0]
abbrev vtC : Array Value := #[.int .i64 (-1), .int .i64 (-1), .int .i64 (-1), .int .i64 (-1), .int .i64 (-1), .int .i64 (-1), .int .i64 (-1), .int .i64 (-1)]
def vM (s : Nat) (w : World) (v : Value) : Prop := (SlIn w v 8192 (ByC w fun _ => 0) ∧ ∀ a n c, v = .slice a n c → n ≤ c) ∧ XBk s w v 8192 5 (zb 8192)
def vP (s : Nat) (w : World) (v : Value) : Prop := (SlIn w v 2 fun bl o i => PgIn (voI.pg i) ∧ PgC w bl o i (voI.pg i)) ∧ XBk s w v 2 52 vpC
def vW (s : Nat) (w : World) (v : Value) : Prop := Src w v [0] ∧ XBk s w v 1 22 #[.int .u64 0]
def vR (s : Nat) (w : World) (v : Value) : Prop := (∃ ws : Nat → Value, SlIn w v 1 fun bl o i => w.cell? ⟨bl, o + i, none⟩ = some (ws i) ∧ Src w (ws i) [0]) ∧ ∃ u, XBk s w v 1 28 #[u] ∧ vW s w u
def vH (s : Nat) (w : World) (v : Value) : Prop := SlIn w v 2 (WdC w [0, 65536]) ∧ XBk s w v 2 22 #[.int .u64 0, .int .u64 65536]
def vT (s : Nat) (w : World) (v : Value) : Prop := SlIn w v 8 (InC w [-1, -1, -1, -1, -1, -1, -1, -1]) ∧ XBk s w v 8 3 vtC
theorem vM.keep {s : Nat} {w W : World} {v : Value} (h : vM s w v) (hk : Kept none' w W) : vM s W v := ⟨⟨h.1.1.keep hk fun bl o i hc => ⟨hc.1, hk.cell (fun x => x) hc.2⟩, h.1.2⟩, h.2.keep hk⟩
theorem vP.keep {s : Nat} {w W : World} {v : Value} (h : vP s w v) (hk : Kept none' w W) : vP s W v := ⟨SlIn.keep h.1 hk fun bl o i hc => ⟨hc.1, hc.2.keep hk⟩, h.2.keep hk⟩
theorem vW.keep {s : Nat} {w W : World} {v : Value} (h : vW s w v) (hk : Kept none' w W) : vW s W v := ⟨h.1.kept hk (fun _ _ x => x), h.2.keep hk⟩
theorem vR.keep {s : Nat} {w W : World} {v : Value} (h : vR s w v) (hk : Kept none' w W) : vR s W v := by
  obtain ⟨⟨ws, hp⟩, u, h1, h2⟩ := h
  exact ⟨⟨ws, hp.keep hk fun bl o i hc => ⟨hk.cell (fun x => x) hc.1, hc.2.kept hk (fun _ _ x => x)⟩⟩, u, h1.keep hk, h2.keep hk⟩
theorem vH.keep {s : Nat} {w W : World} {v : Value} (h : vH s w v) (hk : Kept none' w W) : vH s W v := ⟨SlIn.keep h.1 hk fun bl o i hc => ⟨hc.1, hk.cell (fun x => x) hc.2⟩, h.2.keep hk⟩
theorem vT.keep {s : Nat} {w W : World} {v : Value} (h : vT s w v) (hk : Kept none' w W) : vT s W v := ⟨SlIn.keep h.1 hk fun bl o i hc => ⟨hc.1, hk.cell (fun x => x) hc.2⟩, h.2.keep hk⟩
/-- The void image in memory, block by block. -/
structure VoK (s : Nat) (w : World) (V : ImV) : Prop where
  m : vM s w V.m
  p : vP s w V.p
  r : vR s w V.r
  h : vH s w V.h
  t : vT s w V.t
theorem VoK.keep {s : Nat} {w W : World} {V : ImV} (h : VoK s w V) (hk : Kept none' w W) : VoK s W V := ⟨h.m.keep hk, h.p.keep hk, h.r.keep hk, h.h.keep hk, h.t.keep hk⟩
theorem VoK.d {s : Nat} {w : World} {V : ImV} (h : VoK s w V) : ImD w voI V :=
  ⟨by decide, by decide, by decide, by decide, h.m.1.1, h.m.1.2, h.p.1, h.r.1, h.h.1, h.t.1⟩
/-- It holds, and it does so where block s is written too. -/
def St (s : Nat) (w : World) (X : World → Prop) : Prop := ∀ W, Kept (fun b => b = s) w W → X W
theorem St.keep {s : Nat} {w W : World} {X : World → Prop} (h : St s w X) (k : Kept none' w W) : St s W X := fun V hV => h V (k.trans hV (fun _ _ x => x.elim) (fun _ _ x => x))
theorem St.at {s : Nat} {w : World} {X : World → Prop} (h : St s w X) : X w := h w (Kept.refl _ _)
abbrev cfW : Value := .agg #[.int .u64 65536, .int .i64 2, .int .i64 1]
abbrev pgA (p : Pg) : Value := .agg #[.int .i64 p.kd, .int .i64 p.od, .int .i64 p.cl, .int .i64 p.lv, .int .i64 p.nx, .int .i64 p.pv, .int .i64 p.fs, .int .u64 (p.b0 : Int), .int .u64 (p.b1 : Int), .int .u64 (p.b2 : Int), .int .u64 (p.b3 : Int)]
abbrev acV (s : Nat) (v5 v6 v7 v8 v9 v10 v11 v12 v13 v14 : Value) : Act := ⟨#[.pointer (some ⟨s, 0, none⟩), .pointer (some ⟨s + 1, 0, none⟩), .pointer (some ⟨s + 1 + 1, 0, none⟩), pgA frP, pgA reP, v5, v6, v7, v8, v9, v10, v11, v12, v13, v14], []⟩
abbrev pgX (p : Pg) : Obj := .cells #[.int .i64 p.kd, .int .i64 p.od, .int .i64 p.cl, .int .i64 p.lv, .int .i64 p.nx, .int .i64 p.pv, .int .i64 p.fs, .int .u64 (p.b0 : Int), .int .u64 (p.b1 : Int), .int .u64 (p.b2 : Int), .int .u64 (p.b3 : Int)] 52
abbrev imZ : Obj := .cells #[.int .u64 0, .int .i64 0, .int .i64 0, .int .i64 0, .slice none 0 0, .slice none 0 0, .slice none 0 0, .slice none 0 0, .slice none 0 0] 31
abbrev voW (w : World) : World := ((w.alloc imZ).alloc (pgX frP)).alloc (pgX reP)
theorem vo_0 (w : World) : (voW w).drew.heap[w.heap.size]? = some imZ := by
  show (((w.heap.push imZ).push (pgX frP)).push (pgX reP))[w.heap.size]? = _
  rw [Array.getElem?_push, if_neg (by simp only [Array.size_push]; omega), Array.getElem?_push, if_neg (by simp only [Array.size_push]; omega), Array.getElem?_push, if_pos rfl]
theorem vo_1 (w : World) : (voW w).drew.heap[w.heap.size + 1]? = some (pgX frP) := by
  show (((w.heap.push imZ).push (pgX frP)).push (pgX reP))[w.heap.size + 1]? = _
  rw [Array.getElem?_push, if_neg (by simp only [Array.size_push]; omega), Array.getElem?_push, if_pos (by simp only [Array.size_push])]
theorem vo_2 (w : World) : (voW w).drew.heap[w.heap.size + 1 + 1]? = some (pgX reP) := by
  show (((w.heap.push imZ).push (pgX frP)).push (pgX reP))[w.heap.size + 1 + 1]? = _
  rw [Array.getElem?_push, if_pos (by simp only [Array.size_push])]
theorem vo_k (w : World) : Kept none' w (voW w).drew := (((Kept.refl _ w).alloc _).alloc _).alloc _ |>.drew
/-- What holds while it is made. -/
structure IV (s : Nat) (w1 : World) (F : Act → World → Prop) (ls : Array Bool) (a : Act) (w : World) (v5 v6 v7 v8 v9 v10 v11 v12 v13 v14 : Value) : Prop where
  ea : a = acV s v5 v6 v7 v8 v9 v10 v11 v12 v13 v14
  n : ls.size = 11
  k : ls.getD 10 false = false → Kept none' w1 w
  s0 : ls.getD 10 false = false → ls.getD 0 false = true → v5 = cfW
  s1 : ls.getD 10 false = false → ls.getD 1 false = true → St s w (vM s · v6)
  s2 : ls.getD 10 false = false → ls.getD 2 false = true → v7 = pgA frP
  s3 : ls.getD 10 false = false → ls.getD 3 false = true → v8 = pgA reP
  s4 : ls.getD 10 false = false → ls.getD 4 false = true → St s w (vP s · v9)
  s5 : ls.getD 10 false = false → ls.getD 5 false = true → St s w (vW s · v10)
  s6 : ls.getD 10 false = false → ls.getD 6 false = true → St s w (vR s · v11)
  s7 : ls.getD 10 false = false → ls.getD 7 false = true → St s w (vH s · v12)
  s8 : ls.getD 10 false = false → ls.getD 8 false = true → St s w (vT s · v13)
  s9 : ls.getD 10 false = false → ls.getD 9 false = true → (∀ j, j < 9 → j ≠ 2 → j ≠ 3 → j ≠ 5 → ls.getD j false = true) ∧ St s w (VoK s · ⟨v6, v9, v11, v12, v13⟩) ∧ v14 = imA voI ⟨v6, v9, v11, v12, v13⟩
  s10 : ls.getD 10 false = true → (∀ j, j < 10 → ls.getD j false = true) ∧ F a w
theorem getD_ff {ls : Array Bool} {i : Nat} (h : ls.getD i true = false) : ls.getD i false = false := by
  rcases Nat.lt_or_ge i ls.size with hl | hl
  · simpa [hl] using h
  · simp [Array.getElem?_eq_none hl]
theorem getD_tt {ls : Array Bool} {i : Nat} (hl : i < ls.size) : (ls.setIfInBounds i true).getD i false = true := by simp [hl]
theorem IV.put {s i : Nat} {w1 W W' : World} {F : Act → World → Prop} {ls : Array Bool} {v5 v6 v7 v8 v9 v10 v11 v12 v13 v14 u5 u6 u7 u8 u9 u10 u11 u12 u13 u14 : Value} (h : IV s w1 F ls (acV s v5 v6 v7 v8 v9 v10 v11 v12 v13 v14) W v5 v6 v7 v8 v9 v10 v11 v12 v13 v14) (hn : ls.getD i true = false) (hi : i < 10) (kW : Kept none' W W')
    (e0 : 0 ≠ i → u5 = v5) (e1 : 1 ≠ i → u6 = v6) (e2 : 2 ≠ i → u7 = v7) (e3 : 3 ≠ i → u8 = v8) (e4 : 4 ≠ i → u9 = v9) (e5 : 5 ≠ i → u10 = v10) (e6 : 6 ≠ i → u11 = v11) (e7 : 7 ≠ i → u12 = v12) (e8 : 8 ≠ i → u13 = v13) (e9 : 9 ≠ i → u14 = v14)
    (n0 : i = 0 → u5 = cfW) (n1 : i = 1 → St s W' (vM s · u6)) (n2 : i = 2 → u7 = pgA frP) (n3 : i = 3 → u8 = pgA reP) (n4 : i = 4 → St s W' (vP s · u9)) (n5 : i = 5 → St s W' (vW s · u10)) (n6 : i = 6 → St s W' (vR s · u11)) (n7 : i = 7 → St s W' (vH s · u12)) (n8 : i = 8 → St s W' (vT s · u13)) (n9 : i = 9 → (∀ j, j < 9 → j ≠ 2 → j ≠ 3 → j ≠ 5 → ls.getD j false = true) ∧ St s W' (VoK s · ⟨u6, u9, u11, u12, u13⟩) ∧ u14 = imA voI ⟨u6, u9, u11, u12, u13⟩)
    : IV s w1 F (ls.setIfInBounds i true) (acV s u5 u6 u7 u8 u9 u10 u11 u12 u13 u14) W' u5 u6 u7 u8 u9 u10 u11 u12 u13 u14 := by
  have hf := getD_ff hn
  have L10 : ls.getD 10 false = false := by
    cases h10 : ls.getD 10 false with
    | false => rfl
    | true => rw [(h.s10 h10).1 i hi] at hf; cases hf
  have M10 : (ls.setIfInBounds i true).getD 10 false = false := by rw [Go.getD_set_ne _ (by omega)]; exact L10
  have kk := h.k L10
  refine ⟨rfl, by simpa using h.n, fun _ => none_trans kk kW, ?_, ?_, ?_, ?_, ?_, ?_, ?_, ?_, ?_, ?_, fun h10 => by rw [M10] at h10; cases h10⟩
  · intro _ hj
    by_cases e : i = 0
    · exact n0 e
    · rw [Go.getD_set_ne _ e] at hj
      rw [e0 (Ne.symm e)]
      exact h.s0 L10 hj
  · intro _ hj
    by_cases e : i = 1
    · exact n1 e
    · rw [Go.getD_set_ne _ e] at hj
      rw [e1 (Ne.symm e)]
      exact (h.s1 L10 hj).keep kW
  · intro _ hj
    by_cases e : i = 2
    · exact n2 e
    · rw [Go.getD_set_ne _ e] at hj
      rw [e2 (Ne.symm e)]
      exact h.s2 L10 hj
  · intro _ hj
    by_cases e : i = 3
    · exact n3 e
    · rw [Go.getD_set_ne _ e] at hj
      rw [e3 (Ne.symm e)]
      exact h.s3 L10 hj
  · intro _ hj
    by_cases e : i = 4
    · exact n4 e
    · rw [Go.getD_set_ne _ e] at hj
      rw [e4 (Ne.symm e)]
      exact (h.s4 L10 hj).keep kW
  · intro _ hj
    by_cases e : i = 5
    · exact n5 e
    · rw [Go.getD_set_ne _ e] at hj
      rw [e5 (Ne.symm e)]
      exact (h.s5 L10 hj).keep kW
  · intro _ hj
    by_cases e : i = 6
    · exact n6 e
    · rw [Go.getD_set_ne _ e] at hj
      rw [e6 (Ne.symm e)]
      exact (h.s6 L10 hj).keep kW
  · intro _ hj
    by_cases e : i = 7
    · exact n7 e
    · rw [Go.getD_set_ne _ e] at hj
      rw [e7 (Ne.symm e)]
      exact (h.s7 L10 hj).keep kW
  · intro _ hj
    by_cases e : i = 8
    · exact n8 e
    · rw [Go.getD_set_ne _ e] at hj
      rw [e8 (Ne.symm e)]
      exact (h.s8 L10 hj).keep kW
  · intro _ hj
    by_cases e : i = 9
    · obtain ⟨g1, g2, g3⟩ := n9 e
      exact ⟨fun j hj' a1 a2 a3 => by rw [Go.getD_set_ne _ (by omega)]; exact g1 j hj' a1 a2 a3, g2, g3⟩
    · rw [Go.getD_set_ne _ e] at hj
      obtain ⟨g1, g2, g3⟩ := h.s9 L10 hj
      by_cases e2 : i ≠ 2 ∧ i ≠ 3 ∧ i ≠ 5
      · rw [g1 i (by omega) e2.1 e2.2.1 e2.2.2] at hf
        cases hf
      · rw [e1 (by omega), e4 (by omega), e6 (by omega), e7 (by omega), e8 (by omega), e9 (by omega)]
        refine ⟨fun j hj' a1 a2 a3 => ?_, g2.keep kW, g3⟩
        rw [Go.getD_set_ne _ (by omega)]
        exact g1 j hj' a1 a2 a3
theorem getD_of {ops : Array Oper} {ls : Array Bool} {i : Nat} {o : Oper} (hr : Region.ready .any ops ls = []) (ho : ops[i]? = some o) (hl : i < ls.size) (hd : ∀ e ∈ o.after, ls.getD e.on false = true) : ls.getD i false = true := by
  cases h : ls.getD i false with
  | true => rfl
  | false =>
    have : i ∈ Region.ready .any ops ls := mem_ready.2 ⟨by simpa [hl] using h, o, ho, fun e he _ => hd e he⟩
    rw [hr] at this
    cases this
theorem new_bk {s : Nat} {W V : World} {o : Obj} (hs : s < W.heap.size) (hV : Kept (fun b => b = s) (W.alloc o) V) : V.heap[W.heap.size]? = some o := by
  have e : (W.alloc o).heap = W.heap.push o := rfl
  exact (hV.block _ (by rw [e, Array.size_push]; omega) (by omega)).trans (by rw [e, Array.getElem?_push, if_pos rfl])
theorem st_m {s : Nat} {W : World} (hs : s < W.heap.size) : St s (W.alloc (.cells (zb 8192) 5)) (vM s · (.slice (some ⟨W.heap.size, 0, none⟩) 8192 8192)) := by
  intro V hV
  have hb := new_bk hs hV
  refine ⟨⟨⟨by decide, _, _, rfl, .inr ⟨_, _, rfl, heap_lt hb, fun i hi => ⟨Nat.zero_lt_succ _, ?_⟩⟩⟩, ?_⟩, _, hs, rfl, hb⟩
  · have := zb_get 8192 i hi
    simp [World.cell?, hb, this]
  · intro a n c e
    cases e
    exact Nat.le_refl _
theorem st_w {s : Nat} {W : World} (hs : s < W.heap.size) : St s (W.alloc (.cells #[.int .u64 0] 22)) (vW s · (.slice (some ⟨W.heap.size, 0, none⟩) 1 1)) := by
  intro V hV
  have hb := new_bk hs hV
  refine ⟨⟨fun i => ?_, _, _, rfl, .inr ⟨_, rfl, heap_lt hb, fun j hj => ?_⟩⟩, _, hs, rfl, hb⟩
  · match i with
    | 0 => decide
    | i + 1 => simp
  · obtain rfl : j = 0 := by simpa using hj
    simp [World.cell?, hb, Addr.add]
theorem st_h {s : Nat} {W : World} (hs : s < W.heap.size) : St s (W.alloc (.cells #[.int .u64 0, .int .u64 65536] 22)) (vH s · (.slice (some ⟨W.heap.size, 0, none⟩) 2 2)) := by
  intro V hV
  have hb := new_bk hs hV
  refine ⟨⟨by decide, _, _, rfl, .inr ⟨_, _, rfl, heap_lt hb, fun i hi => ?_⟩⟩, _, hs, rfl, hb⟩
  match i, hi with
  | 0, _ => exact ⟨by decide, by simp [World.cell?, hb]⟩
  | 1, _ => exact ⟨by decide, by simp [World.cell?, hb]⟩
theorem st_t {s : Nat} {W : World} (hs : s < W.heap.size) : St s (W.alloc (.cells #[.int .i64 (-1), .int .i64 (-1), .int .i64 (-1), .int .i64 (-1), .int .i64 (-1), .int .i64 (-1), .int .i64 (-1), .int .i64 (-1)] 3)) (vT s · (.slice (some ⟨W.heap.size, 0, none⟩) 8 8)) := by
  intro V hV
  have hb := new_bk hs hV
  refine ⟨⟨by decide, _, _, rfl, .inr ⟨_, _, rfl, heap_lt hb, fun i hi => ?_⟩⟩, _, hs, rfl, hb⟩
  match i, hi with
  | 0, _ => exact ⟨by decide, by simp [World.cell?, hb]⟩
  | 1, _ => exact ⟨by decide, by simp [World.cell?, hb]⟩
  | 2, _ => exact ⟨by decide, by simp [World.cell?, hb]⟩
  | 3, _ => exact ⟨by decide, by simp [World.cell?, hb]⟩
  | 4, _ => exact ⟨by decide, by simp [World.cell?, hb]⟩
  | 5, _ => exact ⟨by decide, by simp [World.cell?, hb]⟩
  | 6, _ => exact ⟨by decide, by simp [World.cell?, hb]⟩
  | 7, _ => exact ⟨by decide, by simp [World.cell?, hb]⟩
theorem st_r {s : Nat} {W : World} {v : Value} (hs : s < W.heap.size) (h : St s W (vW s · v)) : St s (W.alloc (.cells #[v] 28)) (vR s · (.slice (some ⟨W.heap.size, 0, none⟩) 1 1)) := by
  intro V hV
  have hb := new_bk hs hV
  have hv := (h.keep ((Kept.refl _ W).alloc _)) V hV
  refine ⟨⟨fun _ => v, by decide, _, _, rfl, .inr ⟨_, _, rfl, heap_lt hb, fun i hi => ?_⟩⟩, v, ⟨_, hs, rfl, hb⟩, hv⟩
  obtain rfl : i = 0 := by omega
  exact ⟨by simp [World.cell?, hb], hv.1⟩
theorem st_p {s : Nat} {W : World} (hs : s < W.heap.size) : St s (W.alloc (.cells #[.int .i64 0, .int .i64 1, .int .i64 0, .int .i64 0, .int .i64 (-1), .int .i64 (-1), .int .i64 (-1), .int .u64 0, .int .u64 0, .int .u64 0, .int .u64 0, .int .i64 1, .int .i64 1, .int .i64 0, .int .i64 0, .int .i64 (-1), .int .i64 (-1), .int .i64 (-1), .int .u64 0, .int .u64 0, .int .u64 0, .int .u64 0] 52)) (vP s · (.slice (some ⟨W.heap.size, 0, none⟩) 2 2)) := by
  intro V hV
  have hb := new_bk hs hV
  refine ⟨⟨by decide, _, _, rfl, .inr ⟨_, _, rfl, heap_lt hb, fun i hi => ?_⟩⟩, _, hs, rfl, hb⟩
  match i, hi with
  | 0, _ => exact ⟨⟨by decide, by decide, by decide, by decide, by decide, by decide, by decide, by decide, by decide, by decide, by decide⟩, fun j hj => by
      match j, hj with
      | 0, _ => simp [World.cell?, hb, voI, Pg.fld]
      | 1, _ => simp [World.cell?, hb, voI, Pg.fld]
      | 2, _ => simp [World.cell?, hb, voI, Pg.fld]
      | 3, _ => simp [World.cell?, hb, voI, Pg.fld]
      | 4, _ => simp [World.cell?, hb, voI, Pg.fld]
      | 5, _ => simp [World.cell?, hb, voI, Pg.fld]
      | 6, _ => simp [World.cell?, hb, voI, Pg.fld]
      | 7, _ => simp [World.cell?, hb, voI, Pg.fld]
      | 8, _ => simp [World.cell?, hb, voI, Pg.fld]
      | 9, _ => simp [World.cell?, hb, voI, Pg.fld]
      | 10, _ => simp [World.cell?, hb, voI, Pg.fld]⟩
  | 1, _ => exact ⟨⟨by decide, by decide, by decide, by decide, by decide, by decide, by decide, by decide, by decide, by decide, by decide⟩, fun j hj => by
      match j, hj with
      | 0, _ => simp [World.cell?, hb, voI, Pg.fld]
      | 1, _ => simp [World.cell?, hb, voI, Pg.fld]
      | 2, _ => simp [World.cell?, hb, voI, Pg.fld]
      | 3, _ => simp [World.cell?, hb, voI, Pg.fld]
      | 4, _ => simp [World.cell?, hb, voI, Pg.fld]
      | 5, _ => simp [World.cell?, hb, voI, Pg.fld]
      | 6, _ => simp [World.cell?, hb, voI, Pg.fld]
      | 7, _ => simp [World.cell?, hb, voI, Pg.fld]
      | 8, _ => simp [World.cell?, hb, voI, Pg.fld]
      | 9, _ => simp [World.cell?, hb, voI, Pg.fld]
      | 10, _ => simp [World.cell?, hb, voI, Pg.fld]⟩
theorem wp_bytes {o : Oper} {a : Act} {w : World} {K : Act → World → Prop} {Q : Exit → Act → World → Prop} (ho : o.op = .makeSlice 25 (.const (.int .i64 8192)) (.const (.int .i64 8192)))
    (h : K (a.put o.dst (.slice (some ⟨w.heap.size, 0, none⟩) 8192 8192)) (w.alloc (.cells (zb 8192) 5))) : o.wp Tryz.prog a w K Q := by
  unfold Oper.wp execOp
  have e1 : a.eval (.const (.int .i64 8192)) = .int .i64 8192 := rfl
  simp only [ho, Sem.run_bind, e1, make_bytes, Result.andThen_ok]
  exact h
theorem set_at {W : World} {s k : Nat} {c : Array Value} {t : TypeId} {fr : Nat × Nat} (h : W.heap[s]? = some (.cells c t fr)) (x : Value) : (W.setCell ⟨s, k, none⟩ x).heap[s]? = some (.cells (c.setIfInBounds k x) t fr) := by
  simp [World.setCell, Array.getElem?_modify, h]
theorem st9 {W : World} {s : Nat} (b0 : W.heap[s]? = some imZ) (x0 x1 x2 x3 x4 x5 x6 x7 x8 : Value) : (((((((((W.setCell ⟨s, 0, none⟩ x0).setCell ⟨s, 1, none⟩ x1).setCell ⟨s, 2, none⟩ x2).setCell ⟨s, 3, none⟩ x3).setCell ⟨s, 4, none⟩ x4).setCell ⟨s, 5, none⟩ x5).setCell ⟨s, 6, none⟩ x6).setCell ⟨s, 7, none⟩ x7).setCell ⟨s, 8, none⟩ x8).heap[s]? = some (.cells #[x0, x1, x2, x3, x4, x5, x6, x7, x8] 31) :=
  set_at (set_at (set_at (set_at (set_at (set_at (set_at (set_at (set_at b0 x0) x1) x2) x3) x4) x5) x6) x7) x8
end Go.Proofs.YthjokkihlodapaaGreat
