/- PageKept: what was told is written over. -/
import Derived.Test.YtbhheimedbfmeabBckG
import Derived.Test.YtbhheimedbfmeabApp
import Derived.Test.YtbhheimedbfmeabSam
import Derived.Test.YtbhheimedbfmeabOps
namespace Go.Proofs.Ytbhheimedbfmeab
open Go.RowKit
set_option linter.unusedVariables false

def markP : Pg := ⟨77, 0, 0, 0, 0, 0, 0, 0, 0, 0, 0⟩
/-- The blocks that are written. -/
def wrt (gp : Nat) (D : Nat → Nat) (o : Nat) : Nat → Prop := fun x => x = gp ∨ ∃ k, k < o ∧ x = D k
/-- Two maps, two tellings; the first one is written over: a pages, all words ahead of j, i words of j. -/
structure KW (w W : World) (gp gq : Nat) (D : Nat → Nat) (b b' : Nat) (B B' : Bs) (m : Mp) (g2 q2 : Nat) (D2 : Nat → Nat) (a j i : Nat) : Prop where
  row : Row W gp m.n (fun x => if x < a then markP else m.pg x)
  q : ∃ cs : Array Value, W.heap[gq]? = some (.cells cs 41 (0, 0)) ∧ cs.size = m.o ∧ ∀ k, k < m.o → cs[k]? = some (wsl D m.wd k)
  d : ∀ k, k < m.o → ∃ zs : List Nat, W.heap[D k]? = some (.cells (wcells zs) 37 (0, 0)) ∧ zs.length = (m.wd k).length ∧ ∀ x, x < zs.length → (k < j ∨ (k = j ∧ x < i)) → zs.getD x 0 = 77
  iD : ∀ i j, i < m.o → j < m.o → D i = D j → i = j
  mb : MapAt W b B m
  mq : MapAt W b' B' m
  t2 : Told w W g2 q2 m m.o D2
  nw : ∀ x, wrt gp D m.o x → w.heap.size ≤ x
  ab : ∀ x, mown b B m.o x → ¬ wrt gp D m.o x
  aq : ∀ x, mown b' B' m.o x → ¬ wrt gp D m.o x
  a2 : ¬ wrt gp D m.o g2 ∧ ¬ wrt gp D m.o q2 ∧ ∀ k, k < m.o → ¬ wrt gp D m.o (D2 k)
theorem Told.over {w W W' g2 q2 m k D2} {S : Nat → Prop} (h : Told w W g2 q2 m k D2) (kp : Kept S W W') (n1 : ¬ S g2) (n2 : ¬ S q2) (n3 : ∀ j, j < k → ¬ S (D2 j)) (n4 : ∀ x, S x → w.heap.size ≤ x) : Told w W' g2 q2 m k D2 := by
  obtain ⟨cs, hg, hs⟩ := h.q
  exact ⟨Row.kept h.row kp n1, ⟨cs, (kp.block _ (heap_lt hg) n2).trans hg, hs⟩, fun j hj => (kp.block _ (heap_lt (h.d j hj)) (n3 j hj)).trans (h.d j hj), h.iD, h.fp, h.fq, h.fd, h.kp.trans kp (fun _ _ x => x) (fun x hx e => absurd (n4 x e) (by omega))⟩
theorem KW.keep {w W W' gp gq D b b' B B' m g2 q2 D2 a j i} (h : KW w W gp gq D b b' B B' m g2 q2 D2 a j i) (k : Kept none' W W') : KW w W' gp gq D b b' B B' m g2 q2 D2 a j i := by
  obtain ⟨cs, hg, hs⟩ := h.q
  refine ⟨Row.kept h.row k (fun x => x), ⟨cs, (k.block _ (heap_lt hg) (fun x => x)).trans hg, hs⟩, fun x hx => ?_, h.iD, h.mb.keep k, h.mq.keep k, h.t2.keep k, h.nw, h.ab, h.aq, h.a2⟩
  obtain ⟨zs, h1, h2⟩ := h.d x hx
  exact ⟨zs, (k.block _ (heap_lt h1) (fun x => x)).trans h1, h2⟩
theorem KW.page {w W gp gq D b b' B B' m g2 q2 D2 a j i} (h : KW w W gp gq D b b' B B' m g2 q2 D2 a j i) (ha : a < m.n) : KW w (setP W gp a markP) gp gq D b b' B B' m g2 q2 D2 (a + 1) j i := by
  have k := setP_kept W gp a markP
  have kw : Kept (wrt gp D m.o) W (setP W gp a markP) := k.mono (fun _ _ e => .inl e)
  obtain ⟨rs, hrb, hr⟩ := h.row
  obtain ⟨cs, hg, hs⟩ := h.q
  refine ⟨(Row.put h.row a ha markP).congr (fun x hx => ?_), ⟨cs, (k.block _ (heap_lt hg) (ty_ne hg hrb (by decide))).trans hg, hs⟩, fun x hx => ?_, h.iD, h.mb.kept kw h.ab, h.mq.kept kw h.aq, h.t2.over kw h.a2.1 h.a2.2.1 h.a2.2.2 h.nw, h.nw, h.ab, h.aq, h.a2⟩
  · unfold upp
    by_cases e : x = a
    · rw [if_pos e, if_pos (by omega)]
    · rw [if_neg e]
      show (if x < a then markP else m.pg x) = if x < a + 1 then markP else m.pg x
      by_cases e2 : x < a
      · rw [if_pos e2, if_pos (by omega)]
      · rw [if_neg e2, if_neg (by omega)]
  · obtain ⟨zs, h1, h2⟩ := h.d x hx
    exact ⟨zs, (k.block _ (heap_lt h1) (ty_ne h1 hrb (by decide))).trans h1, h2⟩
theorem KW.word {w W gp gq D b b' B B' m g2 q2 D2 a j i} (h : KW w W gp gq D b b' B B' m g2 q2 D2 a j i) (hj : j < m.o) (hi : i < (m.wd j).length) : KW w (W.setCell ⟨D j, i, none⟩ (.int .u64 77)) gp gq D b b' B B' m g2 q2 D2 a j (i + 1) := by
  have k : Kept (fun x => x = D j) W (W.setCell ⟨D j, i, none⟩ (.int .u64 77)) := (Kept.refl (fun x => x = D j) W).setCell (p := ⟨D j, i, none⟩) rfl _
  have kw : Kept (wrt gp D m.o) W (W.setCell ⟨D j, i, none⟩ (.int .u64 77)) := k.mono (fun _ _ e => .inr ⟨j, hj, e⟩)
  obtain ⟨ys, hy, hyl, hyd⟩ := h.d j hj
  obtain ⟨rs, hrb, _⟩ := h.row
  obtain ⟨cs, hg, hs⟩ := h.q
  refine ⟨Row.kept h.row k (ty_ne hrb hy (by decide)), ⟨cs, (k.block _ (heap_lt hg) (ty_ne hg hy (by decide))).trans hg, hs⟩, fun x hx => ?_, h.iD, h.mb.kept kw h.ab, h.mq.kept kw h.aq, h.t2.over kw h.a2.1 h.a2.2.1 h.a2.2.2 h.nw, h.nw, h.ab, h.aq, h.a2⟩
  by_cases e : x = j
  · subst e
    refine ⟨ys.set i 77, ?_, by simpa using hyl, fun y hy1 hy2 => ?_⟩
    · simp only [World.setCell]
      rw [Array.getElem?_modify, if_pos rfl, hy]
      simp [wcells, List.map_set]
    · have hy3 : y < ys.length := by simpa using hy1
      rw [List.getD_eq_getElem?_getD, List.getElem?_set]
      by_cases e2 : i = y
      · rw [if_pos e2, if_pos (by omega)]
        rfl
      · rw [if_neg e2, ← List.getD_eq_getElem?_getD]
        exact hyd y hy3 (.inr ⟨rfl, by omega⟩)
  · obtain ⟨zs, h1, h2, h3⟩ := h.d x hx
    refine ⟨zs, (k.block _ (heap_lt h1) (fun e2 => e (h.iD x j hx hj e2))).trans h1, h2, fun y hy1 hy2 => h3 y hy1 ?_⟩
    omega
theorem KW.up {w W gp gq D b b' B B' m g2 q2 D2 a j} (h : KW w W gp gq D b b' B B' m g2 q2 D2 a j (m.wd j).length) : KW w W gp gq D b b' B B' m g2 q2 D2 a (j + 1) 0 := by
  refine ⟨h.row, h.q, fun x hx => ?_, h.iD, h.mb, h.mq, h.t2, h.nw, h.ab, h.aq, h.a2⟩
  obtain ⟨zs, h1, h2, h3⟩ := h.d x hx
  refine ⟨zs, h1, h2, fun y hy1 hy2 => h3 y hy1 ?_⟩
  by_cases e : x < j
  · exact .inl e
  · have : x = j := by omega
    subst this
    exact .inr ⟨rfl, by omega⟩
theorem KW.qc {w W gp gq D b b' B B' m g2 q2 D2 a j i} (h : KW w W gp gq D b b' B B' m g2 q2 D2 a j i) (k : Nat) (hk : k < m.o) : W.cell? ⟨gq, k, none⟩ = some (.slice (some ⟨D k, 0, none⟩) (m.wd k).length (m.wd k).length) := by
  obtain ⟨cs, hg, hs, hc⟩ := h.q
  have := hc k hk
  simp [World.cell?, hg, this]
theorem KW.dc {w W gp gq D b b' B B' m g2 q2 D2 a j i} (h : KW w W gp gq D b b' B B' m g2 q2 D2 a j i) (k : Nat) (hk : k < m.o) (x : Nat) (hx : x < (m.wd k).length) : ∃ y : Nat, W.cell? ⟨D k, x, none⟩ = some (.int .u64 (y : Int)) ∧ W.frozen? ⟨D k, x, none⟩ = false ∧ (k < j → y = 77) := by
  obtain ⟨zs, h1, h2, h3⟩ := h.d k hk
  have hx' : x < zs.length := by omega
  refine ⟨zs.getD x 0, by simp [World.cell?, h1, wcells, hx'], by simp [World.frozen?, h1], fun e => h3 x hx' (.inl e)⟩
theorem KW.kp {w W gp gq D b b' B B' m g2 q2 D2 a j i} (h : KW w W gp gq D b b' B B' m g2 q2 D2 a j i) : Kept none' w W := h.t2.kp
/-- The words of k, as a row that may grow. -/
theorem KW.gs {w W gp gq D b b' B B' m g2 q2 D2 a j i} (h : KW w W gp gq D b b' B B' m g2 q2 D2 a j i) (k : Nat) (hk : k < m.o) : ∃ xs, GS W W 37 1 (.slice (some ⟨D k, 0, none⟩) (m.wd k).length (m.wd k).length) (m.wd k).length xs := by
  obtain ⟨zs, h1, h2, h3⟩ := h.d k hk
  have hl : (m.wd k).length ≤ maxLen := by
    have h4 := (h.mb.set k hk).len
    have h5 : m.n / 2 ^ (k + 1) ≤ 1024 := Nat.le_trans (Nat.div_le_self _ _) h.mb.n1
    simp only [maxLen]
    omega
  have hw : (wcells zs).size = (m.wd k).length := by rw [← h2]; simp [wcells]
  refine ⟨(wcells zs).toList, ⟨⟨by rw [Array.length_toList, hw, Nat.mul_one], .inr ⟨D k, _, wcells zs, rfl, Nat.zero_le _, h1, Nat.le_refl _, hl, by rw [hw, Nat.mul_one], ?_⟩⟩, fun g cap e => .inl (by simp at e; omega), Kept.refl _ _⟩⟩
  rw [List.take_of_length_le]
  rw [Array.length_toList, hw, Nat.mul_one]
  exact Nat.le_refl _
theorem KW.gp {w W gp gq D b b' B B' m g2 q2 D2 j i} (h : KW w W gp gq D b b' B B' m g2 q2 D2 m.n j i) : ∃ ms, GS W W 40 11 (.slice (some ⟨gp, 0, none⟩) m.n m.n) m.n ms ∧ ms.length = m.n * 11 ∧ ∀ x, x < m.n → ∀ y, y < 11 → ms[x * 11 + y]? = some (markP.fld y) := by
  obtain ⟨rs, hrb, hrs, hrc⟩ := h.row
  have hl : m.n ≤ maxLen := by have := h.mb.n1; simp only [maxLen]; omega
  refine ⟨rs.toList, ⟨⟨by rw [Array.length_toList, hrs], .inr ⟨gp, m.n, rs, rfl, Nat.zero_le _, hrb, Nat.le_refl _, hl, hrs, ?_⟩⟩, fun g cap e => .inl (by simp at e; omega), Kept.refl _ _⟩, by rw [Array.length_toList, hrs], fun x hx y hy => ?_⟩
  · rw [List.take_of_length_le]
    rw [Array.length_toList, hrs]
    exact Nat.le_refl _
  · have : rs[x * 11 + y]? = some ((if x < m.n then markP else m.pg x).fld y) := hrc x hx y hy
    rw [if_pos hx] at this
    rw [Array.getElem?_toList, this]
theorem KW.init {w W3 W4 W5 W9 : World} {gp gq : Nat} {D : Nat → Nat} {b b' : Nat} {B B' : Bs} {m : Mp} {g2 q2 : Nat} {D2 : Nat → Nat} (hM : MapAt W3 b B m) (k3 : Kept none' w W3) (hT : Told W3 W4 gp gq m m.o D) (hT2 : Told W4 W5 g2 q2 m m.o D2) (hQ : MapAt W9 b' B' m) (hQn : ∀ x, mown b' B' m.o x → W5.heap.size ≤ x) (k9 : Kept none' W5 W9) : KW w W9 gp gq D b b' B B' m g2 q2 D2 0 0 0 := by
  have k49 := none_trans hT2.kp k9
  have hT9 := hT.keep k49
  have lw : ∀ x, wrt gp D m.o x → W3.heap.size ≤ x ∧ x < W4.heap.size := by
    rintro x (rfl | ⟨k, hk, rfl⟩)
    · exact ⟨hT.fp, RowC.lt hT.row⟩
    · exact ⟨hT.fd k hk, heap_lt (hT.d k hk)⟩
  refine ⟨hT9.row.congr (fun i hi => by simp), hT9.q, fun k hk => ⟨_, hT9.d k hk, rfl, fun x hx e => by omega⟩, hT.iD, hM.keep (none_trans hT.kp k49), hQ, ?_, fun x hx => Nat.le_trans k3.size (lw x hx).1, fun x hx e => ?_, fun x hx e => ?_, fun e => ?_, fun e => ?_, fun k hk e => ?_⟩
  · have k4 : Kept none' w W4 := none_trans k3 hT.kp
    have h9 := hT2.keep k9
    exact ⟨h9.row, h9.q, h9.d, h9.iD, Nat.le_trans k4.size h9.fp, Nat.le_trans k4.size h9.fq, fun j hj => Nat.le_trans k4.size (h9.fd j hj), none_trans k4 h9.kp⟩
  · have := hM.own_lt x hx; have := (lw x e).1; omega
  · have := hQn x hx; have := (lw x e).2; have := hT2.kp.size; omega
  · have := hT2.fp; have := (lw _ e).2; omega
  · have := hT2.fq; have := (lw _ e).2; omega
  · have := hT2.fd k hk; have := (lw _ e).2; omega
/-- Beside it the page that is written, in a box. -/
def KX (w W : World) (M gp gq : Nat) (D : Nat → Nat) (b b' : Nat) (B B' : Bs) (m : Mp) (g2 q2 : Nat) (D2 : Nat → Nat) (a j i : Nat) : Prop :=
  KW w W gp gq D b b' B B' m g2 q2 D2 a j i ∧ W.heap[M]? = some (pobj markP) ∧ M ≠ gp
theorem KX.keep {w W W' M gp gq D b b' B B' m g2 q2 D2 a j i} (h : KX w W M gp gq D b b' B B' m g2 q2 D2 a j i) (k : Kept none' W W') : KX w W' M gp gq D b b' B B' m g2 q2 D2 a j i :=
  ⟨h.1.keep k, (k.block M (heap_lt h.2.1) (fun x => x)).trans h.2.1, h.2.2⟩
theorem KX.page {w W M gp gq D b b' B B' m g2 q2 D2 a j i} (h : KX w W M gp gq D b b' B B' m g2 q2 D2 a j i) (ha : a < m.n) : KX w (setP W gp a markP) M gp gq D b b' B B' m g2 q2 D2 (a + 1) j i :=
  ⟨h.1.page ha, ((setP_kept W gp a markP).block M (heap_lt h.2.1) h.2.2).trans h.2.1, h.2.2⟩
theorem KX.word {w W M gp gq D b b' B B' m g2 q2 D2 a j i} (h : KX w W M gp gq D b b' B B' m g2 q2 D2 a j i) (hj : j < m.o) (hi : i < (m.wd j).length) : KX w (W.setCell ⟨D j, i, none⟩ (.int .u64 77)) M gp gq D b b' B B' m g2 q2 D2 a j (i + 1) := by
  obtain ⟨ys, hy, _⟩ := h.1.d j hj
  have k : Kept (fun x => x = D j) W (W.setCell ⟨D j, i, none⟩ (.int .u64 77)) := (Kept.refl (fun x => x = D j) W).setCell (p := ⟨D j, i, none⟩) rfl _
  exact ⟨h.1.word hj hi, (k.block M (heap_lt h.2.1) (ty_ne h.2.1 hy (by decide))).trans h.2.1, h.2.2⟩
theorem KX.up {w W M gp gq D b b' B B' m g2 q2 D2 a j} (h : KX w W M gp gq D b b' B B' m g2 q2 D2 a j (m.wd j).length) : KX w W M gp gq D b b' B B' m g2 q2 D2 a (j + 1) 0 := ⟨h.1.up, h.2⟩
theorem KX.init {w W gp gq D b b' B B' m g2 q2 D2 a j i} (h : KW w W gp gq D b b' B B' m g2 q2 D2 a j i) : KX w (W.alloc (pobj markP)) W.heap.size gp gq D b b' B B' m g2 q2 D2 a j i :=
  ⟨h.keep ((Kept.refl none' W).alloc _), heap_new W _, fun e => by have := RowC.lt h.row; omega⟩
end Go.Proofs.Ytbhheimedbfmeab
