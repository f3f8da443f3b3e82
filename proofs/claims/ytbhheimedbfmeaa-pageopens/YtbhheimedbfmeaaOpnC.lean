/- croftref4.Open: in; a row of truths written. croftref4.Open of data that came in. croftref4.Open of data that came in: the walk. croftref4.Open: refused by numbers. PageOpens: both Open's of any data; the law. PageOpens: the law's walk. -/
import Derived.Test.YtbhheimedbfmeaaRfK
import Derived.Test.YtbhheimedbfmeaaPlI
import Derived.Test.YtbhheimedbfmeaaPgX
import Derived.Test.YtbhheimedbfmeaaRfN
import Derived.Test.YtbhheimedbfmeaaPlP
namespace Go.Proofs.Ytbhheimedbfmeaa
open Go.RowKit
set_option linter.unusedVariables false

theorem in_any (v lo hi : Int) (w : World) :
    Calls Try.prog 51 #[.int .i64 v, .int .i64 lo, .int .i64 hi] w fun e w' => e = .returned (.bool (decide (lo ≤ v ∧ v ≤ hi))) ∧ w' = w := by
  by_cases h : lo ≤ v
  · rw [show decide (lo ≤ v ∧ v ≤ hi) = decide (v ≤ hi) by simp [h]]
    go_enter Try.func51, Try.ntmps51
    go_wp2_with fail
    go_ret
    exact ⟨rfl, rfl⟩
  · rw [show decide (lo ≤ v ∧ v ≤ hi) = false by simp [h]]
    go_enter Try.func51, Try.ntmps51
    go_wp2_with fail
    go_ret
    exact ⟨rfl, rfl⟩
/-- A whole row of truths of the document's map was written. -/
theorem RefAt.rowset {w W g cp q R m} (h : RefAt w g cp q R m) (a : Nat) (ha : a < m.o) (k : Kept (fun x => x = R a) w W) (ws : List Nat) (hb : InB W (R a) (ln m.n a) (bit ws)) : RefAt W g cp q R { m with wd := upw m.wd a ws } := by
  obtain ⟨cs, hg, hs, hc⟩ := h.bs a ha
  refine ⟨h.o8, h.n1, h.rq.kept k (fun x e e2 => ?_), h.cp, own_kept h.pr k (fun x hx e => ?_), fun i hi => ?_, h.iR⟩
  · have e2 : x = R a := e2
    subst e
    obtain ⟨N, pp, _, h2, _⟩ := h.rq
    obtain ⟨c2, h2, _⟩ := h2
    exact absurd e2 (ty_ne h2 hg (by decide))
  · have e : x = R a := e
    subst e
    exact absurd (own_ty h.pr _ hx hg) (by decide)
  · show InB _ (R i) (ln m.n i) (bit (upw m.wd a ws i))
    unfold upw
    by_cases e : i = a
    · subst e
      rw [if_pos rfl]
      exact hb
    · rw [if_neg e]
      exact (h.bs i hi).kept k (fun e2 => e (h.iR i a hi ha e2))
/-- A page in range. -/
def pgR (o n : Nat) (p : Pg) : Prop := (0 ≤ p.kd ∧ p.kd ≤ 4) ∧ (0 ≤ p.od ∧ p.od ≤ (o : Int)) ∧ (0 ≤ p.cl ∧ p.cl ≤ 7) ∧ (0 ≤ p.lv ∧ p.lv ≤ 256) ∧ (-1 ≤ p.nx ∧ p.nx ≤ (n : Int) - 1) ∧ (-1 ≤ p.pv ∧ p.pv ≤ (n : Int) - 1) ∧ (-1 ≤ p.fs ∧ p.fs ≤ 255)
/-- Rows of the right lengths. -/
def rowsR (m : Mp) : Prop := ∀ k, k < m.o → (m.wd k).length = (m.n / 2 ^ (k + 1) + 63) / 64
theorem PgC.at {w : World} {bl o i : Nat} {p : Pg} (h : PgC w bl o i p) : ∀ j, j < 11 → w.cell? ⟨bl, o + i * 11 + j, none⟩ = some (p.fld j) := by
  obtain ⟨d0, d1, d2, d3, d4, d5, d6, d7, d8, d9, d10⟩ := h
  apply lt11
  · exact d0
  · exact d1
  · exact d2
  · exact d3
  · exact d4
  · exact d5
  · exact d6
  · exact d7
  · exact d8
  · exact d9
  · exact d10
theorem page_cellsIn {w : World} {bl o n : Nat} {pg : Nat → Pg} (h : ∀ i, i < n → PgC w bl o i (pg i)) : ∃ xs : List Value, PgL xs n pg ∧ (∀ j u, xs[j]? = some u → w.cell? (Addr.add ⟨bl, o, none⟩ j) = some u) ∧ (∀ u ∈ xs, u.oneCell' = true) := by
  refine ⟨(List.range (n * 11)).map (fun j => (pg (j / 11)).fld (j % 11)), ⟨by simp, fun i hi j hj => ?_⟩, fun j u hj => ?_, fun u hu => ?_⟩
  · rw [List.getElem?_map, List.getElem?_range (by omega), Option.map_some, show (i * 11 + j) / 11 = i by omega, show (i * 11 + j) % 11 = j by omega]
  · rw [Addr.add_lit]
    rw [List.getElem?_map] at hj
    by_cases e : j < n * 11
    · rw [List.getElem?_range e, Option.map_some] at hj
      have := (h (j / 11) (by omega)).at (j % 11) (Nat.mod_lt _ (by decide))
      rw [show o + j / 11 * 11 + j % 11 = o + j by omega] at this
      rw [this]
      exact hj
    · rw [List.getElem?_eq_none (by simp; omega)] at hj
      cases hj
  · obtain ⟨j, _, rfl⟩ := List.mem_map.1 hu
    exact fld_one _ _
theorem append_arg {W : World} {G N n cp : Nat} {oa : Option Addr} {pg : Nat → Pg} (h : W.ownsRow 0 30 11 (.slice (some ⟨G, 0, none⟩) 0 N) 0 []) (hq : n = 0 ∨ ∃ bl o, oa = some ⟨bl, o, none⟩ ∧ ∀ i, i < n → PgC W bl o i (pg i)) (hn : n ≤ N) :
    ∃ w' xs, (∀ ty, (Builtin.append_ #[39, 39] ty #[.slice (some ⟨G, 0, none⟩) 0 N, .slice oa n cp]).run Try.prog W = .ok (.slice (some ⟨G, 0, none⟩) n N) w') ∧ w'.ownsRow 0 30 11 (.slice (some ⟨G, 0, none⟩) n N) n xs ∧ PgL xs n pg ∧ Kept (fun x => x = G) W w' := by
  obtain ⟨i, hi, hz, hs, hb⟩ := info_page_parts
  have key : ∀ a, oa = some a → ∀ xs : List Value, PgL xs n pg → (∀ j u, xs[j]? = some u → W.cell? (Addr.add a j) = some u) → (∀ u ∈ xs, u.oneCell' = true) → ∃ w' xs, (∀ ty, (Builtin.append_ #[39, 39] ty #[.slice (some ⟨G, 0, none⟩) 0 N, .slice oa n cp]).run Try.prog W = .ok (.slice (some ⟨G, 0, none⟩) n N) w') ∧ w'.ownsRow 0 30 11 (.slice (some ⟨G, 0, none⟩) n N) n xs ∧ PgL xs n pg ∧ Kept (fun x => x = G) W w' := fun a ea xs x1 x2 x3 => by
    subst ea
    obtain ⟨w', r1, r2, r3⟩ := run_append_fits (P := Try.prog) W 0 39 0 30 i 11 Try.underlying39 hi hs G 0 N [] h a n cp xs x1.1 x2 x3 (by omega)
    rw [Nat.zero_add] at r1 r2
    refine ⟨w', xs, fun ty => ?_, r2, x1, (grown_kept' r3).mono (fun x _ e => by cases e; rfl)⟩
    rw [← r1]; simp [Builtin.append_]
  rcases hq with h0 | ⟨bl, o, ea, hq⟩
  · subst h0
    cases oa with
    | none =>
      refine ⟨W, [], fun ty => ?_, h, ⟨rfl, fun i hi => absurd hi (Nat.not_lt_zero i)⟩, Kept.refl _ _⟩
      simp [Builtin.append_, run_underlying Try.underlying39, Builtin.lenOf, Builtin.firstCells, sizeOf, typeInfo, hi]
      rfl
    | some a => exact key a rfl [] ⟨rfl, fun i hi => absurd hi (Nat.not_lt_zero i)⟩ (fun j u hj => by simp at hj) (fun u hu => by simp at hu)
  · obtain ⟨xs, x1, x2, x3⟩ := page_cellsIn hq
    exact key _ ea xs x1 x2 x3
theorem RefAt.prK {w W g cp q R m} (h : RefAt w g cp q R m) (a : Nat) (ha : a < m.o) (k : Kept (fun x => x = R a) w W) : W.ownsRow 0 65 1 q m.o (bsls R (ln m.n) m.o) := by
  obtain ⟨cs, hg, hs, hc⟩ := h.bs a ha
  refine own_kept h.pr k (fun x hx e => ?_)
  have e : x = R a := e
  subst e
  exact absurd (own_ty h.pr _ hx hg) (by decide)
/-- The words of the rows that are read so far. -/
def wdK (wd : Nat → List Nat) (k : Nat) : Nat → List Nat := fun j => if j < k then wd j else []
theorem wdK_succ (wd : Nat → List Nat) (k : Nat) : upw (wdK wd k) k (wd k) = wdK wd (k + 1) := by
  funext j
  unfold upw wdK
  by_cases e : j = k
  · subst e; rw [if_pos rfl, if_pos (by omega)]
  · rw [if_neg e]
    by_cases h : j < k
    · rw [if_pos h, if_pos (by omega)]
    · rw [if_neg h, if_neg (by omega)]
theorem bit_nil (i : Nat) : bit [] i = false := by simp [bit]
/-- Between the rounds. -/
structure OpD (w W : World) (G X : Nat) (q : Value) (R : Nat → Nat) (m : Mp) (k : Nat) : Prop where
  rf : RefAt W (some G) m.n q R { m with wd := wdK m.wd k }
  nw : ∀ x, rown (some G) q R m.o x → X < x
  hX : w.heap.size < X
  kp : Kept none' w W
  xb : W.heap[X]? = some (ro m.o (some G) m.n m.n q)
  yb : W.heap[w.heap.size]? = some roZ
theorem OpD.keep {w W W' G X q R m k} (h : OpD w W G X q R m k) (kk : Kept none' W W') : OpD w W' G X q R m k :=
  ⟨h.rf.keep kk, h.nw, h.hX, none_trans h.kp kk, (kk.block _ (heap_lt h.xb) (fun x => x)).trans h.xb, (kk.block _ (heap_lt h.yb) (fun x => x)).trans h.yb⟩
theorem OpD.rk {w W W' G X q R m k} (h : OpD w W G X q R m k) (hk : k < m.o) (kk : Kept (fun x => x = R k) W W') : Kept none' w W' ∧ W'.heap[X]? = some (ro m.o (some G) m.n m.n q) ∧ W'.heap[w.heap.size]? = some roZ := by
  have h1 := h.nw (R k) (.inr (.inr ⟨k, hk, rfl⟩))
  have h2 := h.hX
  exact ⟨h.kp.trans kk (fun _ _ x => x) (fun x hx e => by omega), (kk.block _ (heap_lt h.xb) (by omega)).trans h.xb, (kk.block _ (heap_lt h.yb) (by omega)).trans h.yb⟩
theorem OpD.next {w W W' G X q R m k} (h : OpD w W G X q R m k) (hk : k < m.o) (kk : Kept (fun x => x = R k) W W') (hb : InB W' (R k) (ln m.n k) (bit (m.wd k))) : OpD w W' G X q R m (k + 1) := by
  obtain ⟨k1, k2, k3⟩ := h.rk hk kk
  have r := h.rf.rowset k hk kk (m.wd k) hb
  refine ⟨?_, h.nw, h.hX, k1, k2, k3⟩
  rw [← wdK_succ]
  exact r
theorem setM_box2 {W : World} {X : Nat} {cs : Array Value} (hx : W.heap[X]? = some (.cells cs 51 (0, 0))) (hc : cs.size = 3) (u0 u1 u2 : Value) : (setM W X u0 u1 u2).heap[X]? = some (.cells #[u0, u1, u2] 51 (0, 0)) := by
  have := heap_set (heap_set (heap_set hx 0 u0) 1 u1) 2 u2
  rw [this]
  obtain ⟨l⟩ := cs
  match l, hc with
  | [a, b, c], _ => rfl
theorem OpD.start {w W6 w7 : World} {G X cp : Nat} {g : Option Nat} {n o : Nat} {q q' : Value} {R' : Nat → Nat} {F : Nat → Nat → Bool} {m : Mp} (ho : m.o ≤ 8) (hn : m.n ≤ 1024) (K6 : Kept none' w W6) (hP : Prd W6 w7 m.n m.o q' R' F) (hF : ∀ k i, F k i = false) (S6 : Row W6 G m.n m.pg) (X6 : W6.heap[X]? = some (ro o g n cp q)) (Y6 : W6.heap[w.heap.size]? = some roZ) (hXY : w.heap.size < X) (hG : X < G) : OpD w (setM w7 X (.int .i64 (m.o : Int)) (.slice (adr (some G)) m.n m.n) q') G X q' R' m 0 := by
  have k7 := hP.gs.kp
  have x7 := (k7.block _ (heap_lt X6) (fun x => x)).trans X6
  have y7 := (k7.block _ (heap_lt Y6) (fun x => x)).trans Y6
  have ks := setM_only w7 X (.int .i64 (m.o : Int)) (.slice (adr (some G)) m.n m.n) q'
  have hX6 := heap_lt X6
  refine ⟨((hP.base K6).stored x7 (by omega) _ _ _).ref (g := some G) (pg := m.pg) ho hn (Nat.le_refl _) (show Rq _ (some G) m.n m.pg from ⟨m.n, m.pg, Nat.le_refl _, Row.kept (Row.kept S6 k7 (fun x => x)) ks (by omega), fun _ _ => rfl⟩) (fun k hk i hi => ?_), fun x hx => ?_, hXY, setM_kept (none_trans K6 k7) _ (by omega) _ _ _, setM_box2 x7 rfl _ _ _, (ks.block _ (heap_lt y7) (by omega)).trans y7⟩
  · rw [hF, show wdK m.wd 0 k = [] from rfl, bit_nil]
  · rcases hx with e | e | ⟨k, hk, rfl⟩
    · cases e; exact hG
    · have := hP.nw x e; omega
    · have := hP.fr k hk; omega
theorem set_cellA {w : World} {x i : Nat} {p : Addr} {v u : Value} (hz : p.block ≠ x) (h : w.cell? p = some v) : (w.setCell ⟨x, i, none⟩ u).drew.cell? p = some v := (((Kept.refl (fun y => y = x) w).setCell (p := ⟨x, i, none⟩) rfl u).drew).cell hz h
theorem set_cell {w : World} {x i y j : Nat} {v u : Value} (hz : y ≠ x) (h : w.cell? ⟨y, j, none⟩ = some v) : (w.setCell ⟨x, i, none⟩ u).drew.cell? ⟨y, j, none⟩ = some v := set_cellA (p := ⟨y, j, none⟩) hz h
/-- What Open answers. -/
def OpP (w : World) (m : Mp) (e : Ending) (w' : World) : Prop := ∃ v ok, e = .returned (.tuple #[v, .bool ok]) ∧ (∃ g qa qc, v = rv m.o g m.n m.n (.slice qa m.o qc)) ∧ Kept none' w w' ∧ (ok = false → ¬ (rowsR m ∧ ∀ i, i < m.n → pgR m.o m.n (m.pg i))) ∧ (ok = true → rowsR m ∧ (∀ i, i < m.n → pgR m.o m.n (m.pg i)) ∧ ∃ G q R, v = rv m.o (some G) m.n m.n q ∧ RefAt w' (some G) m.n q R m ∧ ∀ x, rown (some G) q R m.o x → w.heap.size ≤ x)
set_option maxRecDepth 6000 in
set_option maxHeartbeats 16000000 in
theorem open_ref (pv qv : Value) (ws : Nat → Value) (m : Mp) (ho : m.o ≤ 8) (hn : m.n ≤ 1024) (hd : ∃ r, m.n = r * 2 ^ m.o) (w : World) (hP : PagesIn w pv m.n m.pg) (hQ : PairsIn w qv m.o ws m.wd) :
    Calls Try.prog 26 #[.int .i64 (m.o : Int), pv, qv] w fun e w' => OpP w m e w' := by
  obtain ⟨_, oa, oc, rfl, hpv⟩ := hP
  obtain ⟨_, oq, ocq, rfl, hqv⟩ := hQ
  have HPV := hid hpv
  have HQV := hid hqv
  have NR := hid (fun W => New_ref (m.o : Int) W)
  rw [show ordN (m.o : Int) = m.o by unfold ordN; rw [if_neg (by omega), if_neg (by omega)]; simp] at NR
  obtain ⟨z, hz⟩ : ∃ z, z = 2 ^ m.o := ⟨_, rfl⟩
  have PW := hid (show ∀ W, Calls Try.prog 49 #[.int .i64 (m.o : Int)] W fun e w' => e = .returned (.int .i64 (z : Int)) ∧ w' = W from fun W => by rw [hz]; exact power_any m.o (by omega) W)
  have hri : (m.n : Int) % (z : Int) = 0 := by
    obtain ⟨r, hr⟩ := hd
    rw [hr, hz]
    simp
  have hz1 : 1 ≤ z := by rw [hz]; exact Nat.pow_pos (by decide)
  have hz0 : ¬ (z : Int) = 0 := by omega
  have h1024 : ¬ 1024 < (m.n : Int) := by omega
  have K0 := hid ((Kept.refl none' w).alloc roZ)
  have Y0 := hid (heap_new w roZ)
  clear hz hd hpv hqv
  go_enter Try.func26, Try.ntmps26
  go_wp2_with fail
  refine (NR.out _).mono ?_
  rintro e w1 ⟨q, rfl, R, hA⟩
  obtain ⟨qa', qc', hq⟩ := hA.ref.val
  replace hq : q = .slice qa' m.o qc' := hq
  subst hq
  have K1 := hid (none_trans K0.out hA.kp)
  have Y1 := hid ((hA.kp.block _ (heap_lt Y0.out) (fun x => x)).trans Y0.out)
  have ka := (Kept.refl none' w1).alloc (ro m.o none 0 0 (.slice qa' m.o qc'))
  have K2 := hid (none_trans K1.out ka)
  have Y2 := hid ((ka.block _ (heap_lt Y1.out) (fun x => x)).trans Y1.out)
  have X2 := hid (heap_new w1 (ro m.o none 0 0 (.slice qa' m.o qc')))
  have R2 := hid (hA.ref.keep ka)
  clear hA ka K0 Y0 K1
  obtain ⟨t0, t1, t2⟩ := box3 X2.out
  go_wp2_with fail
  refine (PW.out _).mono ?_
  rintro e w3 ⟨rfl, hw3⟩
  rw [hw3]
  clear hw3 t0 t1 t2 NR
  obtain ⟨X, hX⟩ : ∃ X, X = w1.heap.size := ⟨_, rfl⟩
  have HXY := hid (show w.heap.size < X by rw [hX]; exact heap_lt Y1.out)
  have HX2 := hid (show X < (w1.alloc (ro m.o none 0 0 (.slice qa' m.o qc'))).heap.size by rw [hX]; exact heap_lt X2.out)
  rw [← hX] at X2 ⊢
  generalize w1.alloc (ro m.o none 0 0 (.slice qa' m.o qc')) = W2 at *
  clear hX Y1
  obtain ⟨w4, hmk, hO1, hk1, hs1⟩ := make_room m.n hn W2
  obtain ⟨G, hG⟩ : ∃ G, G = W2.heap.size := ⟨_, rfl⟩
  rw [← hG] at hmk hO1
  have HG := hid (show X < G by rw [hG]; exact HX2.out)
  have K4 := hid (none_trans K2.out hk1)
  have X4 := hid ((hk1.block _ (heap_lt X2.out) (fun x => x)).trans X2.out)
  have Y4 := hid ((hk1.block _ (heap_lt Y2.out) (fun x => x)).trans Y2.out)
  have R4 := hid (R2.out.keep hk1)
  obtain ⟨w5, xs, hap, hO5, hP5, hk5⟩ := append_arg (cp := oc) (oa := oa) (pg := m.pg) hO1 (HPV.out.imp (fun x => x) (fun ⟨bl, o, e1, e2, e3⟩ => ⟨bl, o, e1, fun i hi => (e3 i hi).2.kept K4.out⟩)) (Nat.le_refl _)
  have HAP := hid hap
  have gX : X ≠ G := by have := HG.out; omega
  have gY : w.heap.size ≠ G := by have := HG.out; have := HXY.out; omega
  have K5 := hid (show Kept none' w w5 from K4.out.trans hk5 (fun _ _ x => x) (fun x hx e => by have := HG.out; have := HXY.out; omega))
  have X5 := hid ((hk5.block _ (heap_lt X4.out) gX).trans X4.out)
  have Y5 := hid ((hk5.block _ (heap_lt Y4.out) gY).trans Y4.out)
  have R5 := hid (R4.out.kept hk5 (fun x hx e => by have e : x = G := e; have := R2.out.own_lt x hx; omega))
  have S5 := hid (PgL.row hP5 hO5 rfl rfl)
  clear hO1 hk1 hs1 hG hap hO5 hP5 hk5 K2 X2 Y2 R2 K4 X4 Y4 R4 gX gY HX2
  have fx5 : ∀ j, w5.frozen? ⟨X, j, none⟩ = false := fun j => by simp [World.frozen?, X5.out]
  have fx4 : w5.cell? ⟨X, 1, none⟩ = some (.slice none 0 0) := (box3 X5.out).2.1
  have kx : Kept (fun y => y = X) w5 (w5.setCell ⟨X, 1, none⟩ (.slice (some ⟨G, 0, none⟩) m.n m.n)) := (Kept.refl (fun y => y = X) w5).setCell (p := ⟨X, 1, none⟩) rfl _
  have K6 := hid (K5.out.setNew (p := ⟨X, 1, none⟩) (fun e => absurd e (by have := HXY.out; show ¬ X < _; omega)) (.slice (some ⟨G, 0, none⟩) m.n m.n))
  have X6 := hid (show (w5.setCell ⟨X, 1, none⟩ (.slice (some ⟨G, 0, none⟩) m.n m.n)).heap[X]? = some (ro m.o (some G) m.n m.n (.slice qa' m.o qc')) from heap_set X5.out 1 (.slice (some ⟨G, 0, none⟩) m.n m.n))
  have Y6 := hid ((kx.block _ (heap_lt Y5.out) (by have := HXY.out; omega)).trans Y5.out)
  have R6 := hid (R5.out.kept kx (fun x hx e => by
    have e : x = X := e
    subst e
    rcases hx with e | e | ⟨k, hk, e⟩
    · cases e
    · exact absurd (own_ty R5.out.pr _ e X5.out) (by decide)
    · obtain ⟨cs, hg, _⟩ := R5.out.bs k hk
      exact absurd e (ty_ne X5.out hg (by decide))))
  have S6 := hid (Row.kept S5.out kx (by have := HG.out; omega))
  have PA := hid (paired_any m.o m.n m.n m.o ho hn (some G) (.slice qa' m.o qc') R (ln 0) (fun k => bit ((newM m.o).wd k)) _ R6.out.pr ho (fun k hk => by simp [ln]) R6.out.bs)
  obtain ⟨c0, c1, c2⟩ := box3 X6.out
  clear kx
  go_wp2_with (at_builtin; refine Lib.wpList_append_run _ rfl _ _ _ _ rfl (.slice (some ⟨G, 0, none⟩) 0 m.n) (.slice oa m.n oc) rfl rfl _ _ (HAP.out _) ?_)
  refine PA.out.mono ?_
  rintro e w7 ⟨q', rfl, R', hP7⟩
  obtain ⟨qa2, qc2, rfl⟩ := hP7.val
  have D0 := hid (OpD.start ho hn K6.out hP7 (fun k i => by simp [ln]) S6.out X6.out Y6.out HXY.out HG.out)
  have X7 := hid ((hP7.gs.kp.block _ (heap_lt X6.out) (fun x => x)).trans X6.out)
  clear hP7 PA K6 X6 Y6 R6 S6 K5 X5 Y5 R5 S5 c0 c1 c2 fx4 fx5 hmk HAP
  have fx7 : ∀ j, w7.frozen? ⟨X, j, none⟩ = false := fun j => by simp [World.frozen?, X7.out]
  obtain ⟨c0, c1, c2⟩ := box3 X7.out
  go_wp2_with fail
  go_loopw [10] (fun i W => ∃ k : Nat, k ≤ m.o ∧ i = .int .i64 k ∧ Hid (OpD w W G X (.slice qa2 m.o qc2) R' m k ∧ ∀ j, j < k → (m.wd j).length = (m.n / 2 ^ (j + 1) + 63) / 64)) (fun i _ => m.o - (intOf i).toNat)
  case atStart => exact ⟨0, by omega, rfl, ⟨D0.out, fun j hj => absurd hj (Nat.not_lt_zero j)⟩⟩
  case round =>
    clear D0 X7 fx7 c0 c1 c2
    obtain ⟨k, hk, rfl, hH⟩ := hrel
    obtain ⟨c0, c1, c2⟩ := box3 hH.out.1.xb
    by_cases hlt : k < m.o
    · have hki : (k : Int) < (m.o : Int) := by omega
      obtain ⟨g', cap', hq', hcell⟩ := hH.out.1.rf.pcell k hlt
      obtain ⟨rfl, rfl⟩ : qa2 = some ⟨g', 0, none⟩ ∧ qc2 = cap' := by simpa using hq'
      obtain ⟨bq, fq, rfl, hbq, hrow⟩ := HQV.out.resolve_left (by omega)
      obtain ⟨a1, h64, ao, cao, hws, hwords⟩ := hrow k hlt
      rw [hws] at a1
      obtain ⟨l, hl⟩ : ∃ l, l = ln m.n k := ⟨_, rfl⟩
      obtain ⟨L, hL⟩ : ∃ L, L = (m.wd k).length := ⟨_, rfl⟩
      obtain ⟨d, hd⟩ : ∃ d, d = (l + 63) / 64 := ⟨_, rfl⟩
      have hl1 : l ≤ 1024 := by rw [hl]; exact Nat.le_trans (Nat.div_le_self _ _) hn
      replace hcell : wr.cell? ⟨g', k, none⟩ = some (.slice (some ⟨R' k, 0, none⟩) l l) := by rw [hl]; exact hcell
      rw [← hL] at a1
      have a2 := hH.out.1.kp.cell (fun x => x) a1
      have hdi : ((l : Int) + 63) / 64 = (d : Int) := by omega
      have hdt : ((l : Int) + 63).tdiv 64 = (d : Int) := by rw [hd]; show (((l + 63 : Nat) : Int)).tdiv 64 = _; rfl
      have hl63 : IntKind.i64.wrap ((l : Int) + 63) = (l : Int) + 63 := by rw [IntKind.wrap_i64]; omega
      have hdw : IntKind.i64.wrap (d : Int) = (d : Int) := by rw [IntKind.wrap_i64]; omega
      have HL := hid hL
      have HLN := hid hl
      have HD := hid hd
      have HA1 := hid a1
      have HW := hid hwords
      have H64 := hid h64
      clear hL hl hd a1 hwords h64 hrow hws hq'
      by_cases heq : L = d
      · subst heq
        go_wp2_with fail
        go_region
        have D1 := hid (hH.out.1.keep (Kept.refl none' wr).drew)
        obtain ⟨W0, hW0⟩ : ∃ W0, W0 = wr.drew := ⟨_, rfl⟩
        rw [← hW0] at D1 ⊢
        have ROWS := hid hH.out.2
        clear c0 c1 c2 hcell a2 hW0 hH hdi hdt hl63 hdw
        go_wp2_with fail
        go_loopw [11] (fun i W => ∃ a : Nat, a ≤ l ∧ i = .int .i64 a ∧ Hid (Kept (fun x => x = R' k) W0 W ∧ InB W (R' k) l (fun i => decide (i < a) && bit (m.wd k) i))) (fun i _ => l - (intOf i).toNat)
        case atStart => exact ⟨0, by omega, rfl, ⟨Kept.refl _ _, by rw [HLN.out]; exact (D1.out.rf.bs k hlt).congr (fun i hi => by show bit (wdK m.wd k k) i = _; simp [wdK, bit_nil])⟩⟩
        case round =>
          obtain ⟨a, ha, rfl, hI⟩ := hrel
          obtain ⟨k1, k2, k3⟩ := D1.out.rk hlt hI.out.1
          obtain ⟨c0, c1, c2⟩ := box3 k2
          obtain ⟨g2, cap2, u, e1, e2, e3⟩ := own_cell (D1.out.rf.prK k hlt hI.out.1) k hlt
          have e0 : g' = g2 := by have e1 := e1; simp at e1; exact e1.1
          have hu : u = bsl R' (ln m.n) k := by simp [bsls, hlt] at e2; exact e2.symm
          have e4 : wr.cell? ⟨g', k, none⟩ = some (.slice (some ⟨R' k, 0, none⟩) l l) := by rw [e0, e3, hu, bsl, ← HLN.out]
          have a2 := k1.cell (fun x => x) HA1.out
          have K1 := hid k1
          clear e0 e1 e2 e3 hu k1 k2 k3
          by_cases hlt2 : a < l
          · have hai : (a : Int) < (l : Int) := by omega
            obtain ⟨q6, hq6⟩ : ∃ q6, q6 = a / 64 := ⟨_, rfl⟩
            have hqL : q6 < L := by have := HD.out; omega
            obtain ⟨ad, rfl, hadb, hw⟩ := HW.out.resolve_left (fun e => by have := HL.out; rw [e] at this; simp at this; omega)
            have x2 := K1.out.cell (fun x => x) (hw q6 (by rw [← HL.out]; exact hqL))
            obtain ⟨x, hx⟩ : ∃ x, x = (m.wd k).getD q6 0 := ⟨_, rfl⟩
            have hxl : x < 18446744073709551616 := by rw [hx]; exact H64.out q6
            rw [← hx] at x2
            obtain ⟨r, hr⟩ : ∃ r, r = a % 64 := ⟨_, rfl⟩
            obtain ⟨z2, hz2⟩ : ∃ z2, z2 = 2 ^ r := ⟨_, rfl⟩
            obtain ⟨y, hy⟩ : ∃ y, y = x / z2 := ⟨_, rfl⟩
            obtain ⟨b, hb⟩ : ∃ b, b = y % 2 := ⟨_, rfl⟩
            have hz21 : 1 ≤ z2 := by rw [hz2]; exact Nat.pow_pos (by decide)
            have hyx : y ≤ x := by rw [hy]; exact Nat.div_le_self _ _
            have hv : bit (m.wd k) a = ((b : Int) == 1) := by
              have : bit (m.wd k) a = (b == 1) := by unfold bit; rw [← hq6, ← hr, ← hz2, ← hx, ← hy, ← hb]
              rw [this, Bool.eq_iff_iff]
              simp
              omega
            have HZ := hid (show 2 ^ (a % 64) = z2 by rw [hz2, hr])
            have hki' : (a : Int) / 64 = (q6 : Int) := by omega
            have hkt : (a : Int).tdiv 64 = (q6 : Int) := by rw [hq6]; rfl
            have hyi : (x : Int) / (z2 : Int) = (y : Int) := by rw [hy]; simp
            have hyt : (x : Int).tdiv (z2 : Int) = (y : Int) := by rw [hy]; rfl
            have hbi : (y : Int) % 2 = (b : Int) := by omega
            have hbt : (y : Int).tmod 2 = (b : Int) := by rw [hb]; rfl
            have hz20 : ¬ (z2 : Int) = 0 := by omega
            have hz2b : ((z2 : Int) == 0) = false := beq_eq_false_iff_ne.2 hz20
            have hz2n : ¬ z2 = 0 := by omega
            have hz2d : decide ((z2 : Int) = 0) = false := decide_eq_false hz20
            have hqw : IntKind.i64.wrap (q6 : Int) = (q6 : Int) := by rw [IntKind.wrap_i64]; omega
            have hyw : IntKind.u64.wrap (y : Int) = (y : Int) := by rw [wrap_u64]; omega
            have hbw : IntKind.u64.wrap (b : Int) = (b : Int) := by rw [wrap_u64]; omega
            have hqLi : (q6 : Int) < (L : Int) := by omega
            have c5 := hI.out.2.cell a hlt2
            have f5 := hI.out.2.froz a
            have FIN := hid (show Kept (fun x => x = R' k) W0 (wr.setCell ⟨R' k, a, none⟩ (.bool ((b : Int) == 1))) ∧ InB (wr.setCell ⟨R' k, a, none⟩ (.bool ((b : Int) == 1))) (R' k) l (fun i => decide (i < a + 1) && bit (m.wd k) i) from ⟨hI.out.1.setCell (p := ⟨R' k, a, none⟩) rfl _, hI.out.2.set a hlt2 _ (fun i hi => by
              by_cases e : i = a
              · subst e; simp [hv]
              · rw [if_neg e, show decide (i < a + 1) = decide (i < a) from decide_eq_decide.2 (by omega)])⟩)
            have c2d : wr.drew.cell? ⟨X, 2, none⟩ = some (.slice (some ⟨g', 0, none⟩) m.o qc2) := c2
            have e4d : wr.drew.cell? ⟨g', k, none⟩ = some (.slice (some ⟨R' k, 0, none⟩) l l) := e4
            have a2d : wr.drew.cell? ⟨bq, fq + k, none⟩ = some (.slice (some ad) L cao) := a2
            have x2d : wr.drew.cell? (ad.add q6) = some (.int .u64 (x : Int)) := x2
            have c5d := show wr.drew.cell? ⟨R' k, a, none⟩ = _ from c5
            have f5d : wr.drew.frozen? ⟨R' k, a, none⟩ = false := f5
            have hnw := D1.out.nw (R' k) (.inr (.inr ⟨k, hlt, rfl⟩))
            have nX : X ≠ R' k := by omega
            have nB : bq ≠ R' k := by have := D1.out.hX; omega
            have nA : (ad.add q6).block ≠ R' k := by rw [addr_add_block]; have := D1.out.hX; omega
            have nG : g' ≠ R' k := fun e => by
              obtain ⟨cs, hg, _⟩ := D1.out.rf.bs k hlt
              exact absurd (own_ty D1.out.rf.pr (R' k) (by simp [Value.ownBlock, e]) hg) (by decide)
            clear hv hq6 hr hz2 hx hy hb hw hadb hI hnw
            go_wp2_with fail
            go_region_held3 (fun w' => w'.cell? ⟨X, 2, none⟩ = some (.slice (some ⟨g', 0, none⟩) m.o qc2) ∧ w'.cell? ⟨g', k, none⟩ = some (.slice (some ⟨R' k, 0, none⟩) l l) ∧ w'.cell? ⟨bq, fq + k, none⟩ = some (.slice (some ad) L cao) ∧ w'.cell? (ad.add q6) = some (.int .u64 (x : Int))) (first | with_reducible exact ⟨c2d, e4d, a2d, x2d⟩ | with_reducible exact ⟨set_cell nX c2, set_cell nG e4, set_cell nB a2, set_cellA nA x2⟩) ((go_at_call 50; refine (bit_int _ a (by omega) (by omega) _).mono ?_; rintro e w2 ⟨rfl, rfl⟩; rw [HZ.out]))
            all_goals
              go_wp2_with fail
              exact ⟨⟨a + 1, by omega, by simp, ⟨FIN.out.1.drew, FIN.out.2⟩⟩, by simp [intOf]; omega⟩
          · have hai : ¬ (a : Int) < (l : Int) := by omega
            have hal : a = l := by omega
            have ND := hid (D1.out.next hlt hI.out.1 (by
              rw [← HLN.out]
              exact hI.out.2.congr (fun i hi => by rw [hal]; simp [hi])))
            have NR2 := hid (show ∀ j, j < k + 1 → (m.wd j).length = (m.n / 2 ^ (j + 1) + 63) / 64 from fun j hj => by
              by_cases e : j = k
              · subst e
                rw [← HL.out, HD.out, HLN.out, ln]
              · exact ROWS.out j (by omega))
            clear hI hal
            go_wp2_with fail
            exact ⟨⟨k + 1, by omega, by simp, ⟨ND.out, NR2.out⟩⟩, by simp [intOf]; omega⟩
      · have heqi : ¬ (L : Int) = (d : Int) := by omega
        go_wp2_with fail
        go_region
        have D1 := hid (hH.out.1.keep (Kept.refl none' wr).drew)
        obtain ⟨W1, hW1⟩ : ∃ W1, W1 = wr.drew := ⟨_, rfl⟩
        rw [← hW1] at D1 ⊢
        clear c0 c1 c2 hcell a2 hW1 hH hdi hdt hl63 hdw
        obtain ⟨c0, c1, c2⟩ := box3 D1.out.xb
        obtain ⟨y0, y1, y2⟩ := boxZ D1.out.yb
        have fz : ∀ j, W1.frozen? ⟨w.heap.size, j, none⟩ = false := fun j => by simp [World.frozen?, D1.out.yb]
        have BAD := hid (show ¬ rowsR m from fun hg => heq (by rw [HL.out, HD.out, HLN.out]; exact hg k hlt))
        go_wp2_with fail
        exact ⟨rfl, .tuple #[rv m.o (some G) m.n m.n (.slice (some ⟨g', 0, none⟩) m.o qc2), .bool false], by simp [results, Try.results26, go_sem, y0, y1, y2, adr], _, false, rfl, ⟨_, _, _, rfl⟩, setM_kept D1.out.kp _ (Nat.le_refl _) _ _ _, fun _ hg => BAD.out hg.1, fun h => by cases h⟩
    · have hki : ¬ (k : Int) < (m.o : Int) := by omega
      have hko : k = m.o := by omega
      subst hko
      have RW := hid (show rowsR m from hH.out.2)
      go_wp2_with fail
      go_loopw [13] (fun i W => ∃ a : Nat, a ≤ m.n ∧ i = .int .i64 a ∧ Hid (OpD w W G X (.slice qa2 m.o qc2) R' m m.o ∧ ∀ j, j < a → pgR m.o m.n (m.pg j))) (fun i _ => m.n - (intOf i).toNat)
      case atStart => exact ⟨0, by omega, rfl, ⟨hH.out.1, fun j hj => absurd hj (Nat.not_lt_zero j)⟩⟩
      case round =>
        clear c0 c1 c2 hH
        obtain ⟨a, ha, rfl, hI⟩ := hrel
        by_cases hlt2 : a < m.n
        · have hai : (a : Int) < (m.n : Int) := by omega
          obtain ⟨bl, oo, rfl, hbl, hrow⟩ := HPV.out.resolve_left (by omega)
          obtain ⟨d0, d1, d2, d3, d4, d5, d6, d7, d8, d9, d10⟩ := (hrow a hlt2).2.kept hI.out.1.kp
          have D1 := hid (hI.out.1.keep ((Kept.refl none' wr).alloc (pobj (m.pg a))))
          have XB := hid (heap_new wr (pobj (m.pg a)))
          have PG := hid hI.out.2
          clear hrow hI
          obtain ⟨c0, c1, c2⟩ := box3 D1.out.xb
          obtain ⟨y0, y1, y2⟩ := boxZ D1.out.yb
          obtain ⟨x0, x1, x2, x3, x4, x5, x6, x7, x8, x9, x10⟩ := box11 XB.out
          have fz : ∀ j, (wr.alloc (pobj (m.pg a))).frozen? ⟨w.heap.size, j, none⟩ = false := fun j => by simp [World.frozen?, D1.out.yb]
          by_cases h0 : 0 ≤ (m.pg a).kd ∧ (m.pg a).kd ≤ 4
          · have hb0 : decide (0 ≤ (m.pg a).kd ∧ (m.pg a).kd ≤ 4) = true := decide_eq_true h0
            by_cases h1 : 0 ≤ (m.pg a).od ∧ (m.pg a).od ≤ (m.o : Int)
            · have hb1 : decide (0 ≤ (m.pg a).od ∧ (m.pg a).od ≤ (m.o : Int)) = true := decide_eq_true h1
              by_cases h2 : 0 ≤ (m.pg a).cl ∧ (m.pg a).cl ≤ 7
              · have hb2 : decide (0 ≤ (m.pg a).cl ∧ (m.pg a).cl ≤ 7) = true := decide_eq_true h2
                by_cases h3 : 0 ≤ (m.pg a).lv ∧ (m.pg a).lv ≤ 256
                · have hb3 : decide (0 ≤ (m.pg a).lv ∧ (m.pg a).lv ≤ 256) = true := decide_eq_true h3
                  by_cases h4 : (-1) ≤ (m.pg a).nx ∧ (m.pg a).nx ≤ ((m.n : Int) - 1)
                  · have hb4 : decide ((-1) ≤ (m.pg a).nx ∧ (m.pg a).nx ≤ ((m.n : Int) - 1)) = true := decide_eq_true h4
                    by_cases h5 : (-1) ≤ (m.pg a).pv ∧ (m.pg a).pv ≤ ((m.n : Int) - 1)
                    · have hb5 : decide ((-1) ≤ (m.pg a).pv ∧ (m.pg a).pv ≤ ((m.n : Int) - 1)) = true := decide_eq_true h5
                      by_cases h6 : (-1) ≤ (m.pg a).fs ∧ (m.pg a).fs ≤ 255
                      · have hb6 : decide ((-1) ≤ (m.pg a).fs ∧ (m.pg a).fs ≤ 255) = true := decide_eq_true h6
                        have OK := hid (show ∀ j, j < a + 1 → pgR m.o m.n (m.pg j) from fun j hj => by
                          by_cases e : j = a
                          · subst e; exact ⟨h0, h1, h2, h3, h4, h5, h6⟩
                          · exact PG.out j (by omega))
                        clear h0 h1 h2 h3 h4 h5 h6
                        go_wp2_with fail
                        refine (in_any _ _ _ _).mono ?_
                        rintro e w9 ⟨rfl, hw9⟩
                        rw [hw9]
                        clear hw9
                        go_wp2_with fail
                        refine (in_any _ _ _ _).mono ?_
                        rintro e w9 ⟨rfl, hw9⟩
                        rw [hw9]
                        clear hw9
                        go_wp2_with fail
                        refine (in_any _ _ _ _).mono ?_
                        rintro e w9 ⟨rfl, hw9⟩
                        rw [hw9]
                        clear hw9
                        go_wp2_with fail
                        refine (in_any _ _ _ _).mono ?_
                        rintro e w9 ⟨rfl, hw9⟩
                        rw [hw9]
                        clear hw9
                        go_wp2_with fail
                        refine (in_any _ _ _ _).mono ?_
                        rintro e w9 ⟨rfl, hw9⟩
                        rw [hw9]
                        clear hw9
                        go_wp2_with fail
                        refine (in_any _ _ _ _).mono ?_
                        rintro e w9 ⟨rfl, hw9⟩
                        rw [hw9]
                        clear hw9
                        go_wp2_with fail
                        refine (in_any _ _ _ _).mono ?_
                        rintro e w9 ⟨rfl, hw9⟩
                        rw [hw9]
                        clear hw9
                        go_wp2_with fail
                        exact ⟨⟨a + 1, by omega, by simp, ⟨D1.out, OK.out⟩⟩, by simp [intOf]; omega⟩
                      · have hb6 : decide ((-1) ≤ (m.pg a).fs ∧ (m.pg a).fs ≤ 255) = false := decide_eq_false h6
                        have BAD := hid (show ¬ pgR m.o m.n (m.pg a) from fun h => h6 h.2.2.2.2.2.2)
                        clear h0 h1 h2 h3 h4 h5 h6
                        go_wp2_with fail
                        refine (in_any _ _ _ _).mono ?_
                        rintro e w9 ⟨rfl, hw9⟩
                        rw [hw9]
                        clear hw9
                        go_wp2_with fail
                        refine (in_any _ _ _ _).mono ?_
                        rintro e w9 ⟨rfl, hw9⟩
                        rw [hw9]
                        clear hw9
                        go_wp2_with fail
                        refine (in_any _ _ _ _).mono ?_
                        rintro e w9 ⟨rfl, hw9⟩
                        rw [hw9]
                        clear hw9
                        go_wp2_with fail
                        refine (in_any _ _ _ _).mono ?_
                        rintro e w9 ⟨rfl, hw9⟩
                        rw [hw9]
                        clear hw9
                        go_wp2_with fail
                        refine (in_any _ _ _ _).mono ?_
                        rintro e w9 ⟨rfl, hw9⟩
                        rw [hw9]
                        clear hw9
                        go_wp2_with fail
                        refine (in_any _ _ _ _).mono ?_
                        rintro e w9 ⟨rfl, hw9⟩
                        rw [hw9]
                        clear hw9
                        go_wp2_with fail
                        refine (in_any _ _ _ _).mono ?_
                        rintro e w9 ⟨rfl, hw9⟩
                        rw [hw9]
                        clear hw9
                        go_wp2_with fail
                        refine ⟨rfl, .tuple #[rv m.o (some G) m.n m.n (.slice qa2 m.o qc2), .bool false], ?_, _, false, rfl, ⟨_, _, _, rfl⟩, setM_kept D1.out.kp _ (Nat.le_refl _) _ _ _, fun _ hg => BAD.out (hg.2 a hlt2), fun h => by cases h⟩
                        generalize wr.alloc (pobj (m.pg a)) = W1 at *
                        simp [results, Try.results26, go_sem, y0, y1, y2, adr]
                    · have hb5 : decide ((-1) ≤ (m.pg a).pv ∧ (m.pg a).pv ≤ ((m.n : Int) - 1)) = false := decide_eq_false h5
                      have BAD := hid (show ¬ pgR m.o m.n (m.pg a) from fun h => h5 h.2.2.2.2.2.1)
                      clear h0 h1 h2 h3 h4 h5
                      go_wp2_with fail
                      refine (in_any _ _ _ _).mono ?_
                      rintro e w9 ⟨rfl, hw9⟩
                      rw [hw9]
                      clear hw9
                      go_wp2_with fail
                      refine (in_any _ _ _ _).mono ?_
                      rintro e w9 ⟨rfl, hw9⟩
                      rw [hw9]
                      clear hw9
                      go_wp2_with fail
                      refine (in_any _ _ _ _).mono ?_
                      rintro e w9 ⟨rfl, hw9⟩
                      rw [hw9]
                      clear hw9
                      go_wp2_with fail
                      refine (in_any _ _ _ _).mono ?_
                      rintro e w9 ⟨rfl, hw9⟩
                      rw [hw9]
                      clear hw9
                      go_wp2_with fail
                      refine (in_any _ _ _ _).mono ?_
                      rintro e w9 ⟨rfl, hw9⟩
                      rw [hw9]
                      clear hw9
                      go_wp2_with fail
                      refine (in_any _ _ _ _).mono ?_
                      rintro e w9 ⟨rfl, hw9⟩
                      rw [hw9]
                      clear hw9
                      go_wp2_with fail
                      refine ⟨rfl, .tuple #[rv m.o (some G) m.n m.n (.slice qa2 m.o qc2), .bool false], ?_, _, false, rfl, ⟨_, _, _, rfl⟩, setM_kept D1.out.kp _ (Nat.le_refl _) _ _ _, fun _ hg => BAD.out (hg.2 a hlt2), fun h => by cases h⟩
                      generalize wr.alloc (pobj (m.pg a)) = W1 at *
                      simp [results, Try.results26, go_sem, y0, y1, y2, adr]
                  · have hb4 : decide ((-1) ≤ (m.pg a).nx ∧ (m.pg a).nx ≤ ((m.n : Int) - 1)) = false := decide_eq_false h4
                    have BAD := hid (show ¬ pgR m.o m.n (m.pg a) from fun h => h4 h.2.2.2.2.1)
                    clear h0 h1 h2 h3 h4
                    go_wp2_with fail
                    refine (in_any _ _ _ _).mono ?_
                    rintro e w9 ⟨rfl, hw9⟩
                    rw [hw9]
                    clear hw9
                    go_wp2_with fail
                    refine (in_any _ _ _ _).mono ?_
                    rintro e w9 ⟨rfl, hw9⟩
                    rw [hw9]
                    clear hw9
                    go_wp2_with fail
                    refine (in_any _ _ _ _).mono ?_
                    rintro e w9 ⟨rfl, hw9⟩
                    rw [hw9]
                    clear hw9
                    go_wp2_with fail
                    refine (in_any _ _ _ _).mono ?_
                    rintro e w9 ⟨rfl, hw9⟩
                    rw [hw9]
                    clear hw9
                    go_wp2_with fail
                    refine (in_any _ _ _ _).mono ?_
                    rintro e w9 ⟨rfl, hw9⟩
                    rw [hw9]
                    clear hw9
                    go_wp2_with fail
                    refine ⟨rfl, .tuple #[rv m.o (some G) m.n m.n (.slice qa2 m.o qc2), .bool false], ?_, _, false, rfl, ⟨_, _, _, rfl⟩, setM_kept D1.out.kp _ (Nat.le_refl _) _ _ _, fun _ hg => BAD.out (hg.2 a hlt2), fun h => by cases h⟩
                    generalize wr.alloc (pobj (m.pg a)) = W1 at *
                    simp [results, Try.results26, go_sem, y0, y1, y2, adr]
                · have hb3 : decide (0 ≤ (m.pg a).lv ∧ (m.pg a).lv ≤ 256) = false := decide_eq_false h3
                  have BAD := hid (show ¬ pgR m.o m.n (m.pg a) from fun h => h3 h.2.2.2.1)
                  clear h0 h1 h2 h3
                  go_wp2_with fail
                  refine (in_any _ _ _ _).mono ?_
                  rintro e w9 ⟨rfl, hw9⟩
                  rw [hw9]
                  clear hw9
                  go_wp2_with fail
                  refine (in_any _ _ _ _).mono ?_
                  rintro e w9 ⟨rfl, hw9⟩
                  rw [hw9]
                  clear hw9
                  go_wp2_with fail
                  refine (in_any _ _ _ _).mono ?_
                  rintro e w9 ⟨rfl, hw9⟩
                  rw [hw9]
                  clear hw9
                  go_wp2_with fail
                  refine (in_any _ _ _ _).mono ?_
                  rintro e w9 ⟨rfl, hw9⟩
                  rw [hw9]
                  clear hw9
                  go_wp2_with fail
                  refine ⟨rfl, .tuple #[rv m.o (some G) m.n m.n (.slice qa2 m.o qc2), .bool false], ?_, _, false, rfl, ⟨_, _, _, rfl⟩, setM_kept D1.out.kp _ (Nat.le_refl _) _ _ _, fun _ hg => BAD.out (hg.2 a hlt2), fun h => by cases h⟩
                  generalize wr.alloc (pobj (m.pg a)) = W1 at *
                  simp [results, Try.results26, go_sem, y0, y1, y2, adr]
              · have hb2 : decide (0 ≤ (m.pg a).cl ∧ (m.pg a).cl ≤ 7) = false := decide_eq_false h2
                have BAD := hid (show ¬ pgR m.o m.n (m.pg a) from fun h => h2 h.2.2.1)
                clear h0 h1 h2
                go_wp2_with fail
                refine (in_any _ _ _ _).mono ?_
                rintro e w9 ⟨rfl, hw9⟩
                rw [hw9]
                clear hw9
                go_wp2_with fail
                refine (in_any _ _ _ _).mono ?_
                rintro e w9 ⟨rfl, hw9⟩
                rw [hw9]
                clear hw9
                go_wp2_with fail
                refine (in_any _ _ _ _).mono ?_
                rintro e w9 ⟨rfl, hw9⟩
                rw [hw9]
                clear hw9
                go_wp2_with fail
                refine ⟨rfl, .tuple #[rv m.o (some G) m.n m.n (.slice qa2 m.o qc2), .bool false], ?_, _, false, rfl, ⟨_, _, _, rfl⟩, setM_kept D1.out.kp _ (Nat.le_refl _) _ _ _, fun _ hg => BAD.out (hg.2 a hlt2), fun h => by cases h⟩
                generalize wr.alloc (pobj (m.pg a)) = W1 at *
                simp [results, Try.results26, go_sem, y0, y1, y2, adr]
            · have hb1 : decide (0 ≤ (m.pg a).od ∧ (m.pg a).od ≤ (m.o : Int)) = false := decide_eq_false h1
              have BAD := hid (show ¬ pgR m.o m.n (m.pg a) from fun h => h1 h.2.1)
              clear h0 h1
              go_wp2_with fail
              refine (in_any _ _ _ _).mono ?_
              rintro e w9 ⟨rfl, hw9⟩
              rw [hw9]
              clear hw9
              go_wp2_with fail
              refine (in_any _ _ _ _).mono ?_
              rintro e w9 ⟨rfl, hw9⟩
              rw [hw9]
              clear hw9
              go_wp2_with fail
              refine ⟨rfl, .tuple #[rv m.o (some G) m.n m.n (.slice qa2 m.o qc2), .bool false], ?_, _, false, rfl, ⟨_, _, _, rfl⟩, setM_kept D1.out.kp _ (Nat.le_refl _) _ _ _, fun _ hg => BAD.out (hg.2 a hlt2), fun h => by cases h⟩
              generalize wr.alloc (pobj (m.pg a)) = W1 at *
              simp [results, Try.results26, go_sem, y0, y1, y2, adr]
          · have hb0 : decide (0 ≤ (m.pg a).kd ∧ (m.pg a).kd ≤ 4) = false := decide_eq_false h0
            have BAD := hid (show ¬ pgR m.o m.n (m.pg a) from fun h => h0 h.1)
            clear h0
            go_wp2_with fail
            refine (in_any _ _ _ _).mono ?_
            rintro e w9 ⟨rfl, hw9⟩
            rw [hw9]
            clear hw9
            go_wp2_with fail
            refine ⟨rfl, .tuple #[rv m.o (some G) m.n m.n (.slice qa2 m.o qc2), .bool false], ?_, _, false, rfl, ⟨_, _, _, rfl⟩, setM_kept D1.out.kp _ (Nat.le_refl _) _ _ _, fun _ hg => BAD.out (hg.2 a hlt2), fun h => by cases h⟩
            generalize wr.alloc (pobj (m.pg a)) = W1 at *
            simp [results, Try.results26, go_sem, y0, y1, y2, adr]
        · have hai : ¬ (a : Int) < (m.n : Int) := by omega
          have han : a = m.n := by omega
          subst han
          obtain ⟨c0, c1, c2⟩ := box3 hI.out.1.xb
          obtain ⟨y0, y1, y2⟩ := boxZ hI.out.1.yb
          have fz : ∀ j, wr.frozen? ⟨w.heap.size, j, none⟩ = false := fun j => by simp [World.frozen?, hI.out.1.yb]
          have FIN := hid (show ∀ u0 u1 u2, RefAt (setM wr w.heap.size u0 u1 u2) (some G) m.n (.slice qa2 m.o qc2) R' m from fun u0 u1 u2 => (hI.out.1.rf.kept (setM_only wr w.heap.size u0 u1 u2) (fun x hx e => by
            have h1 := hI.out.1.nw x hx
            have h2 := hI.out.1.hX
            have e : x = w.heap.size := e
            omega)).congr (pg' := m.pg) (wd' := m.wd) (fun _ _ => rfl) (fun k hk i hi => by
              have hk : k < m.o := hk
              show bit (wdK m.wd m.o k) i = _
              simp [wdK, hk]))
          go_wp2_with fail
          exact ⟨rfl, .tuple #[rv m.o (some G) m.n m.n (.slice qa2 m.o qc2), .bool true], by simp [results, Try.results26, go_sem, y0, y1, y2, adr], _, true, rfl, ⟨_, _, _, rfl⟩, setM_kept hI.out.1.kp _ (Nat.le_refl _) _ _ _, (fun h => by cases h), fun _ => ⟨RW.out, hI.out.2, G, _, R', rfl, FIN.out _ _ _, fun x hx => by have h1 := hI.out.1.nw x hx; have h2 := hI.out.1.hX; omega⟩⟩
set_option maxRecDepth 6000 in
set_option maxHeartbeats 4000000 in
theorem open_ref_nums (od : Int) (n no : Nat) (pa qa : Option Addr) (pc qc : Nat) (hn : n ≤ 9223372036854775807) (hno : no ≤ 9223372036854775807) (h : ¬ numsOk od n no) (w : World) :
    Calls Try.prog 26 #[.int .i64 od, .slice pa n pc, .slice qa no qc] w fun e w' => ∃ o' qa' qc', e = .returned (.tuple #[rv o' none 0 0 (.slice qa' o' qc'), .bool false]) ∧ Kept none' w w' := by
  have NR := hid (fun W => New_ref od W)
  have hoo : (od < 0 ∧ ordN od = 0) ∨ (8 < od ∧ ordN od = 8) ∨ (¬ od < 0 ∧ ¬ 8 < od ∧ (ordN od : Int) = od) := by
    unfold ordN
    split
    · exact .inl ⟨by omega, rfl⟩
    · split
      · exact .inr (.inl ⟨by omega, rfl⟩)
      · exact .inr (.inr ⟨by omega, by omega, by omega⟩)
  obtain ⟨o, ho⟩ : ∃ o, o = ordN od := ⟨_, rfl⟩
  rw [← ho] at hoo NR
  have K0 := hid ((Kept.refl none' w).alloc roZ)
  have Y0 := hid (heap_new w roZ)
  have hc : ¬ od = (o : Int) ∨ (od = (o : Int) ∧ 1024 < (n : Int)) ∨ (od = (o : Int) ∧ ¬ 1024 < (n : Int) ∧ ¬ ((n % 2 ^ o : Nat) : Int) = 0) ∨ (od = (o : Int) ∧ ¬ 1024 < (n : Int) ∧ ((n % 2 ^ o : Nat) : Int) = 0 ∧ ¬ (no : Int) = od) := by
    by_cases e1 : od = (o : Int)
    · by_cases e2 : 1024 < (n : Int)
      · exact .inr (.inl ⟨e1, e2⟩)
      · by_cases e3 : n % 2 ^ o = 0
        · refine .inr (.inr (.inr ⟨e1, e2, by omega, fun e4 => h ⟨by omega, by omega, by omega, ?_, e4⟩⟩))
          rw [e1, Int.toNat_natCast]
          exact e3
        · exact .inr (.inr (.inl ⟨e1, e2, by omega⟩))
    · exact .inl e1
  have ho8 : o ≤ 8 := by omega
  clear ho h hoo
  rcases hc with h1 | ⟨h1, h2⟩ | ⟨h1, h2, h3⟩ | ⟨h1, h2, h3, h4⟩
  · go_enter Try.func26, Try.ntmps26
    go_wp2_with fail
    refine (NR.out _).mono ?_
    rintro e w1 ⟨q, rfl, R, hA⟩
    obtain ⟨qa', qc', hq⟩ := hA.ref.val
    replace hq : q = .slice qa' o qc' := hq
    subst hq
    have K1 := hid (none_trans K0.out hA.kp)
    have Y1 := hid ((hA.kp.block _ (heap_lt Y0.out) (fun x => x)).trans Y0.out)
    have ka := (Kept.refl none' w1).alloc (ro o none 0 0 (.slice qa' o qc'))
    have K2 := hid (none_trans K1.out ka)
    have Y2 := hid ((ka.block _ (heap_lt Y1.out) (fun x => x)).trans Y1.out)
    have T2 := hid (heap_new w1 (ro o none 0 0 (.slice qa' o qc')))
    clear hA ka K0 Y0 K1 Y1 NR
    obtain ⟨t0, t1, t2⟩ := box3 T2.out
    obtain ⟨y0, y1, y2⟩ := boxZ Y2.out
    have fz : ∀ j, (w1.alloc (ro o none 0 0 (.slice qa' o qc'))).frozen? ⟨w.heap.size, j, none⟩ = false := fun j => by simp [World.frozen?, Y2.out]
    go_wp2_with fail
    refine ⟨rfl, .tuple #[rv o none 0 0 (.slice qa' o qc'), .bool false], ?_, _, _, _, rfl, setM_kept K2.out _ (by omega) _ _ _⟩
    generalize w1.alloc (ro o none 0 0 (.slice qa' o qc')) = W1 at *
    simp [results, Try.results26, go_sem, y0, y1, y2, adr]
  · subst h1
    go_enter Try.func26, Try.ntmps26
    go_wp2_with fail
    refine (NR.out _).mono ?_
    rintro e w1 ⟨q, rfl, R, hA⟩
    obtain ⟨qa', qc', hq⟩ := hA.ref.val
    replace hq : q = .slice qa' o qc' := hq
    subst hq
    have K1 := hid (none_trans K0.out hA.kp)
    have Y1 := hid ((hA.kp.block _ (heap_lt Y0.out) (fun x => x)).trans Y0.out)
    have ka := (Kept.refl none' w1).alloc (ro o none 0 0 (.slice qa' o qc'))
    have K2 := hid (none_trans K1.out ka)
    have Y2 := hid ((ka.block _ (heap_lt Y1.out) (fun x => x)).trans Y1.out)
    have T2 := hid (heap_new w1 (ro o none 0 0 (.slice qa' o qc')))
    clear hA ka K0 Y0 K1 Y1 NR
    obtain ⟨t0, t1, t2⟩ := box3 T2.out
    obtain ⟨y0, y1, y2⟩ := boxZ Y2.out
    have fz : ∀ j, (w1.alloc (ro o none 0 0 (.slice qa' o qc'))).frozen? ⟨w.heap.size, j, none⟩ = false := fun j => by simp [World.frozen?, Y2.out]
    go_wp2_with fail
    refine ⟨rfl, .tuple #[rv o none 0 0 (.slice qa' o qc'), .bool false], ?_, _, _, _, rfl, setM_kept K2.out _ (by omega) _ _ _⟩
    generalize w1.alloc (ro o none 0 0 (.slice qa' o qc')) = W1 at *
    simp [results, Try.results26, go_sem, y0, y1, y2, adr]
  · subst h1
    obtain ⟨z, hz⟩ : ∃ z, z = 2 ^ o := ⟨_, rfl⟩
    have PW := hid (show ∀ W, Calls Try.prog 49 #[.int .i64 (o : Int)] W fun e w' => e = .returned (.int .i64 (z : Int)) ∧ w' = W from fun W => by rw [hz]; exact power_any o (by omega) W)
    obtain ⟨r, hr⟩ : ∃ r, r = n % z := ⟨_, rfl⟩
    have hri : (n : Int) % (z : Int) = (r : Int) := by rw [hr]; simp
    rw [← hz, ← hr] at h3
    have hz1 : 1 ≤ z := by rw [hz]; exact Nat.pow_pos (by decide)
    have hz0 : ¬ (z : Int) = 0 := by omega
    clear hz hr
    go_enter Try.func26, Try.ntmps26
    go_wp2_with fail
    refine (NR.out _).mono ?_
    rintro e w1 ⟨q, rfl, R, hA⟩
    obtain ⟨qa', qc', hq⟩ := hA.ref.val
    replace hq : q = .slice qa' o qc' := hq
    subst hq
    have K1 := hid (none_trans K0.out hA.kp)
    have Y1 := hid ((hA.kp.block _ (heap_lt Y0.out) (fun x => x)).trans Y0.out)
    have ka := (Kept.refl none' w1).alloc (ro o none 0 0 (.slice qa' o qc'))
    have K2 := hid (none_trans K1.out ka)
    have Y2 := hid ((ka.block _ (heap_lt Y1.out) (fun x => x)).trans Y1.out)
    have T2 := hid (heap_new w1 (ro o none 0 0 (.slice qa' o qc')))
    clear hA ka K0 Y0 K1 Y1 NR
    obtain ⟨t0, t1, t2⟩ := box3 T2.out
    obtain ⟨y0, y1, y2⟩ := boxZ Y2.out
    have fz : ∀ j, (w1.alloc (ro o none 0 0 (.slice qa' o qc'))).frozen? ⟨w.heap.size, j, none⟩ = false := fun j => by simp [World.frozen?, Y2.out]
    go_wp2_with fail
    refine (PW.out _).mono ?_
    rintro e w3 ⟨rfl, hw3⟩
    rw [hw3]
    clear hw3
    go_wp2_with fail
    refine ⟨rfl, .tuple #[rv o none 0 0 (.slice qa' o qc'), .bool false], ?_, _, _, _, rfl, setM_kept K2.out _ (by omega) _ _ _⟩
    generalize w1.alloc (ro o none 0 0 (.slice qa' o qc')) = W1 at *
    simp [results, Try.results26, go_sem, y0, y1, y2, adr]
  · subst h1
    have hb2 : decide (1024 < (n : Int)) = false := decide_eq_false h2
    have hb4 : ((no : Int) != (o : Int)) = true := by simpa using h4
    obtain ⟨z, hz⟩ : ∃ z, z = 2 ^ o := ⟨_, rfl⟩
    have PW := hid (show ∀ W, Calls Try.prog 49 #[.int .i64 (o : Int)] W fun e w' => e = .returned (.int .i64 (z : Int)) ∧ w' = W from fun W => by rw [hz]; exact power_any o (by omega) W)
    obtain ⟨r, hr⟩ : ∃ r, r = n % z := ⟨_, rfl⟩
    have hri : (n : Int) % (z : Int) = (r : Int) := by rw [hr]; simp
    rw [← hz, ← hr] at h3
    have hz1 : 1 ≤ z := by rw [hz]; exact Nat.pow_pos (by decide)
    have hz0 : ¬ (z : Int) = 0 := by omega
    clear hz hr
    go_enter Try.func26, Try.ntmps26
    go_wp2_with fail
    refine (NR.out _).mono ?_
    rintro e w1 ⟨q, rfl, R, hA⟩
    obtain ⟨qa', qc', hq⟩ := hA.ref.val
    replace hq : q = .slice qa' o qc' := hq
    subst hq
    have K1 := hid (none_trans K0.out hA.kp)
    have Y1 := hid ((hA.kp.block _ (heap_lt Y0.out) (fun x => x)).trans Y0.out)
    have ka := (Kept.refl none' w1).alloc (ro o none 0 0 (.slice qa' o qc'))
    have K2 := hid (none_trans K1.out ka)
    have Y2 := hid ((ka.block _ (heap_lt Y1.out) (fun x => x)).trans Y1.out)
    have T2 := hid (heap_new w1 (ro o none 0 0 (.slice qa' o qc')))
    clear hA ka K0 Y0 K1 Y1 NR
    obtain ⟨t0, t1, t2⟩ := box3 T2.out
    obtain ⟨y0, y1, y2⟩ := boxZ Y2.out
    have fz : ∀ j, (w1.alloc (ro o none 0 0 (.slice qa' o qc'))).frozen? ⟨w.heap.size, j, none⟩ = false := fun j => by simp [World.frozen?, Y2.out]
    go_wp2_with fail
    refine (PW.out _).mono ?_
    rintro e w3 ⟨rfl, hw3⟩
    rw [hw3]
    clear hw3
    go_wp2_with fail
    refine ⟨rfl, .tuple #[rv o none 0 0 (.slice qa' o qc'), .bool false], ?_, _, _, _, rfl, setM_kept K2.out _ (by omega) _ _ _⟩
    generalize w1.alloc (ro o none 0 0 (.slice qa' o qc')) = W1 at *
    simp [results, Try.results26, go_sem, y0, y1, y2, adr]
theorem least_ofO {P : Nat → Prop} : ∀ n, (∃ i, i < n ∧ P i) → ∃ a, a < n ∧ P a ∧ ∀ i, i < a → ¬ P i
  | 0, ⟨i, h, _⟩ => absurd h (Nat.not_lt_zero i)
  | n + 1, ⟨i, h, hp⟩ => by
    by_cases e : ∃ i, i < n ∧ P i
    · obtain ⟨a, h1, h2, h3⟩ := least_ofO n e
      exact ⟨a, by omega, h2, h3⟩
    · have : i = n := by
        rcases Nat.lt_or_ge i n with q | q
        · exact absurd ⟨i, q, hp⟩ e
        · omega
      subst this
      exact ⟨i, h, hp, fun j hj hq => e ⟨j, hj, hq⟩⟩
theorem clampI_in {x lo hi : Int} (h : lo ≤ x ∧ x ≤ hi) : clampI x lo hi = x := by unfold clampI; omega
theorem clampI_eq {x lo hi : Int} (hl : lo ≤ hi) (h : x = clampI x lo hi) : lo ≤ x ∧ x ≤ hi := by unfold clampI at h; omega
theorem clampP_in {m : Mp} {p : Pg} (h : pgR m.o m.n p) : clampP m p = p := by
  obtain ⟨h0, h1, h2, h3, h4, h5, h6⟩ := h
  unfold clampP
  rw [clampI_in h0, clampI_in h1, clampI_in h2, clampI_in h3, clampI_in h4, clampI_in h5, clampI_in h6]
theorem pg_ok {o n : Nat} {p : Pg} (h : pgR o n p) (ho : o ≤ 8) (hi : PgIn p) : PgOk p := by
  obtain ⟨h0, h1, h2, h3, h4, h5, h6⟩ := h
  exact ⟨h1.1, by omega, h2.1, h2.2, hi.b0, hi.b1, hi.b2, hi.b3⟩
/-- What there is a map of. -/
def good (od : Int) (n no : Nat) (pg : Nat → Pg) (zs : Nat → List Nat) : Prop := numsOk od n no ∧ rowsR ⟨od.toNat, n, pg, zs⟩ ∧ ∀ i, i < n → pgR od.toNat n (pg i)
theorem numsOk.dv {od : Int} {n no : Nat} (h : numsOk od n no) : ∃ o : Nat, od = (o : Int) ∧ o ≤ 8 ∧ n ≤ 1024 ∧ no = o ∧ ∃ r, n = r * 2 ^ o := by
  obtain ⟨h1, h2, h3, h4, h5⟩ := h
  obtain ⟨o, rfl⟩ := Int.eq_ofNat_of_zero_le h1
  rw [Int.toNat_natCast] at h4
  exact ⟨o, rfl, by omega, h3, by omega, n / 2 ^ o, by have := Nat.div_add_mod n (2 ^ o); rw [h4, Nat.add_zero, Nat.mul_comm] at this; exact this.symm⟩
theorem OpenRef_any (od : Int) (n no : Nat) (pv qv : Value) (pg : Nat → Pg) (ws : Nat → Value) (zs : Nat → List Nat) (w : World) (hP : PagesIn w pv n pg) (hQ : PairsIn w qv no ws zs) :
    Calls Try.prog 26 #[.int .i64 od, pv, qv] w fun e w' => ∃ v ok, e = .returned (.tuple #[v, .bool ok]) ∧ (∃ o' n' cp' g qa qc, v = rv o' g n' cp' (.slice qa o' qc)) ∧ Kept none' w w' ∧ (ok = false → ¬ good od n no pg zs) ∧ (ok = true → good od n no pg zs ∧ ∃ G q R, v = rv od.toNat (some G) n n q ∧ RefAt w' (some G) n q R ⟨od.toNat, n, pg, zs⟩ ∧ ∀ x, rown (some G) q R od.toNat x → w.heap.size ≤ x) := by
  by_cases hN : numsOk od n no
  · obtain ⟨o, rfl, ho, hn, rfl, hd⟩ := hN.dv
    have := open_ref pv qv ws ⟨no, n, pg, zs⟩ ho hn hd w hP hQ
    refine this.mono ?_
    rintro e w' ⟨v, ok, rfl, ⟨g1, qa1, qc1, hv1⟩, hk, h1, h2⟩
    simp only [Int.toNat_natCast]
    refine ⟨v, ok, rfl, ⟨_, _, _, _, _, _, hv1⟩, hk, fun h g => h1 h ⟨?_, fun i hi => ?_⟩, fun h => ?_⟩
    · have := g.2.1; rw [Int.toNat_natCast] at this; exact this
    · have := g.2.2 i hi; rw [Int.toNat_natCast] at this; exact this
    · obtain ⟨a1, a2, a3⟩ := h2 h
      refine ⟨⟨hN, by rw [Int.toNat_natCast]; exact a1, fun i hi => by rw [Int.toNat_natCast]; exact a2 i hi⟩, a3⟩
  · obtain ⟨hn, oa, oc, rfl, _⟩ := hP
    obtain ⟨hno, oq, ocq, rfl, _⟩ := hQ
    refine (open_ref_nums od n no oa oq oc ocq hn hno hN w).mono ?_
    rintro e w' ⟨o1, qa1, qc1, rfl, hk⟩
    exact ⟨_, false, rfl, ⟨_, _, _, _, _, _, rfl⟩, hk, fun _ g => hN g.1, fun h => by cases h⟩
theorem clamp_ways {m : Mp} {p : Pg} (h : ¬ pgR m.o m.n p) : ∃ c0 c1 c2 c3 c4 c5 c6, clampP m p = { p with kd := c0, od := c1, cl := c2, lv := c3, nx := c4, pv := c5, fs := c6 } ∧ ((¬ p.kd = c0) ∨ (p.kd = c0 ∧ ¬ p.od = c1) ∨ (p.kd = c0 ∧ p.od = c1 ∧ ¬ p.cl = c2) ∨ (p.kd = c0 ∧ p.od = c1 ∧ p.cl = c2 ∧ ¬ p.lv = c3) ∨ (p.kd = c0 ∧ p.od = c1 ∧ p.cl = c2 ∧ p.lv = c3 ∧ ¬ p.nx = c4) ∨ (p.kd = c0 ∧ p.od = c1 ∧ p.cl = c2 ∧ p.lv = c3 ∧ p.nx = c4 ∧ ¬ p.pv = c5) ∨ (p.kd = c0 ∧ p.od = c1 ∧ p.cl = c2 ∧ p.lv = c3 ∧ p.nx = c4 ∧ p.pv = c5 ∧ ¬ p.fs = c6)) := by
  refine ⟨_, _, _, _, _, _, _, rfl, ?_⟩
  by_cases e0 : p.kd = clampI p.kd 0 4
  · by_cases e1 : p.od = clampI p.od 0 m.o
    · by_cases e2 : p.cl = clampI p.cl 0 7
      · by_cases e3 : p.lv = clampI p.lv 0 256
        · by_cases e4 : p.nx = clampI p.nx (-1) ((m.n : Int) - 1)
          · by_cases e5 : p.pv = clampI p.pv (-1) ((m.n : Int) - 1)
            · by_cases e6 : p.fs = clampI p.fs (-1) 255
              · exact absurd ⟨clampI_eq (by omega) e0, clampI_eq (by omega) e1, clampI_eq (by omega) e2, clampI_eq (by omega) e3, clampI_eq (by omega) e4, clampI_eq (by omega) e5, clampI_eq (by omega) e6⟩ h
              · exact .inr (.inr (.inr (.inr (.inr (.inr ⟨e0, e1, e2, e3, e4, e5, e6⟩)))))
            · exact .inr (.inr (.inr (.inr (.inr (.inl ⟨e0, e1, e2, e3, e4, e5⟩)))))
          · exact .inr (.inr (.inr (.inr (.inl ⟨e0, e1, e2, e3, e4⟩))))
        · exact .inr (.inr (.inr (.inl ⟨e0, e1, e2, e3⟩)))
      · exact .inr (.inr (.inl ⟨e0, e1, e2⟩))
    · exact .inr (.inl ⟨e0, e1⟩)
  · exact .inl e0
theorem OpenMap_no (od : Int) (n no : Nat) (pv qv : Value) (pg : Nat → Pg) (ws : Nat → Value) (zs : Nat → List Nat) (w : World) (hP : PagesIn w pv n pg) (hQ : PairsIn w qv no ws zs) (hg : ¬ good od n no pg zs) :
    Calls Try.prog 22 #[.int .i64 od, pv, qv] w fun e w' => e = .returned (.tuple #[.pointer none, .int .i64 7]) ∧ Kept none' w w' := by
  by_cases hN : numsOk od n no
  · obtain ⟨o, rfl, ho, hn, rfl, hd⟩ := hN.dv
    by_cases hb : ∃ i, i < n ∧ ¬ pgR no n (pg i)
    · obtain ⟨a, ha, hbad, hall⟩ := least_ofO n hb
      have hq2 := hQ
      obtain ⟨_, oq, ocq, rfl, _⟩ := hq2
      have hP2 := hP
      obtain ⟨_, oa, oc, _, hP3⟩ := hP2
      refine open_bad pv _ ⟨no, n, pg, zs⟩ oq ocq rfl ho hn hd w hP a ha (fun i hi => ?_) (clamp_ways hbad)
      have hr : pgR no n (pg i) := Classical.not_not.1 (hall i hi)
      rcases hP3 with h0 | ⟨bl, o, _, _, hc⟩
      · omega
      · exact ⟨clampP_in (m := ⟨no, n, pg, zs⟩) hr, pg_ok hr ho (hc i (by omega)).1⟩
    · have hall : ∀ i, i < n → pgR no n (pg i) := fun i hi => Classical.not_not.1 (fun e => hb ⟨i, hi, e⟩)
      have hr : ∃ k, k < no ∧ ¬ (zs k).length = (n / 2 ^ (k + 1) + 63) / 64 := Classical.not_not.1 (fun e => hg ⟨hN, by
        rw [Int.toNat_natCast]
        intro k hk
        exact Classical.not_not.1 (fun e2 => e ⟨k, hk, e2⟩), by rw [Int.toNat_natCast]; exact hall⟩)
      obtain ⟨t, ht, hbad, hrow⟩ := least_ofO no hr
      have hP2 := hP
      obtain ⟨_, oa, oc, _, hP3⟩ := hP2
      refine open_row pv qv ws ⟨no, n, pg, zs⟩ ho hn hd w hP hQ (fun i hi => ?_) t ht (fun k hk => Classical.not_not.1 (hrow k hk)) hbad
      rcases hP3 with h0 | ⟨bl, o, _, _, hc⟩
      · have hi : i < n := hi
        omega
      · exact ⟨clampP_in (m := ⟨no, n, pg, zs⟩) (hall i hi), pg_ok (hall i hi) ho (hc i hi).1⟩
  · obtain ⟨hn, oa, oc, rfl, _⟩ := hP
    obtain ⟨hno, oq, ocq, rfl, _⟩ := hQ
    exact open_nums od n no oa oq oc ocq hn hno hN w
theorem OpenMap_yes (od : Int) (n no : Nat) (pv qv : Value) (pg : Nat → Pg) (ws : Nat → Value) (zs : Nat → List Nat) (w : World) (hP : PagesIn w pv n pg) (hQ : PairsIn w qv no ws zs) (hg : good od n no pg zs) :
    Calls Try.prog 22 #[.int .i64 od, pv, qv] w fun e w' => ∃ b, e = .returned (.tuple #[.pointer (some ⟨b, 0, none⟩), .int .i64 0]) ∧ Hid (∃ B m', MapAt w' b B m' ∧ m'.o = od.toNat ∧ m'.n = n ∧ m'.pg = pg ∧ (∀ k, k < od.toNat → ∀ i, i < ln n k → bit (zs k) i = bit (m'.wd k) i) ∧ (∀ x, mown b B m'.o x → w.heap.size ≤ x) ∧ Kept none' w w') := by
  obtain ⟨hN, h1, h2⟩ := hg
  obtain ⟨o, rfl, ho, hn, rfl, hd⟩ := hN.dv
  rw [Int.toNat_natCast] at h1 h2
  have hP2 := hP
  obtain ⟨_, oa, oc, _, hP3⟩ := hP2
  have hQ2 := hQ
  obtain ⟨_, oq, ocq, _, hQ3⟩ := hQ2
  refine (open_in pv qv ws ⟨no, n, pg, zs⟩ ho hn hd w hP hQ (fun i hi => ?_) h1).mono ?_
  · rcases hP3 with h0 | ⟨bl, o, _, _, hc⟩
    · have hi : i < n := hi
      omega
    · exact ⟨clampP_in (m := ⟨no, n, pg, zs⟩) (h2 i hi), pg_ok (h2 i hi) ho (hc i hi).1⟩
  · rintro e w' ⟨b, rfl, hH⟩
    refine ⟨b, rfl, ?_⟩
    obtain ⟨B, hM, hnew, hk⟩ := hH.out
    refine ⟨B, _, hM, by simp, rfl, rfl, fun k hk i hi => ?_, hnew, hk⟩
    rw [Int.toNat_natCast] at hk
    show bit (zs k) i = bit (if k < no then ofW (zs k) (n / 2 ^ (k + 1)) else _) i
    rw [if_pos hk]
    refine (bit_ofW (zs k) _ i ?_ hi).symm
    rcases hQ3 with h0 | ⟨bl, f, _, _, hc⟩
    · omega
    · exact (hc k hk).2.1
theorem PagesIn.keep {w w' : World} {v : Value} {n : Nat} {pg : Nat → Pg} (h : PagesIn w v n pg) (k : Kept none' w w') : PagesIn w' v n pg := by
  obtain ⟨h1, oa, oc, rfl, h2⟩ := h
  exact ⟨h1, oa, oc, rfl, h2.imp (fun x => x) (fun ⟨bl, o, e1, e2, e3⟩ => ⟨bl, o, e1, Nat.lt_of_lt_of_le e2 k.size, fun i hi => ⟨(e3 i hi).1, (e3 i hi).2.kept k⟩⟩)⟩
theorem PairsIn.keep {w w' : World} {v : Value} {n : Nat} {ws : Nat → Value} {zs : Nat → List Nat} (h : PairsIn w v n ws zs) (k : Kept none' w w') : PairsIn w' v n ws zs := by
  obtain ⟨h1, oa, oc, rfl, h2⟩ := h
  exact ⟨h1, oa, oc, rfl, h2.imp (fun x => x) (fun ⟨bl, o, e1, e2, e3⟩ => ⟨bl, o, e1, Nat.lt_of_lt_of_le e2 k.size, fun i hi => ⟨k.cell (fun x => x) (e3 i hi).1, (e3 i hi).2.kept k (fun _ _ x => x)⟩⟩)⟩
set_option maxRecDepth 6000 in
set_option maxHeartbeats 4000000 in
theorem opens_any (od : Int) (n no k : Nat) (pv qv sv : Value) (pg : Nat → Pg) (ws : Nat → Value) (zs : Nat → List Nat) (w : World) (hP : PagesIn w pv n pg) (hQ : PairsIn w qv no ws zs) (hS : OpsIn w sv k) :
    Calls Try.prog 5 #[.int .i64 od, pv, qv, sv] w fun e w' => e = .returned (.bool true) ∧ Kept none' w w' := by
  have HP := hid hP
  have HQ := hid hQ
  have HS := hid hS
  clear hP hQ hS
  go_enter Try.func5, Try.ntmps5
  go_wp2_with fail
  refine (awake_any _).mono ?_
  rintro e w1 ⟨rfl, hK⟩
  have K1 := hid hK
  clear hK
  go_wp2_with fail
  refine (OpenRef_any od n no pv qv pg ws zs _ (HP.out.keep K1.out) (HQ.out.keep K1.out)).mono ?_
  rintro e w2 ⟨v, ok, rfl, ⟨o1, n1, cp1, g1, qa1, qc1, hv⟩, hk2, hno, hyes⟩
  have K2 := hid (none_trans K1.out hk2)
  have HN := hid hno
  cases ok with
  | false =>
    have HG := hid (hno rfl)
    subst hv
    clear hk2 hno hyes HN
    have KA := hid (none_trans K2.out ((Kept.refl none' w2).alloc (ro o1 g1 n1 cp1 (.slice qa1 o1 qc1))))
    go_wp2_with fail
    generalize w2.alloc (ro o1 g1 n1 cp1 (.slice qa1 o1 qc1)) = W2 at *
    refine (OpenMap_no od n no pv qv pg ws zs _ (HP.out.keep KA.out) (HQ.out.keep KA.out) HG.out).mono ?_
    rintro e w3 ⟨rfl, hk3⟩
    have K3 := hid (none_trans KA.out hk3)
    clear hk3
    go_wp2_with fail
    go_ret
    exact ⟨rfl, K3.out⟩
  | true =>
    obtain ⟨hg, G, q, R, hv2, hr, hnew⟩ := hyes rfl
    obtain ⟨o, ho⟩ : ∃ o, o = od.toNat := ⟨_, rfl⟩
    rw [← ho] at hv2 hr hnew
    subst hv2
    have HO := hid ho
    clear ho
    have HG := hid hg
    have HR := hid hr
    have HW := hid (show ∀ x, rown (some G) q R o x → w.heap.size ≤ x from fun x hx => Nat.le_trans K1.out.size (hnew x hx))
    obtain ⟨qa, qc, hq⟩ := hr.val
    replace hq : q = .slice qa o qc := hq
    subst hq
    clear hk2 hno HN hg hr hnew hv hyes
    have KA := hid (none_trans K2.out ((Kept.refl none' w2).alloc (ro o (some G) n n (.slice qa o qc))))
    have RA := hid (HR.out.keep ((Kept.refl none' w2).alloc (ro o (some G) n n (.slice qa o qc))))
    have XA := hid (heap_new w2 (ro o (some G) n n (.slice qa o qc)))
    go_wp2_with fail
    generalize w2.alloc (ro o (some G) n n (.slice qa o qc)) = W2 at *
    refine (OpenMap_yes od n no pv qv pg ws zs _ (HP.out.keep KA.out) (HQ.out.keep KA.out) HG.out).mono ?_
    rintro e w3 ⟨b, rfl, hH⟩
    have PS := hid (show PRS (fun _ _ => False) w w3 b (rv o (some G) n n (.slice qa o qc)) from by
      obtain ⟨B, m', hM, ho, hn, hpg, hb, hnew, hk⟩ := hH.out
      rw [← HO.out] at ho hb
      have r3 := RA.out.keep hk
      refine ⟨m', B, some G, n, _, R, by rw [ho, hn], hM, ?_, fun x hx => Nat.le_trans KA.out.size (hnew x hx), fun x hx => HW.out x (ho ▸ hx), fun x hx hy => ?_, none_trans KA.out hk, fun X o e => e.elim⟩
      · have r4 := r3.congr (pg' := m'.pg) (wd' := m'.wd) (fun i hi => by rw [hpg]) hb
        have : (⟨o, n, m'.pg, m'.wd⟩ : Mp) = m' := by cases m'; simp_all
        rw [← this]
        exact r4
      · have h1 := hnew x hx
        rw [ho] at hy
        have h2 := RA.out.own_lt x hy
        omega)
    have X3 := hid (show w3.heap[w2.heap.size]? = some (ro o (some G) n n (.slice qa o qc)) from by
      obtain ⟨B, m', hM, ho, hn, hpg, hb, hnew, hk⟩ := hH.out
      exact (hk.block _ (heap_lt XA.out) (fun x => x)).trans XA.out)
    clear hH RA KA XA HR
    obtain ⟨c0, c1, c2⟩ := box3 X3.out
    go_wp2_with fail
    refine (through_any b _ sv k w _ HS.out PS.out).mono ?_
    rintro e w4 ⟨rfl, hK⟩
    have K4 := hid hK
    clear hK
    go_wp2_with fail
    go_ret
    exact ⟨rfl, K4.out⟩
end Go.Proofs.Ytbhheimedbfmeaa
