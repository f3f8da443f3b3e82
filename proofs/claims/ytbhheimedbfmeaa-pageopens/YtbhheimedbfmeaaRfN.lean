/- croftref4: Grow. croftref4: Grow, the walk. -/
import Derived.Test.YtbhheimedbfmeaaRfK
import Derived.Test.YtbhheimedbfmeaaKs
namespace Go.Proofs.Ytbhheimedbfmeaa
open Go.RowKit
set_option linter.unusedVariables false

/-- A list of cells is that of pages. -/
def PgL (xs : List Value) (n : Nat) (pg : Nat → Pg) : Prop := xs.length = n * 11 ∧ ∀ i, i < n → ∀ j, j < 11 → xs[i * 11 + j]? = some ((pg i).fld j)
theorem flds_get (p : Pg) : ∀ j, j < 11 → (flds p)[j]? = some (p.fld j) := by apply lt11 <;> rfl
theorem PgL.push {xs : List Value} {n : Nat} {pg : Nat → Pg} (h : PgL xs n pg) (p : Pg) : PgL (xs ++ flds p) (n + 1) (upp pg n p) := by
  refine ⟨by rw [List.length_append, h.1]; simp [flds]; omega, fun i hi j hj => ?_⟩
  unfold upp
  by_cases e : i = n
  · rw [if_pos e, e, List.getElem?_append_right (by rw [h.1]; omega), h.1, show n * 11 + j - n * 11 = j by omega]
    exact flds_get p j hj
  · rw [if_neg e, List.getElem?_append_left (by rw [h.1]; omega)]
    exact h.2 i (by omega) j hj
theorem PgL.row {W : World} {v : Value} {n cap g : Nat} {xs : List Value} {pg : Nat → Pg} (h : PgL xs n pg) (ho : W.ownsRow 0 30 11 v n xs) (hv : v = .slice (some ⟨g, 0, none⟩) n cap) (hc : cap = n) : Row W g n pg := by
  subst hv
  rcases ho.2 with ⟨e, _⟩ | ⟨g', cap', cur, e, hb, hg, hnc, hcm, hcs, htake⟩
  · simp at e
  · obtain ⟨rfl, rfl⟩ : g = g' ∧ cap = cap' := by simpa using e
    refine ⟨cur, hg, by rw [hcs, hc], fun i hi j hj => ?_⟩
    have h1 := h.2 i hi j hj
    rw [← htake, List.getElem?_take] at h1
    split at h1
    · rw [← Array.getElem?_toList, h1]
    · cases h1
theorem PgL.next {xs : List Value} {n : Nat} {pg : Nat → Pg} (h : PgL xs n pg) : PgL (xs ++ flds (pg n)) (n + 1) pg := by
  have h2 := h.push (pg n)
  refine ⟨h2.1, fun i hi j hj => (h2.2 i hi j hj).trans ?_⟩
  unfold upp
  by_cases e : i = n
  · rw [if_pos e, e]
  · rw [if_neg e]
theorem make_room (N : Nat) (hN : N ≤ 1024) (w : World) :
    ∃ w1, (Instr.makeSlice 39 (.int .i64 0) (.int .i64 (N : Int))).run Try.prog w = .ok (.slice (some ⟨w.heap.size, 0, none⟩) 0 N) w1 ∧ w1.ownsRow 0 30 11 (.slice (some ⟨w.heap.size, 0, none⟩) 0 N) 0 [] ∧ Kept none' w w1 ∧ w1.heap.size = w.heap.size + 1 := by
  obtain ⟨i, hi, hz, hs, hb⟩ := info_page_parts
  have hr := run_make (P := Try.prog) w 39 30 i (pval zeroP) Try.underlying39 hi hz .i64 .i64 0 (N : Int) (by omega) (by omega) (by rw [hb]; omega) (by omega)
  simp only [Int.toNat_natCast, Int.toNat_zero] at hr
  refine ⟨_, hr, ⟨rfl, .inr ⟨_, _, _, rfl, Nat.zero_le _, heap_new w _, Nat.zero_le _, by simp only [maxLen]; omega, by rw [size_madeCells, hs], by simp⟩⟩, (Kept.refl none' w).alloc _, by simp⟩
theorem push_room {W : World} {G n N : Nat} {xs : List Value} (h : W.ownsRow 0 30 11 (.slice (some ⟨G, 0, none⟩) n N) n xs) (p : Pg) (hn : n + 1 ≤ N) :
    ∃ w', (∀ ty, (Builtin.append_ #[39, 39] ty #[.slice (some ⟨G, 0, none⟩) n N, .slice (some ⟨W.heap.size, 0, none⟩) 1 1]).run Try.prog (W.alloc (.cells (flds p).toArray 30)) = .ok (.slice (some ⟨G, 0, none⟩) (n + 1) N) w') ∧ w'.ownsRow 0 30 11 (.slice (some ⟨G, 0, none⟩) (n + 1) N) (n + 1) (xs ++ flds p) ∧ Kept (fun x => x = G) W w' := by
  obtain ⟨i, hi, hz, hs, hb⟩ := info_page_parts
  have ka := (Kept.refl none' W).alloc (.cells (flds p).toArray 30)
  obtain ⟨w', h1, h2, h3⟩ := run_append_fits (P := Try.prog) (W.alloc (.cells (flds p).toArray 30)) 0 39 0 30 i 11 Try.underlying39 hi hs G n N xs (own_kept h ka (fun _ _ x => x)) ⟨W.heap.size, 0, none⟩ 1 1 (flds p) rfl (fun j u hj => cells_new (cs := (flds p).toArray) j u hj) (by simp [Value.oneCell', flds]) hn
  refine ⟨w', fun ty => ?_, h2, ka.trans (grown_kept' h3) (fun _ _ x => x.elim) (fun x _ e => by cases e; rfl)⟩
  rw [← h1]; simp [Builtin.append_]
theorem page_cells {w : World} {g N n : Nat} {pg : Nat → Pg} (h : Row w g N pg) (hn : n ≤ N) : ∃ xs : List Value, PgL xs n pg ∧ (∀ j u, xs[j]? = some u → w.cell? (Addr.add ⟨g, 0, none⟩ j) = some u) ∧ (∀ u ∈ xs, u.oneCell' = true) := by
  refine ⟨(List.range (n * 11)).map (fun j => (pg (j / 11)).fld (j % 11)), ⟨by simp, fun i hi j hj => ?_⟩, fun j u hj => ?_, fun u hu => ?_⟩
  · rw [List.getElem?_map, List.getElem?_range (by omega), Option.map_some, show (i * 11 + j) / 11 = i by omega, show (i * 11 + j) % 11 = j by omega]
  · obtain ⟨cs, hg, hs, hc⟩ := h
    rw [Addr.add_lit, Nat.zero_add]
    rw [List.getElem?_map] at hj
    by_cases e : j < n * 11
    · rw [List.getElem?_range e, Option.map_some] at hj
      have := hc (j / 11) (by omega) (j % 11) (Nat.mod_lt _ (by decide))
      rw [show j / 11 * 11 + j % 11 = j by omega] at this
      simp only [World.cell?, hg]
      rw [this]
      exact hj
    · rw [List.getElem?_eq_none (by simp; omega)] at hj
      cases hj
  · obtain ⟨j, _, rfl⟩ := List.mem_map.1 hu
    exact fld_one _ _
theorem append_all {W : World} {G N n cp : Nat} {g : Option Nat} {pg : Nat → Pg} (h : W.ownsRow 0 30 11 (.slice (some ⟨G, 0, none⟩) 0 N) 0 []) (hq : Rq W g n pg) (hn : n ≤ N) :
    ∃ w' xs, (∀ ty, (Builtin.append_ #[39, 39] ty #[.slice (some ⟨G, 0, none⟩) 0 N, .slice (adr g) n cp]).run Try.prog W = .ok (.slice (some ⟨G, 0, none⟩) n N) w') ∧ w'.ownsRow 0 30 11 (.slice (some ⟨G, 0, none⟩) n N) n xs ∧ PgL xs n pg ∧ Kept (fun x => x = G) W w' := by
  cases g with
  | none =>
    have h0 : n = 0 := hq
    subst h0
    refine ⟨W, [], fun ty => ?_, h, ⟨rfl, fun i hi => absurd hi (Nat.not_lt_zero i)⟩, Kept.refl _ _⟩
    obtain ⟨i, hi, hz, hs, hb⟩ := info_page_parts
    simp [Builtin.append_, run_underlying Try.underlying39, Builtin.lenOf, Builtin.firstCells, sizeOf, typeInfo, hi, adr]
    rfl
  | some q =>
    obtain ⟨M, pg', h1, h2, h3⟩ := hq
    obtain ⟨i, hi, hz, hs, hb⟩ := info_page_parts
    obtain ⟨xs, x1, x2, x3⟩ := page_cells h2 h1
    obtain ⟨w', r1, r2, r3⟩ := run_append_fits (P := Try.prog) W 0 39 0 30 i 11 Try.underlying39 hi hs G 0 N [] h ⟨q, 0, none⟩ n cp xs x1.1 x2 x3 (by omega)
    rw [Nat.zero_add] at r1 r2
    refine ⟨w', xs, fun ty => ?_, r2, ⟨x1.1, fun a ha b hb => by rw [← h3 a ha]; exact x1.2 a ha b hb⟩, (grown_kept' r3).mono (fun x _ e => by cases e; rfl)⟩
    rw [← r1]; simp [Builtin.append_, adr]
def growP (pg : Nat → Pg) (n o : Nat) : Nat → Pg := fun i => if i < n then pg i else if i = n then blankP 2 o else blankP 3 o
theorem grow_row (m : Mp) (hg : ¬ 1024 < m.n + 2 ^ m.o) (i : Nat) (hi : i < m.n + 2 ^ m.o) : growP m.pg m.n m.o i = (growM m).pg i := by
  unfold growM
  rw [if_neg hg]
  show _ = runP (resizeM m (m.n + 2 ^ m.o)).pg m.n m.o 2 i
  unfold growP runP resizeM
  by_cases h1 : i < m.n
  · rw [if_pos h1, if_neg (by omega), if_neg (by omega)]
    show m.pg i = if i < m.n then m.pg i else zeroP
    rw [if_pos h1]
  · rw [if_neg h1]
    by_cases h2 : i = m.n
    · rw [if_pos h2, if_pos h2]
    · rw [if_neg h2, if_neg h2, if_pos (by omega)]
      rfl
set_option maxRecDepth 4000 in
set_option maxHeartbeats 2000000 in
theorem grow_ref_yes (b : Nat) (B : Bs) (g : Option Nat) (cp : Nat) (q : Value) (R : Nat → Nat) (m : Mp) (w wM : World) (hM : MapAt wM b B m) (h : RefAt w g cp q R m) (hg : ¬ 1024 < m.n + 2 ^ m.o) :
    Calls Try.prog 57 #[rv m.o g m.n cp q] w fun e w' => ∃ G q', e = .returned (rv m.o (some G) (m.n + 2 ^ m.o) (m.n + 2 ^ m.o) q') ∧ w.heap.size ≤ G ∧ ∃ R', RAft w w' (some G) (some G) (m.n + 2 ^ m.o) q' R' (growM m) := by
  obtain ⟨qa, qc, rfl⟩ := h.val
  have TB := two_box w (ro m.o g m.n cp (.slice qa m.o qc)) roZ
  have ho8 := h.o8
  have hn1 := h.n1
  have GR := hid (grow_row m hg)
  have GM := hid (show growM m = ⟨m.o, m.n + 2 ^ m.o, (growM m).pg, (resizeM m (m.n + 2 ^ m.o)).wd⟩ by unfold growM; rw [if_neg hg]; rfl)
  obtain ⟨z, hz⟩ : ∃ z, z = 2 ^ m.o := ⟨_, rfl⟩
  have hz1 : 1 ≤ z := by rw [hz]; exact Nat.pow_pos (by decide)
  rw [← hz] at hg GR GM ⊢
  obtain ⟨N, hN⟩ : ∃ N, N = m.n + z := ⟨_, rfl⟩
  have hNi : (m.n : Int) + (z : Int) = (N : Int) := by omega
  rw [← hN] at hg GR GM ⊢
  have hNl : ¬ 1024 < (N : Int) := by omega
  have PW := hid (show ∀ W, Calls Try.prog 49 #[.int .i64 (m.o : Int)] W fun e w' => e = .returned (.int .i64 (z : Int)) ∧ w' = W from fun W => by rw [hz]; exact power_any m.o (by omega) W)
  have K0 := hid TB.1
  have X0 := hid TB.2.1
  have Y0 := hid TB.2.2
  have HR := hid h
  have HM := hid hM
  have HN := hid hN
  clear h hz TB hM hN
  go_enter Try.func57, Try.ntmps57
  go_wp2_with fail
  generalize (w.alloc (ro m.o g m.n cp (.slice qa m.o qc))).alloc roZ = W0 at *
  obtain ⟨c0, c1, c2⟩ := box3 X0.out
  refine (PW.out _).mono ?_
  rintro e w3 ⟨rfl, rfl⟩
  obtain ⟨w1, hmk, hO1, hk1, hs1⟩ := make_room N (by omega) w3
  obtain ⟨G, hG⟩ : ∃ G, G = w3.heap.size := ⟨_, rfl⟩
  rw [← hG] at hmk hO1
  have HG := hid (show w.heap.size + 2 ≤ G by rw [hG]; exact heap_lt Y0.out)
  have K1 := hid (none_trans K0.out hk1)
  have X1 := hid ((hk1.block _ (heap_lt X0.out) (fun x => x)).trans X0.out)
  have Y1 := hid ((hk1.block _ (heap_lt Y0.out) (fun x => x)).trans Y0.out)
  obtain ⟨w2, xs, hap, hO2, hP2, hk2⟩ := append_all (cp := cp) hO1 (HR.out.rq.kept K1.out (fun _ _ x => x)) (show m.n ≤ N by have := HN.out; omega)
  have HAP := hid hap
  have K2 := hid (show Kept none' w w2 from K1.out.trans hk2 (fun _ _ x => x) (fun x hx e => by have := HG.out; omega))
  have X2 := hid ((hk2.block _ (heap_lt X1.out) (by have := HG.out; omega)).trans X1.out)
  have Y2 := hid ((hk2.block _ (heap_lt Y1.out) (by have := HG.out; omega)).trans Y1.out)
  have S2 := hid (show ∃ xs, w2.ownsRow 0 30 11 (.slice (some ⟨G, 0, none⟩) m.n N) m.n xs ∧ PgL xs m.n (growP m.pg m.n m.o) from ⟨xs, hO2, hP2.1, fun i hi j hj => by rw [hP2.2 i hi j hj]; unfold growP; rw [if_pos hi]⟩)
  obtain ⟨d0, d1, d2⟩ := box3 X1.out
  clear hO1 hk1 hs1 hG hap hO2 hP2 hk2 K0 X0 Y0
  go_wp2_with (at_builtin; refine Lib.wpList_append_run _ rfl _ _ _ _ rfl (.slice (some ⟨G, 0, none⟩) 0 N) (.slice (adr g) m.n cp) rfl rfl _ _ (HAP.out _) ?_)
  clear hmk c0 c1 c2 d0 d1 d2
  go_loopw [4, 5] (fun l i W => ∃ a : Nat, a ≤ z ∧ i = .int .i64 a ∧ l = .slice (some ⟨G, 0, none⟩) (m.n + a) N ∧ Hid ((∃ xs, W.ownsRow 0 30 11 (.slice (some ⟨G, 0, none⟩) (m.n + a) N) (m.n + a) xs ∧ PgL xs (m.n + a) (growP m.pg m.n m.o)) ∧ Kept none' w W ∧ W.heap[w.heap.size]? = some (ro m.o g m.n cp (.slice qa m.o qc)) ∧ W.heap[w.heap.size + 1]? = some roZ)) (fun _ i _ => z - (intOf i).toNat)
  case atStart => exact ⟨0, by omega, rfl, rfl, ⟨S2.out, K2.out, X2.out, Y2.out⟩⟩
  case round =>
    clear S2 K2 X2 Y2 K1 X1 Y1 HAP
    obtain ⟨a, ha, rfl, rfl, hX⟩ := hrel
    obtain ⟨c0, c1, c2⟩ := box3 hX.out.2.2.1
    by_cases hlt : a < z
    · have hai : (a : Int) < (z : Int) := by omega
      have step : ∀ (W : World) (p : Pg), p = growP m.pg m.n m.o (m.n + a) → Kept none' wr W → ∃ w5, (∀ ty, (Builtin.append_ #[39, 39] ty #[.slice (some ⟨G, 0, none⟩) (m.n + a) N, .slice (some ⟨W.heap.size, 0, none⟩) 1 1]).run Try.prog (W.alloc (.cells (flds p).toArray 30)) = .ok (.slice (some ⟨G, 0, none⟩) (m.n + a + 1) N) w5) ∧ Hid ((∃ xs, w5.ownsRow 0 30 11 (.slice (some ⟨G, 0, none⟩) (m.n + (a + 1)) N) (m.n + (a + 1)) xs ∧ PgL xs (m.n + (a + 1)) (growP m.pg m.n m.o)) ∧ Kept none' w w5 ∧ w5.heap[w.heap.size]? = some (ro m.o g m.n cp (.slice qa m.o qc)) ∧ w5.heap[w.heap.size + 1]? = some roZ) := fun W p hp kW => by
        obtain ⟨⟨xs, h1, h2⟩, h3, h4, h5⟩ := hX.out
        obtain ⟨w5, r1, r2, r3⟩ := push_room (own_kept h1 kW (fun _ _ x => x)) p (by have := HN.out; omega)
        have hGG := HG.out
        refine ⟨w5, r1, ⟨⟨_, r2, by rw [hp]; exact h2.next⟩, (none_trans h3 kW).trans r3 (fun _ _ x => x) (fun x hx e => by omega), ?_, ?_⟩⟩
        · have := (kW.block _ (heap_lt h4) (fun x => x)).trans h4
          exact (r3.block _ (heap_lt this) (by omega)).trans this
        · have := (kW.block _ (heap_lt h5) (fun x => x)).trans h5
          exact (r3.block _ (heap_lt this) (by omega)).trans this
      have ST := hid step
      clear step
      by_cases ha0 : a = 0
      · have hai0 : (a : Int) = 0 := by omega
        subst ha0
        go_wp2_with fail
        refine (rpage_any 2 (m.o : Int) _).mono ?_
        rintro e w4 ⟨rfl, hK⟩
        obtain ⟨w5, hap, S5⟩ := ST.out w4 (blankP 2 m.o) (by unfold growP; rw [if_neg (by omega), if_pos (by omega)]) hK
        have HAP := hid hap
        clear hap hK ST
        go_wp2_with (at_builtin; refine Lib.wpList_append_run _ rfl _ _ _ _ rfl (.slice (some ⟨G, 0, none⟩) (m.n + 0) N) (.slice (some ⟨w4.heap.size, 0, none⟩) 1 1) rfl rfl _ _ (HAP.out _) ?_)
        exact ⟨⟨1, by omega, rfl, rfl, S5⟩, by simp [intOf]; omega⟩
      · have hai0 : ¬ (a : Int) = 0 := by omega
        have hb0 : ((a : Int) == 0) = false := beq_eq_false_iff_ne.2 hai0
        go_wp2_with fail
        refine (rpage_any 3 (m.o : Int) _).mono ?_
        rintro e w4 ⟨rfl, hK⟩
        obtain ⟨w5, hap, S5⟩ := ST.out w4 (blankP 3 m.o) (by unfold growP; rw [if_neg (by omega), if_neg (by omega)]) hK
        have HAP := hid hap
        clear hap hK ST
        go_wp2_with (at_builtin; refine Lib.wpList_append_run _ rfl _ _ _ _ rfl (.slice (some ⟨G, 0, none⟩) (m.n + a) N) (.slice (some ⟨w4.heap.size, 0, none⟩) 1 1) rfl rfl _ _ (HAP.out _) ?_)
        exact ⟨⟨a + 1, by omega, by simp, rfl, S5⟩, by simp [intOf]; omega⟩
    · have hai : ¬ (a : Int) < (z : Int) := by omega
      have haz : m.n + a = N := by have := HN.out; omega
      rw [haz] at hX ⊢
      have fx : ∀ j, wr.frozen? ⟨w.heap.size, j, none⟩ = false := fun j => by simp [World.frozen?, hX.out.2.2.1]
      have ks : Kept none' w (wr.setCell ⟨w.heap.size, 1, none⟩ (.slice (some ⟨G, 0, none⟩) N N)) := hX.out.2.1.setNew (p := ⟨w.heap.size, 1, none⟩) (fun e => absurd e (Nat.lt_irrefl _)) _
      have kx : Kept (fun y => y = w.heap.size) wr (wr.setCell ⟨w.heap.size, 1, none⟩ (.slice (some ⟨G, 0, none⟩) N N)) := (Kept.refl (fun y => y = w.heap.size) wr).setCell (p := ⟨w.heap.size, 1, none⟩) rfl _
      have K2 := hid ks
      have X2 := hid (show (wr.setCell ⟨w.heap.size, 1, none⟩ (.slice (some ⟨G, 0, none⟩) N N)).heap[w.heap.size]? = some (ro m.o (some G) N N (.slice qa m.o qc)) from heap_set hX.out.2.2.1 1 (.slice (some ⟨G, 0, none⟩) N N))
      have Y2 := hid ((kx.block _ (heap_lt hX.out.2.2.2) (by omega)).trans hX.out.2.2.2)
      have RW := hid (show Row (wr.setCell ⟨w.heap.size, 1, none⟩ (.slice (some ⟨G, 0, none⟩) N N)) G N (growM m).pg from by
        obtain ⟨xs, h1, h2⟩ := hX.out.1
        exact (Row.kept (PgL.row h2 h1 rfl rfl) kx (by have := HG.out; omega)).congr (fun i hi => GR.out i hi))
      have R2 := hid (HR.out.keep K2.out)
      have PA := hid (paired_any m.o N N m.o ho8 (by omega) (some G) (.slice qa m.o qc) R (ln m.n) (fun k => bit (m.wd k)) _ R2.out.pr ho8 (fun k hk => Nat.le_trans (Nat.div_le_self _ _) hn1) R2.out.bs)
      clear ks kx haz
      go_wp2_with fail
      refine PA.out.mono ?_
      rintro e w4 ⟨q', rfl, R', hP⟩
      obtain ⟨qa', qc', rfl⟩ := hP.val
      have Y4 := hid ((hP.gs.kp.block _ (heap_lt Y2.out) (fun x => x)).trans Y2.out)
      have W4 := hid (Row.kept RW.out hP.gs.kp (fun x => x))
      have HP := hid (fun u0 u1 u2 => (hP.base K2.out).stored Y4.out (by omega) u0 u1 u2)
      obtain ⟨d0, d1, d2⟩ := boxZ Y4.out
      have fz : ∀ j, w4.frozen? ⟨w.heap.size + 1, j, none⟩ = false := fun j => by simp [World.frozen?, Y4.out]
      clear hP PA K2 X2 Y2 c0 c1 c2 hX RW R2 fx
      go_wp2_with fail
      refine ⟨rfl, rv m.o (some G) N N (.slice qa' m.o qc'), by simp [results, Try.results57, go_sem, d0, d1, d2, adr], G, _, rfl, by have := HG.out; omega, R', ?_⟩
      have hp := HP.out
      rw [GM.out]
      refine ⟨(hp _ _ _).ref ho8 (by omega) (Nat.le_refl _) ?_ (fun k hk i hi => bits_resize (W := wM) HM.out N k hk i hi), fun x hx => (hp (.int .i64 0) (.int .i64 0) (.int .i64 0)).own (some G) x hx, (hp _ _ _).gs.kp⟩
      have hGG := HG.out
      have kb : ∀ (W : World) (j : Nat) (u : Value), Row W G N (growM m).pg → Row (W.setCell ⟨w.heap.size + 1, j, none⟩ u) G N (growM m).pg := fun W j u hr => Row.kept hr ((Kept.refl (fun y => y = w.heap.size + 1) W).setCell (p := ⟨w.heap.size + 1, j, none⟩) rfl u) (by omega)
      exact ⟨N, (growM m).pg, Nat.le_refl _, kb _ _ _ (kb _ _ _ (kb _ _ _ W4.out)), fun i hi => rfl⟩
set_option maxRecDepth 4000 in
set_option maxHeartbeats 1000000 in
theorem grow_ref_no (g : Option Nat) (cp : Nat) (q : Value) (R : Nat → Nat) (m : Mp) (w : World) (h : RefAt w g cp q R m) (hg : 1024 < m.n + 2 ^ m.o) :
    Calls Try.prog 57 #[rv m.o g m.n cp q] w fun e w' => e = .returned (rv m.o g m.n cp q) ∧ Kept none' w w' := by
  obtain ⟨qa, qc, rfl⟩ := h.val
  have TB := two_box w (ro m.o g m.n cp (.slice qa m.o qc)) roZ
  have ho8 := h.o8
  have hn1 := h.n1
  obtain ⟨z, hz⟩ : ∃ z, z = 2 ^ m.o := ⟨_, rfl⟩
  have hz2 : z ≤ 512 := by rw [hz]; exact Nat.le_trans (Nat.pow_le_pow_right (n := 2) (by decide) (show m.o ≤ 9 by omega)) (by decide)
  rw [← hz] at hg
  obtain ⟨N, hN⟩ : ∃ N, N = m.n + z := ⟨_, rfl⟩
  have hNi : (m.n : Int) + (z : Int) = (N : Int) := by omega
  have hNl : 1024 < (N : Int) := by omega
  have hNb : N ≤ 2000 := by omega
  have PW := hid (show ∀ W, Calls Try.prog 49 #[.int .i64 (m.o : Int)] W fun e w' => e = .returned (.int .i64 (z : Int)) ∧ w' = W from fun W => by rw [hz]; exact power_any m.o (by omega) W)
  have K0 := hid TB.1
  have X0 := hid TB.2.1
  have Y0 := hid TB.2.2
  clear h hz TB hN
  go_enter Try.func57, Try.ntmps57
  go_wp2_with fail
  generalize (w.alloc (ro m.o g m.n cp (.slice qa m.o qc))).alloc roZ = W0 at *
  obtain ⟨c0, c1, c2⟩ := box3 X0.out
  refine (PW.out _).mono ?_
  rintro e w3 ⟨rfl, rfl⟩
  obtain ⟨d0, d1, d2⟩ := boxZ Y0.out
  have fz : ∀ j, w3.frozen? ⟨w.heap.size + 1, j, none⟩ = false := fun j => by simp [World.frozen?, Y0.out]
  go_wp2_with fail
  exact ⟨rfl, rv m.o g m.n cp (.slice qa m.o qc), by simp [results, Try.results57, go_sem, d0, d1, d2, adr], rfl, setM_kept K0.out _ (by omega) _ _ _⟩
theorem Grow_ref (b : Nat) (B : Bs) (g : Option Nat) (cp : Nat) (q : Value) (R : Nat → Nat) (m : Mp) (w wM : World) (hM : MapAt wM b B m) (h : RefAt w g cp q R m) :
    Calls Try.prog 57 #[rv m.o g m.n cp q] w fun e w' => ∃ g' cp' q', e = .returned (rv (growM m).o g' (growM m).n cp' q') ∧ ∃ R', RefAt w' g' cp' q' R' (growM m) ∧ (∀ y, rown g' q' R' (growM m).o y → rown g q R m.o y ∨ w.heap.size ≤ y) ∧ Kept none' w w' := by
  by_cases hg : 1024 < m.n + 2 ^ m.o
  · rw [show growM m = m by unfold growM; rw [if_pos hg]]
    refine (grow_ref_no g cp q R m w h hg).mono ?_
    rintro e w' ⟨rfl, hk⟩
    exact ⟨g, cp, q, rfl, R, h.keep hk, fun y hy => .inl hy, hk⟩
  · refine (grow_ref_yes b B g cp q R m w wM hM h hg).mono ?_
    rintro e w' ⟨G, q', rfl, hG, R', hA⟩
    refine ⟨some G, m.n + 2 ^ m.o, q', ?_, R', hA.ref, fun y hy => (hA.own y hy).elim (fun e => ?_) .inr, hA.kp⟩
    · rw [show (growM m).o = m.o from grow_o m, show (growM m).n = m.n + 2 ^ m.o by unfold growM; rw [if_neg hg]; rfl]
    · right; cases e; exact hG
end Go.Proofs.Ytbhheimedbfmeaa
