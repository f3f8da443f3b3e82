import Derived.Test.YthglogiglimebaaGreatQa
import Derived.Deep.DeepCutAuto
import Derived.Test.YthglogiglimebaaGreatQc
import Derived.Deep.RegionHeld3
/- BuddyPlays: croftref5's paint, Pages, Pair, Pairs. -/
namespace Go.Proofs.YthglogiglimebaaGreat
open Go.RowKit
set_option linter.unusedVariables false

/-- The first a pages of a block are painted. -/
def paintA (pg : Nat → Pg) (p k a : Nat) (kd : Int) : Nat → Pg := fun x => if p ≤ x ∧ x < p + a then blankP (if x = p then kd else kd + 1) (k : Int) else pg x
theorem paintA_zero (pg : Nat → Pg) (p k : Nat) (kd : Int) : paintA pg p k 0 kd = pg := by
  funext x
  unfold paintA
  rw [if_neg (by omega)]
theorem paintA_succ (pg : Nat → Pg) (p k a : Nat) (kd : Int) : upp (paintA pg p k a kd) (p + a) (blankP (if a = 0 then kd else kd + 1) (k : Int)) = paintA pg p k (a + 1) kd := by
  funext x
  unfold upp paintA
  by_cases e : x = p + a
  · subst e
    rw [if_pos rfl, if_pos (show p ≤ p + a ∧ p + a < p + (a + 1) by omega)]
    by_cases e2 : a = 0
    · rw [if_pos e2, if_pos (show p + a = p by omega)]
    · rw [if_neg e2, if_neg (show ¬ p + a = p by omega)]
  · rw [if_neg e]
    by_cases e2 : p ≤ x ∧ x < p + a
    · rw [if_pos e2, if_pos (show p ≤ x ∧ x < p + (a + 1) by omega)]
    · rw [if_neg e2, if_neg (show ¬ (p ≤ x ∧ x < p + (a + 1)) by omega)]
theorem upp_kd (pg : Nat → Pg) (i : Nat) (a b : Int) (k : Int) : upp (upp pg i (blankP a k)) i (blankP b k) = upp pg i (blankP b k) := by
  funext x
  unfold upp
  by_cases e : x = i
  · rw [if_pos e, if_pos e]
  · rw [if_neg e, if_neg e, if_neg e]
/-- The kind of a blank page is written. -/
theorem Row.kind {w g n pg i a b k} (h : Row w g n (upp pg i (blankP a k))) (hi : i < n) : Row (w.setCell ⟨g, i * 11, none⟩ (.int .i64 b)) g n (upp pg i (blankP b k)) := by
  have := RowC.set h i 0 hi (by decide) (.int .i64 b)
  refine RowC.congr this (fun x hx j hj => ?_)
  unfold upc
  by_cases e : x = i ∧ j = 0
  · obtain ⟨rfl, rfl⟩ := e
    rw [if_pos ⟨rfl, rfl⟩]
    unfold upp
    rw [if_pos rfl]
    rfl
  · rw [if_neg e]
    show (upp pg i (blankP a k) x).fld j = (upp pg i (blankP b k) x).fld j
    unfold upp
    by_cases e1 : x = i
    · rw [if_pos e1, if_pos e1]
      have hj0 : j ≠ 0 := fun h => e ⟨e1, h⟩
      revert hj0
      revert j
      apply lt11 <;> intro _ h0 <;> first | exact absurd rfl h0 | rfl
    · rw [if_neg e1, if_neg e1]
set_option maxRecDepth 4000 in
set_option maxHeartbeats 2000000 in
theorem paint5 (g n : Nat) (pg : Nat → Pg) (p k : Nat) (kd : Int) (hkd : kd = 0 ∨ kd = 2) (hk : k ≤ 8) (hn : n ≤ 1024) (hp : p + 2 ^ k ≤ n) (w : World) (h : Row w g n pg) :
    Calls Tryz.prog 123 #[.slice (some ⟨g, 0, none⟩) n n, .int .i64 (p : Int), .int .i64 (k : Int), .int .i64 kd] w fun e w' => Row w' g n (paintA pg p k (2 ^ k) kd) ∧ Kept (fun x => x = g) w w' ∧ ∃ v, e = .returned v := by
  obtain ⟨z, hz⟩ : ∃ z, z = 2 ^ k := ⟨_, rfl⟩
  have hzi : (2 : Int) ^ k = (z : Int) := by rw [hz]; simp
  have hz2 : z ≤ 256 := by rw [hz]; exact Nat.pow_le_pow_right (n := 2) (by decide) hk
  rw [← hz] at hp ⊢
  have HR := hid h
  clear h hz
  go_enter Tryz.func123, Tryz.ntmps123
  go_wp2_with fail
  go_loopw [8] (fun i W => ∃ a : Nat, a ≤ z ∧ i = .int .i64 a ∧ Hid (Row W g n (paintA pg p k a kd) ∧ Kept (fun x => x = g) w W)) (fun i _ => z - (intOf i).toNat)
  case atStart => exact ⟨0, by omega, rfl, hid ⟨by rw [paintA_zero]; exact HR.out, Kept.refl _ w⟩⟩
  case round =>
    clear HR
    obtain ⟨a, ha, rfl, hR⟩ := hrel
    by_cases hlt : a < z
    · have hai : (a : Int) < (z : Int) := by omega
      have hpa : p + a < n := by omega
      have hpai : (p : Int) + (a : Int) < (n : Int) := by omega
      have fz := RowC.froz hR.out.1
      by_cases ha0 : a = 0
      · subst ha0
        have hpn : p < n := by omega
        have hpni : (p : Int) < (n : Int) := by omega
        obtain ⟨d0, d1, d2, d3, d4, d5, d6, d7, d8, d9, d10⟩ := hR.out.1.cell p hpn
        have R1 := hR.out.1.put p hpn (blankP kd k)
        have K1 := hR.out.2.trans (setP_kept wr g p (blankP kd k)) (fun _ _ e => e) (fun _ _ e => e)
        have hs := paintA_succ pg p k 0 kd
        rw [if_pos rfl, Nat.add_zero] at hs
        rw [hs] at R1
        have D := hid (And.intro R1 K1)
        clear R1 K1 hs hpa hpai
        go_wp2_with fail
        exact ⟨⟨1, by omega, by simp, D⟩, by simp [intOf]; omega⟩
      · obtain ⟨d0, d1, d2, d3, d4, d5, d6, d7, d8, d9, d10⟩ := hR.out.1.cell (p + a) hpa
        have R1 := hR.out.1.put (p + a) hpa (blankP kd k)
        have K1 := hR.out.2.trans (setP_kept wr g (p + a) (blankP kd k)) (fun _ _ e => e) (fun _ _ e => e)
        have ha0i : (0 : Int) < (a : Int) := by omega
        have HR1 := hid R1
        have HK1 := hid K1
        have HS := hid (show upp (paintA pg p k a kd) (p + a) (blankP (kd + 1) k) = paintA pg p k (a + 1) kd from by
          have := paintA_succ pg p k a kd
          rw [if_neg ha0] at this
          exact this)
        have hkw : IntKind.i64.wrap (kd + 1) = kd + 1 := by rw [IntKind.wrap_i64]; omega
        clear R1 K1 ha0
        go_upto_region 4 with fail
        generalize hW : setP wr g (p + a) (blankP kd k) = W1 at HR1 HK1
        rw [show (((((((((((wr.setCell ⟨g, (p + a) * 11, none⟩ (.int .i64 kd)).setCell ⟨g, (p + a) * 11 + 1, none⟩ (.int .i64 (k : Int))).setCell ⟨g, (p + a) * 11 + 2, none⟩ (.int .i64 0)).setCell ⟨g, (p + a) * 11 + 3, none⟩ (.int .i64 0)).setCell ⟨g, (p + a) * 11 + 4, none⟩ (.int .i64 (-1))).setCell ⟨g, (p + a) * 11 + 5, none⟩ (.int .i64 (-1))).setCell ⟨g, (p + a) * 11 + 6, none⟩ (.int .i64 (-1))).setCell ⟨g, (p + a) * 11 + 7, none⟩ (.int .u64 0)).setCell ⟨g, (p + a) * 11 + 8, none⟩ (.int .u64 0)).setCell ⟨g, (p + a) * 11 + 9, none⟩ (.int .u64 0)).setCell ⟨g, (p + a) * 11 + 10, none⟩ (.int .u64 0)) = W1 from hW]
        obtain ⟨e0, _⟩ := HR1.out.cell (p + a) hpa
        have fz2 := RowC.froz HR1.out ((p + a) * 11)
        have R2 := Row.kind (b := kd + 1) HR1.out hpa
        rw [HS.out] at R2
        have D := hid (And.intro R2 (HK1.out.setCell (p := ⟨g, (p + a) * 11, none⟩) rfl (.int .i64 (kd + 1))))
        clear R2 hW d0 d1 d2 d3 d4 d5 d6 d7 d8 d9 d10 fz
        go_wp2_with fail
        exact ⟨⟨a + 1, by omega, by simp, D⟩, by simp [intOf]; omega⟩
    · have hai : ¬ (a : Int) < (z : Int) := by omega
      obtain rfl : a = z := by omega
      go_wp2_with fail
      exact ⟨rfl, .tuple #[], by simp [results, Tryz.results123, go_sem], hR.out.1, hR.out.2, _, rfl⟩
end Go.Proofs.YthglogiglimebaaGreat
/- BuddyPlays: croftref5's Pages. -/
namespace Go.Proofs.YthglogiglimebaaGreat
open Go.RowKit
set_option linter.unusedVariables false

/-- The pages of the blocks D are painted. -/
def Painted (pg : Nat → Pg) (D : Nat → Nat → Nat → Prop) : Prop := ∀ g p k, D g p k → ∀ i, p ≤ i → i < p + 2 ^ k → pg i = blankP (if i = p then (g : Int) else (g : Int) + 1) (k : Int)
theorem Painted.step {pg D g p k} (h : Painted pg D) (hd : ∀ g' p' k', D g' p' k' → (g' = g ∧ p' = p ∧ k' = k) ∨ p' + 2 ^ k' ≤ p ∨ p + 2 ^ k ≤ p') {D' : Nat → Nat → Nat → Prop} (hD : ∀ a b c, D' a b c → D a b c ∨ (a = g ∧ b = p ∧ c = k)) : Painted (paintA pg p k (2 ^ k) (g : Int)) D' := by
  have hnew : ∀ i, p ≤ i → i < p + 2 ^ k → paintA pg p k (2 ^ k) (g : Int) i = blankP (if i = p then (g : Int) else (g : Int) + 1) (k : Int) := fun i h1 h2 => by
    unfold paintA
    rw [if_pos ⟨h1, h2⟩]
  intro a b c hbc i h1 h2
  rcases hD a b c hbc with e | ⟨rfl, rfl, rfl⟩
  · rcases hd a b c e with ⟨rfl, rfl, rfl⟩ | e2
    · exact hnew i h1 h2
    · unfold paintA
      rw [if_neg (by omega)]
      exact h a b c e i h1 h2
  · exact hnew i h1 h2
/-- What has been painted: free blocks by Fd, the first b live ones. -/
def PD (fr : Nat → List Nat) (ls : List (Nat × Nat)) (o i b : Nat) : Nat → Nat → Nat → Prop := fun g p k => (g = 0 ∧ Fd fr o i p k) ∨ (g = 2 ∧ ∃ a, a < b ∧ a < ls.length ∧ ls.getD a (0, 0) = (p, k))
theorem getD_memR {l : List (Nat × Nat)} {i : Nat} (h : i < l.length) : l.getD i (0, 0) ∈ l := by
  rw [List.getD_eq_getElem?_getD, List.getElem?_eq_getElem h]
  exact List.getElem_mem h
theorem PD.fr_succ {fr ls o i b} (hi : i < (fr o).length) {g p k : Nat} (h : PD fr ls o (i + 1) b g p k) : PD fr ls o i b g p k ∨ (g = 0 ∧ p = (fr o).getD i 0 ∧ k = o) := by
  rcases h with ⟨h1, h2⟩ | h
  · rcases (Fd.succ hi).1 h2 with h3 | h3
    · exact .inl (.inl ⟨h1, h3⟩)
    · exact .inr ⟨h1, h3⟩
  · exact .inl (.inr h)
theorem PD.ls_succ {fr ls o i b} {g p k : Nat} (h : PD fr ls o i (b + 1) g p k) : PD fr ls o i b g p k ∨ (g = 2 ∧ p = (ls.getD b (0, 0)).1 ∧ k = (ls.getD b (0, 0)).2) := by
  rcases h with h | ⟨h1, a, h2, h3, h4⟩
  · exact .inl (.inl h)
  · by_cases e : a = b
    · subst e
      exact .inr ⟨h1, by rw [h4], by rw [h4]⟩
    · exact .inl (.inr ⟨h1, a, by omega, h3, h4⟩)
theorem PD.next {fr ls o b} {g p k : Nat} (h : PD fr ls (o + 1) 0 b g p k) : PD fr ls o (fr o).length b g p k := by
  rcases h with ⟨h1, h2⟩ | h
  · exact .inl ⟨h1, Fd.next.2 h2⟩
  · exact .inr h
theorem PD.B {x t fr ls B} (s : Sd x t fr B) (hL : ∀ q i, B 2 q i ↔ (q, i) ∈ ls) {o i b g p k : Nat} (ho : o ≤ x.o + 1) (hi : o = x.o + 1 → i = 0) (h : PD fr ls o i b g p k) : B g p k := by
  rcases h with ⟨rfl, h2⟩ | ⟨rfl, a, _, h3, h4⟩
  · rcases h2 with ⟨h5, h6⟩ | ⟨h5, j, h6, h7, h8⟩
    · exact (s.fi _ _).2 ⟨by omega, h6⟩
    · subst h5
      have hko : k ≤ x.o := by
        rcases Nat.lt_or_ge x.o k with e | e
        · have := hi (by omega); omega
        · exact e
      exact (s.fi _ _).2 ⟨hko, by rw [← h8]; exact M.getD_mem h7⟩
  · exact (hL p k).2 (by rw [← h4]; exact getD_memR h3)
/-- All is painted: the pages are the map's. -/
theorem Painted.all {x t fr ls pg} (s : Sf x t fr ls) (h : Painted pg (PD fr ls (x.o + 1) 0 ls.length)) : ∀ i, i < t.m.n → pg i = t.m.pg i := by
  obtain ⟨B, s, hN, hL⟩ := s
  intro i hi
  obtain ⟨g, p, k, h1, h2, h3⟩ := s.cv i hi
  have h9 : g ≠ 9 := fun e => hN p k (e ▸ h1)
  rw [s.pg g p k h1 h9 i h2 h3]
  refine h g p k ?_ i h2 h3
  rcases s.tg _ _ _ h1 with rfl | rfl | rfl
  · obtain ⟨h4, h5⟩ := (s.fi _ _).1 h1
    exact .inl ⟨rfl, .inl ⟨by omega, h5⟩⟩
  · obtain ⟨a, ha, he⟩ := List.mem_iff_getElem.1 ((hL p k).1 h1)
    exact .inr ⟨rfl, a, ha, ha, by rw [List.getD_eq_getElem?_getD, List.getElem?_eq_getElem ha]; exact he⟩
  · exact absurd rfl h9
set_option maxRecDepth 4000 in
set_option maxHeartbeats 2000000 in
theorem Pages5 {x : Bx} {t : Bt} {fr : Nat → List Nat} {ls : List (Nat × Nat)} (s : Sf x t fr ls) (ho : x.o ≤ 8) (fa : Option Addr) (fc : Nat) (va : Option Addr) (vc : Nat) (hn : ls.length ≤ 1000) (w : World) (h : FL w fa fc x.o fr) (hr : RN w (.slice va ls.length vc) ls) :
    Calls Tryz.prog 96 #[r5V (x.o : Int) (t.m.n : Int) (.slice fa (x.o + 1) fc) (.slice va ls.length vc)] w fun e w' => ∃ g, e = .returned (.slice (some ⟨g, 0, none⟩) t.m.n t.m.n) ∧ Row w' g t.m.n t.m.pg ∧ Kept none' w w' ∧ w.heap.size ≤ g := by
  obtain ⟨n, hn'⟩ : ∃ n, n = ls.length := ⟨_, rfl⟩
  obtain ⟨P, hP⟩ : ∃ P, P = t.m.n := ⟨_, rfl⟩
  have hP2 : P ≤ 1024 := by rw [hP]; exact s.sn.n.1
  have K0 := hid ((Kept.refl none' w).alloc (r5O (x.o : Int) (P : Int) (.slice fa (x.o + 1) fc) (.slice va n vc)))
  have X0 := hid (heap_new w (r5O (x.o : Int) (P : Int) (.slice fa (x.o + 1) fc) (.slice va n vc)))
  have S0 := hid (show (w.alloc (r5O (x.o : Int) (P : Int) (.slice fa (x.o + 1) fc) (.slice va n vc))).heap.size = w.heap.size + 1 by simp)
  have HS := hid s
  have HF := hid h
  have HR := hid hr
  rw [← hP, ← hn']
  rw [← hn'] at hn
  have HN := hid hn'
  have HP := hid hP
  obtain ⟨w5, hmk, hI5, hk5, hs5⟩ := make_pages P hP2 (w.alloc (r5O (x.o : Int) (P : Int) (.slice fa (x.o + 1) fc) (.slice va n vc)))
  have R5 := hid hI5
  have K5 := hid (none_trans K0.out hk5)
  have X5 := hid ((hk5.block _ (heap_lt X0.out) (fun e => e)).trans X0.out)
  rw [S0.out] at R5
  clear s h hr hn' hP hI5 hk5 hs5
  obtain ⟨x0, x1, x2, x3, fx⟩ := r5c X0.out
  go_enter Tryz.func96, Tryz.ntmps96
  go_wp2_with fail
  generalize hI : w.heap.size + 1 = I at *
  have HI := hid hI
  clear x0 x1 x2 x3 fx hmk hI S0 K0 X0
  -- a world between two paintings
  have ST := hid (show ∀ W W' : World, Kept none' w W → Kept (fun y => y = I) W W' → Kept none' w W' from fun W W' h1 h2 => h1.trans h2 (fun _ _ e => e) (fun y hy e => by have e : y = I := e; have := HI.out; omega))
  go_loopw [4] (fun i W => ∃ k : Nat, k ≤ x.o + 1 ∧ i = .int .i64 k ∧ Hid (Kept none' w W ∧ W.heap[w.heap.size]? = some (r5O (x.o : Int) (P : Int) (.slice fa (x.o + 1) fc) (.slice va n vc)) ∧ ∃ pg, Row W I P pg ∧ Painted pg (PD fr ls k 0 0))) (fun i _ => x.o + 1 - (intOf i).toNat)
  case atStart => exact ⟨0, by omega, rfl, hid ⟨K5.out, X5.out, _, R5.out, fun g p k hd => by
    rcases hd with ⟨_, ⟨h1, _⟩ | ⟨_, j, h1, _⟩⟩ | ⟨_, a, h1, _⟩ <;> omega⟩⟩
  case round =>
    clear K5 X5 R5
    obtain ⟨k, hk, rfl, hR⟩ := hrel
    obtain ⟨hK, hX, pg, hrow, hpt⟩ := hR.out
    have KW := hid hK
    have XW := hid hX
    have RW := hid hrow
    have PT := hid hpt
    obtain ⟨x0, x1, x2, x3, fx⟩ := r5c hX
    clear hR hK hX hrow hpt
    by_cases hlt : k ≤ x.o
    · have hki : (k : Int) ≤ (x.o : Int) := by omega
      obtain ⟨L, hL⟩ : ∃ L, L = (fr k).length := ⟨_, rfl⟩
      have hL2 : L ≤ 1024 := by rw [hL]; exact HS.out.len hlt
      have HL := hid hL
      have hki2 : (k : Int) < ((x.o + 1 : Nat) : Int) := by omega
      have hki3 : (k : Int) < (x.o : Int) + 1 := by omega
      obtain ⟨g0, _, _, hfa, _, _⟩ := HF.out.get k hlt
      subst hfa
      clear hL
      go_wp2_with fail
      clear x0 x1 x2 x3 fx
      go_loopw [5] (fun i W => ∃ j : Nat, j ≤ L ∧ i = .int .i64 j ∧ Hid (Kept none' w W ∧ W.heap[w.heap.size]? = some (r5O (x.o : Int) (P : Int) (.slice (some ⟨g0, 0, none⟩) (x.o + 1) fc) (.slice va n vc)) ∧ ∃ pg, Row W I P pg ∧ Painted pg (PD fr ls k j 0))) (fun i _ => L - (intOf i).toNat)
      case atStart => exact ⟨0, by omega, rfl, hid ⟨KW.out, XW.out, pg, RW.out, PT.out⟩⟩
      case round =>
        clear KW XW RW PT
        obtain ⟨j, hj, rfl, hR⟩ := hrel
        obtain ⟨hK, hX, pg, hrow, hpt⟩ := hR.out
        have KW := hid hK
        have XW := hid hX
        have RW := hid hrow
        have PT := hid hpt
        obtain ⟨x0, x1, x2, x3, fx⟩ := r5c hX
        obtain ⟨g1, A, C, hfa, r0, hN⟩ := (HF.out.keep hK).get k hlt
        injection hfa with hfa
        injection hfa with hfa
        subst hfa
        rw [← HL.out] at r0
        clear hR hK hX hrow hpt
        by_cases hjL : j < L
        · have hji : (j : Int) < (L : Int) := by omega
          have hjl : j < (fr k).length := by rw [← HL.out]; exact hjL
          obtain ⟨g2, hA, r2⟩ := hN.get hjl
          subst hA
          have hm := M.getD_mem hjl
          have hal := HS.out.lt hlt hm
          have PT2 := hid (show Painted (paintA pg ((fr k).getD j 0) k (2 ^ k) ((0 : Nat) : Int)) (PD fr ls k (j + 1) 0) from by
            obtain ⟨B, s, hN', hL'⟩ := HS.out
            refine PT.out.step (g := 0) (fun g' p' k' hd => ?_) (fun a b c hd => PD.fr_succ hjl hd)
            have hb := PD.B s hL' (by omega) (by omega) hd
            rcases s.ds _ _ _ _ _ _ hb ((s.fi _ _).2 ⟨hlt, hm⟩) with e | e | e
            · exact .inl e
            · exact .inr (.inl e)
            · exact .inr (.inr e))
          rw [Int.natCast_zero] at PT2
          have PA := hid (paint5 I P pg ((fr k).getD j 0) k 0 (.inl rfl) (by omega) hP2 (by rw [HP.out]; exact hal) wr RW.out)
          clear hm hal hjl hN
          generalize (fr k).getD j 0 = p at *
          go_wp2_with fail
          refine PA.out.mono ?_
          rintro e w2 ⟨hrow2, hk2, v2, rfl⟩
          have X2 := (hk2.block _ (heap_lt XW.out) (by have := HI.out; omega)).trans XW.out
          have D := hid (show Kept none' w w2 ∧ w2.heap[w.heap.size]? = some (r5O (x.o : Int) (P : Int) (.slice (some ⟨g0, 0, none⟩) (x.o + 1) fc) (.slice va n vc)) ∧ ∃ pg, Row w2 I P pg ∧ Painted pg (PD fr ls k (j + 1) 0) from ⟨ST.out _ _ KW.out hk2, X2, _, hrow2, PT2.out⟩)
          clear hrow2 hk2 X2 PA x0 x1 x2 x3 fx r0 r2
          go_wp2_with fail
          exact ⟨⟨j + 1, by omega, by simp, D⟩, by simp [intOf]; omega⟩
        · obtain rfl : j = L := by omega
          have hji : ¬ (j : Int) < (j : Int) := by omega
          have PT2 := hid (show Painted pg (PD fr ls (k + 1) 0 0) from fun g p q hd => PT.out g p q (by rw [HL.out]; exact PD.next hd))
          clear hN
          go_wp2_with fail
          exact ⟨⟨k + 1, by omega, by simp, hid ⟨KW.out, XW.out, pg, RW.out, PT2.out⟩⟩, by simp [intOf]; omega⟩
    · obtain rfl : k = x.o + 1 := by omega
      have hki : ¬ ((x.o + 1 : Nat) : Int) ≤ (x.o : Int) := by omega
      have hki2 : ¬ (x.o : Int) + 1 ≤ (x.o : Int) := by omega
      go_wp2_with fail
      clear x0 x1 x2 x3 fx hki hki2
      go_loopw [6] (fun i W => ∃ j : Nat, j ≤ n ∧ i = .int .i64 j ∧ Hid (Kept none' w W ∧ W.heap[w.heap.size]? = some (r5O (x.o : Int) (P : Int) (.slice fa (x.o + 1) fc) (.slice va n vc)) ∧ ∃ pg, Row W I P pg ∧ Painted pg (PD fr ls (x.o + 1) 0 j))) (fun i _ => n - (intOf i).toNat)
      case atStart => exact ⟨0, by omega, rfl, hid ⟨KW.out, XW.out, pg, RW.out, PT.out⟩⟩
      case round =>
        clear KW XW RW PT
        obtain ⟨j, hj, rfl, hR⟩ := hrel
        obtain ⟨hK, hX, pg, hrow, hpt⟩ := hR.out
        have KW := hid hK
        have XW := hid hX
        have RW := hid hrow
        have PT := hid hpt
        obtain ⟨x0, x1, x2, x3, fx⟩ := r5c hX
        clear hR hX hrow hpt
        by_cases hjn : j < n
        · have hji : (j : Int) < (n : Int) := by omega
          have hjl : j < ls.length := by rw [← HN.out]; exact hjn
          obtain ⟨g2, hA, r1, r2⟩ := (HR.out.keep hK).get hjl
          subst hA
          have hm := getD_memR hjl
          generalize hq : ls.getD j (0, 0) = q at *
          obtain ⟨qp, qk⟩ := q
          have HQ := hid hq
          obtain ⟨a1, a2, a3⟩ := HS.out.sn.al hm
          have PT2 := hid (show Painted (paintA pg qp qk (2 ^ qk) ((2 : Nat) : Int)) (PD fr ls (x.o + 1) 0 (j + 1)) from by
            obtain ⟨B, s, hN', hL'⟩ := HS.out
            refine PT.out.step (g := 2) (fun g' p' k' hd => ?_) (fun a b c hd => by have h2 := PD.ls_succ hd; rw [hq] at h2; exact h2)
            have hb := PD.B s hL' (Nat.le_refl _) (fun _ => rfl) hd
            rcases s.ds _ _ _ _ _ _ hb ((hL' _ _).2 hm) with e | e | e
            · exact .inl e
            · exact .inr (.inl e)
            · exact .inr (.inr e))
          rw [show ((2 : Nat) : Int) = 2 from rfl] at PT2
          have kd := (Kept.refl none' wr).drew
          have PA := hid (paint5 I P pg qp qk 2 (.inr rfl) (Nat.le_trans a1 ho) hP2 (by rw [HP.out]; exact a3) wr.drew (RW.out.kept kd (fun e => e)))
          have KD := hid kd
          have d3 := kd.cell (fun e => e) x3
          have d1 := kd.cell (fun e => e) r1
          have d2 := kd.cell (fun e => e) r2
          clear hm a1 a2 a3 hjl hK hq kd
          go_wp2_with fail
          go_region_held3 (fun w' => w'.cell? ⟨w.heap.size, 3, none⟩ = some (.slice (some ⟨g2, 0, none⟩) n vc) ∧ w'.cell? ⟨g2, j * 2, none⟩ = some (.int .i64 (qp : Int)) ∧ w'.cell? ⟨g2, j * 2 + 1, none⟩ = some (.int .i64 (qk : Int))) ((refine ⟨?_, ?_, ?_⟩ <;> first | with_reducible assumption)) (first
            | (go_at_call 123; refine PA.out.mono ?_; rintro e w2 ⟨hrow2, hk2, v2, rfl⟩; have K2 := hid (ST.out _ _ (none_trans KW.out KD.out) hk2); have X2 := hid ((hk2.block _ (by have := KD.out.size; exact Nat.lt_of_lt_of_le (heap_lt XW.out) this) (by have := HI.out; omega)).trans ((KD.out.block _ (heap_lt XW.out) (fun e => e)).trans XW.out)); have Rw2 := hid hrow2; obtain ⟨_, _, _, y3, _⟩ := r5c X2.out; obtain ⟨g3, hg3, y1, y2⟩ := (HR.out.keep K2.out).get (show j < ls.length by rw [← HN.out]; exact hjn); injection hg3 with hg3; injection hg3 with hg3; subst hg3; rw [HQ.out] at y1 y2; clear hrow2 hk2)
            | fail)
          all_goals
            have D := hid (show Kept none' w w2 ∧ w2.heap[w.heap.size]? = some (r5O (x.o : Int) (P : Int) (.slice fa (x.o + 1) fc) (.slice (some ⟨g2, 0, none⟩) n vc)) ∧ ∃ pg, Row w2 I P pg ∧ Painted pg (PD fr ls (x.o + 1) 0 (j + 1)) from ⟨K2.out, X2.out, _, Rw2.out, PT2.out⟩)
            clear PA x0 x1 x2 x3 fx r1 r2 y1 y2 y3 d1 d2 d3
            go_wp2_with fail
            exact ⟨⟨j + 1, by omega, by simp, D⟩, by simp [intOf]; omega⟩
        · obtain rfl : j = n := by omega
          have hji : ¬ (j : Int) < (j : Int) := by omega
          have D := hid (show Row wr I P t.m.pg ∧ Kept none' w wr ∧ w.heap.size ≤ I from ⟨RW.out.congr fun i hi => by
            refine Painted.all HS.out ?_ i (by rw [← HP.out]; exact hi)
            rw [← HN.out]
            exact PT.out, KW.out, by have := HI.out; omega⟩)
          clear hK
          go_wp2_with fail
          go_ret
          exact ⟨I, rfl, D.out⟩
end Go.Proofs.YthglogiglimebaaGreat
