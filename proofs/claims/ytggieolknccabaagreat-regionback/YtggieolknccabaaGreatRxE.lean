/- RegionPlays: croftref6.Give. -/
import Derived.Test.YtggieolknccabaaGreatRxD
namespace Go.Proofs.YtggieolknccabaaGreat
open Go.RowKit
set_option linter.unusedVariables false

/-- The live blocks but one. -/
def dropG (ls : List (Nat × Nat)) (pg od : Int) : List (Nat × Nat) := ls.filter fun r => !(decide ((r.1 : Int) = pg) && decide ((r.2 : Int) = od))
theorem take_nextP (l : List (Nat × Nat)) {j : Nat} (hj : j < l.length) : l.take (j + 1) = l.take j ++ [l.getD j (0, 0)] := by
  rw [List.take_add_one, List.getElem?_eq_getElem hj, List.getD_eq_getElem?_getD, List.getElem?_eq_getElem hj]
  rfl
theorem dropG_take (l : List (Nat × Nat)) (pg od : Int) {j : Nat} (hj : j < l.length) : dropG (l.take (j + 1)) pg od = if ((l.getD j (0, 0)).1 : Int) = pg ∧ ((l.getD j (0, 0)).2 : Int) = od then dropG (l.take j) pg od else dropG (l.take j) pg od ++ [l.getD j (0, 0)] := by
  rw [take_nextP l hj]
  unfold dropG
  rw [List.filter_append]
  generalize l.getD j (0, 0) = x
  by_cases e1 : (x.1 : Int) = pg
  · by_cases e2 : (x.2 : Int) = od
    · rw [if_pos ⟨e1, e2⟩]; simp [e1, e2]
    · rw [if_neg (fun e => e2 e.2)]; simp [e2]
  · rw [if_neg (fun e => e1 e.1)]; simp [e1]
theorem liveL_take (l : List (Nat × Nat)) (pg od : Int) {j : Nat} (hj : j < l.length) : liveL (l.take (j + 1)) pg od = (liveL (l.take j) pg od || (decide (((l.getD j (0, 0)).1 : Int) = pg) && decide (((l.getD j (0, 0)).2 : Int) = od))) := by
  rw [take_nextP l hj]
  unfold liveL
  rw [List.any_append]
  simp
theorem push_blkK {w0 W : World} {v : Value} {n : Nat} {xs : List Value} (h : GS w0 W 82 2 v n xs) (p k : Int) (hn : n ≤ 2000) :
    ∃ g cap w', (∀ ty, (Builtin.append_ #[33, 33] ty #[v, .slice (some ⟨W.heap.size, 0, none⟩) 1 1]).run Tryz.prog (W.alloc (.cells #[.int .i64 p, .int .i64 k] 82)) = .ok (.slice (some ⟨g, 0, none⟩) (n + 1) cap) w') ∧ GS w0 w' 82 2 (.slice (some ⟨g, 0, none⟩) (n + 1) cap) (n + 1) (xs ++ [.int .i64 p, .int .i64 k]) ∧ w0.heap.size ≤ g := by
  obtain ⟨i, hi, hzz⟩ := Option.map_eq_some_iff.1 info_blk
  simp only [Prod.mk.injEq] at hzz
  have ka := (Kept.refl none' W).alloc (.cells #[.int .i64 p, .int .i64 k] 82)
  obtain ⟨g, cap, w', h1, h2, h5, _⟩ := (h.keep ka).pushK 33 i (.agg #[.int .i64 0, .int .i64 0]) 16 Tryz.underlying33 hi hzz.1 hzz.2.1 hzz.2.2 rfl (by decide) ⟨W.heap.size, 0, none⟩ 1 [.int .i64 p, .int .i64 k] rfl (fun j u hj => cells_new (cs := #[.int .i64 p, .int .i64 k]) j u hj) (by simp [Value.oneCell']) (by simp only [maxLen]; omega) (by omega)
  exact ⟨g, cap, w', h1, h2, h5⟩
/-- Behind Give's loop: the rest, and whether it was there. -/
def Gl6P (w : World) (b : Nat) (l r : Int) (o N g0 fc : Nat) (va : Option Addr) (n vc : Nat) (ls : List (Nat × Nat)) (fr : Nat → List Nat) (pg od : Int) (v8 v9 : Value) (W : World) : Prop := ∃ a c m, v8 = .slice a m c ∧ m = (dropG ls pg od).length ∧ v9 = .bool (liveL ls pg od) ∧ RN W (.slice a (dropG ls pg od).length c) (dropG ls pg od) ∧ (∀ y, a.map (fun x => x.block) = some y → w.heap.size ≤ y) ∧ Tk6Q w b l r o N g0 fc va n vc ls fr W
/-- In it. -/
def Gi6P (w W0 W : World) (n : Nat) (ls : List (Nat × Nat)) (pg od : Int) (j : Nat) (v8 v9 : Value) : Prop := ∃ a c m, m ≤ j ∧ v8 = .slice a m c ∧ m = (dropG (ls.take j) pg od).length ∧ v9 = .bool (liveL (ls.take j) pg od) ∧ GS W0 W 82 2 (.slice a m c) m (runs (dropG (ls.take j) pg od)) ∧ ∀ y, a.map (fun x => x.block) = some y → w.heap.size ≤ y
/-- What Give answers. -/
def Gv6P (w : World) (b : Nat) (l r : Int) (o N g0 fc : Nat) (va : Option Addr) (vc : Nat) (ls : List (Nat × Nat)) (fr : Nat → List Nat) (pg od : Int) (e : Ending) (w' : World) : Prop :=
  (liveL ls pg od = false ∧ e = .returned (.tuple #[r6V b l (o : Int) r (.slice (some ⟨g0, 0, none⟩) (o + 1) fc) (.slice va ls.length vc), .bool false]) ∧ Kept none' w w') ∨
  ∃ p k va' vc', pg = (p : Nat) ∧ od = (k : Nat) ∧ (p, k) ∈ ls ∧ e = .returned (.tuple #[r6V b l (o : Int) r (.slice (some ⟨g0, 0, none⟩) (o + 1) fc) (.slice va' (dropG ls pg od).length vc'), .bool true]) ∧ R6 N w' g0 fc o (giveF o fr p k) va' vc' (dropG ls pg od) ∧ Kept (S6 g0 va) w w'
theorem liveL_ex {ls : List (Nat × Nat)} {pg od : Int} (h : liveL ls pg od = true) : ∃ p k : Nat, pg = (p : Int) ∧ od = (k : Int) ∧ (p, k) ∈ ls := by
  obtain ⟨⟨p, k⟩, hm, h2⟩ := List.any_eq_true.1 h
  rw [Bool.and_eq_true, decide_eq_true_iff, decide_eq_true_iff] at h2
  exact ⟨p, k, h2.1.symm, h2.2.symm, hm⟩
set_option maxRecDepth 4000 in
set_option maxHeartbeats 2000000 in
theorem Give6r (b : Nat) (l r : Int) (o : Nat) (ho : o ≤ 8) (N g0 fc : Nat) (fr : Nat → List Nat) (va : Option Addr) (vc : Nat) (ls : List (Nat × Nat)) (hls : ls.length ≤ 1100) (hf : ∀ j, j ≤ o → (fr j).length ≤ 1024) (hal : ∀ p k, (p, k) ∈ ls → k ≤ o ∧ p ≤ 1024 ∧ p % 2 ^ k = 0) (pg od : Int) (w : World) (hN : N ≤ w.heap.size) (h : R6 N w g0 fc o fr va vc ls) :
    Calls Tryz.prog 33 #[r6V b l (o : Int) r (.slice (some ⟨g0, 0, none⟩) (o + 1) fc) (.slice va ls.length vc), .int .i64 pg, .int .i64 od] w fun e w' => Gv6P w b l r o N g0 fc va vc ls fr pg od e w' := by
  obtain ⟨n, hn⟩ : ∃ n, n = ls.length := ⟨_, rfl⟩
  have T2 := two5 w (r6O b l (o : Int) r (.slice (some ⟨g0, 0, none⟩) (o + 1) fc) (.slice va n vc)) r6Z
  have Q0 := hid (show Tk6Q w b l r o N g0 fc va n vc ls fr ((w.alloc (r6O b l (o : Int) r (.slice (some ⟨g0, 0, none⟩) (o + 1) fc) (.slice va n vc))).alloc r6Z) from ⟨T2.1.mono (fun _ _ e => e.elim), T2.2.1, T2.2.2, h.keep T2.1⟩)
  have K00 := hid T2.1
  rw [← hn] at hls ⊢
  have HN := hid hn
  clear T2 h hn
  go_enter Tryz.func33, Tryz.ntmps33
  go_upto_block 0 with fail
  generalize (w.alloc (r6O b l (o : Int) r (.slice (some ⟨g0, 0, none⟩) (o + 1) fc) (.slice va n vc))).alloc r6Z = W0 at *
  go_cut [8, 9, 10] (fun s8 s9 s10 wx => Gl6P w b l r o N g0 fc va n vc ls fr pg od s8 s9 wx ∧ Hid (Kept none' W0 wx))
  case first =>
    rename_i KK hKK J' KK2 hJ hM
    clear hKK KK
    go_wp2_with fail
    go_loopw [8, 9, 10] (fun s8 s9 s10 W => ∃ j : Nat, j ≤ n ∧ s10 = .int .i64 j ∧ Gi6P w W0 W n ls pg od j s8 s9) (fun _ _ i _ => n - (intOf i).toNat)
    case atStart => exact ⟨0, Nat.zero_le _, rfl, none, 0, 0, Nat.le_refl _, rfl, rfl, rfl, GS.nil _ _ _ _ (Kept.refl none' _), fun y e => by cases e⟩
    case round =>
      obtain ⟨j, hj, rfl, a, c, m, hmj, rfl, h2, rfl, h4, h5⟩ := hrel
      obtain ⟨x0, x1, x2, x3, x4, x5, xf⟩ := r6c ((h4.kp.block _ (heap_lt Q0.out.x0) (fun e => e)).trans Q0.out.x0)
      have H2 := hid h2
      have H4 := hid h4
      have H5 := hid h5
      obtain ⟨bb, hbb⟩ : ∃ bb, bb = liveL (ls.take j) pg od := ⟨_, rfl⟩
      rw [← hbb]
      have HB := hid hbb
      clear h2 h4 h5 hbb
      by_cases hlt : j < n
      · have hji : (j : Int) < (n : Int) := by omega
        have hjl : j < ls.length := by rw [← HN.out]; exact hlt
        have h1 := Q0.out.r6.rn.keep H4.out.kp
        obtain ⟨g2, hA, r2, r3⟩ := h1.get hjl
        subst hA
        have TD := hid (dropG_take ls pg od hjl)
        have TL := hid (liveL_take ls pg od hjl)
        clear hjl h1
        generalize ls.getD j (0, 0) = q at *
        obtain ⟨q1, q2⟩ := q
        dsimp only at *
        by_cases e1 : (q1 : Int) = pg
        · by_cases e2 : (q2 : Int) = od
          · subst e1 e2
            have D := hid (show Gi6P w W0 wr n ls (q1 : Int) (q2 : Int) (j + 1) (.slice a m c) (.bool true) from ⟨a, c, m, by omega, rfl, by rw [TD.out, if_pos ⟨rfl, rfl⟩]; exact H2.out, by rw [TL.out]; simp, by rw [TD.out, if_pos ⟨rfl, rfl⟩]; exact H4.out, H5.out⟩)
            go_wp2_with fail
            exact ⟨⟨j + 1, by omega, by simp, D.out⟩, by simp [intOf]; omega⟩
          · obtain ⟨g, cap, w', hap, hg2, hge⟩ := push_blkK H4.out (q1 : Int) (q2 : Int) (by omega)
            have D := hid (show Gi6P w W0 w' n ls pg od (j + 1) (.slice (some ⟨g, 0, none⟩) (m + 1) cap) (.bool bb) from ⟨_, cap, m + 1, by omega, rfl, by rw [TD.out, if_neg (fun e => e2 e.2), List.length_append, ← H2.out]; rfl, by rw [TL.out, decide_eq_false e2, Bool.and_false, Bool.or_false, HB.out], by rw [TD.out, if_neg (fun e => e2 e.2), runs_app]; exact hg2, fun y e => by have e : some g = some y := e; cases e; exact Nat.le_trans K00.out.size hge⟩)
            have HAP := hid hap
            clear hap hg2 hge
            subst e1
            have e2b : ((q2 : Int) == od) = false := beq_eq_false_iff_ne.2 e2
            go_wp2_with (at_builtin; refine Lib.wpList_append_run _ rfl _ _ _ _ rfl (.slice a m c) (.slice (some ⟨wr.heap.size, 0, none⟩) 1 1) rfl rfl _ _ (HAP.out _) ?_)
            exact ⟨⟨j + 1, by omega, by simp, D.out⟩, by simp [intOf]; omega⟩
        · obtain ⟨g, cap, w', hap, hg2, hge⟩ := push_blkK H4.out (q1 : Int) (q2 : Int) (by omega)
          have D := hid (show Gi6P w W0 w' n ls pg od (j + 1) (.slice (some ⟨g, 0, none⟩) (m + 1) cap) (.bool bb) from ⟨_, cap, m + 1, by omega, rfl, by rw [TD.out, if_neg (fun e => e1 e.1), List.length_append, ← H2.out]; rfl, by rw [TL.out, decide_eq_false e1, Bool.false_and, Bool.or_false, HB.out], by rw [TD.out, if_neg (fun e => e1 e.1), runs_app]; exact hg2, fun y e => by have e : some g = some y := e; cases e; exact Nat.le_trans K00.out.size hge⟩)
          have HAP := hid hap
          clear hap hg2 hge
          have e1b : ((q1 : Int) == pg) = false := beq_eq_false_iff_ne.2 e1
          go_wp2_with (at_builtin; refine Lib.wpList_append_run _ rfl _ _ _ _ rfl (.slice a m c) (.slice (some ⟨wr.heap.size, 0, none⟩) 1 1) rfl rfl _ _ (HAP.out _) ?_)
          exact ⟨⟨j + 1, by omega, by simp, D.out⟩, by simp [intOf]; omega⟩
      · obtain rfl : j = n := by omega
        have hji : ¬ (j : Int) < (j : Int) := by omega
        have D := hid (show Gl6P w b l r o N g0 fc va j vc ls fr pg od (.slice a m c) (.bool bb) wr from by
          have h2 := H2.out
          have h3 := HB.out
          have h4 := H4.out
          rw [HN.out, List.take_length] at h2 h3 h4
          exact ⟨a, c, m, rfl, h2, by rw [h3], by rw [h2] at h4; exact h4.own, H5.out, Q0.out.keep h4.kp⟩)
        have KW := hid H4.out.kp
        go_wp2_with fail
        go_meet
        case rel => exact ⟨D.out, KW⟩
  case rest =>
  obtain ⟨⟨a, c, m, rfl, hm, rfl, hr, hnv, hQ0⟩, KW⟩ := hcut
  have HM := hid hm
  have HR := hid hr
  have HV := hid hnv
  have hQ := hid hQ0
  clear hm hr hnv hQ0 Q0
  obtain ⟨x0, x1, x2, x3, x4, x5, xf⟩ := r6c hQ.out.x0
  obtain ⟨y0, y1, y2, y3, y4, y5, yf⟩ := r6c (b := 0) (l := 0) (o := 0) (r := 0) hQ.out.y0
  cases hb : liveL ls pg od with
  | false =>
    have HB := hid hb
    clear hb
    have FIN := hid (fun u0 u1 u2 u3 u4 u5 => set6_kept (none_trans K00.out KW.out) (w.heap.size + 1) (by omega) u0 u1 u2 u3 u4 u5)
    go_wp2_with fail
    exact ⟨rfl, .tuple #[r6V b l (o : Int) r (.slice (some ⟨g0, 0, none⟩) (o + 1) fc) (.slice va n vc), .bool false], by simp [results, Tryz.results33, go_sem, y0, y1, y2, y3, y4, y5], .inl ⟨HB.out, by rw [HN.out], FIN.out _ _ _ _ _ _⟩⟩
  | true =>
    obtain ⟨p, k, rfl, rfl, hpk⟩ := liveL_ex hb
    obtain ⟨a1, a2, a3⟩ := hal p k hpk
    have HPK := hid hpk
    have ks : Kept (fun y => y = w.heap.size) wc (wc.setCell ⟨w.heap.size, 5, none⟩ (.slice a m c)) := (Kept.refl (fun y => y = w.heap.size) wc).setCell (p := ⟨w.heap.size, 5, none⟩) rfl _
    have X2 := hid (show (wc.setCell ⟨w.heap.size, 5, none⟩ (.slice a m c)).heap[w.heap.size]? = some (r6O b l (o : Int) r (.slice (some ⟨g0, 0, none⟩) (o + 1) fc) (.slice a m c)) from heap_set hQ.out.x0 5 _)
    have Y2 := hid ((ks.block _ (heap_lt hQ.out.y0) (by omega)).trans hQ.out.y0)
    have K2 := hid (show Kept none' w (wc.setCell ⟨w.heap.size, 5, none⟩ (.slice a m c)) from (none_trans K00.out KW.out).trans ks (fun _ _ e => e) (fun y hy e => by omega))
    have R2 := hid (show R6 N (wc.setCell ⟨w.heap.size, 5, none⟩ (.slice a m c)) g0 fc o fr a c (dropG ls (p : Int) (k : Int)) from R6.box (y := w.heap.size) ⟨hQ.out.r6.fl, HR.out, hQ.out.r6.nf, fun y e => Nat.le_trans hN (HV.out y e)⟩ hQ.out.x0 ks)
    have EN := hid (enter6 b l r o ho N g0 fc fr a c (dropG ls (p : Int) (k : Int)) m hf k p a1 a2 a3 _ R2.out)
    clear hpk a1 a3 hb hf hal x0 x1 x2 x3 x4 y0 y1 y2 y3 y4 y5 yf ks
    obtain ⟨z0, z1, z2, z3, z4, z5, zf⟩ := r6c X2.out
    go_wp2_with fail
    refine EN.out.mono ?_
    rintro e w3 ⟨rfl, hr3, hk3⟩
    have R3 := hid hr3
    have K3 := hid hk3
    have hy3 := (hk3.block _ (heap_lt Y2.out) (fun e => by
      rcases e with e | e
      · obtain ⟨cs, hc⟩ := R2.out.ty0
        exact ty_ne hc Y2.out (by decide) e.symm
      · obtain ⟨cs, hc⟩ := R2.out.tyv e
        exact ty_ne hc Y2.out (by decide) rfl)).trans Y2.out
    obtain ⟨y0, y1, y2, y3, y4, y5, yf⟩ := r6c (b := 0) (l := 0) (o := 0) (r := 0) hy3
    have FIN := hid (fun u0 u1 u2 u3 u4 u5 => And.intro (set6_kept (show Kept (S6 g0 va) w w3 from K2.out.trans K3.out (fun _ _ e => e.elim) (fun y hy e => by
      rcases e with e | e
      · exact .inl e
      · have := HV.out y e
        omega)) (w.heap.size + 1) (by omega) u0 u1 u2 u3 u4 u5) (R3.out.box hy3 (set6_in _ _ u0 u1 u2 u3 u4 u5)))
    clear hr3 hk3 hy3 z0 z1 z2 z3 z4 z5 zf EN
    go_wp2_with fail
    exact ⟨rfl, .tuple #[r6V b l (o : Int) r (.slice (some ⟨g0, 0, none⟩) (o + 1) fc) (.slice a m c), .bool true], by simp [results, Tryz.results33, go_sem, y0, y1, y2, y3, y4, y5], .inr ⟨p, k, a, c, rfl, rfl, HPK.out, by rw [HM.out], (FIN.out _ _ _ _ _ _).2, (FIN.out _ _ _ _ _ _).1⟩⟩
end Go.Proofs.YtggieolknccabaaGreat
