import Derived.Test.YthglogiglimebaaGreatQa
/- BuddyPlays: croftref5's cut, Take. -/
namespace Go.Proofs.YthglogiglimebaaGreat
open Go.RowKit
set_option linter.unusedVariables false

/-- The lists behind a cut. -/
def cutF (fr : Nat → List Nat) (pg frm tt : Nat) : Nat → List Nat := fun j => if tt ≤ j ∧ j < frm then (pg + 2 ^ j) :: fr j else fr j
theorem cutF_next (fr : Nat → List Nat) (pg frm d : Nat) (h : d < frm) : frU (cutF fr pg frm (d + 1)) d ((pg + 2 ^ d) :: cutF fr pg frm (d + 1) d) = cutF fr pg frm d := by
  funext j
  unfold frU cutF
  by_cases e : j = d
  · subst e
    rw [if_pos rfl, if_neg (by omega), if_pos (by omega)]
  · rw [if_neg e]
    by_cases e2 : d ≤ j ∧ j < frm
    · rw [if_pos (by omega), if_pos e2]
    · rw [if_neg (by omega), if_neg e2]
theorem cutF_low (fr : Nat → List Nat) (pg frm d : Nat) : cutF fr pg frm (d + 1) d = fr d := by
  unfold cutF
  rw [if_neg (by omega)]
theorem cutF_self (fr : Nat → List Nat) (pg frm : Nat) : cutF fr pg frm frm = fr := by
  funext j
  unfold cutF
  rw [if_neg (by omega)]
/-- What cut answers. -/
def G5P (w : World) (oi P : Int) (on : Nat) (fr : Nat → List Nat) (ls : List (Nat × Nat)) (e : Ending) (w' : World) : Prop := ∃ fa fc va vc, e = .returned (r5V oi P (.slice fa (on + 1) fc) (.slice va ls.length vc)) ∧ Kept none' w w' ∧ FL w' fa fc on fr ∧ RN w' (.slice va ls.length vc) ls
/-- While a buddy in its box is worked on. -/
structure Bz (w W : World) (oi P : Int) (on : Nat) (fr : Nat → List Nat) (fa : Option Addr) (fc : Nat) (lv : Value) : Prop where
  kp : Kept none' w W
  x0 : W.heap[w.heap.size]? = some (r5O oi P (.slice fa (on + 1) fc) lv)
  y0 : W.heap[w.heap.size + 1]? = some r5Z
  fl : FL W fa fc on fr
theorem Bz.two {w : World} {oi P : Int} {on : Nat} {fr : Nat → List Nat} {fa : Option Addr} {fc : Nat} (lv : Value) (h : FL w fa fc on fr) : Bz w ((w.alloc (r5O oi P (.slice fa (on + 1) fc) lv)).alloc r5Z) oi P on fr fa fc lv := by
  have T2 := two5 w (r5O oi P (.slice fa (on + 1) fc) lv) r5Z
  exact ⟨T2.1, T2.2.1, T2.2.2, h.keep T2.1⟩
/-- Another buddy is put into the box. -/
theorem Bz.put {w W W2 oi P on fr fr2 fa fa2 fc fc2 lv lv2} (h : Bz w W oi P on fr fa fc lv) (k : Kept none' W W2) (f : FL W2 fa2 fc2 on fr2) : Bz w (set4 W2 w.heap.size (.int .i64 oi) (.int .i64 P) (.slice fa2 (on + 1) fc2) lv2) oi P on fr2 fa2 fc2 lv2 := by
  have hx := (k.block _ (heap_lt h.x0) (fun e => e)).trans h.x0
  have hy := (k.block _ (heap_lt h.y0) (fun e => e)).trans h.y0
  have ks := set4_k W2 w.heap.size (.int .i64 oi) (.int .i64 P) (.slice fa2 (on + 1) fc2) lv2
  exact ⟨(none_trans h.kp k).trans ks (fun _ _ e => e) (fun y hy e => by have e : y = w.heap.size := e; omega), set4_box hx _ _ _ _, (ks.block _ (heap_lt hy) (by omega)).trans hy, f.set4 hx _ _ _ _⟩
theorem Bz.fin {w W W2 oi P on fr fr2 fa fa2 fc fc2 lv} (h : Bz w W oi P on fr fa fc lv) (k : Kept none' W W2) (f : FL W2 fa2 fc2 on fr2) {v : Value} {ls : List (Nat × Nat)} (r : RN W2 v ls) : W2.heap[w.heap.size + 1]? = some r5Z ∧ ∀ u0 u1 u2 u3, Kept none' w (set4 W2 (w.heap.size + 1) u0 u1 u2 u3) ∧ FL (set4 W2 (w.heap.size + 1) u0 u1 u2 u3) fa2 fc2 on fr2 ∧ RN (set4 W2 (w.heap.size + 1) u0 u1 u2 u3) v ls := by
  have hy := (k.block _ (heap_lt h.y0) (fun e => e)).trans h.y0
  exact ⟨hy, fun u0 u1 u2 u3 => ⟨(none_trans h.kp k).trans (set4_k _ _ _ _ _ _) (fun _ _ e => e) (fun y hy e => by have e : y = w.heap.size + 1 := e; omega), f.set4 hy _ _ _ _, r.set4 hy _ _ _ _⟩⟩
set_option maxRecDepth 4000 in
set_option maxHeartbeats 1000000 in
theorem cut5 (o : Nat) (ho : o ≤ 8) (oi P : Int) (fa : Option Addr) (fc : Nat) (va : Option Addr) (vc : Nat) (fr : Nat → List Nat) (hf : ∀ j, j ≤ o → (fr j).length ≤ 1024) (ls : List (Nat × Nat)) (hn : ls.length ≤ 1000) (pg : Nat) (hp : pg ≤ 1024) (frm tt : Nat) (h1 : tt ≤ frm) (h2 : frm ≤ o) (w : World) (h : FL w fa fc o fr) (hr : RN w (.slice va ls.length vc) ls) :
    Calls Tryz.prog 31 #[r5V oi P (.slice fa (o + 1) fc) (.slice va ls.length vc), .int .i64 (pg : Int), .int .i64 (frm : Int), .int .i64 (tt : Int)] w fun e w' => G5P w oi P o (cutF fr pg frm tt) (ls ++ [(pg, tt)]) e w' := by
  have HR := hid hr
  obtain ⟨n, hn'⟩ : ∃ n, n = ls.length := ⟨_, rfl⟩
  have B0 := hid (Bz.two (oi := oi) (P := P) (.slice va n vc) h)
  have LV := hid (fun W (k : Kept none' w W) fa fl fc => lives5 oi P fa fl fc va vc ls hn pg tt W (hr.keep k))
  rw [← hn'] at LV hn ⊢
  have HN := hid hn'
  have HF := hid hf
  clear h hr hn' hf
  go_enter Tryz.func31, Tryz.ntmps31
  go_wp2_with fail
  generalize (w.alloc (r5O oi P (.slice fa (o + 1) fc) (.slice va n vc))).alloc r5Z = W0 at *
  go_loopw [9] (fun i W => ∃ (z : Int) (e : Nat), i = .int .i64 z ∧ z + 1 = (e : Int) ∧ tt ≤ e ∧ e ≤ frm ∧ Hid (∃ fa fc, Bz w W oi P o (cutF fr pg frm e) fa fc (.slice va n vc))) (fun i _ => (intOf i + 1).toNat)
  case atStart => exact ⟨(frm : Int) - 1, frm, by simp, by omega, h1, Nat.le_refl _, hid ⟨fa, fc, by rw [cutF_self]; exact B0.out⟩⟩
  case round =>
    clear B0
    obtain ⟨z, e, rfl, hz, he1, he2, hR⟩ := hrel
    obtain ⟨fa1, fc1, hB⟩ := hR.out
    have B1 := hid hB
    clear hR
    obtain ⟨x0, x1, x2, x3, fx⟩ := r5c hB.x0
    by_cases hlt : tt < e
    · obtain ⟨d, rfl⟩ : ∃ d, e = d + 1 := ⟨e - 1, by omega⟩
      obtain rfl : z = (d : Int) := by omega
      have hdi : (tt : Int) ≤ (d : Int) := by omega
      have hd8 : d ≤ 8 := by omega
      obtain ⟨y, hy⟩ : ∃ y, y = 2 ^ d := ⟨_, rfl⟩
      have hyi : (2 : Int) ^ d = (y : Int) := by rw [hy]; simp
      have hy2 : y ≤ 256 := by rw [hy]; exact Nat.pow_le_pow_right (n := 2) (by decide) hd8
      have EN := hid (enter5 o ho oi P fa1 fc1 va n vc (cutF fr pg frm (d + 1)) d (by omega) (by rw [cutF_low]; exact HF.out d (by omega)) (pg + 2 ^ d) wr hB.fl)
      rw [cutF_next fr pg frm d (by omega), ← hy, show ((pg + y : Nat) : Int) = (pg : Int) + (y : Int) by simp] at EN
      clear hB hy hz
      go_wp2_with fail
      refine EN.out.mono ?_
      rintro e w2 ⟨fa2, fc2, rfl, hk2, hf2⟩
      have B2 := hid (B1.out.put (lv2 := .slice va n vc) hk2 hf2)
      obtain ⟨v0, v1, v2, v3, fv⟩ := r5c ((hk2.block _ (heap_lt B1.out.x0) (fun e => e)).trans B1.out.x0)
      clear hk2 hf2 EN
      go_wp2_with fail
      exact ⟨⟨(d : Int) - 1, d, by simp, by omega, by omega, by omega, hid ⟨_, _, B2.out⟩⟩, by simp [intOf]⟩
    · obtain rfl : e = tt := by omega
      have hdi : ¬ (e : Int) ≤ z := by omega
      have LW := hid (LV.out wr hB.kp fa1 (o + 1) fc1)
      clear hB
      go_wp2_with fail
      refine LW.out.mono ?_
      rintro e2 w2 ⟨va2, vc2, rfl, hk2, hr2⟩
      obtain ⟨hy2, hfin⟩ := B1.out.fin hk2 (B1.out.fl.keep hk2) hr2
      obtain ⟨b0, b1, b2, b3, fb⟩ := r5c hy2
      have FIN := hid hfin
      clear hk2 hr2 hy2 hfin LW LV
      obtain ⟨m, hm⟩ : ∃ m, m = (ls ++ [(pg, e)]).length := ⟨_, rfl⟩
      rw [← hm] at FIN ⊢
      have HM := hid hm
      clear hm
      go_wp2_with fail
      exact ⟨rfl, r5V oi P (.slice fa1 (o + 1) fc1) (.slice va2 m vc2), by simp [results, Tryz.results31, go_sem, b0, b1, b2, b3], fa1, fc1, va2, vc2, by rw [HM.out], (FIN.out _ _ _ _).1, (FIN.out _ _ _ _).2.1, by rw [← HM.out]; exact (FIN.out _ _ _ _).2.2⟩
/-- What Take answers. -/
def T5P (w : World) (oi P : Int) (on : Nat) (fr : Nat → List Nat) (ls : List (Nat × Nat)) (p er : Nat) (e : Ending) (w' : World) : Prop := ∃ fa fc va vc, e = .returned (.tuple #[r5V oi P (.slice fa (on + 1) fc) (.slice va ls.length vc), .int .i64 (p : Int), .int .i64 (er : Int)]) ∧ Kept none' w w' ∧ FL w' fa fc on fr ∧ RN w' (.slice va ls.length vc) ls
set_option maxRecDepth 4000 in
set_option maxHeartbeats 1000000 in
theorem Take5_no (o : Nat) (ho : o ≤ 8) (P : Int) (fa : Option Addr) (fc : Nat) (va : Option Addr) (vc : Nat) (fr : Nat → List Nat) (ls : List (Nat × Nat)) (hn : ls.length ≤ 1000) (k : Int) (hk : k < 0 ∨ (o : Int) < k) (w : World) (h : FL w fa fc o fr) (hr : RN w (.slice va ls.length vc) ls) :
    Calls Tryz.prog 9 #[r5V (o : Int) P (.slice fa (o + 1) fc) (.slice va ls.length vc), .int .i64 k] w fun e w' => T5P w (o : Int) P o fr ls 0 1 e w' := by
  obtain ⟨n, hn'⟩ : ∃ n, n = ls.length := ⟨_, rfl⟩
  have T2 := two5 w (r5O (o : Int) P (.slice fa (o + 1) fc) (.slice va n vc)) (r5O (o : Int) P (.slice fa (o + 1) fc) (.slice va n vc))
  obtain ⟨b0, b1, b2, b3, fb⟩ := r5c T2.2.2
  have FIN := hid (And.intro T2.1 (And.intro (h.keep T2.1) (hr.keep T2.1)))
  rw [← hn'] at hn ⊢
  have HN := hid hn'
  clear h hr hn' T2
  rcases hk with hk | hk
  · have e1 : decide (k < 0) = true := decide_eq_true hk
    go_enter Tryz.func9, Tryz.ntmps9
    go_wp2_with fail
    exact ⟨rfl, .tuple #[r5V (o : Int) P (.slice fa (o + 1) fc) (.slice va n vc), .int .i64 0, .int .i64 1], by simp [results, Tryz.results9, go_sem, b0, b1, b2, b3], fa, fc, va, vc, by rw [HN.out]; rfl, FIN.out.1, FIN.out.2.1, FIN.out.2.2⟩
  · have e1 : decide ((o : Int) < k) = true := decide_eq_true hk
    have e2 : decide (k < 0) = false := decide_eq_false (by omega)
    have e3 : 0 ≤ k := by omega
    go_enter Tryz.func9, Tryz.ntmps9
    go_wp2_with fail
    exact ⟨rfl, .tuple #[r5V (o : Int) P (.slice fa (o + 1) fc) (.slice va n vc), .int .i64 0, .int .i64 1], by simp [results, Tryz.results9, go_sem, b0, b1, b2, b3], fa, fc, va, vc, by rw [HN.out]; rfl, FIN.out.1, FIN.out.2.1, FIN.out.2.2⟩
/-- What Take of an order that may be answers. -/
def Tk5P (w : World) (P : Int) (o : Nat) (fr : Nat → List Nat) (ls : List (Nat × Nat)) (k : Nat) (e : Ending) (w' : World) : Prop :=
  ((∀ j, k ≤ j → j ≤ o → fr j = []) ∧ T5P w (o : Int) P o fr ls 0 2 e w') ∨ ∃ j p l, k ≤ j ∧ j ≤ o ∧ (∀ i, k ≤ i → i < j → fr i = []) ∧ fr j = p :: l ∧ T5P w (o : Int) P o (cutF (frU fr j (M.dropL (fr j) p)) p j k) (ls ++ [(p, k)]) p 0 e w'
set_option maxRecDepth 4000 in
set_option maxHeartbeats 1000000 in
theorem Take5 (o : Nat) (ho : o ≤ 8) (P : Int) (fa : Option Addr) (fc : Nat) (va : Option Addr) (vc : Nat) (fr : Nat → List Nat) (hf : ∀ j, j ≤ o → (fr j).length ≤ 1024) (hq : ∀ j, j ≤ o → ∀ q ∈ fr j, q ≤ 1024) (ls : List (Nat × Nat)) (hn : ls.length ≤ 1000) (k : Nat) (hk : k ≤ o) (w : World) (h : FL w fa fc o fr) (hr : RN w (.slice va ls.length vc) ls) :
    Calls Tryz.prog 9 #[r5V (o : Int) P (.slice fa (o + 1) fc) (.slice va ls.length vc), .int .i64 (k : Int)] w fun e w' => Tk5P w P o fr ls k e w' := by
  obtain ⟨n, hn'⟩ : ∃ n, n = ls.length := ⟨_, rfl⟩
  have B0 := hid (Bz.two (oi := (o : Int)) (P := P) (.slice va n vc) h)
  have HR := hid hr
  have CU := hid (fun W fa1 fc1 (k1 : Kept none' w W) fr1 (hf1 : ∀ j, j ≤ o → (fr1 j).length ≤ 1024) p (hp : p ≤ 1024) j (h1 : k ≤ j) (h2 : j ≤ o) (hF : FL W fa1 fc1 o fr1) => cut5 o ho (o : Int) P fa1 fc1 va vc fr1 hf1 ls hn p hp j k h1 h2 W hF (hr.keep k1))
  rw [← hn'] at CU hn ⊢
  have HN := hid hn'
  have HF := hid hf
  have HQ := hid hq
  have e1 : decide ((k : Int) < 0) = false := by simp
  have e2 : decide ((o : Int) < (k : Int)) = false := by simp; omega
  have e3 : ¬ (o : Int) < (k : Int) := by omega
  clear h hr hn' hf hq
  go_enter Tryz.func9, Tryz.ntmps9
  go_wp2_with fail
  generalize (w.alloc (r5O (o : Int) P (.slice fa (o + 1) fc) (.slice va n vc))).alloc r5Z = W0 at *
  clear e1 e2 e3
  go_loopw [7] (fun i W => ∃ j : Nat, k ≤ j ∧ j ≤ o + 1 ∧ i = .int .i64 j ∧ Hid ((∀ i, k ≤ i → i < j → fr i = []) ∧ Bz w W (o : Int) P o fr fa fc (.slice va n vc))) (fun i _ => o + 1 - (intOf i).toNat)
  case atStart => exact ⟨k, Nat.le_refl _, by omega, rfl, hid ⟨fun i h1 h2 => by omega, B0.out⟩⟩
  case round =>
    clear B0
    obtain ⟨j, hkj, hj, rfl, hR⟩ := hrel
    obtain ⟨hE, hB⟩ := hR.out
    have EM := hid hE
    have B1 := hid hB
    obtain ⟨x0, x1, x2, x3, fx⟩ := r5c hB.x0
    clear hR hE
    by_cases hlt : j ≤ o
    · have hji : (j : Int) ≤ (o : Int) := by omega
      have hji1 : (j : Int) < ((o + 1 : Nat) : Int) := by omega
      have hji2 : (j : Int) < (o : Int) + 1 := by omega
      obtain ⟨g0, A, C, hfa, r0, hN⟩ := hB.fl.get j hlt
      subst hfa
      clear hB
      cases hfr : fr j with
      | nil =>
        rw [hfr] at r0
        have EM2 := hid (show ∀ i, k ≤ i → i < j + 1 → fr i = [] from fun i h1 h2 => by
          by_cases e : i = j
          · rw [e]; exact hfr
          · exact EM.out i h1 (by omega))
        replace r0 : wr.cell? ⟨g0, j, none⟩ = some (.slice A 0 C) := r0
        clear hN hfr
        go_wp2_with fail
        exact ⟨⟨j + 1, by omega, by omega, by simp, hid ⟨EM2.out, B1.out⟩⟩, by simp [intOf]; omega⟩
      | cons p l =>
        have hlen : (fr j).length = l.length + 1 := by rw [hfr]; rfl
        obtain ⟨g2, hA, r2⟩ := hN.get (i := 0) (by omega)
        subst hA
        rw [hlen] at r0
        rw [show (fr j).getD 0 0 = p by rw [hfr]; rfl] at r2
        have hp := HQ.out j hlt p (by rw [hfr]; exact List.mem_cons_self)
        have LE := hid (leave5 o ho (o : Int) P (some ⟨g0, 0, none⟩) fc va n vc fr j hlt (HF.out j hlt) p wr B1.out.fl)
        have HFR := hid hfr
        have hl1 : (0 : Int) < ((l.length : Nat) : Int) + 1 := by omega
        clear hN hfr hlen
        go_wp2_with fail
        refine LE.out.mono ?_
        rintro e w2 ⟨fa2, fc2, rfl, hk2, hf2⟩
        have K2 := hid hk2
        have C2 := hid (CU.out w2 fa2 fc2 (none_trans B1.out.kp hk2) _ (fun i hi => by
          unfold frU
          by_cases e : i = j
          · rw [if_pos e]; exact Nat.le_trans (List.length_filter_le _ _) (HF.out j hlt)
          · rw [if_neg e]; exact HF.out i hi) p hp j hkj hlt hf2)
        clear hk2 hf2 LE
        go_wp2_with fail
        refine C2.out.mono ?_
        rintro e w3 ⟨fa3, fc3, va3, vc3, rfl, hk3, hf3, hr3⟩
        obtain ⟨hy2, hfin⟩ := B1.out.fin (none_trans K2.out hk3) hf3 hr3
        obtain ⟨b0, b1, b2, b3, fb⟩ := r5c hy2
        have FIN := hid hfin
        clear hk3 hf3 hr3 hy2 hfin C2 CU
        obtain ⟨m, hm⟩ : ∃ m, m = (ls ++ [(p, k)]).length := ⟨_, rfl⟩
        rw [← hm] at FIN ⊢
        have HM := hid hm
        clear hm
        go_wp2_with fail
        exact ⟨rfl, .tuple #[r5V (o : Int) P (.slice fa3 (o + 1) fc3) (.slice va3 m vc3), .int .i64 (p : Int), .int .i64 0], by simp [results, Tryz.results9, go_sem, b0, b1, b2, b3], .inr ⟨j, p, l, hkj, hlt, EM.out, HFR.out, fa3, fc3, va3, vc3, by rw [HM.out]; rfl, (FIN.out _ _ _ _).1, (FIN.out _ _ _ _).2.1, by rw [← HM.out]; exact (FIN.out _ _ _ _).2.2⟩⟩
    · obtain rfl : j = o + 1 := by omega
      have hji : ¬ ((o + 1 : Nat) : Int) ≤ (o : Int) := by omega
      have hji2 : ¬ (o : Int) + 1 ≤ (o : Int) := by omega
      obtain ⟨hy2, hfin⟩ := B1.out.fin (Kept.refl none' wr) B1.out.fl (HR.out.keep B1.out.kp)
      obtain ⟨b0, b1, b2, b3, fb⟩ := r5c hy2
      have FIN := hid hfin
      clear hy2 hfin CU hB
      go_wp2_with fail
      exact ⟨rfl, .tuple #[r5V (o : Int) P (.slice fa (o + 1) fc) (.slice va n vc), .int .i64 0, .int .i64 2], by simp [results, Tryz.results9, go_sem, b0, b1, b2, b3], .inl ⟨fun i h1 h2 => EM.out i h1 (by omega), fa, fc, va, vc, by rw [HN.out]; rfl, (FIN.out _ _ _ _).1, (FIN.out _ _ _ _).2.1, (FIN.out _ _ _ _).2.2⟩⟩
end Go.Proofs.YthglogiglimebaaGreat
/- BuddyPlays: croftref5's Give, Shrink. -/
namespace Go.Proofs.YthglogiglimebaaGreat
open Go.RowKit
set_option linter.unusedVariables false

/-- What Give, Shrink, Feed, Pull answer. -/
def V5P (w : World) (oi P : Int) (on : Nat) (fr : Nat → List Nat) (ls : List (Nat × Nat)) (er : Nat) (e : Ending) (w' : World) : Prop := ∃ fa fc va vc, e = .returned (.tuple #[r5V oi P (.slice fa (on + 1) fc) (.slice va ls.length vc), .int .i64 (er : Int)]) ∧ Kept none' w w' ∧ FL w' fa fc on fr ∧ RN w' (.slice va ls.length vc) ls
set_option maxRecDepth 4000 in
set_option maxHeartbeats 1000000 in
theorem Give5_no (o : Nat) (oi P : Int) (fa : Option Addr) (fc : Nat) (va : Option Addr) (vc : Nat) (fr : Nat → List Nat) (ls : List (Nat × Nat)) (hn : ls.length ≤ 1000) (pg od : Int) (hl : liveL ls pg od = false) (w : World) (h : FL w fa fc o fr) (hr : RN w (.slice va ls.length vc) ls) :
    Calls Tryz.prog 47 #[r5V oi P (.slice fa (o + 1) fc) (.slice va ls.length vc), .int .i64 pg, .int .i64 od] w fun e w' => V5P w oi P o fr ls 1 e w' := by
  obtain ⟨n, hn'⟩ : ∃ n, n = ls.length := ⟨_, rfl⟩
  have B0 := hid (Bz.two (oi := oi) (P := P) (.slice va n vc) h)
  have IL := hid (fun W (k : Kept none' w W) => IsLive5 oi P fa (o + 1) fc va vc ls hn pg od W (hr.keep k))
  have HR := hid hr
  rw [← hn'] at IL hn ⊢
  rw [hl] at IL
  have HN := hid hn'
  clear h hr hn' hl
  go_enter Tryz.func47, Tryz.ntmps47
  go_wp2_with fail
  generalize (w.alloc (r5O oi P (.slice fa (o + 1) fc) (.slice va n vc))).alloc r5Z = W0 at *
  refine (IL.out W0 B0.out.kp).mono ?_
  rintro e w2 ⟨rfl, hk2⟩
  obtain ⟨x0, x1, x2, x3, fx⟩ := r5c ((hk2.block _ (heap_lt B0.out.x0) (fun e => e)).trans B0.out.x0)
  obtain ⟨hy2, hfin⟩ := B0.out.fin hk2 (B0.out.fl.keep hk2) (HR.out.keep (none_trans B0.out.kp hk2))
  obtain ⟨b0, b1, b2, b3, fb⟩ := r5c hy2
  have FIN := hid hfin
  clear hy2 hfin IL hk2
  go_wp2_with fail
  exact ⟨rfl, .tuple #[r5V oi P (.slice fa (o + 1) fc) (.slice va n vc), .int .i64 1], by simp [results, Tryz.results47, go_sem, b0, b1, b2, b3], fa, fc, va, vc, by rw [HN.out]; rfl, (FIN.out _ _ _ _).1, (FIN.out _ _ _ _).2.1, (FIN.out _ _ _ _).2.2⟩
/-- The lists behind a Give. -/
def giveF (o : Nat) (fr : Nat → List Nat) (p k : Nat) : Nat → List Nat := frU (joinF o (o - k) fr p k).1 (joinF o (o - k) fr p k).2.2 ((joinF o (o - k) fr p k).2.1 :: (joinF o (o - k) fr p k).1 (joinF o (o - k) fr p k).2.2)
theorem liveL_mem {ls : List (Nat × Nat)} {p k : Nat} : liveL ls (p : Int) (k : Int) = true ↔ (p, k) ∈ ls := by
  unfold liveL
  rw [List.any_eq_true]
  constructor
  · rintro ⟨⟨a, b⟩, h1, h2⟩
    rw [Bool.and_eq_true, decide_eq_true_iff, decide_eq_true_iff] at h2
    obtain ⟨h3, h4⟩ := h2
    have h3 : a = p := Int.ofNat.inj h3
    have h4 : b = k := Int.ofNat.inj h4
    rw [h3, h4] at h1
    exact h1
  · intro h
    exact ⟨(p, k), h, by simp⟩
/-- Between two rounds of Give's. -/
structure Gv (w W : World) (o : Nat) (P : Int) (fr0 : Nat → List Nat) (p0 k0 : Nat) (ls : List (Nat × Nat)) (va : Option Addr) (n vc : Nat) (fa : Option Addr) (fc : Nat) (fr : Nat → List Nat) (p k : Nat) : Prop where
  bz : Bz w W (o : Int) P o fr fa fc (.slice va n vc)
  rn : RN W (.slice va n vc) ls
  jn : joinF o (o - k) fr p k = joinF o (o - k0) fr0 p0 k0
  ln : ∀ j, j ≤ o → (fr j).length ≤ 1024
set_option maxRecDepth 4000 in
set_option maxHeartbeats 2000000 in
theorem Give5 (o : Nat) (ho : o ≤ 8) (P : Int) (fa : Option Addr) (fc : Nat) (va : Option Addr) (vc : Nat) (fr : Nat → List Nat) (hf : ∀ j, j ≤ o → (fr j).length ≤ 1024) (ls : List (Nat × Nat)) (hn : ls.length ≤ 1000) (pg od : Nat) (hp : pg ≤ 1024) (hod : od ≤ o) (hl : (pg, od) ∈ ls) (w : World) (h : FL w fa fc o fr) (hr : RN w (.slice va ls.length vc) ls) :
    Calls Tryz.prog 47 #[r5V (o : Int) P (.slice fa (o + 1) fc) (.slice va ls.length vc), .int .i64 (pg : Int), .int .i64 (od : Int)] w fun e w' => V5P w (o : Int) P o (giveF o fr pg od) (dropR ls pg) 0 e w' := by
  obtain ⟨n, hn'⟩ : ∃ n, n = ls.length := ⟨_, rfl⟩
  obtain ⟨fr0, hfr0⟩ : ∃ fr0, fr0 = fr := ⟨_, rfl⟩
  obtain ⟨J, hJ⟩ : ∃ J, J = joinF o (o - od) fr0 pg od := ⟨_, rfl⟩
  have hGF : giveF o fr pg od = frU J.1 J.2.2 (J.2.1 :: J.1 J.2.2) := by rw [hJ, hfr0]; rfl
  rw [hGF]
  have B0 := hid (Bz.two (oi := (o : Int)) (P := P) (.slice va n vc) h)
  have IL := hid (fun W (k : Kept none' w W) => IsLive5 (o : Int) P fa (o + 1) fc va vc ls hn (pg : Int) (od : Int) W (hr.keep k))
  have DI := hid (fun W (k : Kept none' w W) => dies5 (o : Int) P fa (o + 1) fc va vc ls hn pg W (hr.keep k))
  rw [← hn'] at IL DI hn ⊢
  rw [liveL_mem.2 hl] at IL
  have HN := hid hn'
  have HF := hid hf
  have HJ := hid hJ
  have HFR0 := hid hfr0
  obtain ⟨ls2, hls2⟩ : ∃ ls2, ls2 = dropR ls pg := ⟨_, rfl⟩
  rw [← hls2] at DI ⊢
  obtain ⟨n2, hn2⟩ : ∃ n2, n2 = ls2.length := ⟨_, rfl⟩
  have HN2 := hid hn2
  have hn21 : n2 ≤ 1000 := by rw [hn2, hls2]; exact Nat.le_trans (List.length_filter_le _ _) (by rw [← hn']; exact hn)
  clear h hr hn' hl hf hGF hJ hls2 hn2 hfr0
  go_enter Tryz.func47, Tryz.ntmps47
  go_wp2_with fail
  generalize (w.alloc (r5O (o : Int) P (.slice fa (o + 1) fc) (.slice va n vc))).alloc r5Z = W0 at *
  refine (IL.out W0 B0.out.kp).mono ?_
  rintro e w2 ⟨rfl, hk2⟩
  have B2 := hid (show Bz w w2 (o : Int) P o fr fa fc (.slice va n vc) from ⟨none_trans B0.out.kp hk2, (hk2.block _ (heap_lt B0.out.x0) (fun e => e)).trans B0.out.x0, (hk2.block _ (heap_lt B0.out.y0) (fun e => e)).trans B0.out.y0, B0.out.fl.keep hk2⟩)
  obtain ⟨x0, x1, x2, x3, fx⟩ := r5c B2.out.x0
  clear hk2 IL B0
  go_wp2_with fail
  refine (DI.out w2 B2.out.kp).mono ?_
  rintro e w3 ⟨va2, vc2, rfl, hk3, hr3⟩
  rw [← HN2.out] at hr3 ⊢
  have B3 := hid (B2.out.put (lv2 := .slice va2 n2 vc2) hk3 (B2.out.fl.keep hk3))
  have G3 := hid (show Gv w ((((w3.setCell ⟨w.heap.size, 0, none⟩ (.int .i64 (o : Int))).setCell ⟨w.heap.size, 1, none⟩ (.int .i64 P)).setCell ⟨w.heap.size, 2, none⟩ (.slice fa (o + 1) fc)).setCell ⟨w.heap.size, 3, none⟩ (.slice va2 n2 vc2)) o P fr0 pg od ls2 va2 n2 vc2 fa fc fr pg od from ⟨B3.out, hr3.set4 ((hk3.block _ (heap_lt B2.out.x0) (fun e => e)).trans B2.out.x0) _ _ _ _, by rw [HFR0.out], HF.out⟩)
  obtain ⟨v0, v1, v2, v3, fv⟩ := r5c ((hk3.block _ (heap_lt B2.out.x0) (fun e => e)).trans B2.out.x0)
  clear hk3 hr3 DI B2 B3 x0 x1 x2 x3 fx
  go_wp2_with fail
  generalize (((w3.setCell ⟨w.heap.size, 0, none⟩ (.int .i64 (o : Int))).setCell ⟨w.heap.size, 1, none⟩ (.int .i64 P)).setCell ⟨w.heap.size, 2, none⟩ (.slice fa (o + 1) fc)).setCell ⟨w.heap.size, 3, none⟩ (.slice va2 n2 vc2) = w4 at *
  clear v0 v1 v2 v3 fv
  go_loopw [1, 8] (fun pv kv W => ∃ (p k : Nat), pv = .int .i64 p ∧ kv = .int .i64 k ∧ p ≤ 1024 ∧ k ≤ o ∧ Hid (∃ fa fc fr1, Gv w W o P fr0 pg od ls2 va2 n2 vc2 fa fc fr1 p k)) (fun _ kv _ => o - (intOf kv).toNat)
  case atStart => exact ⟨pg, od, rfl, rfl, hp, hod, hid ⟨_, _, _, G3.out⟩⟩
  case round =>
    clear G3
    obtain ⟨p, k, rfl, rfl, hp2, hk, hR⟩ := hrel
    obtain ⟨fa, fc, fr, hG⟩ := hR.out
    have G1 := hid hG
    obtain ⟨hbz, hrn, hjn, hln⟩ := hG
    rw [← HJ.out] at hjn
    obtain ⟨x0, x1, x2, x3, fx⟩ := r5c hbz.x0
    clear hR hrn
    by_cases hlt : k < o
    · have hki : (k : Int) < (o : Int) := by omega
      have hk8 : k ≤ 8 := by omega
      obtain ⟨d, hd⟩ : ∃ d, o - k = d + 1 := ⟨o - k - 1, by omega⟩
      obtain ⟨z, hz⟩ : ∃ z, z = 2 ^ k := ⟨_, rfl⟩
      have hzi : (2 : Int) ^ k = (z : Int) := by rw [hz]; simp
      have hz2 : z ≤ 256 := by rw [hz]; exact Nat.pow_le_pow_right (n := 2) (by decide) hk8
      have hzw : IntKind.i64.wrap (z : Int) = (z : Int) := by rw [IntKind.wrap_i64]; omega
      obtain ⟨q, hq⟩ : ∃ q, q = othN p k := ⟨_, rfl⟩
      obtain ⟨lo, hlo⟩ : ∃ lo, lo = lowN p k := ⟨_, rfl⟩
      have hxor : bits .xor .i64 (p : Int) (z : Int) = (q : Int) := by rw [i64_xor_nat p z (by omega) (by omega), hq, othN, hz]
      have hand : bits .andNot .i64 (p : Int) (z : Int) = (lo : Int) := by rw [i64_andNot_nat p z (by omega) (by omega), hlo, lowN, hz]
      have hlp : lo ≤ p := by rw [hlo]; exact Nat.and_le_left
      have IS := hid (Is5 o (o : Int) P fa fc va2 n2 vc2 fr k hk (hln k hk) ho q wr hbz.fl)
      by_cases hm : q ∈ fr k
      · rw [decide_eq_true hm] at IS
        have hj2 : joinF o (o - (k + 1)) (frU fr k (M.dropL (fr k) q)) lo (k + 1) = J := by
          rw [← hjn, hd, joinF, ← hq, ← hlo, if_pos ⟨hlt, hm⟩, show o - (k + 1) = d by omega]
        have HJ2 := hid hj2
        have HL2 := hid (show ∀ j, j ≤ o → (frU fr k (M.dropL (fr k) q) j).length ≤ 1024 from fun j hj => by
          unfold frU
          by_cases e : j = k
          · rw [if_pos e]; exact Nat.le_trans (List.length_filter_le _ _) (hln k hk)
          · rw [if_neg e]; exact hln j hj)
        have LN := hid (hln k hk)
        clear hj2 hm hq hlo hz hd hjn hln hbz
        go_wp2_with fail
        refine IS.out.mono ?_
        rintro e w5 ⟨rfl, hk5⟩
        have X5 := hid ((hk5.block _ (heap_lt G1.out.bz.x0) (fun e => e)).trans G1.out.bz.x0)
        have K5 := hid hk5
        clear hk5 x0 x1 x2 x3 fx IS
        obtain ⟨x0, x1, x2, x3, fx⟩ := r5c X5.out
        have LE := hid (leave5 o ho (o : Int) P fa fc va2 n2 vc2 fr k hk LN.out q w5 (G1.out.bz.fl.keep K5.out))
        go_wp2_with fail
        refine LE.out.mono ?_
        rintro e w6 ⟨fa6, fc6, rfl, hk6, hf6⟩
        have B6 := G1.out.bz.put (lv2 := .slice va2 n2 vc2) (none_trans K5.out hk6) hf6
        have X6 := (hk6.block _ (heap_lt X5.out) (fun e => e)).trans X5.out
        have G6 := hid (show Gv w _ o P fr0 pg od ls2 va2 n2 vc2 fa6 fc6 (frU fr k (M.dropL (fr k) q)) lo (k + 1) from ⟨B6, (G1.out.rn.keep (none_trans K5.out hk6)).set4 X6 _ _ _ _, HJ2.out.trans HJ.out, HL2.out⟩)
        clear x0 x1 x2 x3 fx
        obtain ⟨x0, x1, x2, x3, fx⟩ := r5c X6
        clear hk6 hf6 B6 X6 LE
        go_wp2_with fail
        exact ⟨⟨lo, k + 1, rfl, by simp, by omega, by omega, hid ⟨_, _, _, G6.out⟩⟩, by simp [intOf]; omega⟩
      · rw [decide_eq_false hm] at IS
        have hjf : joinF o (o - k) fr p k = (fr, p, k) := by rw [hd, joinF, ← hq, if_neg (fun e => hm e.2)]
        clear hm hq hlo hz hd
        go_wp2_with fail
        refine IS.out.mono ?_
        rintro e w5 ⟨rfl, hk5⟩
        have G5 := hid (show Gv w w5 o P fr0 pg od ls2 va2 n2 vc2 fa fc fr p k from ⟨⟨none_trans G1.out.bz.kp hk5, (hk5.block _ (heap_lt G1.out.bz.x0) (fun e => e)).trans G1.out.bz.x0, (hk5.block _ (heap_lt G1.out.bz.y0) (fun e => e)).trans G1.out.bz.y0, G1.out.bz.fl.keep hk5⟩, G1.out.rn.keep hk5, G1.out.jn, G1.out.ln⟩)
        clear G1 hbz hk5 IS x0 x1 x2 x3 fx
        generalize wr = w9 at *
        generalize w5 = wr at *
        have G1 := hid G5.out
        have hbz := G5.out.bz
        obtain ⟨x0, x1, x2, x3, fx⟩ := r5c hbz.x0
        clear G5
        have hj1 : J = (fr, p, k) := by rw [← hjn, hjf]
        have EN := hid (enter5 o ho (o : Int) P fa fc va2 n2 vc2 fr k hk (hln k hk) p wr hbz.fl)
        clear hjn hjf hln
        go_wp2_with fail
        refine EN.out.mono ?_
        rintro e w6 ⟨fa6, fc6, rfl, hk6, hf6⟩
        obtain ⟨hy6, hfin⟩ := G1.out.bz.fin hk6 hf6 (G1.out.rn.keep hk6)
        obtain ⟨b0, b1, b2, b3, fb⟩ := r5c hy6
        have FIN := hid (show ∀ u0 u1 u2 u3, Kept none' w (set4 w6 (w.heap.size + 1) u0 u1 u2 u3) ∧ FL (set4 w6 (w.heap.size + 1) u0 u1 u2 u3) fa6 fc6 o (frU J.1 J.2.2 (J.2.1 :: J.1 J.2.2)) ∧ RN (set4 w6 (w.heap.size + 1) u0 u1 u2 u3) (.slice va2 n2 vc2) ls2 from by
          rw [hj1]; exact hfin)
        clear hk6 hf6 hy6 hfin EN hj1 hbz
        go_wp2_with fail
        exact ⟨rfl, .tuple #[r5V (o : Int) P (.slice fa6 (o + 1) fc6) (.slice va2 n2 vc2), .int .i64 0], by simp [results, Tryz.results47, go_sem, b0, b1, b2, b3], fa6, fc6, va2, vc2, by rw [HN2.out]; rfl, (FIN.out _ _ _ _).1, (FIN.out _ _ _ _).2.1, by rw [← HN2.out]; exact (FIN.out _ _ _ _).2.2⟩
    · have hki : ¬ (k : Int) < (o : Int) := by omega
      have hjf : joinF o (o - k) fr p k = (fr, p, k) := by rw [show o - k = 0 by omega]; rfl
      have hj1 : J = (fr, p, k) := by rw [← hjn, hjf]
      have EN := hid (enter5 o ho (o : Int) P fa fc va2 n2 vc2 fr k hk (hln k hk) p wr hbz.fl)
      clear hjn hjf hln
      go_wp2_with fail
      refine EN.out.mono ?_
      rintro e w6 ⟨fa6, fc6, rfl, hk6, hf6⟩
      obtain ⟨hy6, hfin⟩ := G1.out.bz.fin hk6 hf6 (G1.out.rn.keep hk6)
      obtain ⟨b0, b1, b2, b3, fb⟩ := r5c hy6
      have FIN := hid (show ∀ u0 u1 u2 u3, Kept none' w (set4 w6 (w.heap.size + 1) u0 u1 u2 u3) ∧ FL (set4 w6 (w.heap.size + 1) u0 u1 u2 u3) fa6 fc6 o (frU J.1 J.2.2 (J.2.1 :: J.1 J.2.2)) ∧ RN (set4 w6 (w.heap.size + 1) u0 u1 u2 u3) (.slice va2 n2 vc2) ls2 from by
        rw [hj1]; exact hfin)
      clear hk6 hf6 hy6 hfin EN hj1 hbz
      go_wp2_with fail
      exact ⟨rfl, .tuple #[r5V (o : Int) P (.slice fa6 (o + 1) fc6) (.slice va2 n2 vc2), .int .i64 0], by simp [results, Tryz.results47, go_sem, b0, b1, b2, b3], fa6, fc6, va2, vc2, by rw [HN2.out]; rfl, (FIN.out _ _ _ _).1, (FIN.out _ _ _ _).2.1, by rw [← HN2.out]; exact (FIN.out _ _ _ _).2.2⟩
end Go.Proofs.YthglogiglimebaaGreat
/- BuddyPlays: croftref5's Shrink, Feed, Pull, Come, Go. -/
namespace Go.Proofs.YthglogiglimebaaGreat
open Go.RowKit
set_option linter.unusedVariables false

theorem Bz.keep {w W W2 oi P on fr fa fc lv} (h : Bz w W oi P on fr fa fc lv) (k : Kept none' W W2) : Bz w W2 oi P on fr fa fc lv := ⟨none_trans h.kp k, (k.block _ (heap_lt h.x0) (fun e => e)).trans h.x0, (k.block _ (heap_lt h.y0) (fun e => e)).trans h.y0, h.fl.keep k⟩
theorem same5 {w W : World} {oi P : Int} {o : Nat} {fr : Nat → List Nat} {ls : List (Nat × Nat)} {fa : Option Addr} {fc : Nat} {lv v : Value} (h : Bz w W oi P o fr fa fc lv) (hr : RN w v ls) : W.heap[w.heap.size + 1]? = some r5Z ∧ ∀ u0 u1 u2 u3, Kept none' w (set4 W (w.heap.size + 1) u0 u1 u2 u3) ∧ FL (set4 W (w.heap.size + 1) u0 u1 u2 u3) fa fc o fr ∧ RN (set4 W (w.heap.size + 1) u0 u1 u2 u3) v ls := h.fin (Kept.refl none' W) h.fl (hr.keep h.kp)
set_option maxRecDepth 4000 in
set_option maxHeartbeats 1000000 in
theorem Shrink5_no (o : Nat) (oi P : Int) (fa : Option Addr) (fc : Nat) (va : Option Addr) (vc : Nat) (fr : Nat → List Nat) (ls : List (Nat × Nat)) (hn : ls.length ≤ 1000) (pg frm tt : Int) (hl : tt < 0 ∨ frm < tt ∨ liveL ls pg frm = false) (w : World) (h : FL w fa fc o fr) (hr : RN w (.slice va ls.length vc) ls) :
    Calls Tryz.prog 49 #[r5V oi P (.slice fa (o + 1) fc) (.slice va ls.length vc), .int .i64 pg, .int .i64 frm, .int .i64 tt] w fun e w' => V5P w oi P o fr ls 1 e w' := by
  obtain ⟨n, hn'⟩ : ∃ n, n = ls.length := ⟨_, rfl⟩
  have B0 := hid (Bz.two (oi := oi) (P := P) (.slice va n vc) h)
  have IL := hid (fun W (k : Kept none' w W) => IsLive5 oi P fa (o + 1) fc va vc ls hn pg frm W (hr.keep k))
  have HR := hid hr
  have T2 := two5 w (r5O oi P (.slice fa (o + 1) fc) (.slice va n vc)) (r5O oi P (.slice fa (o + 1) fc) (.slice va n vc))
  obtain ⟨b0, b1, b2, b3, fb⟩ := r5c T2.2.2
  have FI := hid (And.intro T2.1 (And.intro (h.keep T2.1) (hr.keep T2.1)))
  rw [← hn'] at IL hn ⊢
  have HN := hid hn'
  clear h hr hn' T2
  by_cases c1 : tt < 0
  · have e1 : decide (tt < 0) = true := decide_eq_true c1
    clear hl IL
    go_enter Tryz.func49, Tryz.ntmps49
    go_wp2_with fail
    exact ⟨rfl, .tuple #[r5V oi P (.slice fa (o + 1) fc) (.slice va n vc), .int .i64 1], by simp [results, Tryz.results49, go_sem, b0, b1, b2, b3], fa, fc, va, vc, by rw [HN.out]; rfl, FI.out.1, FI.out.2.1, FI.out.2.2⟩
  · have e1 : decide (tt < 0) = false := decide_eq_false c1
    have e1b : 0 ≤ tt := by omega
    by_cases c2 : frm < tt
    · have e2 : decide (frm < tt) = true := decide_eq_true c2
      clear hl IL c1
      go_enter Tryz.func49, Tryz.ntmps49
      go_wp2_with fail
      exact ⟨rfl, .tuple #[r5V oi P (.slice fa (o + 1) fc) (.slice va n vc), .int .i64 1], by simp [results, Tryz.results49, go_sem, b0, b1, b2, b3], fa, fc, va, vc, by rw [HN.out]; rfl, FI.out.1, FI.out.2.1, FI.out.2.2⟩
    · have e2 : decide (frm < tt) = false := decide_eq_false c2
      have e2b : tt ≤ frm := by omega
      have e3 : liveL ls pg frm = false := (hl.resolve_left c1).resolve_left c2
      rw [e3] at IL
      clear hl c1 c2 e3 FI b0 b1 b2 b3 fb
      go_enter Tryz.func49, Tryz.ntmps49
      go_wp2_with fail
      generalize (w.alloc (r5O oi P (.slice fa (o + 1) fc) (.slice va n vc))).alloc r5Z = W0 at *
      refine (IL.out W0 B0.out.kp).mono ?_
      rintro e w2 ⟨rfl, hk2⟩
      have B2 := B0.out.keep hk2
      obtain ⟨x0, x1, x2, x3, fx⟩ := r5c B2.x0
      obtain ⟨hy2, hfin⟩ := same5 B2 HR.out
      obtain ⟨b0, b1, b2, b3, fb⟩ := r5c hy2
      have FIN := hid hfin
      clear hy2 hfin IL hk2
      go_wp2_with fail
      exact ⟨rfl, .tuple #[r5V oi P (.slice fa (o + 1) fc) (.slice va n vc), .int .i64 1], by simp [results, Tryz.results49, go_sem, b0, b1, b2, b3], fa, fc, va, vc, by rw [HN.out]; rfl, (FIN.out _ _ _ _).1, (FIN.out _ _ _ _).2.1, (FIN.out _ _ _ _).2.2⟩
set_option maxRecDepth 4000 in
set_option maxHeartbeats 1000000 in
theorem Shrink5 (o : Nat) (ho : o ≤ 8) (P : Int) (fa : Option Addr) (fc : Nat) (va : Option Addr) (vc : Nat) (fr : Nat → List Nat) (hf : ∀ j, j ≤ o → (fr j).length ≤ 1024) (ls : List (Nat × Nat)) (hn : ls.length ≤ 1000) (pg frm tt : Nat) (hp : pg ≤ 1024) (h1 : tt ≤ frm) (h2 : frm ≤ o) (hl : (pg, frm) ∈ ls) (w : World) (h : FL w fa fc o fr) (hr : RN w (.slice va ls.length vc) ls) :
    Calls Tryz.prog 49 #[r5V (o : Int) P (.slice fa (o + 1) fc) (.slice va ls.length vc), .int .i64 (pg : Int), .int .i64 (frm : Int), .int .i64 (tt : Int)] w fun e w' => V5P w (o : Int) P o (cutF fr pg frm tt) (dropR ls pg ++ [(pg, tt)]) 0 e w' := by
  obtain ⟨n, hn'⟩ : ∃ n, n = ls.length := ⟨_, rfl⟩
  have B0 := hid (Bz.two (oi := (o : Int)) (P := P) (.slice va n vc) h)
  have IL := hid (fun W (k : Kept none' w W) => IsLive5 (o : Int) P fa (o + 1) fc va vc ls hn (pg : Int) (frm : Int) W (hr.keep k))
  have DI := hid (fun W (k : Kept none' w W) => dies5 (o : Int) P fa (o + 1) fc va vc ls hn pg W (hr.keep k))
  rw [← hn'] at IL DI hn ⊢
  rw [liveL_mem.2 hl] at IL
  have HN := hid hn'
  have HF := hid hf
  obtain ⟨ls2, hls2⟩ : ∃ ls2, ls2 = dropR ls pg := ⟨_, rfl⟩
  rw [← hls2] at DI ⊢
  have hn21 : ls2.length ≤ 1000 := by rw [hls2]; exact Nat.le_trans (List.length_filter_le _ _) (by rw [← hn']; exact hn)
  have CU := hid (fun W va2 vc2 (hF : FL W fa fc o fr) (hR : RN W (.slice va2 ls2.length vc2) ls2) => cut5 o ho (o : Int) P fa fc va2 vc2 fr hf ls2 hn21 pg hp frm tt h1 h2 W hF hR)
  obtain ⟨n2, hn2⟩ : ∃ n2, n2 = ls2.length := ⟨_, rfl⟩
  rw [← hn2] at CU hn21
  have HN2 := hid hn2
  have e1 : decide ((tt : Int) < 0) = false := by simp
  have e2 : decide ((frm : Int) < (tt : Int)) = false := by simp; omega
  have e3 : (tt : Int) ≤ (frm : Int) := by omega
  clear h hr hn' hl hf hls2 hn2
  unfold L5P at DI
  rw [← HN2.out] at DI
  go_enter Tryz.func49, Tryz.ntmps49
  go_wp2_with fail
  generalize (w.alloc (r5O (o : Int) P (.slice fa (o + 1) fc) (.slice va n vc))).alloc r5Z = W0 at *
  refine (IL.out W0 B0.out.kp).mono ?_
  rintro e w2 ⟨rfl, hk2⟩
  have B2 := hid (B0.out.keep hk2)
  obtain ⟨x0, x1, x2, x3, fx⟩ := r5c B2.out.x0
  clear hk2 IL B0
  go_wp2_with fail
  refine (DI.out w2 B2.out.kp).mono ?_
  rintro e w3 ⟨va2, vc2, rfl, hk3, hr3⟩
  have K3 := hid hk3
  have C3 := hid (CU.out w3 va2 vc2 (B2.out.fl.keep hk3) hr3)
  clear hk3 hr3 DI CU x0 x1 x2 x3 fx
  go_wp2_with fail
  refine C3.out.mono ?_
  rintro e w4 ⟨fa4, fc4, va4, vc4, rfl, hk4, hf4, hr4⟩
  obtain ⟨hy2, hfin⟩ := B2.out.fin (none_trans K3.out hk4) hf4 hr4
  obtain ⟨b0, b1, b2, b3, fb⟩ := r5c hy2
  have FIN := hid hfin
  clear hk4 hf4 hr4 hy2 hfin C3
  obtain ⟨m, hm⟩ : ∃ m, m = (ls2 ++ [(pg, tt)]).length := ⟨_, rfl⟩
  rw [← hm] at FIN ⊢
  have HM := hid hm
  clear hm
  go_wp2_with fail
  exact ⟨rfl, .tuple #[r5V (o : Int) P (.slice fa4 (o + 1) fc4) (.slice va4 m vc4), .int .i64 0], by simp [results, Tryz.results49, go_sem, b0, b1, b2, b3], fa4, fc4, va4, vc4, by rw [HM.out]; rfl, (FIN.out _ _ _ _).1, (FIN.out _ _ _ _).2.1, by rw [← HM.out]; exact (FIN.out _ _ _ _).2.2⟩
set_option maxRecDepth 4000 in
theorem Top5_zero (o : Int) (fa : Option Addr) (fl fc : Nat) (lv : Value) (w : World) :
    Calls Tryz.prog 44 #[r5V o 0 (.slice fa fl fc) lv] w fun e w' => e = .returned (.int .i64 (-1)) ∧ Kept none' w w' := by
  have K0 := hid ((Kept.refl none' w).alloc (r5O o 0 (.slice fa fl fc) lv))
  have X0 := hid (heap_new w (r5O o 0 (.slice fa fl fc) lv))
  go_enter Tryz.func44, Tryz.ntmps44
  obtain ⟨x0, x1, x2, x3, fx⟩ := r5c X0.out
  go_wp2_with fail
  go_ret
  exact ⟨rfl, K0.out⟩
end Go.Proofs.YthglogiglimebaaGreat
