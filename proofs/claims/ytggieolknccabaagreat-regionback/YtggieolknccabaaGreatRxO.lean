/- RegionPlays: croftlaw6.played, Trim. -/
import Derived.Test.YtggieolknccabaaGreatRxN
namespace Go.Proofs.YtggieolknccabaaGreat
open Go.RowKit
set_option linter.unusedVariables false

set_option maxRecDepth 4000 in
set_option maxHeartbeats 4000000 in
theorem played4 {w W lw x t fr ls b l r o g0 fc va vc} (h : RW w W lw x t fr ls b l r o g0 fc va vc) (n : Nat) (hn : n = ls.length) (od wh mo : Int) (dn : Bool) (at' : Int) (dv : Value) :
    Calls Tryz.prog 10 #[.pointer (some ⟨lw, 0, none⟩), r6V b (l : Int) (o : Int) (r : Int) (.slice (some ⟨g0, 0, none⟩) (o + 1) fc) (.slice va n vc), opV 4 od wh mo dn at' dv] W fun e w' => Py6 w W lw x b l o g0 fc va e w' := by
  obtain ⟨n1, n2, n3, n4, n5, n6, n7⟩ := h.nums
  have B0 := hid (PB.start (w := w) (W := W) (lw := lw) (x := x) (va := va) (g0 := g0) (r6O b (l : Int) (o : Int) (r : Int) (.slice (some ⟨g0, 0, none⟩) (o + 1) fc) (.slice va n vc)) (opO 4 od wh mo dn at' dv))
  have R0 := hid (h.keep (three6 W (r6O b (l : Int) (o : Int) (r : Int) (.slice (some ⟨g0, 0, none⟩) (o + 1) fc) (.slice va n vc)) (opO 4 od wh mo dn at' dv) r6Z).1)
  have hfl := h.fl.1
  have TR := hid (fun V (R : R6 w.heap.size V g0 fc o fr va vc ls) => Trim6r b l r o n1 (by omega) w.heap.size g0 fc fr va vc ls n hfl V R)
  have TP := hid (fun V (P : PO w V lw x t fr ls) => Trim_any P r (by rw [h.eo]; exact h.er))
  rw [h.eo] at TP
  have HLE := hid (trF_le o r fr)
  have HN := hid hn
  have hwW := h.po.pl.kp.size
  have HEQ := hid (And.intro h.eb (And.intro h.el (And.intro h.eo h.er)))
  have HND := hid h.nd
  obtain ⟨T, hT⟩ : ∃ T, T = trF o r fr := ⟨_, rfl⟩
  rw [← hT] at TR TP HLE
  obtain ⟨c, fr'⟩ := T
  clear h hn hT hfl
  dsimp only at TR TP HLE
  go_enter Tryz.func10, Tryz.ntmps10
  go_upto_region 1 with fail
  generalize ((W.alloc (r6O b (l : Int) (o : Int) (r : Int) (.slice (some ⟨g0, 0, none⟩) (o + 1) fc) (.slice va n vc))).alloc (opO 4 od wh mo dn at' dv)).alloc r6Z = W0 at *
  obtain ⟨x0, x1, x2, x3, x4, x5, xf⟩ := r6c B0.out.bx
  obtain ⟨o0, o1, o2, o3, o4, o5, o6⟩ := opc B0.out.bo
  have RF := hid (TR.out W0 R0.out.rf)
  go_wp2_with fail
  refine RF.out.mono ?_
  rintro e w3 ⟨rfl, hr3, hk3⟩
  obtain ⟨rc, hrc⟩ : ∃ rc, rc = r - c := ⟨_, rfl⟩
  rw [← hrc]
  have HRC := hid hrc
  have ka := (Kept.refl none' w3).alloc (r6O b (l : Int) (o : Int) (rc : Int) (.slice (some ⟨g0, 0, none⟩) (o + 1) fc) (.slice va n vc))
  have Z3 := hid (heap_new w3 (r6O b (l : Int) (o : Int) (rc : Int) (.slice (some ⟨g0, 0, none⟩) (o + 1) fc) (.slice va n vc)))
  have B3 := hid ((B0.out.ref R0.out.rf hk3 (fun _ _ e => e)).keep ka)
  have P3 := hid ((R0.out.po.ref R0.out.rf (Nat.le_refl _) hk3).keep ka)
  have Q3 := hid (hr3.keep ka)
  have ZN := hid (show W.heap.size + 1 + 1 < w3.heap.size from heap_lt (B0.out.ref R0.out.rf hk3 (fun _ _ e => e)).by')
  clear hrc hr3 hk3 ka RF x0 x1 x2 x3 x4 x5 xf o0 o1 o2 o3 o4 o5 o6
  go_upto_region 23 with fail
  generalize w3.heap.size = zb at *
  generalize w3.alloc (r6O b (l : Int) (o : Int) (rc : Int) (.slice (some ⟨g0, 0, none⟩) (o + 1) fc) (.slice va n vc)) = W3 at *
  have KD := hid ((Kept.refl none' W3).drew)
  have PL := hid (TP.out W3.drew (P3.out.keep KD.out))
  obtain ⟨d0, d1, d2, d3, d4, d5, df⟩ := r6c ((KD.out.block _ (heap_lt Z3.out) (fun e => e)).trans Z3.out)
  have hn1 : zb ≠ W.heap.size + 1 + 1 := by have := ZN.out; omega
  go_region_held3 (fun w' => w'.cell? ⟨zb, 0, none⟩ = some (.int .u64 (b : Int)) ∧ w'.cell? ⟨zb, 1, none⟩ = some (.int .i64 (l : Int)) ∧ w'.cell? ⟨zb, 2, none⟩ = some (.int .i64 (o : Int)) ∧ w'.cell? ⟨zb, 3, none⟩ = some (.int .i64 (rc : Int)) ∧ w'.cell? ⟨zb, 4, none⟩ = some (.slice (some ⟨g0, 0, none⟩) (o + 1) fc) ∧ w'.cell? ⟨zb, 5, none⟩ = some (.slice va n vc)) ((refine ⟨?_, ?_, ?_, ?_, ?_, ?_⟩ <;> first | with_reducible assumption | with_reducible exact cell_far6 (by with_reducible assumption) (by with_reducible assumption) _ _ _ _ _ _)) (first
    | (go_at_call 19; (with_reducible refine PL.out.mono ?_); rintro e w5 ⟨rfl, x5, t5, hp5, hs5, hn5, hk5, _⟩; have B5 := hid ((B3.out.keep KD.out).pool (P3.out.keep KD.out) hk5); obtain ⟨f0, f1, f2, f3, f4, f5, ff⟩ := r6c ((P3.out.keep KD.out).bx hk5 ((KD.out.block _ (heap_lt Z3.out) (fun e => e)).trans Z3.out) (.inr (.inr (.inr (.inl rfl))))); obtain ⟨y0, y1, y2, y3, y4, y5, yf⟩ := r6c (b := 0) (l := 0) (o := 0) (r := 0) B5.out.by'; have R5 := hid (show RW w w5 lw x5 t5 fr' ls b l rc o g0 fc va vc from ⟨hp5, (Q3.out.keep KD.out).pool (P3.out.keep KD.out) hk5, hs5.base.trans HEQ.out.1, hs5.lim.trans HEQ.out.2.1, hs5.o.trans HEQ.out.2.2.1, hn5.trans (by rw [HRC.out]), HND.out⟩); clear hp5 hs5 hn5 hk5)
    | fail)
  all_goals
    have FIN := hid (fun v0 v1 v2 v3 v4 v5 => And.intro (R5.out.fin B5.out.by' (by omega) v0 v1 v2 v3 v4 v5) (B5.out.fin v0 v1 v2 v3 v4 v5))
    go_wp2_with fail
    exact ⟨rfl, .tuple #[r6V b (l : Int) (o : Int) (rc : Int) (.slice (some ⟨g0, 0, none⟩) (o + 1) fc) (.slice va n vc), .bool true], by simp [results, Tryz.results10, go_sem, y0, y1, y2, y3, y4, y5], x5, t5, fr', ls, rc, va, vc, by rw [HN.out], (FIN.out _ _ _ _ _ _).1, (FIN.out _ _ _ _ _ _).2⟩
end Go.Proofs.YtggieolknccabaaGreat
