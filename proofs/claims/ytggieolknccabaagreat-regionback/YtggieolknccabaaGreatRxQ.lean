/- RegionPlays: croftlaw6.played, all kinds. -/
import Derived.Test.YtggieolknccabaaGreatRxP
namespace Go.Proofs.YtggieolknccabaaGreat
open Go.RowKit
set_option linter.unusedVariables false

set_option maxRecDepth 4000 in
set_option maxHeartbeats 2000000 in
theorem played0 {w W lw x t fr ls b l r o g0 fc va vc} (h : RW w W lw x t fr ls b l r o g0 fc va vc) (n : Nat) (hn : n = ls.length) (kd : Int) (h1 : kd ≠ 1) (h2 : kd = 2 → n = 0) (h3 : kd ≠ 3) (h4 : kd ≠ 4) (h5 : kd = 5 → n = 0) (od wh mo : Int) (dn : Bool) (at' : Int) (dv : Value) :
    Calls Tryz.prog 10 #[.pointer (some ⟨lw, 0, none⟩), r6V b (l : Int) (o : Int) (r : Int) (.slice (some ⟨g0, 0, none⟩) (o + 1) fc) (.slice va n vc), opV kd od wh mo dn at' dv] W fun e w' => Py6 w W lw x b l o g0 fc va e w' := by
  have B0 := hid (PB.start (w := w) (W := W) (lw := lw) (x := x) (va := va) (g0 := g0) (r6O b (l : Int) (o : Int) (r : Int) (.slice (some ⟨g0, 0, none⟩) (o + 1) fc) (.slice va n vc)) (opO kd od wh mo dn at' dv))
  have R0 := hid (h.keep (three6 W (r6O b (l : Int) (o : Int) (r : Int) (.slice (some ⟨g0, 0, none⟩) (o + 1) fc) (.slice va n vc)) (opO kd od wh mo dn at' dv) r6Z).1)
  have HN := hid hn
  have hwW := h.po.pl.kp.size
  clear h hn
  have h1b : (kd == 1) = false := beq_eq_false_iff_ne.2 h1
  have h3b : (kd == 3) = false := beq_eq_false_iff_ne.2 h3
  have h4b : (kd == 4) = false := beq_eq_false_iff_ne.2 h4
  by_cases e2 : kd = 2
  · obtain rfl : n = 0 := h2 e2
    subst e2
    clear h1 h2 h3 h4 h5 h1b h3b h4b
    go_enter Tryz.func10, Tryz.ntmps10
    go_upto_region 1 with fail
    generalize ((W.alloc (r6O b (l : Int) (o : Int) (r : Int) (.slice (some ⟨g0, 0, none⟩) (o + 1) fc) (.slice va 0 vc))).alloc (opO 2 od wh mo dn at' dv)).alloc r6Z = W0 at *
    obtain ⟨x0, x1, x2, x3, x4, x5, xf⟩ := r6c B0.out.bx
    obtain ⟨o0, o1, o2, o3, o4, o5, o6⟩ := opc B0.out.bo
    obtain ⟨y0, y1, y2, y3, y4, y5, yf⟩ := r6c (b := 0) (l := 0) (o := 0) (r := 0) B0.out.by'
    have FIN := hid (fun v0 v1 v2 v3 v4 v5 => And.intro (R0.out.fin B0.out.by' (by omega) v0 v1 v2 v3 v4 v5) (B0.out.fin v0 v1 v2 v3 v4 v5))
    go_wp2_with fail
    exact ⟨rfl, .tuple #[r6V b (l : Int) (o : Int) (r : Int) (.slice (some ⟨g0, 0, none⟩) (o + 1) fc) (.slice va 0 vc), .bool true], by simp [results, Tryz.results10, go_sem, y0, y1, y2, y3, y4, y5], x, t, fr, ls, r, va, vc, by rw [← HN.out], (FIN.out _ _ _ _ _ _).1, (FIN.out _ _ _ _ _ _).2⟩
  · have h2b : (kd == 2) = false := beq_eq_false_iff_ne.2 e2
    by_cases e5 : kd = 5
    · obtain rfl : n = 0 := h5 e5
      subst e5
      clear h1 h2 h3 h4 h5 h1b h3b h4b h2b e2
      go_enter Tryz.func10, Tryz.ntmps10
      go_upto_region 1 with fail
      generalize ((W.alloc (r6O b (l : Int) (o : Int) (r : Int) (.slice (some ⟨g0, 0, none⟩) (o + 1) fc) (.slice va 0 vc))).alloc (opO 5 od wh mo dn at' dv)).alloc r6Z = W0 at *
      obtain ⟨x0, x1, x2, x3, x4, x5, xf⟩ := r6c B0.out.bx
      obtain ⟨o0, o1, o2, o3, o4, o5, o6⟩ := opc B0.out.bo
      obtain ⟨y0, y1, y2, y3, y4, y5, yf⟩ := r6c (b := 0) (l := 0) (o := 0) (r := 0) B0.out.by'
      have FIN := hid (fun v0 v1 v2 v3 v4 v5 => And.intro (R0.out.fin B0.out.by' (by omega) v0 v1 v2 v3 v4 v5) (B0.out.fin v0 v1 v2 v3 v4 v5))
      go_wp2_with fail
      exact ⟨rfl, .tuple #[r6V b (l : Int) (o : Int) (r : Int) (.slice (some ⟨g0, 0, none⟩) (o + 1) fc) (.slice va 0 vc), .bool true], by simp [results, Tryz.results10, go_sem, y0, y1, y2, y3, y4, y5], x, t, fr, ls, r, va, vc, by rw [← HN.out], (FIN.out _ _ _ _ _ _).1, (FIN.out _ _ _ _ _ _).2⟩
    · have h5b : (kd == 5) = false := beq_eq_false_iff_ne.2 e5
      clear h2 h5
      go_enter Tryz.func10, Tryz.ntmps10
      go_upto_region 1 with fail
      generalize ((W.alloc (r6O b (l : Int) (o : Int) (r : Int) (.slice (some ⟨g0, 0, none⟩) (o + 1) fc) (.slice va n vc))).alloc (opO kd od wh mo dn at' dv)).alloc r6Z = W0 at *
      obtain ⟨x0, x1, x2, x3, x4, x5, xf⟩ := r6c B0.out.bx
      obtain ⟨o0, o1, o2, o3, o4, o5, o6⟩ := opc B0.out.bo
      obtain ⟨y0, y1, y2, y3, y4, y5, yf⟩ := r6c (b := 0) (l := 0) (o := 0) (r := 0) B0.out.by'
      have FIN := hid (fun v0 v1 v2 v3 v4 v5 => And.intro (R0.out.fin B0.out.by' (by omega) v0 v1 v2 v3 v4 v5) (B0.out.fin v0 v1 v2 v3 v4 v5))
      go_wp2_with fail
      exact ⟨rfl, .tuple #[r6V b (l : Int) (o : Int) (r : Int) (.slice (some ⟨g0, 0, none⟩) (o + 1) fc) (.slice va n vc), .bool true], by simp [results, Tryz.results10, go_sem, y0, y1, y2, y3, y4, y5], x, t, fr, ls, r, va, vc, by rw [HN.out], (FIN.out _ _ _ _ _ _).1, (FIN.out _ _ _ _ _ _).2⟩
theorem played_any6 {w W lw x t fr ls b l r o g0 fc va vc} (h : RW w W lw x t fr ls b l r o g0 fc va vc) (n : Nat) (hn : n = ls.length) (kd od wh mo : Int) (dn : Bool) (a : Nat) (ha : a < 18446744073709551616) (ao : Option Addr) (dm dc : Nat) (g : Nat → Nat) (hdm : dm ≤ 9223372036854775807) (hdc : dm ≤ dc) (hv : M.Bytes W (.slice ao dm dc) dm g) :
    Calls Tryz.prog 10 #[.pointer (some ⟨lw, 0, none⟩), r6V b (l : Int) (o : Int) (r : Int) (.slice (some ⟨g0, 0, none⟩) (o + 1) fc) (.slice va n vc), opV kd od wh mo dn (a : Int) (.slice ao dm dc)] W fun e w' => Py6 w W lw x b l o g0 fc va e w' := by
  by_cases h1 : kd = 1
  · subst h1; exact played1 h n hn od wh mo dn _ _
  by_cases h3 : kd = 3
  · subst h3; exact played3 h n hn od wh mo dn a ha _
  by_cases h4 : kd = 4
  · subst h4; exact played4 h n hn od wh mo dn _ _
  rcases Nat.eq_zero_or_pos n with h0 | h0
  · exact played0 h n hn kd h1 (fun _ => h0) h3 h4 (fun _ => h0) od wh mo dn _ _
  by_cases h2 : kd = 2
  · subst h2; exact played2 h n hn h0 od wh mo dn _ _
  by_cases h5 : kd = 5
  · subst h5; exact played5 h n hn h0 od wh mo dn _ ao dm dc g hdm hdc hv
  exact played0 h n hn kd h1 (fun e => absurd e h2) h3 h4 (fun e => absurd e h5) od wh mo dn _ _
end Go.Proofs.YtggieolknccabaaGreat
