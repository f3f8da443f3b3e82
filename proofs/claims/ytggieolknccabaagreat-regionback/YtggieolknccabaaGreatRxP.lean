/- RegionPlays: croftlaw6.played: bytes that are written, and nothing. -/
import Derived.Test.YtggieolknccabaaGreatRxO
namespace Go.Proofs.YtggieolknccabaaGreat
open Go.RowKit
set_option linter.unusedVariables false

theorem bytes_take {w : World} {ao : Option Addr} {m cap : Nat} {g : Nat → Nat} (h : M.Bytes w (.slice ao m cap) m g) (k cap' : Nat) (hk : k ≤ m) : M.Bytes w (.slice ao k cap') k g := by
  obtain ⟨h1, ao', cap2, e, h2⟩ := h
  injection e with e1 e2 e3
  subst e1
  refine ⟨fun i hi => h1 i (by omega), ao, cap', rfl, ?_⟩
  rcases h2 with h2 | ⟨a, e, hb, hc⟩
  · exact Or.inl (by omega)
  · exact Or.inr ⟨a, e, hb, fun j hj => hc j (by omega)⟩
theorem space_some6 {w : World} {s : Nat} {a : Option Nat} {base R lim n : Nat} {f : Nat → Nat} (h : M.SpaceAt w s a base R lim n f) (hn : 0 < n) : ∃ g, a = some g := by
  obtain ⟨cap, hb, hr⟩ := h.ex
  cases a with
  | none => exact absurd hr.1 (by omega)
  | some g => exact ⟨g, rfl⟩
/-- A live block is written into. -/
theorem write6 {w W lw x t fr ls} (h : PO w W lw x t fr ls) (p k : Nat) (hm : (p, k) ∈ ls) (ao : Option Addr) (m cap : Nat) (g : Nat → Nat) (hv : M.Bytes W (.slice ao m cap) m g) (hle : m ≤ 4096 * 2 ^ k) (a : Nat) (hap : a = ad x p) :
    Calls Tryz.prog 20 #[.pointer (some ⟨x.s, 0, none⟩), .int .u64 (a : Int), .slice ao m cap] W fun e w' => e = .returned (.int .i64 0) ∧ (∃ t', PO w w' lw x t' fr ls ∧ t'.m.n = t.m.n) ∧ Kept (bown x) W w' := by
  rcases Nat.eq_zero_or_pos m with rfl | hm0
  · refine (M.Write_zero x.s (a : Int) ao cap W).mono ?_
    rintro e w' ⟨rfl, hk⟩
    exact ⟨rfl, ⟨t, h.keep (toK hk), rfl⟩, (toK hk).mono (fun _ _ e => e.elim)⟩
  · obtain ⟨z1, _, z3⟩ := h.sf.sn.al hm
    have hst := h.st
    have hz0 : 0 < 2 ^ k := Nat.pow_pos (by decide)
    have hin : 4096 * p + m ≤ x.n := by omega
    obtain ⟨g', hg⟩ := space_some6 h.pl.bd.sp (by omega)
    have hs := h.pl.bd.sp
    rw [hg] at hs
    refine (M.Write_in x.s g' x.base x.R x.lim x.n t.f a m _ g W hs hm0 (by rw [hap]; unfold M.In ad; omega) hv).mono ?_
    rintro e w' ⟨rfl, h1, h2⟩
    rw [show a - x.base = 4096 * p by rw [hap]; unfold ad; omega] at h1
    rw [← hg] at h1 h2
    have kb : Kept (bown x) W w' := (toK h2).mono (fun _ _ e => .inl e)
    refine ⟨rfl, ⟨{ t with f := M.upd t.f (4096 * p) m g }, ⟨h.pl.space0 (toK h2) h1, h.sf.fill hm (fun i hi => ?_), h.st, h.bm⟩, rfl⟩, kb⟩
    unfold M.upd
    rw [if_neg (by omega)]
set_option maxRecDepth 4000 in
set_option maxHeartbeats 4000000 in
theorem played5 {w W lw x t fr ls b l r o g0 fc va vc} (h : RW w W lw x t fr ls b l r o g0 fc va vc) (n : Nat) (hn : n = ls.length) (hn0 : 0 < n) (od wh mo : Int) (dn : Bool) (at' : Int) (ao : Option Addr) (dm dc : Nat) (g : Nat → Nat) (hdm : dm ≤ 9223372036854775807) (hdc : dm ≤ dc) (hv : M.Bytes W (.slice ao dm dc) dm g) :
    Calls Tryz.prog 10 #[.pointer (some ⟨lw, 0, none⟩), r6V b (l : Int) (o : Int) (r : Int) (.slice (some ⟨g0, 0, none⟩) (o + 1) fc) (.slice va n vc), opV 5 od wh mo dn at' (.slice ao dm dc)] W fun e w' => Py6 w W lw x b l o g0 fc va e w' := by
  obtain ⟨n1, n2, n3, n4, n5, n6, n7⟩ := h.nums
  have hlen := h.len
  have B0 := hid (PB.start (w := w) (W := W) (lw := lw) (x := x) (va := va) (g0 := g0) (r6O b (l : Int) (o : Int) (r : Int) (.slice (some ⟨g0, 0, none⟩) (o + 1) fc) (.slice va n vc)) (opO 5 od wh mo dn at' (.slice ao dm dc)))
  have k3 := (three6 W (r6O b (l : Int) (o : Int) (r : Int) (.slice (some ⟨g0, 0, none⟩) (o + 1) fc) (.slice va n vc)) (opO 5 od wh mo dn at' (.slice ao dm dc)) r6Z).1
  have R0 := hid (h.keep k3)
  have V0 := hid (hv.keep (ofK k3))
  rw [← hn] at hlen
  have HN := hid hn
  have hwW := h.po.pl.kp.size
  have HEQ := hid (And.intro h.eb (And.intro h.el (And.intro h.eo h.er)))
  clear h hn hv k3
  go_enter Tryz.func10, Tryz.ntmps10
  go_upto_region 1 with fail
  generalize ((W.alloc (r6O b (l : Int) (o : Int) (r : Int) (.slice (some ⟨g0, 0, none⟩) (o + 1) fc) (.slice va n vc))).alloc (opO 5 od wh mo dn at' (.slice ao dm dc))).alloc r6Z = W0 at *
  obtain ⟨x0, x1, x2, x3, x4, x5, xf⟩ := r6c B0.out.bx
  obtain ⟨o0, o1, o2, o3, o4, o5, o6⟩ := opc B0.out.bo
  have WH := hid (which6 b (l : Int) (r : Int) o (.slice (some ⟨g0, 0, none⟩) (o + 1) fc) va vc ls (by rw [← HN.out]; omega) (by rw [← HN.out]; exact hn0) wh W0 R0.out.rf.rn)
  rw [← HN.out] at WH
  have hn0i : (0 : Int) < (n : Int) := by omega
  go_wp2_with fail
  refine WH.out.mono ?_
  rintro e w1 ⟨p, k, hpk, rfl, hk1⟩
  obtain ⟨al1, al2, al3⟩ := R0.out.al p k hpk
  have HPK := hid hpk
  have ka := none_trans hk1 ((Kept.refl none' w1).alloc (.cells #[.int .i64 (p : Int), .int .i64 (k : Int)] 82))
  have U1 := hid (heap_new w1 (.cells #[.int .i64 (p : Int), .int .i64 (k : Int)] 82))
  have B1 := hid (B0.out.keep ka)
  have R1 := hid (R0.out.keep ka)
  have V1 := hid (V0.out.keep (ofK ka))
  have UN := hid (show W.heap.size + 1 + 1 < w1.heap.size from Nat.lt_of_lt_of_le (heap_lt B0.out.by') hk1.size)
  clear hk1 hpk ka WH x0 x1 x2 x3 x4 x5 xf o0 o1 o2 o3 o4 o5 o6
  go_upto_region 26 with fail
  generalize w1.heap.size = bb at *
  generalize w1.alloc (.cells #[.int .i64 (p : Int), .int .i64 (k : Int)] 82) = W1 at *
  obtain ⟨x0, x1, x2, x3, x4, x5, xf⟩ := r6c B1.out.bx
  obtain ⟨o0, o1, o2, o3, o4, o5, o6⟩ := opc B1.out.bo
  have v0 : W1.cell? ⟨bb, 0, none⟩ = some (.int .i64 (p : Int)) := by simp [World.cell?, U1.out]
  have v1 : W1.cell? ⟨bb, 1, none⟩ = some (.int .i64 (k : Int)) := by simp [World.cell?, U1.out]
  obtain ⟨z, hz⟩ : ∃ z, z = 2 ^ k := ⟨_, rfl⟩
  have hz2 : z ≤ 256 := by
    rw [hz]
    exact Nat.pow_le_pow_right (n := 2) (by decide) (show k ≤ 8 by omega)
  have PW := hid (fun W => Power6 k (by omega) W)
  rw [← hz] at PW
  obtain ⟨q, hq⟩ : ∃ q, q = 4096 * z := ⟨_, rfl⟩
  have hqi : 4096 * (z : Int) = (q : Int) := by omega
  have hqb : q ≤ 1048576 := by omega
  have HQ := hid (show q = 4096 * 2 ^ k by rw [hq, hz])
  clear hz hq
  go_wp2_with fail
  refine (PW.out _).mono ?_
  rintro e w2 ⟨rfl, h2⟩
  replace h2 := h2.symm
  subst h2
  clear PW
  obtain ⟨a, hap⟩ : ∃ a, a = b + 4096 * p := ⟨_, rfl⟩
  have AD := hid (fun W => Address6 b (l : Int) (o : Int) p al2 (by omega) W)
  rw [← hap] at AD
  have HAP := hid (show a = ad x p by rw [hap]; unfold ad; rw [HEQ.out.1])
  clear hap
  by_cases hlt : q < dm
  · have hlti : (q : Int) < (dm : Int) := by omega
    have hqd : (q : Int) ≤ (dc : Int) := by omega
    have hq0 : (0 : Int) ≤ (q : Int) := by omega
    have VW := hid (bytes_take V1.out q dc (by omega))
    go_upto_region 30 with fail
    have KD := hid ((Kept.refl none' W1).drew)
    have HX := hid (fun (W' : World) (h : W'.heap[W.heap.size]? = some (r6O b (l : Int) (o : Int) (r : Int) (.slice (some ⟨g0, 0, none⟩) (o + 1) fc) (.slice va n vc))) => r6c h)
    have SP := hid (fun W' (k : Kept none' W1 W') => Space6 (R1.out.po.keep k).pl)
    have WR := hid (fun W' (kk : Kept none' W1 W') => write6 (R1.out.po.keep kk) p k HPK.out ao q dc g (VW.out.keep (ofK kk)) (by rw [← HQ.out]; omega) a HAP.out)
    have hc0 : ∀ W' : World, W'.heap[bb]? = some (.cells #[.int .i64 (p : Int), .int .i64 (k : Int)] 82) → W'.cell? ⟨bb, 0, none⟩ = some (.int .i64 (p : Int)) := fun W' h => by simp [World.cell?, h]
    have HC0 := hid hc0
    clear hc0 x0 x1 x2 x3 x4 x5 xf o0 o1 o2 o3 o4 o5 o6 v0 v1
    obtain ⟨d0, d1, d2, d3, d4, d5, df⟩ := HX.out _ (B1.out.keep KD.out).bx
    have d6 := HC0.out _ ((KD.out.block _ (heap_lt U1.out) (fun e => e)).trans U1.out)
    have hn1 : W.heap.size ≠ W.heap.size + 1 + 1 := by omega
    have hn2 : bb ≠ W.heap.size + 1 + 1 := by have := UN.out; omega
    obtain ⟨c0, c1, c2⟩ := (R1.out.po.keep KD.out).pl.c
    go_region_held3 (fun w' => w'.cell? ⟨W.heap.size, 0, none⟩ = some (.int .u64 (b : Int)) ∧ w'.cell? ⟨W.heap.size, 1, none⟩ = some (.int .i64 (l : Int)) ∧ w'.cell? ⟨W.heap.size, 2, none⟩ = some (.int .i64 (o : Int)) ∧ w'.cell? ⟨W.heap.size, 3, none⟩ = some (.int .i64 (r : Int)) ∧ w'.cell? ⟨W.heap.size, 4, none⟩ = some (.slice (some ⟨g0, 0, none⟩) (o + 1) fc) ∧ w'.cell? ⟨W.heap.size, 5, none⟩ = some (.slice va n vc) ∧ w'.cell? ⟨bb, 0, none⟩ = some (.int .i64 (p : Int))) ((refine ⟨?_, ?_, ?_, ?_, ?_, ?_, ?_⟩ <;> first | with_reducible assumption | with_reducible exact cell_far6 (by with_reducible assumption) (by with_reducible assumption) _ _ _ _ _ _)) (first
      | (go_at_call 31; (with_reducible refine (AD.out _).mono ?_); rintro e w4 ⟨rfl, hk4⟩; have K4 := hid (none_trans KD.out hk4); obtain ⟨f0, f1, f2, f3, f4, f5, ff⟩ := HX.out _ (B1.out.keep K4.out).bx; have f6 := HC0.out _ ((K4.out.block _ (heap_lt U1.out) (fun e => e)).trans U1.out); clear hk4)
      | (go_at_call 20; (with_reducible refine (WR.out _ K4.out).mono ?_); rintro e w5 ⟨rfl, ⟨t5, hp5, hn5⟩, hk5⟩; have B5 := hid ((B1.out.keep K4.out).pool (R1.out.po.keep K4.out) hk5); obtain ⟨h0, h1, h2, h3, h4, h5, hf⟩ := HX.out _ B5.out.bx; have h6 := HC0.out _ ((R1.out.po.keep K4.out).bx hk5 ((K4.out.block _ (heap_lt U1.out) (fun e => e)).trans U1.out) (.inr (.inr (.inl rfl)))); obtain ⟨y0, y1, y2, y3, y4, y5, yf⟩ := r6c (b := 0) (l := 0) (o := 0) (r := 0) B5.out.by'; have R5 := hid (show RW w w5 lw x t5 fr ls b l r o g0 fc va vc from ⟨hp5, (R1.out.rf.keep K4.out).pool (R1.out.po.keep K4.out) hk5, HEQ.out.1, HEQ.out.2.1, HEQ.out.2.2.1, hn5.trans HEQ.out.2.2.2, R1.out.nd⟩); clear hp5 hn5 hk5)
      | (go_at_call 17; (with_reducible refine (SP.out _ K4.out).mono ?_); rintro e w3 ⟨rfl, h3⟩; replace h3 := h3.symm; subst h3)
      | (go_at_call 17; (with_reducible refine (SP.out _ KD.out).mono ?_); rintro e w3 ⟨rfl, h3⟩; replace h3 := h3.symm; subst h3)
      | fail)
    all_goals
      have FIN := hid (fun v0 v1 v2 v3 v4 v5 => And.intro (R5.out.fin B5.out.by' (by omega) v0 v1 v2 v3 v4 v5) (B5.out.fin v0 v1 v2 v3 v4 v5))
      go_wp2_with fail
      exact ⟨rfl, .tuple #[r6V b (l : Int) (o : Int) (r : Int) (.slice (some ⟨g0, 0, none⟩) (o + 1) fc) (.slice va n vc), .bool true], by simp [results, Tryz.results10, go_sem, y0, y1, y2, y3, y4, y5], x, t5, fr, ls, r, va, vc, by rw [HN.out], (FIN.out _ _ _ _ _ _).1, (FIN.out _ _ _ _ _ _).2⟩
  · have hlti : ¬ (q : Int) < (dm : Int) := by omega
    have VW := hid (bytes_take V1.out dm dc (by omega))
    go_upto_region 30 with fail
    have KD := hid ((Kept.refl none' W1).drew)
    have HX := hid (fun (W' : World) (h : W'.heap[W.heap.size]? = some (r6O b (l : Int) (o : Int) (r : Int) (.slice (some ⟨g0, 0, none⟩) (o + 1) fc) (.slice va n vc))) => r6c h)
    have SP := hid (fun W' (k : Kept none' W1 W') => Space6 (R1.out.po.keep k).pl)
    have WR := hid (fun W' (kk : Kept none' W1 W') => write6 (R1.out.po.keep kk) p k HPK.out ao dm dc g (VW.out.keep (ofK kk)) (by rw [← HQ.out]; omega) a HAP.out)
    have hc0 : ∀ W' : World, W'.heap[bb]? = some (.cells #[.int .i64 (p : Int), .int .i64 (k : Int)] 82) → W'.cell? ⟨bb, 0, none⟩ = some (.int .i64 (p : Int)) := fun W' h => by simp [World.cell?, h]
    have HC0 := hid hc0
    clear hc0 x0 x1 x2 x3 x4 x5 xf o0 o1 o2 o3 o4 o5 o6 v0 v1
    obtain ⟨d0, d1, d2, d3, d4, d5, df⟩ := HX.out _ (B1.out.keep KD.out).bx
    have d6 := HC0.out _ ((KD.out.block _ (heap_lt U1.out) (fun e => e)).trans U1.out)
    have hn1 : W.heap.size ≠ W.heap.size + 1 + 1 := by omega
    have hn2 : bb ≠ W.heap.size + 1 + 1 := by have := UN.out; omega
    obtain ⟨c0, c1, c2⟩ := (R1.out.po.keep KD.out).pl.c
    go_region_held3 (fun w' => w'.cell? ⟨W.heap.size, 0, none⟩ = some (.int .u64 (b : Int)) ∧ w'.cell? ⟨W.heap.size, 1, none⟩ = some (.int .i64 (l : Int)) ∧ w'.cell? ⟨W.heap.size, 2, none⟩ = some (.int .i64 (o : Int)) ∧ w'.cell? ⟨W.heap.size, 3, none⟩ = some (.int .i64 (r : Int)) ∧ w'.cell? ⟨W.heap.size, 4, none⟩ = some (.slice (some ⟨g0, 0, none⟩) (o + 1) fc) ∧ w'.cell? ⟨W.heap.size, 5, none⟩ = some (.slice va n vc) ∧ w'.cell? ⟨bb, 0, none⟩ = some (.int .i64 (p : Int))) ((refine ⟨?_, ?_, ?_, ?_, ?_, ?_, ?_⟩ <;> first | with_reducible assumption | with_reducible exact cell_far6 (by with_reducible assumption) (by with_reducible assumption) _ _ _ _ _ _)) (first
      | (go_at_call 31; (with_reducible refine (AD.out _).mono ?_); rintro e w4 ⟨rfl, hk4⟩; have K4 := hid (none_trans KD.out hk4); obtain ⟨f0, f1, f2, f3, f4, f5, ff⟩ := HX.out _ (B1.out.keep K4.out).bx; have f6 := HC0.out _ ((K4.out.block _ (heap_lt U1.out) (fun e => e)).trans U1.out); clear hk4)
      | (go_at_call 20; (with_reducible refine (WR.out _ K4.out).mono ?_); rintro e w5 ⟨rfl, ⟨t5, hp5, hn5⟩, hk5⟩; have B5 := hid ((B1.out.keep K4.out).pool (R1.out.po.keep K4.out) hk5); obtain ⟨h0, h1, h2, h3, h4, h5, hf⟩ := HX.out _ B5.out.bx; have h6 := HC0.out _ ((R1.out.po.keep K4.out).bx hk5 ((K4.out.block _ (heap_lt U1.out) (fun e => e)).trans U1.out) (.inr (.inr (.inl rfl)))); obtain ⟨y0, y1, y2, y3, y4, y5, yf⟩ := r6c (b := 0) (l := 0) (o := 0) (r := 0) B5.out.by'; have R5 := hid (show RW w w5 lw x t5 fr ls b l r o g0 fc va vc from ⟨hp5, (R1.out.rf.keep K4.out).pool (R1.out.po.keep K4.out) hk5, HEQ.out.1, HEQ.out.2.1, HEQ.out.2.2.1, hn5.trans HEQ.out.2.2.2, R1.out.nd⟩); clear hp5 hn5 hk5)
      | (go_at_call 17; (with_reducible refine (SP.out _ K4.out).mono ?_); rintro e w3 ⟨rfl, h3⟩; replace h3 := h3.symm; subst h3)
      | (go_at_call 17; (with_reducible refine (SP.out _ KD.out).mono ?_); rintro e w3 ⟨rfl, h3⟩; replace h3 := h3.symm; subst h3)
      | fail)
    all_goals
      have FIN := hid (fun v0 v1 v2 v3 v4 v5 => And.intro (R5.out.fin B5.out.by' (by omega) v0 v1 v2 v3 v4 v5) (B5.out.fin v0 v1 v2 v3 v4 v5))
      go_wp2_with fail
      exact ⟨rfl, .tuple #[r6V b (l : Int) (o : Int) (r : Int) (.slice (some ⟨g0, 0, none⟩) (o + 1) fc) (.slice va n vc), .bool true], by simp [results, Tryz.results10, go_sem, y0, y1, y2, y3, y4, y5], x, t5, fr, ls, r, va, vc, by rw [HN.out], (FIN.out _ _ _ _ _ _).1, (FIN.out _ _ _ _ _ _).2⟩
end Go.Proofs.YtggieolknccabaaGreat
