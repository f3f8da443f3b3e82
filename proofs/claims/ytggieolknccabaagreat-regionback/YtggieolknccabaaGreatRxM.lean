/- RegionPlays: croftlaw6.played, Give. -/
import Derived.Test.YtggieolknccabaaGreatRxL
namespace Go.Proofs.YtggieolknccabaaGreat
open Go.RowKit
set_option linter.unusedVariables false

/-- What Give does on both sides. -/
structure GB6 (w : World) (lw : Nat) (x : Bx) (t : Bt) (fr : Nat → List Nat) (ls : List (Nat × Nat)) (b l r o g0 fc : Nat) (va : Option Addr) (vc : Nat) (pg od : Int) (a : Nat) (ok : Bool) (fr' : Nat → List Nat) (ls' : List (Nat × Nat)) : Prop where
  ref : ∀ V : World, w.heap.size ≤ V.heap.size → R6 w.heap.size V g0 fc o fr va vc ls → Calls Tryz.prog 33 #[r6V b (l : Int) (o : Int) (r : Int) (.slice (some ⟨g0, 0, none⟩) (o + 1) fc) (.slice va ls.length vc), .int .i64 pg, .int .i64 od] V fun e w' => ∃ va' vc', e = .returned (.tuple #[r6V b (l : Int) (o : Int) (r : Int) (.slice (some ⟨g0, 0, none⟩) (o + 1) fc) (.slice va' ls'.length vc'), .bool ok]) ∧ R6 w.heap.size w' g0 fc o fr' va' vc' ls' ∧ Kept (S6 g0 va) V w'
  pool : ∀ V : World, PO w V lw x t fr ls → Calls Tryz.prog 23 #[.pointer (some ⟨lw, 0, none⟩), .int .u64 (a : Int), .int .i64 od] V fun e w' => e = .returned (.int .i64 (if ok then 0 else 1)) ∧ (∃ t', PO w w' lw x t' fr' ls' ∧ t'.m.n = t.m.n) ∧ Kept (bown x) V w'
  nd : (ls'.map Prod.fst).Nodup
theorem dropG_R {x t fr ls} (s : Sf x t fr ls) {p k : Nat} (h : (p, k) ∈ ls) : dropG ls (p : Int) (k : Int) = dropR ls p := by
  unfold dropG dropR
  apply List.filter_congr
  rintro ⟨q, i⟩ hq
  by_cases e : q = p
  · subst e
    have := s.one h hq
    subst this
    simp
  · have e2 : ¬ (q : Int) = (p : Int) := by omega
    simp [e, e2]
theorem give_both {w W lw x t fr ls b l r o g0 fc va vc} (h : RW w W lw x t fr ls b l r o g0 fc va vc) (pg od : Int) (a : Nat) (ha : a < 18446744073709551616) (hla : liveL ls (pgV x.base t.m.n a) od = liveL ls pg od) (hap : ∀ p : Nat, pg = (p : Int) → a = b + 4096 * p) : ∃ ok fr' ls', GB6 w lw x t fr ls b l r o g0 fc va vc pg od a ok fr' ls' := by
  obtain ⟨n1, n2, n3, n4, n5, n6, n7⟩ := h.nums
  have hlen := h.len
  obtain ⟨f1, f2⟩ := h.fl
  cases hl : liveL ls pg od with
  | false =>
    refine ⟨false, fr, ls, fun V hV R => (Give6r b (l : Int) (r : Int) o n1 w.heap.size g0 fc fr va vc ls (by omega) f1 h.al pg od V hV R).mono ?_, fun V P => (Give6_no P a ha od (hla.trans hl)).mono ?_, h.nd⟩
    · rintro e w' (⟨_, rfl, hk⟩ | ⟨p, k, _, _, rfl, rfl, hpk, _⟩)
      · exact ⟨va, vc, rfl, R.keep hk, hk.mono (fun _ _ e => e.elim)⟩
      · rw [liveL_mem.2 hpk] at hl
        cases hl
    · rintro e w' ⟨rfl, hk⟩
      exact ⟨rfl, ⟨t, P.keep hk, rfl⟩, hk.mono (fun _ _ e => e.elim)⟩
  | true =>
    obtain ⟨p, k, rfl, rfl, hpk⟩ := liveL_ex hl
    have hG := dropG_R h.po.sf hpk
    refine ⟨true, giveF o fr p k, dropR ls p, fun V hV R => (Give6r b (l : Int) (r : Int) o n1 w.heap.size g0 fc fr va vc ls (by omega) f1 h.al (p : Int) (k : Int) V hV R).mono ?_, fun V P => (Give6_yes P p k hpk a (by unfold ad; rw [h.eb]; exact hap p rfl)).mono ?_, ?_⟩
    · rintro e w' (⟨h0, _⟩ | ⟨p', k', va', vc', e1, e2, _, rfl, hr, hk⟩)
      · rw [h0] at hl
        cases hl
      · obtain rfl : p' = p := by omega
        obtain rfl : k' = k := by omega
        rw [hG] at hr ⊢
        exact ⟨va', vc', rfl, hr, hk⟩
    · rintro e w' ⟨rfl, t', hp, hn, hk⟩
      rw [h.eo] at hp
      exact ⟨rfl, ⟨t', hp, hn⟩, hk⟩
    · unfold dropR
      exact List.Nodup.sublist (List.Sublist.map _ (List.filter_sublist)) h.nd
theorem live_in {w W lw x t fr ls b l r o g0 fc va vc} (h : RW w W lw x t fr ls b l r o g0 fc va vc) (p : Nat) (od : Int) (a : Nat) (hap : a = b + 4096 * p) : liveL ls (pgV x.base t.m.n a) od = liveL ls (p : Int) od := by
  have hbm := h.po.bm
  rw [h.eb] at hbm
  by_cases hpn : p < t.m.n
  · have e : pgV x.base t.m.n a = (p : Int) := by
      unfold pgV
      rw [h.eb, if_pos ⟨by omega, by omega, by omega⟩]
      have : (a - b) / 4096 = p := by omega
      rw [this]
    rw [e]
  · have e : pgV x.base t.m.n a = -1 := by
      unfold pgV
      rw [h.eb, if_neg (by omega)]
    have out : ∀ pg : Int, (∀ q : Nat, q < t.m.n → pg ≠ (q : Int)) → liveL ls pg od = false := fun pg hq => by
      cases hl : liveL ls pg od with
      | false => rfl
      | true =>
        obtain ⟨q, k, e1, _, hm⟩ := liveL_ex hl
        obtain ⟨_, _, a3⟩ := h.po.sf.sn.al hm
        have hz : 0 < 2 ^ k := Nat.pow_pos (by decide)
        exact absurd e1 (hq q (by omega))
    rw [e, out (-1) (fun q hq => by omega), out (p : Int) (fun q hq => by omega)]
set_option maxRecDepth 4000 in
set_option maxHeartbeats 4000000 in
theorem played2 {w W lw x t fr ls b l r o g0 fc va vc} (h : RW w W lw x t fr ls b l r o g0 fc va vc) (n : Nat) (hn : n = ls.length) (hn0 : 0 < n) (od wh mo : Int) (dn : Bool) (at' : Int) (dv : Value) :
    Calls Tryz.prog 10 #[.pointer (some ⟨lw, 0, none⟩), r6V b (l : Int) (o : Int) (r : Int) (.slice (some ⟨g0, 0, none⟩) (o + 1) fc) (.slice va n vc), opV 2 od wh mo dn at' dv] W fun e w' => Py6 w W lw x b l o g0 fc va e w' := by
  obtain ⟨n1, n2, n3, n4, n5, n6, n7⟩ := h.nums
  have hlen := h.len
  have B0 := hid (PB.start (w := w) (W := W) (lw := lw) (x := x) (va := va) (g0 := g0) (r6O b (l : Int) (o : Int) (r : Int) (.slice (some ⟨g0, 0, none⟩) (o + 1) fc) (.slice va n vc)) (opO 2 od wh mo dn at' dv))
  have R0 := hid (h.keep (three6 W (r6O b (l : Int) (o : Int) (r : Int) (.slice (some ⟨g0, 0, none⟩) (o + 1) fc) (.slice va n vc)) (opO 2 od wh mo dn at' dv) r6Z).1)
  rw [← hn] at hlen
  have HN := hid hn
  have hwW := h.po.pl.kp.size
  have HVA := hid (show ∀ y, va.map (fun a => a.block) = some y → y < W.heap.size from fun y e => by obtain ⟨cs, hc⟩ := h.rf.tyv e; exact heap_lt hc)
  have HEQ := hid (And.intro h.eb (And.intro h.el (And.intro h.eo h.er)))
  clear h hn
  go_enter Tryz.func10, Tryz.ntmps10
  go_upto_region 1 with fail
  generalize ((W.alloc (r6O b (l : Int) (o : Int) (r : Int) (.slice (some ⟨g0, 0, none⟩) (o + 1) fc) (.slice va n vc))).alloc (opO 2 od wh mo dn at' dv)).alloc r6Z = W0 at *
  obtain ⟨x0, x1, x2, x3, x4, x5, xf⟩ := r6c B0.out.bx
  obtain ⟨o0, o1, o2, o3, o4, o5, o6⟩ := opc B0.out.bo
  have WH := hid (which6 b (l : Int) (r : Int) o (.slice (some ⟨g0, 0, none⟩) (o + 1) fc) va vc ls (by rw [← HN.out]; omega) (by rw [← HN.out]; exact hn0) wh W0 R0.out.rf.rn)
  rw [← HN.out] at WH
  have hn0i : (0 : Int) < (n : Int) := by omega
  go_wp2_with fail
  refine WH.out.mono ?_
  rintro e w1 ⟨p, k, hpk, rfl, hk1⟩
  obtain ⟨al1, al2, al3⟩ := R0.out.al p k hpk
  have ka := none_trans hk1 ((Kept.refl none' w1).alloc (.cells #[.int .i64 (p : Int), .int .i64 (k : Int)] 82))
  have U1 := hid (heap_new w1 (.cells #[.int .i64 (p : Int), .int .i64 (k : Int)] 82))
  have B1 := hid (B0.out.keep ka)
  have R1 := hid (R0.out.keep ka)
  have UN := hid (show W.heap.size + 1 + 1 < w1.heap.size from Nat.lt_of_lt_of_le (heap_lt B0.out.by') hk1.size)
  clear hk1 ka WH x0 x1 x2 x3 x4 x5 xf o0 o1 o2 o3 o4 o5 o6
  go_upto_region 9 with fail
  generalize w1.heap.size = bb at *
  generalize w1.alloc (.cells #[.int .i64 (p : Int), .int .i64 (k : Int)] 82) = W1 at *
  obtain ⟨x0, x1, x2, x3, x4, x5, xf⟩ := r6c B1.out.bx
  have v0 : W1.cell? ⟨bb, 0, none⟩ = some (.int .i64 (p : Int)) := by simp [World.cell?, U1.out]
  have v1 : W1.cell? ⟨bb, 1, none⟩ = some (.int .i64 (k : Int)) := by simp [World.cell?, U1.out]
  obtain ⟨a, hap⟩ : ∃ a, a = b + 4096 * p := ⟨_, rfl⟩
  have AD := hid (fun W => Address6 b (l : Int) (o : Int) p al2 (by omega) W)
  rw [← hap] at AD
  have hab : a < 18446744073709551616 := by omega
  have HAP := hid hap
  clear hap
  go_wp2_with fail
  refine (AD.out _).mono ?_
  rintro e w2 ⟨rfl, hk2⟩
  have B2 := hid (B1.out.keep hk2)
  have R2 := hid (R1.out.keep hk2)
  have U2 := hid ((hk2.block _ (heap_lt U1.out) (fun e => e)).trans U1.out)
  clear hk2 AD x0 x1 x2 x3 x4 x5 xf v0 v1
  obtain ⟨x0, x1, x2, x3, x4, x5, xf⟩ := r6c B2.out.bx
  obtain ⟨o0, o1, o2, o3, o4, o5, o6⟩ := opc B2.out.bo
  have v0 : w2.cell? ⟨bb, 0, none⟩ = some (.int .i64 (p : Int)) := by simp [World.cell?, U2.out]
  have v1 : w2.cell? ⟨bb, 1, none⟩ = some (.int .i64 (k : Int)) := by simp [World.cell?, U2.out]
  obtain ⟨q, hq⟩ : ∃ q, q = wrap64 ((k : Int) + mo) := ⟨_, rfl⟩
  replace hq := hq.symm
  have hq2 : IntKind.i64.wrap ((k : Int) + mo) = q := by rw [IntKind.wrap_i64, ← hq]; unfold wrap64; omega
  obtain ⟨ok, fr', ls', hG⟩ := give_both R2.out (p : Int) q a hab (live_in R2.out p q a HAP.out) (fun p' e => by rw [HAP.out, show p' = p by omega])
  have HG := hid hG
  have RF := hid (hG.ref w2 R2.out.po.pl.kp.size R2.out.rf)
  rw [← HN.out] at RF
  clear hG
  go_wp2_with fail
  refine RF.out.mono ?_
  rintro e w3 ⟨va', vc', rfl, hr3, hk3⟩
  obtain ⟨m, hm⟩ : ∃ m, m = ls'.length := ⟨_, rfl⟩
  rw [← hm]
  have HM := hid hm
  have ka := (Kept.refl none' w3).alloc (r6O b (l : Int) (o : Int) (r : Int) (.slice (some ⟨g0, 0, none⟩) (o + 1) fc) (.slice va' m vc'))
  have Z3 := hid (heap_new w3 (r6O b (l : Int) (o : Int) (r : Int) (.slice (some ⟨g0, 0, none⟩) (o + 1) fc) (.slice va' m vc')))
  have B3 := hid ((B2.out.ref R2.out.rf hk3 (fun _ _ e => e)).keep ka)
  have P3 := hid ((R2.out.po.ref R2.out.rf (Nat.le_refl _) hk3).keep ka)
  have Q3 := hid (hr3.keep ka)
  have hub : w3.heap[bb]? = some (.cells #[.int .i64 (p : Int), .int .i64 (k : Int)] 82) := (hk3.block _ (heap_lt U2.out) (fun e2 => by
    rcases e2 with e2 | e2
    · obtain ⟨cs', hc⟩ := R2.out.rf.ty0
      exact ty_ne hc U2.out (by decide) e2.symm
    · have h1 := HVA.out _ e2
      have h2 := UN.out
      omega)).trans U2.out
  have U3 := hid ((ka.block _ (heap_lt hub) (fun e => e)).trans hub)
  have ZN := hid (show W.heap.size + 1 + 1 < w3.heap.size from heap_lt (B2.out.ref R2.out.rf hk3 (fun _ _ e => e)).by')
  clear hm hr3 hk3 ka hub RF x0 x1 x2 x3 x4 x5 xf o0 o1 o2 o3 o4 o5 o6 v0 v1
  go_upto_region 11 with fail
  generalize w3.heap.size = zb at *
  generalize w3.alloc (r6O b (l : Int) (o : Int) (r : Int) (.slice (some ⟨g0, 0, none⟩) (o + 1) fc) (.slice va' m vc')) = W3 at *
  have KD := hid ((Kept.refl none' W3).drew)
  have PL := hid (HG.out.pool W3.drew (P3.out.keep KD.out))
  have HO := hid (fun (W' : World) (h : W'.heap[W.heap.size + 1]? = some (opO 2 od wh mo dn at' dv)) => (opc h).2.2.2.1)
  obtain ⟨d0, d1, d2, d3, d4, d5, df⟩ := r6c ((KD.out.block _ (heap_lt Z3.out) (fun e => e)).trans Z3.out)
  have d6 := HO.out _ (B3.out.keep KD.out).bo
  have d7 : W3.drew.cell? ⟨bb, 1, none⟩ = some (.int .i64 (k : Int)) := by
    have := (KD.out.block _ (heap_lt U3.out) (fun e => e)).trans U3.out
    simp [World.cell?, this]
  have hn1 : zb ≠ W.heap.size + 1 + 1 := by have := ZN.out; omega
  have hn2 : bb ≠ W.heap.size + 1 + 1 := by have := UN.out; omega
  have hn3 : W.heap.size + 1 ≠ W.heap.size + 1 + 1 := by omega
  obtain ⟨er, her⟩ : ∃ er : Int, er = if ok = true then 0 else 1 := ⟨_, rfl⟩
  rw [← her] at PL
  have HER := hid her
  clear her
  have hok : (decide (er = 0) == ok) = true := by
    have := HER.out
    cases ok <;> simp at this <;> subst this <;> rfl
  have hok2 : ((er == 0) == ok) = true := by
    have := HER.out
    cases ok <;> simp at this <;> subst this <;> rfl
  go_region_held3 (fun w' => w'.cell? ⟨zb, 0, none⟩ = some (.int .u64 (b : Int)) ∧ w'.cell? ⟨zb, 1, none⟩ = some (.int .i64 (l : Int)) ∧ w'.cell? ⟨zb, 2, none⟩ = some (.int .i64 (o : Int)) ∧ w'.cell? ⟨zb, 3, none⟩ = some (.int .i64 (r : Int)) ∧ w'.cell? ⟨zb, 4, none⟩ = some (.slice (some ⟨g0, 0, none⟩) (o + 1) fc) ∧ w'.cell? ⟨zb, 5, none⟩ = some (.slice va' m vc') ∧ w'.cell? ⟨W.heap.size + 1, 3, none⟩ = some (.int .i64 mo) ∧ w'.cell? ⟨bb, 1, none⟩ = some (.int .i64 (k : Int))) ((refine ⟨?_, ?_, ?_, ?_, ?_, ?_, ?_, ?_⟩ <;> first | with_reducible assumption | with_reducible exact cell_far6 (by with_reducible assumption) (by with_reducible assumption) _ _ _ _ _ _)) (first
    | (go_at_call 23; (with_reducible refine PL.out.mono ?_); rintro e w5 ⟨rfl, ⟨t5, hp5, hn5⟩, hk5⟩; have B5 := hid ((B3.out.keep KD.out).pool (P3.out.keep KD.out) hk5); obtain ⟨f0, f1, f2, f3, f4, f5, ff⟩ := r6c ((P3.out.keep KD.out).bx hk5 ((KD.out.block _ (heap_lt Z3.out) (fun e => e)).trans Z3.out) (.inr (.inr (.inr (.inl rfl))))); have f6 := HO.out _ B5.out.bo; have f7 : w5.cell? ⟨bb, 1, none⟩ = some (.int .i64 (k : Int)) := (by have := (P3.out.keep KD.out).bx hk5 ((KD.out.block _ (heap_lt U3.out) (fun e => e)).trans U3.out) (.inr (.inr (.inl rfl))); simp [World.cell?, this]); obtain ⟨y0, y1, y2, y3, y4, y5, yf⟩ := r6c (b := 0) (l := 0) (o := 0) (r := 0) B5.out.by'; have R5 := hid (show RW w w5 lw x t5 fr' ls' b l r o g0 fc va' vc' from ⟨hp5, (Q3.out.keep KD.out).pool (P3.out.keep KD.out) hk5, HEQ.out.1, HEQ.out.2.1, HEQ.out.2.2.1, hn5.trans HEQ.out.2.2.2, HG.out.nd⟩); clear hp5 hn5 hk5)
    | fail)
  all_goals
    have FIN := hid (fun v0 v1 v2 v3 v4 v5 => And.intro (R5.out.fin B5.out.by' (by omega) v0 v1 v2 v3 v4 v5) (B5.out.fin v0 v1 v2 v3 v4 v5))
    go_wp2_with fail
    exact ⟨rfl, .tuple #[r6V b (l : Int) (o : Int) (r : Int) (.slice (some ⟨g0, 0, none⟩) (o + 1) fc) (.slice va' m vc'), .bool true], by simp [results, Tryz.results10, go_sem, y0, y1, y2, y3, y4, y5], x, t5, fr', ls', r, va', vc', by rw [HM.out], (FIN.out _ _ _ _ _ _).1, (FIN.out _ _ _ _ _ _).2⟩
end Go.Proofs.YtggieolknccabaaGreat
