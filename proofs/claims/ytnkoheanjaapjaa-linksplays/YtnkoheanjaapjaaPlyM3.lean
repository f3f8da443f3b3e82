/- LinksPlays: a step: All, all ways. -/
import Derived.Test.YtnkoheanjaapjaaPlyM
namespace Go.Proofs.Ytnkoheanjaapjaa
open Go.RowKit
set_option linter.unusedVariables false
attribute [local go_sem] Oper.semAt_some

set_option maxRecDepth 20000 in
set_option maxHeartbeats 4000000 in
theorem step_all_b2 (A B b : Nat) (ao mo : Option Nat) (n cap : Nat) (f cs hs : Nat → Nat) (hn : n ≤ 4194304) (li : Int) (hk1 : li < 0) (pp uu : Nat) (hp : pp < 18446744073709551616) (hv' : uu < 18446744073709551616) (hu1 : 1048576 ≤ uu) (w : World) (t : Trio w A B b ao mo n cap f cs hs f hs) :
    Calls Try.prog 22 #[.pointer (some ⟨b, 0, none⟩), .agg #[.int .u64 4096, .int .u64 4096, .int .i64 3, .slice (adr mo) n cap], .pointer (some ⟨A, 0, none⟩), .pointer (some ⟨B, 0, none⟩), .agg #[.int .i64 4, .int .i64 li, .int .u64 (pp : Int), .int .u64 (uu : Int)]] w (Post A B b ao mo n cap cs w) := by
  have hk : 0 < 3 := by decide
  have TL := hid t.tri_lt
  have K0 := hid (((Kept.refl none' w).alloc (.cells #[.int .u64 4096, .int .u64 4096, .int .i64 3, .slice (adr mo) n cap] 44)).alloc (.cells #[.int .i64 4, .int .i64 li, .int .u64 (pp : Int), .int .u64 (uu : Int)] 55))
  have T0 := hid (t.keep K0.out)
  have B0 := hid (Box2.new w mo n cap 4 li pp uu)
  have ca := T0.out.ca 0 hk
  have hb64 := t.h64 0 hk
  have hvi : ¬ (uu : Int) < 1048576 := by omega
  clear t
  have hmf := mkf
  have hfe := fnil
  refine calls_marks Try.func22 rfl ?_
  simp only [Try.ntmps22, List.size_toArray, List.length_cons, List.length_nil, Nat.reduceAdd, Nat.reduceSub, Array.replicate_succ, Array.replicate_zero, List.push_toArray, List.append_toArray, List.nil_append, List.cons_append]
  go_wp2_with fail
  refine (All_any (cs 0) _).mono ?_
  rintro e w1 ⟨rfl, hw1⟩
  obtain ⟨Wb, hWb⟩ : ∃ Wb, Wb = ((w.alloc (.cells #[.int .u64 4096, .int .u64 4096, .int .i64 3, .slice (adr mo) n cap] 44)).alloc (.cells #[.int .i64 4, .int .i64 li, .int .u64 (pp : Int), .int .u64 (uu : Int)] 55)).alloc (.cells #[.int .i64 1048576] 3) := ⟨_, rfl⟩
  obtain ⟨vv, hvv⟩ : ∃ vv : Nat, vv = 1048576 := ⟨_, rfl⟩
  have hv1 : vv ≤ 1048576 := by omega
  have hzb : Wb.heap.size = w.heap.size + 1 + 1 + 1 := by rw [hWb]; simp
  rw [← hWb] at hw1
  simp only [← hWb]
  rw [World.size_alloc, ← hzb]
  have HZB := hid hzb
  have KB := hid (show Kept none' w Wb by rw [hWb]; exact K0.out.alloc _)
  have TB := hid (show Trio Wb A B b ao mo n cap f cs hs f hs by rw [hWb]; exact T0.out.keep ((Kept.refl none' _).alloc _))
  have BB := hid (show Box2 w Wb mo n cap 4 li pp uu by rw [hWb]; exact B0.out.kept ((Kept.refl none' _).alloc _) (fun _ x => x.elim))
  have NB := hid (show Wb.heap[w.heap.size + 1 + 1]? = some (.cells #[.int .i64 (vv : Int)] 3 (0, 0)) by
    have hz : w.heap.size + 1 + 1 = ((w.alloc (.cells #[.int .u64 4096, .int .u64 4096, .int .i64 3, .slice (adr mo) n cap] 44)).alloc (.cells #[.int .i64 4, .int .i64 li, .int .u64 (pp : Int), .int .u64 (uu : Int)] 55)).heap.size := by simp
    rw [hWb, hz, show ((vv : Nat) : Int) = 1048576 by omega]; exact heap_new _ _)
  clear hvv
  have H := hid (show LS Wb (cs 0) b ao 4096 4096 3 n f (hs 0) from ⟨TB.out.s, TB.out.l 0 hk⟩)
  generalize hhd : hs 0 = hd at H hb64
  have HHD := hid hhd
  clear hhd
  clear hWb hzb ca
  have KW := hid (show Kept none' Wb w1 by rw [hw1]; exact ((Kept.refl none' Wb).alloc _).alloc _)
  have F1 := hid (show OutB w1 Wb.heap.size (.slice none 0 0) by rw [hw1]; exact (Below.heap_alloc _ _ _ (by simp)).trans (heap_new _ _))
  have F2 := hid (show PtrB w1 (Wb.heap.size + 1) (cs 0) by rw [hw1]; exact heap_new2 _ _ _)
  have HZ1 := hid (show w1.heap.size = Wb.heap.size + 2 by rw [hw1]; simp)
  have HNL := hid hn
  clear hw1
  go_wp2_with fail
  refine wp_range (gf := 55) (lb := #[.pointer (some ⟨Wb.heap.size + 1, 0, none⟩)]) rfl (enters_of Try.func55 (by kernel_rfl) rfl) ?_
  intro fn rc hrc
  have HRC := hid hrc
  clear hrc
  have hz1 := HZ1.out
  rw [hz1]
  obtain ⟨W3, hW3⟩ : ∃ W3, W3 = (w1.alloc (.deferred (some []))).alloc (.loop (rc .ready none)) := ⟨_, rfl⟩
  have KW3 := hid (show Kept none' w1 W3 by rw [hW3]; exact ((Kept.refl none' w1).alloc _).alloc _)
  have hz3 : W3.heap.size = Wb.heap.size + 4 := by rw [hW3]; simp; omega
  have G1 := hid (F1.out.kept KW3.out (fun x => x))
  have G2 := hid (F2.out.keep KW3.out)
  have G3 := hid (show RecAt W3 (Wb.heap.size + 3) (rc .ready none) by
    rw [hW3]
    have := heap_new2 w1 (.deferred (some [])) (.loop (rc .ready none))
    rw [hz1] at this
    exact this)
  have G4 := hid (show DefAt W3 (Wb.heap.size + 2) by
    rw [hW3]
    have := (Below.heap_alloc (w1.alloc (.deferred (some []))) (.loop (rc .ready none)) w1.heap.size (by simp)).trans (heap_new w1 _)
    rw [hz1] at this
    exact this)
  have K3 := hid (none_trans KW.out KW3.out)
  rw [← hW3]
  have HZ3 := hid hz3
  clear hW3
  obtain ⟨N, hN⟩ : ∃ N, N = n / 16 := ⟨_, rfl⟩
  have hNl : N ≤ 262144 := by have := HNL.out; omega
  have HN := hid hN
  clear hN
  refine (All1_any (Wb.heap.size + 1) (Wb.heap.size + 3) (cs 0) b ao 4096 4096 3 n 0 (by decide) (by decide) (Wb.heap.size + 4)
    (fun i q p f' S W => Taking (cs 0) b ao 4096 4096 3 n f hd (Wb.heap.size + 1) Wb.heap.size (Wb.heap.size + 2) (Wb.heap.size + 3) Wb rc N i q p f' S W ∧ i ≤ vv) (Broke Wb rc n N vv hd f) ?hK1 ?hK2 ?hX2 ?hY hd f
    (fun x => x < Wb.heap.size ∨ x = Wb.heap.size + 1 ∨ x = Wb.heap.size ∨ x = Wb.heap.size + 2 ∨ x = Wb.heap.size + 3 ∨ Value.ownBlock (.slice none 0 0) = some x) W3 (by omega) (H.out.keep K3.out) ?h0).mono ?hend
  case h0 =>
    exact ⟨⟨rfl, H.out.keep K3.out, G2.out, K3.out, H.out.l.h64, by decide, [], .slice none 0 0, rfl, Nat.zero_le _, rfl, G1.out, Lst.nil _, G3.out, G4.out, fun r e => (by cases e), rfl⟩, Nat.zero_le _⟩
  case hK1 =>
    rintro i q p f' S W ⟨⟨hf, hls, hpk, hk0, hp, hq, xs, v, hxi, hiN, hwk, hob, hlst, hrec, hdef, hrow, rfl⟩, him⟩
    refine ⟨hp, hq, ⟨hd, hls⟩, ?_, hpk⟩
    have := hk0.size
    have := hpk.lt
    have := hob.lt
    have := hrec.lt
    have := hdef.lt
    rintro x (h | h | h | h | h | h)
    all_goals first | omega | exact hlst.wds.lt h
  case hK2 =>
    rintro i q p f' S T W W' ⟨⟨hf, hls, hpk, hk0, hp, hq, xs, v, hxi, hiN, hwk, hob, hlst, hrec, hdef, hrow, rfl⟩, him⟩ hk hT
    have hnT : ∀ x, (x < Wb.heap.size ∨ x = Wb.heap.size + 1 ∨ x = Wb.heap.size ∨ x = Wb.heap.size + 2 ∨ x = Wb.heap.size + 3 ∨ v.ownBlock = some x) → ¬ T x := fun x hx ht => (hT x ht).2 hx
    exact ⟨⟨hf, hls.kept hk (fun x hx => hnT x (.inl (H.out.lt x hx))), hpk.kept hk (hnT _ (by simp)), hk0.trans hk (fun _ _ x => x) (fun x hx ht => hnT x (.inl hx) ht), hp, hq,
      xs, v, hxi, hiN, hwk, hob.kept hk (hnT _ (by simp)), hlst.kept hk (fun r hr => hnT r (by simp [hr])), hrec.kept hk (hnT _ (by simp)), hdef.kept hk (hnT _ (by simp)), hrow, rfl⟩, him⟩
  case hX2 =>
    rintro S T W W' ⟨xs, v, hxs, hob, hlst, hk0, hrec, hdef, hrow, rfl⟩ hk hT
    have hnT : ∀ x, (x < Wb.heap.size ∨ x = Wb.heap.size + 1 ∨ x = Wb.heap.size ∨ x = Wb.heap.size + 2 ∨ x = Wb.heap.size + 3 ∨ v.ownBlock = some x) → ¬ T x := fun x hx ht => (hT x ht).2 hx
    exact ⟨xs, v, hxs, hob.kept hk (hnT _ (by simp)), hlst.kept hk (fun r hr => hnT r (by simp [hr])), hk0.trans hk (fun _ _ x => x) (fun x hx ht => hnT x (.inl hx) ht), hrec.kept hk (hnT _ (by simp)), hdef.kept hk (hnT _ (by simp)), hrow, rfl⟩
  case hend =>
    rintro e W' ⟨hv, ⟨i, q, p, f', S, ⟨⟨hf, hls, hpk, hk0, hp, hq, xs, v, hxi, hiN, hwk, hob, hlst, hrec, hdef, hrow, hSS⟩, him⟩, hi, hor⟩ | ⟨S, xs, v, hX, hob, hlst, hk0, hrec, hdef, hrow, hSS⟩⟩
    · refine ⟨hv, .ready, none, by simp, hrec, fun _ => ?_, fun c hc => by cases hc⟩
      have hwn : walkR 4096 n f (N - i) q p = [] := by
        rcases Nat.eq_zero_or_pos (N - i) with e | e
        · rw [e]; rfl
        · obtain ⟨k, hk⟩ : ∃ k, N - i = k + 1 := ⟨N - i - 1, by omega⟩
          rw [hk]
          unfold walkR
          rw [if_neg]
          rintro ⟨h1, h2, h3⟩
          rw [hf] at hor
          have := HN.out
          rcases hor with h | h | h | h
          · exact h1 h
          · exact h h2
          · exact h h3
          · omega
      rw [hwn, List.append_nil] at hwk
      have hX : xs = walkR 4096 n f (min N vv) 0 hd := by
        rw [← walkR_take, ← hwk, List.take_of_length_le (by omega)]
      have hxl : xs.length ≤ 4194305 := by omega
      clear hwn hwk hor hSS hls hpk hf hi hiN him hp hq hxi
      obtain ⟨W6, hW6⟩ : ∃ W6, W6 = W'.putObj (Wb.heap.size + 3) (.loop (rc .exhausted none)) := ⟨_, rfl⟩
      have kk1 : Kept (fun x => x = Wb.heap.size + 3) W' W6 := by rw [hW6]; exact (Kept.refl (fun x => x = Wb.heap.size + 3) W').putObj (fun _ => rfl) _
      have hne : ∀ r, v.ownBlock = some r → ¬ (r = Wb.heap.size + 3) := fun r hr e => by
        obtain ⟨cs, hcs⟩ := hlst.blk hr
        subst e
        rw [show W'.heap[Wb.heap.size + 3]? = _ from hrec] at hcs; cases hcs
      have O6 := hid (hob.kept kk1 (by omega))
      have L6 := hid (hlst.kept kk1 hne)
      have D6 := hid (hdef.kept kk1 (by omega))
      have K6 := hid (hk0.trans (U := none') kk1 (fun _ _ x => x) (fun x hx e => by omega))
      have T6 := hid (TB.out.keep K6.out)
      have B6 := hid (BB.out.kept K6.out (fun _ x => x.elim))
      have X := hid hX
      have HXL := hid hxl
      obtain ⟨d0, d1, d2, d3⟩ := B6.out.cd
      have oc := cell_of O6.out
      have ch := T6.out.ch 0 hk
      rw [HHD.out] at ch
      have nc : W6.cell? ⟨w.heap.size + 1 + 1, 0, none⟩ = some (.int .i64 (vv : Int)) := K6.out.cell (fun x => x) (cell_of NB.out)
      have nc0 := hid nc
      rw [← hW6]
      clear kk1 hW6 hob hlst hdef hk0 hrec hne hX hxl hrow hv
      go_wp2_with fail
      go_region_held3 (fun w' => w'.cell? ⟨Wb.heap.size, 0, none⟩ = some v ∧ w'.cell? ⟨w.heap.size, 0, none⟩ = some (.int .u64 4096) ∧ w'.cell? ⟨w.heap.size, 1, none⟩ = some (.int .u64 4096) ∧ w'.cell? ⟨w.heap.size, 2, none⟩ = some (.int .i64 3) ∧ w'.cell? ⟨w.heap.size, 3, none⟩ = some (.slice (adr mo) n cap) ∧ w'.cell? ⟨B, 0, none⟩ = some (.int .u64 (hd : Int)) ∧ w'.cell? ⟨w.heap.size + 1 + 1, 0, none⟩ = some (.int .i64 (vv : Int))) (exact ⟨oc, d0, d1, d2, d3, ch, nc⟩) (first | (go_at_call 49; refine (R3All_ref mo n cap f hn hd vv hb64 (by omega) _ (T6.out.keep (Kept.refl none' _).drew).r).mono ?_; rintro e w7 ⟨v7, rfl, l7, k7, -⟩; rw [← HN.out, ← X.out] at l7; have k7 := none_trans (Kept.refl none' W6).drew k7; have L7 := hid l7; have K7 := hid k7; have oc := cell_of (O6.out.kept k7 (fun x => x)); obtain ⟨d0, d1, d2, d3⟩ := (B6.out.kept k7 (fun _ x => x.elim)).cd; have ch := (T6.out.keep k7).ch 0 hk; rw [HHD.out] at ch; have nc := k7.cell (fun x => x) nc0.out; clear l7 k7) | (go_at_call 17; refine (same_true v v7 xs HXL.out _ (L6.out.keep K7.out).wds L7.out.wds).mono ?_; rintro e w8 ⟨rfl, k8⟩; have k8 := none_trans K7.out k8; have K8 := hid k8; have oc := cell_of (O6.out.kept k8 (fun x => x)); obtain ⟨d0, d1, d2, d3⟩ := (B6.out.kept k8 (fun _ x => x.elim)).cd; have ch := (T6.out.keep k8).ch 0 hk; rw [HHD.out] at ch; have nc := k8.cell (fun x => x) nc0.out; clear k8))
      all_goals
        have D8 := D6.out.kept K8.out (fun x => x)
        have K9 := (none_trans K6.out K8.out).putObj (l := Wb.heap.size + 2) (fun h => absurd h (by omega)) (.deferred none)
        have T9 := hid (TB.out.keep K9)
        have K9 := hid (none_trans KB.out K9)
        go_wp2_with fail
        refine ⟨by simp, .inl ⟨_, _, rfl, run_takeDeferred D8, ?_⟩⟩
        exact ⟨_, results_tmp rfl _ _ _, f, cs, hs, rfl, T9.out, tri_none K9.out, fun _ _ => Or.inl rfl⟩
    · refine ⟨hv, .done, some (.exit 1), by simp, hrec, fun h => (by cases h), fun c hc => ?_⟩
      cases hc
      have hxl : xs.length ≤ 4194305 := by
        rw [hX, ← walkR_take, List.length_take]
        omega
      clear hSS
      obtain ⟨W6, hW6⟩ : ∃ W6, W6 = W'.putObj (Wb.heap.size + 3) (.loop (rc .exhausted (some (.exit 1)))) := ⟨_, rfl⟩
      have kk1 : Kept (fun x => x = Wb.heap.size + 3) W' W6 := by rw [hW6]; exact (Kept.refl (fun x => x = Wb.heap.size + 3) W').putObj (fun _ => rfl) _
      have hne : ∀ r, v.ownBlock = some r → ¬ (r = Wb.heap.size + 3) := fun r hr e => by
        obtain ⟨cs, hcs⟩ := hlst.blk hr
        subst e
        rw [show W'.heap[Wb.heap.size + 3]? = _ from hrec] at hcs; cases hcs
      have O6 := hid (hob.kept kk1 (by omega))
      have L6 := hid (hlst.kept kk1 hne)
      have D6 := hid (hdef.kept kk1 (by omega))
      have K6 := hid (hk0.trans (U := none') kk1 (fun _ _ x => x) (fun x hx e => by omega))
      have T6 := hid (TB.out.keep K6.out)
      have B6 := hid (BB.out.kept K6.out (fun _ x => x.elim))
      have X := hid hX
      have HXL := hid hxl
      obtain ⟨d0, d1, d2, d3⟩ := B6.out.cd
      have oc := cell_of O6.out
      have ch := T6.out.ch 0 hk
      rw [HHD.out] at ch
      have nc : W6.cell? ⟨w.heap.size + 1 + 1, 0, none⟩ = some (.int .i64 (vv : Int)) := K6.out.cell (fun x => x) (cell_of NB.out)
      have nc0 := hid nc
      rw [← hW6]
      clear kk1 hW6 hob hlst hdef hk0 hrec hne hX hxl hrow hv
      go_wp2_with fail
      go_region_held3 (fun w' => w'.cell? ⟨Wb.heap.size, 0, none⟩ = some v ∧ w'.cell? ⟨w.heap.size, 0, none⟩ = some (.int .u64 4096) ∧ w'.cell? ⟨w.heap.size, 1, none⟩ = some (.int .u64 4096) ∧ w'.cell? ⟨w.heap.size, 2, none⟩ = some (.int .i64 3) ∧ w'.cell? ⟨w.heap.size, 3, none⟩ = some (.slice (adr mo) n cap) ∧ w'.cell? ⟨B, 0, none⟩ = some (.int .u64 (hd : Int)) ∧ w'.cell? ⟨w.heap.size + 1 + 1, 0, none⟩ = some (.int .i64 (vv : Int))) (exact ⟨oc, d0, d1, d2, d3, ch, nc⟩) (first | (go_at_call 49; refine (R3All_ref mo n cap f hn hd vv hb64 (by omega) _ (T6.out.keep (Kept.refl none' _).drew).r).mono ?_; rintro e w7 ⟨v7, rfl, l7, k7, -⟩; rw [← HN.out, ← X.out] at l7; have k7 := none_trans (Kept.refl none' W6).drew k7; have L7 := hid l7; have K7 := hid k7; have oc := cell_of (O6.out.kept k7 (fun x => x)); obtain ⟨d0, d1, d2, d3⟩ := (B6.out.kept k7 (fun _ x => x.elim)).cd; have ch := (T6.out.keep k7).ch 0 hk; rw [HHD.out] at ch; have nc := k7.cell (fun x => x) nc0.out; clear l7 k7) | (go_at_call 17; refine (same_true v v7 xs HXL.out _ (L6.out.keep K7.out).wds L7.out.wds).mono ?_; rintro e w8 ⟨rfl, k8⟩; have k8 := none_trans K7.out k8; have K8 := hid k8; have oc := cell_of (O6.out.kept k8 (fun x => x)); obtain ⟨d0, d1, d2, d3⟩ := (B6.out.kept k8 (fun _ x => x.elim)).cd; have ch := (T6.out.keep k8).ch 0 hk; rw [HHD.out] at ch; have nc := k8.cell (fun x => x) nc0.out; clear k8))
      all_goals
        have D8 := D6.out.kept K8.out (fun x => x)
        have K9 := (none_trans K6.out K8.out).putObj (l := Wb.heap.size + 2) (fun h => absurd h (by omega)) (.deferred none)
        have T9 := hid (TB.out.keep K9)
        have K9 := hid (none_trans KB.out K9)
        go_wp2_with fail
        refine ⟨by simp, .inl ⟨_, _, rfl, run_takeDeferred D8, ?_⟩⟩
        exact ⟨_, results_tmp rfl _ _ _, f, cs, hs, rfl, T9.out, tri_none K9.out, fun _ _ => Or.inl rfl⟩
  case hY =>
    rintro i q p f' S W ⟨⟨hf, hls, hpk, hk0, hp, hq, xs, v, hxi, hiN, hwk, hob, hlst, hrec, hdef, hrow, rfl⟩, him⟩ hi hp0 hin hpv
    rw [← HN.out] at hi
    subst hf
    have hL := hrec
    rw [HRC.out] at hL
    refine yield_round hL rfl ?_
    rw [← HRC.out]
    have kk : Kept (fun x => x = Wb.heap.size + 3) W (W.putObj (Wb.heap.size + 3) (.loop (rc .busy none))) := (Kept.refl (fun x => x = Wb.heap.size + 3) W).putObj (fun _ => rfl) _
    have hne : ∀ r, v.ownBlock = some r → ¬ (r = Wb.heap.size + 3) := fun r hr e => by
      obtain ⟨cs, hcs⟩ := hlst.blk hr
      subst e
      rw [show W.heap[Wb.heap.size + 3]? = _ from hrec] at hcs; cases hcs
    have hnd : ∀ r, v.ownBlock = some r → ¬ (r = Wb.heap.size + 2) := fun r hr e => by
      obtain ⟨cs, hcs⟩ := hlst.blk hr
      subst e
      rw [show W.heap[Wb.heap.size + 2]? = _ from hdef] at hcs; cases hcs
    have hnk : ∀ r, v.ownBlock = some r → ¬ (r = Wb.heap.size + 1) := fun r hr e => by
      obtain ⟨cs, hcs⟩ := hlst.blk hr
      subst e
      rw [show W.heap[Wb.heap.size + 1]? = _ from hpk] at hcs; simp at hcs
    have hno : ∀ r, v.ownBlock = some r → ¬ (r = Wb.heap.size) := fun r hr e => by
      obtain ⟨cs, hcs⟩ := hlst.blk hr
      subst e
      rw [show W.heap[Wb.heap.size]? = _ from hob] at hcs; simp at hcs
    obtain ⟨W2, hW2⟩ : ∃ W2, W2 = W.putObj (Wb.heap.size + 3) (.loop (rc .busy none)) := ⟨_, rfl⟩
    rw [← hW2] at kk
    have hz2 : W2.heap.size = W.heap.size := by rw [hW2]; simp
    have L2 := hlst.kept kk hne
    have O2 := hob.kept kk (by omega)
    have R2 : RecAt W2 (Wb.heap.size + 3) (rc .busy none) := by rw [hW2]; exact hrec.put _
    have D2 := hdef.kept kk (by omega)
    have P2 := hpk.kept kk (by omega)
    have kt : Kept none' W2 (W2.alloc (.cells #[.int .u64 (p : Int)] 27)) := (Kept.refl none' W2).alloc _
    have nc2 : W2.cell? ⟨w.heap.size + 1 + 1, 0, none⟩ = some (.int .i64 (vv : Int)) := kk.cell (by have := HZB.out; simp; omega) (hk0.cell (fun x => x) (cell_of NB.out))
    obtain ⟨vo, vc, hvs⟩ : ∃ vo vc, v = .slice (adr vo) xs.length vc := by
      obtain ⟨_, vo, vc, e, _⟩ := hlst.wds
      exact ⟨vo, vc, e⟩
    by_cases hiv : i = vv
    · have hc0 := cell_of O2
      rw [hvs] at hc0
      have X := hid (show xs = walkR 4096 n f' (min N vv) 0 hd by
        rw [← walkR_take, ← hwk, ← hiv, ← hxi]
        simp)
      have HXI := hid hxi
      have HL2 := hid L2
      have HO2 := hid O2
      have HR2 := hid R2
      have HD2 := hid D2
      have KK := hid kk
      have HK0 := hid hk0
      have HROW := hid hrow
      have HH := hid hne
      have HREC := hid hrec
      have hivi : ((xs.length : Int) == (vv : Int)) = true := by rw [HXI.out, hiv]; exact beq_self_eq_true _
      clear hz2 hxi kk L2 O2 R2 D2 P2 kt hL hls hk0 hwk hrow hpv hne hnd hnk hno hin hdef hpk hob hlst hvs hrec hiv him
      gi_wp2_with fail
      refine ⟨HREC.out, ?_⟩
      rw [← hW2]
      clear hW2
      gi_wp2_with fail
      have kz : Kept (fun x => x = Wb.heap.size + 3) W2 (W2.putObj (Wb.heap.size + 3) (.loop (rc .done (some (.exit 1))))) := (Kept.refl (fun x => x = Wb.heap.size + 3) W2).putObj (fun _ => rfl) _
      refine ⟨HR2.out, .inr ⟨rfl, _, ⟨xs, v, X.out, HO2.out.kept kz (by omega), HL2.out.kept kz HH.out, (HK0.out.trans (U := none') KK.out (fun _ _ x => x) (fun x hx e => by omega)).trans kz (fun _ _ x => x) (fun x hx e => by omega), HR2.out.put _, HD2.out.kept kz (by omega), HROW.out, rfl⟩, ?_, fun x hx => .inl hx⟩⟩
      exact (KK.out.trans (U := fun x => x = Wb.heap.size + 3) kz (fun _ _ x => x) (fun _ _ x => x)).mono (fun x _ e => .inr (.inr (.inr (.inr (.inl e)))))
    have hivi : ((xs.length : Int) == (vv : Int)) = false := beq_eq_false_iff_ne.2 (by omega)
    obtain ⟨v', w4, hap, hL4, hK4, hown4, g, cap, hv'⟩ := push_run (W2.alloc (.cells #[.int .u64 (p : Int)] 27)) v xs p (L2.keep kt) hp (by omega) ⟨W2.heap.size, 0, none⟩ 1 (by rw [Addr.add_lit]; exact cell_of (heap_new _ _))
    subst hv'
    have kA : Kept (fun x => x = Wb.heap.size + 3 ∨ v.ownBlock = some x) W w4 := (kk.trans (U := fun x => x = Wb.heap.size + 3 ∨ v.ownBlock = some x) kt (fun _ _ h => .inl h) (fun _ _ h => h.elim)).trans hK4 (fun _ _ h => h) (fun _ _ h => .inr h)
    have kB : Kept (fun x => v.ownBlock = some x) W2 w4 := kt.trans hK4 (fun _ _ h => h.elim) (fun _ _ h => h)
    have O4 := O2.kept kB (fun h => hno _ h rfl)
    have hc0 := cell_of O2
    rw [hvs] at hc0
    rw [hvs] at hap
    have hc4 := cell_of O4
    have hf4 := frozen_of O4
    have HAP := hid hap
    have HZ2 := hid hz2
    have HL4 := hid hL4
    have KA := hid kA
    have KB := hid kB
    have HO4 := hid O4
    have HR2 := hid R2
    have HD2 := hid D2
    have HP2 := hid P2
    have HOWN := hid hown4
    have HLS := hid hls
    have HK0 := hid hk0
    have HWK := hid hwk
    have HROW := hid hrow
    have HX := hid hxi
    have HPV := hid hpv
    have HH1 := hid hne
    have HH2 := hid hnd
    have HH3 := hid hnk
    have HH4 := hid hno
    have HIN := hid hin
    have HREC := hid hrec
    have HDEF := hid hdef
    have HPK := hid hpk
    have HVS := hid hvs
    clear hvs hz2 hxi kk L2 O2 R2 D2 P2 kt hL4 hK4 hown4 kA kB O4 hL hls hk0 hwk hrow hpv hne hnd hnk hno hin hrec hdef hpk hob hlst
    gi_wp2_with fail
    refine ⟨HREC.out, ?_⟩
    rw [← hW2]
    clear hW2
    gi_wp2_with (gi_at_builtin; refine wpListIn_append_run _ rfl _ _ _ rfl (.slice (adr vo) xs.length vc) (.slice (some ⟨W2.heap.size, 0, none⟩) 1 1) rfl rfl _ _ HAP.out ?_)
    have hN4 : ¬ (v.ownBlock = some (Wb.heap.size + 3)) := fun h => HH1.out _ h rfl
    have R4 := HR2.out.kept KB.out hN4
    have kC : Kept (fun x => x = Wb.heap.size + 3 ∨ x = Wb.heap.size ∨ v.ownBlock = some x) W ((w4.setCell ⟨Wb.heap.size, 0, none⟩ (.slice (some ⟨g, 0, none⟩) (xs.length + 1) cap)).putObj (Wb.heap.size + 3) (.loop (rc .ready none))) :=
      ((KA.out.mono (fun x _ h => by rcases h with h | h; exact .inl h; exact .inr (.inr h))).setCell (fun _ => .inr (.inl rfl)) _).putObj (fun _ => .inl rfl) _
    have kD : Kept (fun x => x = Wb.heap.size + 3 ∨ x = Wb.heap.size) w4 ((w4.setCell ⟨Wb.heap.size, 0, none⟩ (.slice (some ⟨g, 0, none⟩) (xs.length + 1) cap)).putObj (Wb.heap.size + 3) (.loop (rc .ready none))) :=
      ((Kept.refl _ w4).setCell (fun _ => .inr rfl) _).putObj (fun _ => .inl rfl) _
    have hgn : ∀ r, Value.ownBlock (.slice (some ⟨g, 0, none⟩) (xs.length + 1) cap) = some r → r ≠ Wb.heap.size + 3 ∧ r ≠ Wb.heap.size ∧ Wb.heap.size ≤ r ∧ (v.ownBlock = some r ∨ W.heap.size ≤ r) := fun r hr => by
      have hWl := HREC.out.lt
      rcases HOWN.out with e | ⟨r', e, hle⟩
      · rw [e] at hr
        exact ⟨HH1.out r hr, HH4.out r hr, HROW.out r hr, .inl hr⟩
      · rw [e] at hr
        cases hr
        simp at hle
        have := HZ2.out
        exact ⟨by omega, by omega, by omega, .inr (by omega)⟩
    obtain ⟨W5, hW5⟩ : ∃ W5, W5 = (w4.setCell ⟨Wb.heap.size, 0, none⟩ (.slice (some ⟨g, 0, none⟩) (xs.length + 1) cap)).putObj (Wb.heap.size + 3) (.loop (rc .ready none)) := ⟨_, rfl⟩
    have R5 : RecAt (w4.setCell ⟨Wb.heap.size, 0, none⟩ (.slice (some ⟨g, 0, none⟩) (xs.length + 1) cap)) (Wb.heap.size + 3) (rc .busy none) := R4.kept ((Kept.refl (fun x => x = Wb.heap.size) w4).setCell (fun _ => rfl) _) (by omega)
    have R6 : RecAt W5 (Wb.heap.size + 3) (rc .ready none) := by rw [hW5]; exact R5.put _
    have O6 : OutB W5 Wb.heap.size (.slice (some ⟨g, 0, none⟩) (xs.length + 1) cap) := by rw [hW5]; exact (World.putObj_heap_other (by omega)).trans (HO4.out.set _)
    rw [← hW5] at kC kD
    have hTk : Taking (cs 0) b ao 4096 4096 3 n f' hd (Wb.heap.size + 1) Wb.heap.size (Wb.heap.size + 2) (Wb.heap.size + 3) Wb rc N (i + 1) p (nx 4096 f' p) f'
        (fun x => x < Wb.heap.size ∨ x = Wb.heap.size + 1 ∨ x = Wb.heap.size ∨ x = Wb.heap.size + 2 ∨ x = Wb.heap.size + 3 ∨ Value.ownBlock (.slice (some ⟨g, 0, none⟩) (xs.length + 1) cap) = some x) W5 := by
      refine ⟨rfl, ?_, ?_, ?_, ?_, hp, xs ++ [p], .slice (some ⟨g, 0, none⟩) (xs.length + 1) cap, by simp [HX.out], by omega, ?_, O6, ?_, R6, ?_, ?_, rfl⟩
      · refine HLS.out.kept kC (fun x hx h => ?_)
        have := H.out.lt x hx
        rcases h with h | h | h
        · omega
        · omega
        · have := HROW.out x h
          omega
      · exact HPK.out.kept kC (by rintro (h | h | h); omega; omega; exact HH3.out _ h rfl)
      · refine HK0.out.trans kC (fun _ _ h => h) (fun x hx h => ?_)
        rcases h with h | h | h
        · omega
        · omega
        · have := HROW.out x h
          omega
      · exact HLS.out.s.nx_lt p HIN.out
      · have e1 : N - i = (N - (i + 1)) + 1 := by omega
        rw [← HWK.out, e1, walkR, if_pos ⟨hp0, HIN.out, HPV.out⟩]
        simp
      · exact HL4.out.kept kD (fun r hr h => by have := hgn r hr; omega)
      · exact (HDEF.out.kept kC (by rintro (h | h | h); omega; omega; exact HH2.out _ h rfl))
      · exact fun r hr => (hgn r hr).2.2.1
    have hkk : Kept (fun x => x < Wb.heap.size ∨ x = Wb.heap.size + 1 ∨ x = Wb.heap.size ∨ x = Wb.heap.size + 2 ∨ x = Wb.heap.size + 3 ∨ v.ownBlock = some x) W W5 := by
      refine kC.mono (fun x _ h => ?_)
      rcases h with h | h | h
      · exact .inr (.inr (.inr (.inr (.inl h))))
      · exact .inr (.inr (.inl h))
      · exact .inr (.inr (.inr (.inr (.inr h))))
    have hss : ∀ x, (x < Wb.heap.size ∨ x = Wb.heap.size + 1 ∨ x = Wb.heap.size ∨ x = Wb.heap.size + 2 ∨ x = Wb.heap.size + 3 ∨ Value.ownBlock (.slice (some ⟨g, 0, none⟩) (xs.length + 1) cap) = some x) →
        (x < Wb.heap.size ∨ x = Wb.heap.size + 1 ∨ x = Wb.heap.size ∨ x = Wb.heap.size + 2 ∨ x = Wb.heap.size + 3 ∨ v.ownBlock = some x) ∨ W.heap.size ≤ x := by
      rintro x (h | h | h | h | h | h)
      · exact .inl (.inl h)
      · exact .inl (.inr (.inl h))
      · exact .inl (.inr (.inr (.inl h)))
      · exact .inl (.inr (.inr (.inr (.inl h))))
      · exact .inl (.inr (.inr (.inr (.inr (.inl h)))))
      · rcases (hgn x h).2.2.2 with h' | h'
        · exact .inl (.inr (.inr (.inr (.inr (.inr h')))))
        · exact .inr h'
    subst hW5
    first
      | exact ⟨R5, .inl ⟨rfl, f', _, ⟨hTk, by omega⟩, hkk, hss⟩⟩
      | exact ⟨R5, .inl ⟨rfl, f', _, ⟨hTk, by omega⟩, hkk, hss⟩⟩

set_option maxRecDepth 20000 in
set_option maxHeartbeats 4000000 in
theorem step_all_c2 (A B b : Nat) (ao mo : Option Nat) (n cap : Nat) (f cs hs : Nat → Nat) (hn : n ≤ 4194304) (li : Int) (hk2 : 2 < li) (pp uu : Nat) (hp : pp < 18446744073709551616) (hv' : uu < 18446744073709551616) (hu1 : 1048576 ≤ uu) (w : World) (t : Trio w A B b ao mo n cap f cs hs f hs) :
    Calls Try.prog 22 #[.pointer (some ⟨b, 0, none⟩), .agg #[.int .u64 4096, .int .u64 4096, .int .i64 3, .slice (adr mo) n cap], .pointer (some ⟨A, 0, none⟩), .pointer (some ⟨B, 0, none⟩), .agg #[.int .i64 4, .int .i64 li, .int .u64 (pp : Int), .int .u64 (uu : Int)]] w (Post A B b ao mo n cap cs w) := by
  have hk : 0 < 3 := by decide
  have hk1 : ¬ li < 0 := by omega
  have TL := hid t.tri_lt
  have K0 := hid (((Kept.refl none' w).alloc (.cells #[.int .u64 4096, .int .u64 4096, .int .i64 3, .slice (adr mo) n cap] 44)).alloc (.cells #[.int .i64 4, .int .i64 li, .int .u64 (pp : Int), .int .u64 (uu : Int)] 55))
  have T0 := hid (t.keep K0.out)
  have B0 := hid (Box2.new w mo n cap 4 li pp uu)
  have ca := T0.out.ca 0 hk
  have hb64 := t.h64 0 hk
  have hvi : ¬ (uu : Int) < 1048576 := by omega
  clear t
  have hmf := mkf
  have hfe := fnil
  refine calls_marks Try.func22 rfl ?_
  simp only [Try.ntmps22, List.size_toArray, List.length_cons, List.length_nil, Nat.reduceAdd, Nat.reduceSub, Array.replicate_succ, Array.replicate_zero, List.push_toArray, List.append_toArray, List.nil_append, List.cons_append]
  go_wp2_with fail
  refine (All_any (cs 0) _).mono ?_
  rintro e w1 ⟨rfl, hw1⟩
  obtain ⟨Wb, hWb⟩ : ∃ Wb, Wb = ((w.alloc (.cells #[.int .u64 4096, .int .u64 4096, .int .i64 3, .slice (adr mo) n cap] 44)).alloc (.cells #[.int .i64 4, .int .i64 li, .int .u64 (pp : Int), .int .u64 (uu : Int)] 55)).alloc (.cells #[.int .i64 1048576] 3) := ⟨_, rfl⟩
  obtain ⟨vv, hvv⟩ : ∃ vv : Nat, vv = 1048576 := ⟨_, rfl⟩
  have hv1 : vv ≤ 1048576 := by omega
  have hzb : Wb.heap.size = w.heap.size + 1 + 1 + 1 := by rw [hWb]; simp
  rw [← hWb] at hw1
  simp only [← hWb]
  rw [World.size_alloc, ← hzb]
  have HZB := hid hzb
  have KB := hid (show Kept none' w Wb by rw [hWb]; exact K0.out.alloc _)
  have TB := hid (show Trio Wb A B b ao mo n cap f cs hs f hs by rw [hWb]; exact T0.out.keep ((Kept.refl none' _).alloc _))
  have BB := hid (show Box2 w Wb mo n cap 4 li pp uu by rw [hWb]; exact B0.out.kept ((Kept.refl none' _).alloc _) (fun _ x => x.elim))
  have NB := hid (show Wb.heap[w.heap.size + 1 + 1]? = some (.cells #[.int .i64 (vv : Int)] 3 (0, 0)) by
    have hz : w.heap.size + 1 + 1 = ((w.alloc (.cells #[.int .u64 4096, .int .u64 4096, .int .i64 3, .slice (adr mo) n cap] 44)).alloc (.cells #[.int .i64 4, .int .i64 li, .int .u64 (pp : Int), .int .u64 (uu : Int)] 55)).heap.size := by simp
    rw [hWb, hz, show ((vv : Nat) : Int) = 1048576 by omega]; exact heap_new _ _)
  clear hvv
  have H := hid (show LS Wb (cs 0) b ao 4096 4096 3 n f (hs 0) from ⟨TB.out.s, TB.out.l 0 hk⟩)
  generalize hhd : hs 0 = hd at H hb64
  have HHD := hid hhd
  clear hhd
  clear hWb hzb ca
  have KW := hid (show Kept none' Wb w1 by rw [hw1]; exact ((Kept.refl none' Wb).alloc _).alloc _)
  have F1 := hid (show OutB w1 Wb.heap.size (.slice none 0 0) by rw [hw1]; exact (Below.heap_alloc _ _ _ (by simp)).trans (heap_new _ _))
  have F2 := hid (show PtrB w1 (Wb.heap.size + 1) (cs 0) by rw [hw1]; exact heap_new2 _ _ _)
  have HZ1 := hid (show w1.heap.size = Wb.heap.size + 2 by rw [hw1]; simp)
  have HNL := hid hn
  clear hw1
  go_wp2_with fail
  refine wp_range (gf := 55) (lb := #[.pointer (some ⟨Wb.heap.size + 1, 0, none⟩)]) rfl (enters_of Try.func55 (by kernel_rfl) rfl) ?_
  intro fn rc hrc
  have HRC := hid hrc
  clear hrc
  have hz1 := HZ1.out
  rw [hz1]
  obtain ⟨W3, hW3⟩ : ∃ W3, W3 = (w1.alloc (.deferred (some []))).alloc (.loop (rc .ready none)) := ⟨_, rfl⟩
  have KW3 := hid (show Kept none' w1 W3 by rw [hW3]; exact ((Kept.refl none' w1).alloc _).alloc _)
  have hz3 : W3.heap.size = Wb.heap.size + 4 := by rw [hW3]; simp; omega
  have G1 := hid (F1.out.kept KW3.out (fun x => x))
  have G2 := hid (F2.out.keep KW3.out)
  have G3 := hid (show RecAt W3 (Wb.heap.size + 3) (rc .ready none) by
    rw [hW3]
    have := heap_new2 w1 (.deferred (some [])) (.loop (rc .ready none))
    rw [hz1] at this
    exact this)
  have G4 := hid (show DefAt W3 (Wb.heap.size + 2) by
    rw [hW3]
    have := (Below.heap_alloc (w1.alloc (.deferred (some []))) (.loop (rc .ready none)) w1.heap.size (by simp)).trans (heap_new w1 _)
    rw [hz1] at this
    exact this)
  have K3 := hid (none_trans KW.out KW3.out)
  rw [← hW3]
  have HZ3 := hid hz3
  clear hW3
  obtain ⟨N, hN⟩ : ∃ N, N = n / 16 := ⟨_, rfl⟩
  have hNl : N ≤ 262144 := by have := HNL.out; omega
  have HN := hid hN
  clear hN
  refine (All1_any (Wb.heap.size + 1) (Wb.heap.size + 3) (cs 0) b ao 4096 4096 3 n 0 (by decide) (by decide) (Wb.heap.size + 4)
    (fun i q p f' S W => Taking (cs 0) b ao 4096 4096 3 n f hd (Wb.heap.size + 1) Wb.heap.size (Wb.heap.size + 2) (Wb.heap.size + 3) Wb rc N i q p f' S W ∧ i ≤ vv) (Broke Wb rc n N vv hd f) ?hK1 ?hK2 ?hX2 ?hY hd f
    (fun x => x < Wb.heap.size ∨ x = Wb.heap.size + 1 ∨ x = Wb.heap.size ∨ x = Wb.heap.size + 2 ∨ x = Wb.heap.size + 3 ∨ Value.ownBlock (.slice none 0 0) = some x) W3 (by omega) (H.out.keep K3.out) ?h0).mono ?hend
  case h0 =>
    exact ⟨⟨rfl, H.out.keep K3.out, G2.out, K3.out, H.out.l.h64, by decide, [], .slice none 0 0, rfl, Nat.zero_le _, rfl, G1.out, Lst.nil _, G3.out, G4.out, fun r e => (by cases e), rfl⟩, Nat.zero_le _⟩
  case hK1 =>
    rintro i q p f' S W ⟨⟨hf, hls, hpk, hk0, hp, hq, xs, v, hxi, hiN, hwk, hob, hlst, hrec, hdef, hrow, rfl⟩, him⟩
    refine ⟨hp, hq, ⟨hd, hls⟩, ?_, hpk⟩
    have := hk0.size
    have := hpk.lt
    have := hob.lt
    have := hrec.lt
    have := hdef.lt
    rintro x (h | h | h | h | h | h)
    all_goals first | omega | exact hlst.wds.lt h
  case hK2 =>
    rintro i q p f' S T W W' ⟨⟨hf, hls, hpk, hk0, hp, hq, xs, v, hxi, hiN, hwk, hob, hlst, hrec, hdef, hrow, rfl⟩, him⟩ hk hT
    have hnT : ∀ x, (x < Wb.heap.size ∨ x = Wb.heap.size + 1 ∨ x = Wb.heap.size ∨ x = Wb.heap.size + 2 ∨ x = Wb.heap.size + 3 ∨ v.ownBlock = some x) → ¬ T x := fun x hx ht => (hT x ht).2 hx
    exact ⟨⟨hf, hls.kept hk (fun x hx => hnT x (.inl (H.out.lt x hx))), hpk.kept hk (hnT _ (by simp)), hk0.trans hk (fun _ _ x => x) (fun x hx ht => hnT x (.inl hx) ht), hp, hq,
      xs, v, hxi, hiN, hwk, hob.kept hk (hnT _ (by simp)), hlst.kept hk (fun r hr => hnT r (by simp [hr])), hrec.kept hk (hnT _ (by simp)), hdef.kept hk (hnT _ (by simp)), hrow, rfl⟩, him⟩
  case hX2 =>
    rintro S T W W' ⟨xs, v, hxs, hob, hlst, hk0, hrec, hdef, hrow, rfl⟩ hk hT
    have hnT : ∀ x, (x < Wb.heap.size ∨ x = Wb.heap.size + 1 ∨ x = Wb.heap.size ∨ x = Wb.heap.size + 2 ∨ x = Wb.heap.size + 3 ∨ v.ownBlock = some x) → ¬ T x := fun x hx ht => (hT x ht).2 hx
    exact ⟨xs, v, hxs, hob.kept hk (hnT _ (by simp)), hlst.kept hk (fun r hr => hnT r (by simp [hr])), hk0.trans hk (fun _ _ x => x) (fun x hx ht => hnT x (.inl hx) ht), hrec.kept hk (hnT _ (by simp)), hdef.kept hk (hnT _ (by simp)), hrow, rfl⟩
  case hend =>
    rintro e W' ⟨hv, ⟨i, q, p, f', S, ⟨⟨hf, hls, hpk, hk0, hp, hq, xs, v, hxi, hiN, hwk, hob, hlst, hrec, hdef, hrow, hSS⟩, him⟩, hi, hor⟩ | ⟨S, xs, v, hX, hob, hlst, hk0, hrec, hdef, hrow, hSS⟩⟩
    · refine ⟨hv, .ready, none, by simp, hrec, fun _ => ?_, fun c hc => by cases hc⟩
      have hwn : walkR 4096 n f (N - i) q p = [] := by
        rcases Nat.eq_zero_or_pos (N - i) with e | e
        · rw [e]; rfl
        · obtain ⟨k, hk⟩ : ∃ k, N - i = k + 1 := ⟨N - i - 1, by omega⟩
          rw [hk]
          unfold walkR
          rw [if_neg]
          rintro ⟨h1, h2, h3⟩
          rw [hf] at hor
          have := HN.out
          rcases hor with h | h | h | h
          · exact h1 h
          · exact h h2
          · exact h h3
          · omega
      rw [hwn, List.append_nil] at hwk
      have hX : xs = walkR 4096 n f (min N vv) 0 hd := by
        rw [← walkR_take, ← hwk, List.take_of_length_le (by omega)]
      have hxl : xs.length ≤ 4194305 := by omega
      clear hwn hwk hor hSS hls hpk hf hi hiN him hp hq hxi
      obtain ⟨W6, hW6⟩ : ∃ W6, W6 = W'.putObj (Wb.heap.size + 3) (.loop (rc .exhausted none)) := ⟨_, rfl⟩
      have kk1 : Kept (fun x => x = Wb.heap.size + 3) W' W6 := by rw [hW6]; exact (Kept.refl (fun x => x = Wb.heap.size + 3) W').putObj (fun _ => rfl) _
      have hne : ∀ r, v.ownBlock = some r → ¬ (r = Wb.heap.size + 3) := fun r hr e => by
        obtain ⟨cs, hcs⟩ := hlst.blk hr
        subst e
        rw [show W'.heap[Wb.heap.size + 3]? = _ from hrec] at hcs; cases hcs
      have O6 := hid (hob.kept kk1 (by omega))
      have L6 := hid (hlst.kept kk1 hne)
      have D6 := hid (hdef.kept kk1 (by omega))
      have K6 := hid (hk0.trans (U := none') kk1 (fun _ _ x => x) (fun x hx e => by omega))
      have T6 := hid (TB.out.keep K6.out)
      have B6 := hid (BB.out.kept K6.out (fun _ x => x.elim))
      have X := hid hX
      have HXL := hid hxl
      obtain ⟨d0, d1, d2, d3⟩ := B6.out.cd
      have oc := cell_of O6.out
      have ch := T6.out.ch 0 hk
      rw [HHD.out] at ch
      have nc : W6.cell? ⟨w.heap.size + 1 + 1, 0, none⟩ = some (.int .i64 (vv : Int)) := K6.out.cell (fun x => x) (cell_of NB.out)
      have nc0 := hid nc
      rw [← hW6]
      clear kk1 hW6 hob hlst hdef hk0 hrec hne hX hxl hrow hv
      go_wp2_with fail
      go_region_held3 (fun w' => w'.cell? ⟨Wb.heap.size, 0, none⟩ = some v ∧ w'.cell? ⟨w.heap.size, 0, none⟩ = some (.int .u64 4096) ∧ w'.cell? ⟨w.heap.size, 1, none⟩ = some (.int .u64 4096) ∧ w'.cell? ⟨w.heap.size, 2, none⟩ = some (.int .i64 3) ∧ w'.cell? ⟨w.heap.size, 3, none⟩ = some (.slice (adr mo) n cap) ∧ w'.cell? ⟨B, 0, none⟩ = some (.int .u64 (hd : Int)) ∧ w'.cell? ⟨w.heap.size + 1 + 1, 0, none⟩ = some (.int .i64 (vv : Int))) (exact ⟨oc, d0, d1, d2, d3, ch, nc⟩) (first | (go_at_call 49; refine (R3All_ref mo n cap f hn hd vv hb64 (by omega) _ (T6.out.keep (Kept.refl none' _).drew).r).mono ?_; rintro e w7 ⟨v7, rfl, l7, k7, -⟩; rw [← HN.out, ← X.out] at l7; have k7 := none_trans (Kept.refl none' W6).drew k7; have L7 := hid l7; have K7 := hid k7; have oc := cell_of (O6.out.kept k7 (fun x => x)); obtain ⟨d0, d1, d2, d3⟩ := (B6.out.kept k7 (fun _ x => x.elim)).cd; have ch := (T6.out.keep k7).ch 0 hk; rw [HHD.out] at ch; have nc := k7.cell (fun x => x) nc0.out; clear l7 k7) | (go_at_call 17; refine (same_true v v7 xs HXL.out _ (L6.out.keep K7.out).wds L7.out.wds).mono ?_; rintro e w8 ⟨rfl, k8⟩; have k8 := none_trans K7.out k8; have K8 := hid k8; have oc := cell_of (O6.out.kept k8 (fun x => x)); obtain ⟨d0, d1, d2, d3⟩ := (B6.out.kept k8 (fun _ x => x.elim)).cd; have ch := (T6.out.keep k8).ch 0 hk; rw [HHD.out] at ch; have nc := k8.cell (fun x => x) nc0.out; clear k8))
      all_goals
        have D8 := D6.out.kept K8.out (fun x => x)
        have K9 := (none_trans K6.out K8.out).putObj (l := Wb.heap.size + 2) (fun h => absurd h (by omega)) (.deferred none)
        have T9 := hid (TB.out.keep K9)
        have K9 := hid (none_trans KB.out K9)
        go_wp2_with fail
        refine ⟨by simp, .inl ⟨_, _, rfl, run_takeDeferred D8, ?_⟩⟩
        exact ⟨_, results_tmp rfl _ _ _, f, cs, hs, rfl, T9.out, tri_none K9.out, fun _ _ => Or.inl rfl⟩
    · refine ⟨hv, .done, some (.exit 1), by simp, hrec, fun h => (by cases h), fun c hc => ?_⟩
      cases hc
      have hxl : xs.length ≤ 4194305 := by
        rw [hX, ← walkR_take, List.length_take]
        omega
      clear hSS
      obtain ⟨W6, hW6⟩ : ∃ W6, W6 = W'.putObj (Wb.heap.size + 3) (.loop (rc .exhausted (some (.exit 1)))) := ⟨_, rfl⟩
      have kk1 : Kept (fun x => x = Wb.heap.size + 3) W' W6 := by rw [hW6]; exact (Kept.refl (fun x => x = Wb.heap.size + 3) W').putObj (fun _ => rfl) _
      have hne : ∀ r, v.ownBlock = some r → ¬ (r = Wb.heap.size + 3) := fun r hr e => by
        obtain ⟨cs, hcs⟩ := hlst.blk hr
        subst e
        rw [show W'.heap[Wb.heap.size + 3]? = _ from hrec] at hcs; cases hcs
      have O6 := hid (hob.kept kk1 (by omega))
      have L6 := hid (hlst.kept kk1 hne)
      have D6 := hid (hdef.kept kk1 (by omega))
      have K6 := hid (hk0.trans (U := none') kk1 (fun _ _ x => x) (fun x hx e => by omega))
      have T6 := hid (TB.out.keep K6.out)
      have B6 := hid (BB.out.kept K6.out (fun _ x => x.elim))
      have X := hid hX
      have HXL := hid hxl
      obtain ⟨d0, d1, d2, d3⟩ := B6.out.cd
      have oc := cell_of O6.out
      have ch := T6.out.ch 0 hk
      rw [HHD.out] at ch
      have nc : W6.cell? ⟨w.heap.size + 1 + 1, 0, none⟩ = some (.int .i64 (vv : Int)) := K6.out.cell (fun x => x) (cell_of NB.out)
      have nc0 := hid nc
      rw [← hW6]
      clear kk1 hW6 hob hlst hdef hk0 hrec hne hX hxl hrow hv
      go_wp2_with fail
      go_region_held3 (fun w' => w'.cell? ⟨Wb.heap.size, 0, none⟩ = some v ∧ w'.cell? ⟨w.heap.size, 0, none⟩ = some (.int .u64 4096) ∧ w'.cell? ⟨w.heap.size, 1, none⟩ = some (.int .u64 4096) ∧ w'.cell? ⟨w.heap.size, 2, none⟩ = some (.int .i64 3) ∧ w'.cell? ⟨w.heap.size, 3, none⟩ = some (.slice (adr mo) n cap) ∧ w'.cell? ⟨B, 0, none⟩ = some (.int .u64 (hd : Int)) ∧ w'.cell? ⟨w.heap.size + 1 + 1, 0, none⟩ = some (.int .i64 (vv : Int))) (exact ⟨oc, d0, d1, d2, d3, ch, nc⟩) (first | (go_at_call 49; refine (R3All_ref mo n cap f hn hd vv hb64 (by omega) _ (T6.out.keep (Kept.refl none' _).drew).r).mono ?_; rintro e w7 ⟨v7, rfl, l7, k7, -⟩; rw [← HN.out, ← X.out] at l7; have k7 := none_trans (Kept.refl none' W6).drew k7; have L7 := hid l7; have K7 := hid k7; have oc := cell_of (O6.out.kept k7 (fun x => x)); obtain ⟨d0, d1, d2, d3⟩ := (B6.out.kept k7 (fun _ x => x.elim)).cd; have ch := (T6.out.keep k7).ch 0 hk; rw [HHD.out] at ch; have nc := k7.cell (fun x => x) nc0.out; clear l7 k7) | (go_at_call 17; refine (same_true v v7 xs HXL.out _ (L6.out.keep K7.out).wds L7.out.wds).mono ?_; rintro e w8 ⟨rfl, k8⟩; have k8 := none_trans K7.out k8; have K8 := hid k8; have oc := cell_of (O6.out.kept k8 (fun x => x)); obtain ⟨d0, d1, d2, d3⟩ := (B6.out.kept k8 (fun _ x => x.elim)).cd; have ch := (T6.out.keep k8).ch 0 hk; rw [HHD.out] at ch; have nc := k8.cell (fun x => x) nc0.out; clear k8))
      all_goals
        have D8 := D6.out.kept K8.out (fun x => x)
        have K9 := (none_trans K6.out K8.out).putObj (l := Wb.heap.size + 2) (fun h => absurd h (by omega)) (.deferred none)
        have T9 := hid (TB.out.keep K9)
        have K9 := hid (none_trans KB.out K9)
        go_wp2_with fail
        refine ⟨by simp, .inl ⟨_, _, rfl, run_takeDeferred D8, ?_⟩⟩
        exact ⟨_, results_tmp rfl _ _ _, f, cs, hs, rfl, T9.out, tri_none K9.out, fun _ _ => Or.inl rfl⟩
  case hY =>
    rintro i q p f' S W ⟨⟨hf, hls, hpk, hk0, hp, hq, xs, v, hxi, hiN, hwk, hob, hlst, hrec, hdef, hrow, rfl⟩, him⟩ hi hp0 hin hpv
    rw [← HN.out] at hi
    subst hf
    have hL := hrec
    rw [HRC.out] at hL
    refine yield_round hL rfl ?_
    rw [← HRC.out]
    have kk : Kept (fun x => x = Wb.heap.size + 3) W (W.putObj (Wb.heap.size + 3) (.loop (rc .busy none))) := (Kept.refl (fun x => x = Wb.heap.size + 3) W).putObj (fun _ => rfl) _
    have hne : ∀ r, v.ownBlock = some r → ¬ (r = Wb.heap.size + 3) := fun r hr e => by
      obtain ⟨cs, hcs⟩ := hlst.blk hr
      subst e
      rw [show W.heap[Wb.heap.size + 3]? = _ from hrec] at hcs; cases hcs
    have hnd : ∀ r, v.ownBlock = some r → ¬ (r = Wb.heap.size + 2) := fun r hr e => by
      obtain ⟨cs, hcs⟩ := hlst.blk hr
      subst e
      rw [show W.heap[Wb.heap.size + 2]? = _ from hdef] at hcs; cases hcs
    have hnk : ∀ r, v.ownBlock = some r → ¬ (r = Wb.heap.size + 1) := fun r hr e => by
      obtain ⟨cs, hcs⟩ := hlst.blk hr
      subst e
      rw [show W.heap[Wb.heap.size + 1]? = _ from hpk] at hcs; simp at hcs
    have hno : ∀ r, v.ownBlock = some r → ¬ (r = Wb.heap.size) := fun r hr e => by
      obtain ⟨cs, hcs⟩ := hlst.blk hr
      subst e
      rw [show W.heap[Wb.heap.size]? = _ from hob] at hcs; simp at hcs
    obtain ⟨W2, hW2⟩ : ∃ W2, W2 = W.putObj (Wb.heap.size + 3) (.loop (rc .busy none)) := ⟨_, rfl⟩
    rw [← hW2] at kk
    have hz2 : W2.heap.size = W.heap.size := by rw [hW2]; simp
    have L2 := hlst.kept kk hne
    have O2 := hob.kept kk (by omega)
    have R2 : RecAt W2 (Wb.heap.size + 3) (rc .busy none) := by rw [hW2]; exact hrec.put _
    have D2 := hdef.kept kk (by omega)
    have P2 := hpk.kept kk (by omega)
    have kt : Kept none' W2 (W2.alloc (.cells #[.int .u64 (p : Int)] 27)) := (Kept.refl none' W2).alloc _
    have nc2 : W2.cell? ⟨w.heap.size + 1 + 1, 0, none⟩ = some (.int .i64 (vv : Int)) := kk.cell (by have := HZB.out; simp; omega) (hk0.cell (fun x => x) (cell_of NB.out))
    obtain ⟨vo, vc, hvs⟩ : ∃ vo vc, v = .slice (adr vo) xs.length vc := by
      obtain ⟨_, vo, vc, e, _⟩ := hlst.wds
      exact ⟨vo, vc, e⟩
    by_cases hiv : i = vv
    · have hc0 := cell_of O2
      rw [hvs] at hc0
      have X := hid (show xs = walkR 4096 n f' (min N vv) 0 hd by
        rw [← walkR_take, ← hwk, ← hiv, ← hxi]
        simp)
      have HXI := hid hxi
      have HL2 := hid L2
      have HO2 := hid O2
      have HR2 := hid R2
      have HD2 := hid D2
      have KK := hid kk
      have HK0 := hid hk0
      have HROW := hid hrow
      have HH := hid hne
      have HREC := hid hrec
      have hivi : ((xs.length : Int) == (vv : Int)) = true := by rw [HXI.out, hiv]; exact beq_self_eq_true _
      clear hz2 hxi kk L2 O2 R2 D2 P2 kt hL hls hk0 hwk hrow hpv hne hnd hnk hno hin hdef hpk hob hlst hvs hrec hiv him
      gi_wp2_with fail
      refine ⟨HREC.out, ?_⟩
      rw [← hW2]
      clear hW2
      gi_wp2_with fail
      have kz : Kept (fun x => x = Wb.heap.size + 3) W2 (W2.putObj (Wb.heap.size + 3) (.loop (rc .done (some (.exit 1))))) := (Kept.refl (fun x => x = Wb.heap.size + 3) W2).putObj (fun _ => rfl) _
      refine ⟨HR2.out, .inr ⟨rfl, _, ⟨xs, v, X.out, HO2.out.kept kz (by omega), HL2.out.kept kz HH.out, (HK0.out.trans (U := none') KK.out (fun _ _ x => x) (fun x hx e => by omega)).trans kz (fun _ _ x => x) (fun x hx e => by omega), HR2.out.put _, HD2.out.kept kz (by omega), HROW.out, rfl⟩, ?_, fun x hx => .inl hx⟩⟩
      exact (KK.out.trans (U := fun x => x = Wb.heap.size + 3) kz (fun _ _ x => x) (fun _ _ x => x)).mono (fun x _ e => .inr (.inr (.inr (.inr (.inl e)))))
    have hivi : ((xs.length : Int) == (vv : Int)) = false := beq_eq_false_iff_ne.2 (by omega)
    obtain ⟨v', w4, hap, hL4, hK4, hown4, g, cap, hv'⟩ := push_run (W2.alloc (.cells #[.int .u64 (p : Int)] 27)) v xs p (L2.keep kt) hp (by omega) ⟨W2.heap.size, 0, none⟩ 1 (by rw [Addr.add_lit]; exact cell_of (heap_new _ _))
    subst hv'
    have kA : Kept (fun x => x = Wb.heap.size + 3 ∨ v.ownBlock = some x) W w4 := (kk.trans (U := fun x => x = Wb.heap.size + 3 ∨ v.ownBlock = some x) kt (fun _ _ h => .inl h) (fun _ _ h => h.elim)).trans hK4 (fun _ _ h => h) (fun _ _ h => .inr h)
    have kB : Kept (fun x => v.ownBlock = some x) W2 w4 := kt.trans hK4 (fun _ _ h => h.elim) (fun _ _ h => h)
    have O4 := O2.kept kB (fun h => hno _ h rfl)
    have hc0 := cell_of O2
    rw [hvs] at hc0
    rw [hvs] at hap
    have hc4 := cell_of O4
    have hf4 := frozen_of O4
    have HAP := hid hap
    have HZ2 := hid hz2
    have HL4 := hid hL4
    have KA := hid kA
    have KB := hid kB
    have HO4 := hid O4
    have HR2 := hid R2
    have HD2 := hid D2
    have HP2 := hid P2
    have HOWN := hid hown4
    have HLS := hid hls
    have HK0 := hid hk0
    have HWK := hid hwk
    have HROW := hid hrow
    have HX := hid hxi
    have HPV := hid hpv
    have HH1 := hid hne
    have HH2 := hid hnd
    have HH3 := hid hnk
    have HH4 := hid hno
    have HIN := hid hin
    have HREC := hid hrec
    have HDEF := hid hdef
    have HPK := hid hpk
    have HVS := hid hvs
    clear hvs hz2 hxi kk L2 O2 R2 D2 P2 kt hL4 hK4 hown4 kA kB O4 hL hls hk0 hwk hrow hpv hne hnd hnk hno hin hrec hdef hpk hob hlst
    gi_wp2_with fail
    refine ⟨HREC.out, ?_⟩
    rw [← hW2]
    clear hW2
    gi_wp2_with (gi_at_builtin; refine wpListIn_append_run _ rfl _ _ _ rfl (.slice (adr vo) xs.length vc) (.slice (some ⟨W2.heap.size, 0, none⟩) 1 1) rfl rfl _ _ HAP.out ?_)
    have hN4 : ¬ (v.ownBlock = some (Wb.heap.size + 3)) := fun h => HH1.out _ h rfl
    have R4 := HR2.out.kept KB.out hN4
    have kC : Kept (fun x => x = Wb.heap.size + 3 ∨ x = Wb.heap.size ∨ v.ownBlock = some x) W ((w4.setCell ⟨Wb.heap.size, 0, none⟩ (.slice (some ⟨g, 0, none⟩) (xs.length + 1) cap)).putObj (Wb.heap.size + 3) (.loop (rc .ready none))) :=
      ((KA.out.mono (fun x _ h => by rcases h with h | h; exact .inl h; exact .inr (.inr h))).setCell (fun _ => .inr (.inl rfl)) _).putObj (fun _ => .inl rfl) _
    have kD : Kept (fun x => x = Wb.heap.size + 3 ∨ x = Wb.heap.size) w4 ((w4.setCell ⟨Wb.heap.size, 0, none⟩ (.slice (some ⟨g, 0, none⟩) (xs.length + 1) cap)).putObj (Wb.heap.size + 3) (.loop (rc .ready none))) :=
      ((Kept.refl _ w4).setCell (fun _ => .inr rfl) _).putObj (fun _ => .inl rfl) _
    have hgn : ∀ r, Value.ownBlock (.slice (some ⟨g, 0, none⟩) (xs.length + 1) cap) = some r → r ≠ Wb.heap.size + 3 ∧ r ≠ Wb.heap.size ∧ Wb.heap.size ≤ r ∧ (v.ownBlock = some r ∨ W.heap.size ≤ r) := fun r hr => by
      have hWl := HREC.out.lt
      rcases HOWN.out with e | ⟨r', e, hle⟩
      · rw [e] at hr
        exact ⟨HH1.out r hr, HH4.out r hr, HROW.out r hr, .inl hr⟩
      · rw [e] at hr
        cases hr
        simp at hle
        have := HZ2.out
        exact ⟨by omega, by omega, by omega, .inr (by omega)⟩
    obtain ⟨W5, hW5⟩ : ∃ W5, W5 = (w4.setCell ⟨Wb.heap.size, 0, none⟩ (.slice (some ⟨g, 0, none⟩) (xs.length + 1) cap)).putObj (Wb.heap.size + 3) (.loop (rc .ready none)) := ⟨_, rfl⟩
    have R5 : RecAt (w4.setCell ⟨Wb.heap.size, 0, none⟩ (.slice (some ⟨g, 0, none⟩) (xs.length + 1) cap)) (Wb.heap.size + 3) (rc .busy none) := R4.kept ((Kept.refl (fun x => x = Wb.heap.size) w4).setCell (fun _ => rfl) _) (by omega)
    have R6 : RecAt W5 (Wb.heap.size + 3) (rc .ready none) := by rw [hW5]; exact R5.put _
    have O6 : OutB W5 Wb.heap.size (.slice (some ⟨g, 0, none⟩) (xs.length + 1) cap) := by rw [hW5]; exact (World.putObj_heap_other (by omega)).trans (HO4.out.set _)
    rw [← hW5] at kC kD
    have hTk : Taking (cs 0) b ao 4096 4096 3 n f' hd (Wb.heap.size + 1) Wb.heap.size (Wb.heap.size + 2) (Wb.heap.size + 3) Wb rc N (i + 1) p (nx 4096 f' p) f'
        (fun x => x < Wb.heap.size ∨ x = Wb.heap.size + 1 ∨ x = Wb.heap.size ∨ x = Wb.heap.size + 2 ∨ x = Wb.heap.size + 3 ∨ Value.ownBlock (.slice (some ⟨g, 0, none⟩) (xs.length + 1) cap) = some x) W5 := by
      refine ⟨rfl, ?_, ?_, ?_, ?_, hp, xs ++ [p], .slice (some ⟨g, 0, none⟩) (xs.length + 1) cap, by simp [HX.out], by omega, ?_, O6, ?_, R6, ?_, ?_, rfl⟩
      · refine HLS.out.kept kC (fun x hx h => ?_)
        have := H.out.lt x hx
        rcases h with h | h | h
        · omega
        · omega
        · have := HROW.out x h
          omega
      · exact HPK.out.kept kC (by rintro (h | h | h); omega; omega; exact HH3.out _ h rfl)
      · refine HK0.out.trans kC (fun _ _ h => h) (fun x hx h => ?_)
        rcases h with h | h | h
        · omega
        · omega
        · have := HROW.out x h
          omega
      · exact HLS.out.s.nx_lt p HIN.out
      · have e1 : N - i = (N - (i + 1)) + 1 := by omega
        rw [← HWK.out, e1, walkR, if_pos ⟨hp0, HIN.out, HPV.out⟩]
        simp
      · exact HL4.out.kept kD (fun r hr h => by have := hgn r hr; omega)
      · exact (HDEF.out.kept kC (by rintro (h | h | h); omega; omega; exact HH2.out _ h rfl))
      · exact fun r hr => (hgn r hr).2.2.1
    have hkk : Kept (fun x => x < Wb.heap.size ∨ x = Wb.heap.size + 1 ∨ x = Wb.heap.size ∨ x = Wb.heap.size + 2 ∨ x = Wb.heap.size + 3 ∨ v.ownBlock = some x) W W5 := by
      refine kC.mono (fun x _ h => ?_)
      rcases h with h | h | h
      · exact .inr (.inr (.inr (.inr (.inl h))))
      · exact .inr (.inr (.inl h))
      · exact .inr (.inr (.inr (.inr (.inr h))))
    have hss : ∀ x, (x < Wb.heap.size ∨ x = Wb.heap.size + 1 ∨ x = Wb.heap.size ∨ x = Wb.heap.size + 2 ∨ x = Wb.heap.size + 3 ∨ Value.ownBlock (.slice (some ⟨g, 0, none⟩) (xs.length + 1) cap) = some x) →
        (x < Wb.heap.size ∨ x = Wb.heap.size + 1 ∨ x = Wb.heap.size ∨ x = Wb.heap.size + 2 ∨ x = Wb.heap.size + 3 ∨ v.ownBlock = some x) ∨ W.heap.size ≤ x := by
      rintro x (h | h | h | h | h | h)
      · exact .inl (.inl h)
      · exact .inl (.inr (.inl h))
      · exact .inl (.inr (.inr (.inl h)))
      · exact .inl (.inr (.inr (.inr (.inl h))))
      · exact .inl (.inr (.inr (.inr (.inr (.inl h)))))
      · rcases (hgn x h).2.2.2 with h' | h'
        · exact .inl (.inr (.inr (.inr (.inr (.inr h')))))
        · exact .inr h'
    subst hW5
    first
      | exact ⟨R5, .inl ⟨rfl, f', _, ⟨hTk, by omega⟩, hkk, hss⟩⟩
      | exact ⟨R5, .inl ⟨rfl, f', _, ⟨hTk, by omega⟩, hkk, hss⟩⟩
end Go.Proofs.Ytnkoheanjaapjaa
