/- croftref4: Has. croftref4: Chain, First, Slab. croftref4: First, Slab. -/
import Derived.Test.YtbhheimedbfmeaaRfD
namespace Go.Proofs.Ytbhheimedbfmeaa
open Go.RowKit
set_option linter.unusedVariables false

theorem box_w {w : World} {x : Nat} {p : Pg} (h : w.heap[x]? = some (pobj p)) (k : Nat) (hk : k < 4) : w.cell? ⟨x, 7 + k, none⟩ = some (.int .u64 ((wP p k : Nat) : Int)) := by
  match k, hk with
  | 0, _ => simp [World.cell?, h, wP]
  | 1, _ => simp [World.cell?, h, wP]
  | 2, _ => simp [World.cell?, h, wP]
  | 3, _ => simp [World.cell?, h, wP]
  | _ + 4, hk => omega
theorem wP_lt {p : Pg} (ok : PgOk p) (k : Nat) : wP p k < 18446744073709551616 := by
  unfold wP
  split
  · exact ok.b0
  · exact ok.b1
  · exact ok.b2
  · exact ok.b3
set_option maxRecDepth 4000 in
set_option maxHeartbeats 1000000 in
theorem Has_ref (p : Pg) (ok : PgOk p) (c : Nat) (hc : c < 256) (w : World) :
    Calls Try.prog 70 #[pval p, .int .i64 (c : Int)] w fun e w' => e = .returned (.bool (litP p c)) ∧ Kept none' w w' := by
  obtain ⟨k, hk⟩ : ∃ k, k = c / 64 := ⟨_, rfl⟩
  obtain ⟨r, hr⟩ : ∃ r, r = c % 64 := ⟨_, rfl⟩
  obtain ⟨z, hz⟩ : ∃ z, z = 2 ^ r := ⟨_, rfl⟩
  obtain ⟨x, hx⟩ : ∃ x, x = wP p k := ⟨_, rfl⟩
  obtain ⟨y, hy⟩ : ∃ y, y = x / z := ⟨_, rfl⟩
  obtain ⟨b, hb⟩ : ∃ b, b = y % 2 := ⟨_, rfl⟩
  have hxl : x < 18446744073709551616 := by rw [hx]; exact wP_lt ok k
  have hz1 : 1 ≤ z := by rw [hz]; exact Nat.pow_pos (by decide)
  have hyx : y ≤ x := by rw [hy]; exact Nat.div_le_self _ _
  have hv : litP p c = decide ((b : Int) = 1) := by
    have : litP p c = (b == 1) := by unfold litP; rw [← hk, ← hr, ← hz, ← hx, ← hy, ← hb]
    rw [this]
    by_cases e : b = 1
    · simp [e]
    · have : ¬ (b : Int) = 1 := by omega
      simp [e, this]
  have K0 := hid ((Kept.refl none' w).alloc (pobj p))
  have X0 := hid (heap_new w (pobj p))
  have HZ := hid (show 2 ^ (c % 64) = z by rw [hz, hr])
  have HX := hid hx
  rw [hv]
  have hk4 : k < 4 := by omega
  have hki : (c : Int) / 64 = (k : Int) := by omega
  have hkt : (c : Int).tdiv 64 = (k : Int) := by rw [hk]; rfl
  have hyi : (x : Int) / (z : Int) = (y : Int) := by rw [hy]; simp
  have hyt : (x : Int).tdiv (z : Int) = (y : Int) := by rw [hy]; rfl
  have hbi : (y : Int) % 2 = (b : Int) := by omega
  have hbt : (y : Int).tmod 2 = (b : Int) := by rw [hb]; rfl
  have hz0 : ¬ (z : Int) = 0 := by omega
  have hkw : IntKind.i64.wrap (k : Int) = (k : Int) := by rw [IntKind.wrap_i64]; omega
  have hyw : IntKind.u64.wrap (y : Int) = (y : Int) := by rw [wrap_u64]; omega
  have hbw : IntKind.u64.wrap (b : Int) = (b : Int) := by rw [wrap_u64]; omega
  have hk4i : (k : Int) < 4 := by omega
  clear hv hk hr hz hx hy hb
  go_enter Try.func70, Try.ntmps70
  go_wp2_with fail
  generalize w.alloc (pobj p) = W1 at *
  have c7 := box_w X0.out k hk4
  rw [← HX.out] at c7
  have c7d : W1.drew.cell? ⟨w.heap.size, 7 + k, none⟩ = some (.int .u64 (x : Int)) := c7
  go_region_with (go_at_call 50; refine (bit_ref c (by omega) _).mono ?_; rintro e w2 ⟨rfl, rfl⟩; rw [HZ.out])
  all_goals
    go_wp2_with fail
    go_ret
    exact ⟨rfl, K0.out.drew⟩
theorem Row.set1 {w g n pg} (h : Row w g n pg) (i j : Nat) (hi : i < n) (hj : j < 11) (v : Value) (p' : Pg) (hp : ∀ b, b < 11 → p'.fld b = if b = j then v else (pg i).fld b) : Row (w.setCell ⟨g, i * 11 + j, none⟩ v) g n (upp pg i p') := by
  refine RowC.congr (RowC.set h i j hi hj v) (fun a ha b hb => ?_)
  unfold upc upp
  by_cases e : a = i
  · rw [if_pos e, hp b hb]
    by_cases e2 : b = j
    · rw [if_pos ⟨e, e2⟩, if_pos e2]
    · rw [if_neg (fun x => e2 x.2), if_neg e2, e]
  · rw [if_neg (fun x => e x.1), if_neg e]
theorem RefAt.row {w q' cp q R m} (h : RefAt w (some q') cp q R m) {w' : World} (k : Kept (fun x => x = q') w w') {pg' : Nat → Pg} (hr : Rq w' (some q') m.n pg') : RefAt w' (some q') cp q R { m with pg := pg' } := by
  obtain ⟨N, pp, h1, h2, h3⟩ := h.rq
  obtain ⟨cs, hg, _⟩ := h2
  refine ⟨h.o8, h.n1, hr, h.cp, own_kept h.pr k (fun x hx e => ?_), fun i hi => (h.bs i hi).kept k (fun e => ?_), h.iR⟩
  · have e : x = q' := e
    subst e
    exact absurd (own_ty h.pr x hx hg) (by decide)
  · obtain ⟨c2, h2, _⟩ := h.bs i hi
    exact absurd e (ty_ne h2 hg (by decide))
theorem RefAt.set1 {w q' cp q R m} (h : RefAt w (some q') cp q R m) (i j : Nat) (hi : i < m.n) (hj : j < 11) (v : Value) (p' : Pg) (hp : ∀ b, b < 11 → p'.fld b = if b = j then v else (m.pg i).fld b) : RefAt (w.setCell ⟨q', i * 11 + j, none⟩ v) (some q') cp q R { m with pg := upp m.pg i p' } := by
  obtain ⟨N, pp, h1, h2, h3⟩ := h.rq
  refine h.row ((Kept.refl (fun x => x = q') w).setCell (p := ⟨q', i * 11 + j, none⟩) rfl _) ⟨N, upp pp i p', h1, Row.set1 h2 i j (by omega) hj v p' (fun b hb => by rw [h3 i hi]; exact hp b hb), fun a ha => ?_⟩
  unfold upp
  by_cases e : a = i
  · rw [if_pos e, if_pos e]
  · rw [if_neg e, if_neg e]; exact h3 a ha
theorem RefAt.put {w q' cp q R m} (h : RefAt w (some q') cp q R m) (i : Nat) (hi : i < m.n) (p : Pg) : RefAt (setP w q' i p) (some q') cp q R { m with pg := upp m.pg i p } := h.row (setP_kept w q' i p) (Rq.put h.rq i hi p)
theorem upp_upp (pg : Nat → Pg) (i : Nat) (p p' : Pg) : upp (upp pg i p) i p' = upp pg i p' := by
  funext a
  unfold upp
  by_cases e : a = i
  · rw [if_pos e, if_pos e]
  · rw [if_neg e, if_neg e, if_neg e]
abbrev onlyG (g : Option Nat) : Nat → Prop := fun x => g = some x
theorem kept_g {w w' : World} (k : Kept none' w w') (g : Option Nat) : Kept (onlyG g) w w' := k.mono (fun _ _ x => x.elim)
theorem kept_set {a w : World} {q' : Nat} (k : Kept none' a w) (i : Nat) (v : Value) : Kept (onlyG (some q')) a (w.setCell ⟨q', i, none⟩ v) := (kept_g k (some q')).setCell (p := ⟨q', i, none⟩) rfl v
set_option maxRecDepth 4000 in
theorem Chain_ref (g : Option Nat) (cp : Nat) (q : Value) (R : Nat → Nat) (m : Mp) (w : World) (h : RefAt w g cp q R m) (ok : ∀ i, i < m.n → PgOk (m.pg i)) (i x y : Int) :
    Calls Try.prog 62 #[rv m.o g m.n cp q, .int .i64 i, .int .i64 x, .int .i64 y] w fun e w' => e = .returned (.int .i64 (chainE m i x y)) ∧ RefAt w' g cp q R (chainM m i x y) ∧ Kept (onlyG g) w w' := by
  have K0 := hid (box_new w m.o g m.n cp q).1
  have X0 := hid (box_new w m.o g m.n cp q).2
  have HR := hid h
  have HO := hid ok
  clear h ok
  cases hc : canChain m i x y with
  | true =>
    rw [show chainE m i x y = 0 by simp [chainE, hc], show chainM m i x y = { m with pg := upp m.pg i.toNat { m.pg i.toNat with nx := x, pv := y } } by simp [chainM, hc]]
    have hcc := hc
    simp only [canChain, Bool.and_eq_true, decide_eq_true_eq] at hcc
    obtain ⟨h1, h2, h3, h4⟩ := hcc
    obtain ⟨k, rfl, hk⟩ := inR_nat h1
    rw [Int.toNat_natCast] at h2 ⊢
    have HV := hid (show cellsV m (k : Int) = (ncell (m.pg k).cl : Int) by simp [cellsV, h1, h2])
    have H3 := hid h3
    have H4 := hid h4
    clear h1 h2 h3 h4 hc
    obtain ⟨y', hy'⟩ : ∃ y', y' = ncell (m.pg k).cl := ⟨_, rfl⟩
    rw [← hy'] at HV
    clear hy'
    go_enter Try.func62, Try.ntmps62
    go_wp2_with fail
    refine (cells_any g cp q m _ (HR.out.rq.kept K0.out (fun _ _ x => x)) HO.out k).mono ?_
    rintro e w1 ⟨rfl, hK⟩
    rw [HV.out]
    have K1 := hid (none_trans K0.out hK)
    have X1 := hid ((hK.block _ (heap_lt X0.out) (fun x => x)).trans X0.out)
    clear hK K0 X0
    obtain ⟨c0, c1, c2⟩ := box3 X1.out
    go_wp2_with fail
    refine (link_any m.o m.n cp g q x _).mono ?_
    rintro e w2 ⟨rfl, hK⟩
    rw [H3.out]
    have K2 := hid (none_trans K1.out hK)
    have X2 := hid ((hK.block _ (heap_lt X1.out) (fun x => x)).trans X1.out)
    clear hK K1 X1 c0 c1 c2
    obtain ⟨c0, c1, c2⟩ := box3 X2.out
    go_wp2_with fail
    refine (link_any m.o m.n cp g q y _).mono ?_
    rintro e w3 ⟨rfl, hK⟩
    rw [H4.out]
    have K3 := hid (none_trans K2.out hK)
    have X3 := hid ((hK.block _ (heap_lt X2.out) (fun x => x)).trans X2.out)
    clear hK K2 X2 c0 c1 c2
    obtain ⟨c0, c1, c2⟩ := box3 X3.out
    have R3 := hid (HR.out.keep K3.out)
    obtain ⟨q', rfl, fz, d0, d1, d2, d3, d4, d5, d6, d7, d8, d9, d10⟩ := R3.out.rq.cell k hk
    replace c1 : w3.cell? ⟨w.heap.size, 1, none⟩ = some (.slice (some ⟨q', 0, none⟩) m.n cp) := c1
    have hki : (k : Int) < (m.n : Int) := by omega
    have hne : w.heap.size ≠ q' := by
      have := HR.out.own_lt q' (.inl rfl)
      omega
    have FIN := hid (show RefAt ((w3.setCell ⟨q', k * 11 + 4, none⟩ (.int .i64 x)).setCell ⟨q', k * 11 + 5, none⟩ (.int .i64 y)) (some q') cp q R { m with pg := upp m.pg k { m.pg k with nx := x, pv := y } } ∧ Kept (onlyG (some q')) w ((w3.setCell ⟨q', k * 11 + 4, none⟩ (.int .i64 x)).setCell ⟨q', k * 11 + 5, none⟩ (.int .i64 y)) from by
      refine ⟨?_, (kept_set K3.out _ _).setCell (p := ⟨q', _, none⟩) rfl _⟩
      have r1 := R3.out.set1 k 4 hk (by decide) (.int .i64 x) { m.pg k with nx := x } (by apply lt11 <;> rfl)
      have r2 := r1.set1 k 5 hk (by decide) (.int .i64 y) { m.pg k with nx := x, pv := y } (by
        have e : ({ m with pg := upp m.pg k { m.pg k with nx := x } } : Mp).pg k = { m.pg k with nx := x } := by show upp m.pg k _ k = _; unfold upp; rw [if_pos rfl]
        rw [e]
        apply lt11 <;> rfl)
      have r3 : RefAt _ (some q') cp q R { m with pg := upp (upp m.pg k { m.pg k with nx := x }) k { m.pg k with nx := x, pv := y } } := r2
      rw [upp_upp] at r3
      exact r3)
    clear d0 d1 d2 d3 d6 d7 d8 d9 d10
    go_wp2_with fail
    go_ret
    exact ⟨rfl, FIN.out⟩
  | false =>
    rw [show chainE m i x y = 1 by simp [chainE, hc], show chainM m i x y = m by simp [chainM, hc]]
    have hcc := hc
    go_enter Try.func62, Try.ntmps62
    go_wp2_with fail
    refine (cells_any g cp q m _ (HR.out.rq.kept K0.out (fun _ _ x => x)) HO.out i).mono ?_
    rintro e w1 ⟨rfl, hK⟩
    have K1 := hid (none_trans K0.out hK)
    have X1 := hid ((hK.block _ (heap_lt X0.out) (fun x => x)).trans X0.out)
    clear hK K0 X0
    by_cases hv : cellsV m i < 0
    · clear hcc hc
      generalize cellsV m i = cv at *
      go_wp2_with fail
      go_ret
      exact ⟨rfl, HR.out.keep K1.out, kept_g K1.out g⟩
    · have hin : inR m.n i = true ∧ (m.pg i.toNat).kd = 4 := by
        unfold cellsV at hv
        by_cases e : inR m.n i = true ∧ (m.pg i.toNat).kd = 4
        · exact e
        · rw [if_neg e] at hv; omega
      have hl : lnk m.n x = false ∨ (lnk m.n x = true ∧ lnk m.n y = false) := by
        simp only [canChain, hin.1, hin.2, decide_true, Bool.true_and] at hcc
        cases hx : lnk m.n x with
        | false => exact .inl rfl
        | true =>
          rw [hx, Bool.true_and] at hcc
          exact .inr ⟨rfl, hcc⟩
      have HL := hid hl
      clear hl hin hcc hc
      generalize cellsV m i = cv at *
      obtain ⟨c0, c1, c2⟩ := box3 X1.out
      go_wp2_with fail
      refine (link_any m.o m.n cp g q x _).mono ?_
      rintro e w2 ⟨rfl, hK⟩
      have K2 := hid (none_trans K1.out hK)
      have X2 := hid ((hK.block _ (heap_lt X1.out) (fun x => x)).trans X1.out)
      clear hK K1 X1 c0 c1 c2
      rcases HL.out with hx | ⟨hx, hy⟩
      · rw [hx]
        clear HL hx
        go_wp2_with fail
        go_ret
        exact ⟨rfl, HR.out.keep K2.out, kept_g K2.out g⟩
      · rw [hx]
        have HY := hid hy
        clear HL hx hy
        obtain ⟨c0, c1, c2⟩ := box3 X2.out
        go_wp2_with fail
        refine (link_any m.o m.n cp g q y _).mono ?_
        rintro e w3 ⟨rfl, hK⟩
        rw [HY.out]
        have K3 := hid (none_trans K2.out hK)
        clear hK K2 X2 c0 c1 c2
        go_wp2_with fail
        go_ret
        exact ⟨rfl, HR.out.keep K3.out, kept_g K3.out g⟩
set_option maxRecDepth 4000 in
theorem First_ref (g : Option Nat) (cp : Nat) (q : Value) (R : Nat → Nat) (m : Mp) (w : World) (h : RefAt w g cp q R m) (ok : ∀ i, i < m.n → PgOk (m.pg i)) (i c : Int) :
    Calls Try.prog 63 #[rv m.o g m.n cp q, .int .i64 i, .int .i64 c] w fun e w' => e = .returned (.int .i64 (firstE m i c)) ∧ RefAt w' g cp q R (firstM m i c) ∧ Kept (onlyG g) w w' := by
  have K0 := hid (box_new w m.o g m.n cp q).1
  have X0 := hid (box_new w m.o g m.n cp q).2
  have HR := hid h
  have HO := hid ok
  clear h ok
  cases hc : canFirst m i c with
  | true =>
    rw [show firstE m i c = 0 by simp [firstE, hc], show firstM m i c = { m with pg := upp m.pg i.toNat { m.pg i.toNat with fs := c } } by simp [firstM, hc]]
    have hcc := hc
    simp only [canFirst, Bool.and_eq_true, Bool.or_eq_true, beq_iff_eq, decide_eq_true_eq] at hcc
    obtain ⟨h1, h2, h3⟩ := hcc
    obtain ⟨k, rfl, hk⟩ := inR_nat h1
    rw [Int.toNat_natCast] at h2 h3 ⊢
    have HV := hid (show cellsV m (k : Int) = (ncell (m.pg k).cl : Int) by simp [cellsV, h1, h2])
    have hncb : ncell (m.pg k).cl ≤ 256 := by unfold ncell; exact Nat.div_le_self _ _
    have hnc1 : 0 ≤ (ncell (m.pg k).cl : Int) := by omega
    have hc1 : -1 ≤ c ∧ c < (ncell (m.pg k).cl : Int) := by
      rcases h3 with h3 | h3
      · omega
      · simp [inR] at h3; omega
    clear h1 h2 h3 hc
    obtain ⟨y', hy'⟩ : ∃ y', y' = ncell (m.pg k).cl := ⟨_, rfl⟩
    rw [← hy'] at HV hc1 hncb
    clear hy' hnc1
    obtain ⟨hca, hcb⟩ := hc1
    go_enter Try.func63, Try.ntmps63
    go_wp2_with fail
    refine (cells_any g cp q m _ (HR.out.rq.kept K0.out (fun _ _ x => x)) HO.out k).mono ?_
    rintro e w3 ⟨rfl, hK⟩
    rw [HV.out]
    have K3 := hid (none_trans K0.out hK)
    have X3 := hid ((hK.block _ (heap_lt X0.out) (fun x => x)).trans X0.out)
    clear hK K0 X0
    obtain ⟨c0, c1, c2⟩ := box3 X3.out
    have R3 := hid (HR.out.keep K3.out)
    obtain ⟨q', rfl, fz, d0, d1, d2, d3, d4, d5, d6, d7, d8, d9, d10⟩ := R3.out.rq.cell k hk
    replace c1 : w3.cell? ⟨w.heap.size, 1, none⟩ = some (.slice (some ⟨q', 0, none⟩) m.n cp) := c1
    have hki : (k : Int) < (m.n : Int) := by omega
    have FIN := hid (show RefAt (w3.setCell ⟨q', k * 11 + 6, none⟩ (.int .i64 c)) (some q') cp q R { m with pg := upp m.pg k { m.pg k with fs := c } } ∧ Kept (onlyG (some q')) w (w3.setCell ⟨q', k * 11 + 6, none⟩ (.int .i64 c)) from
      ⟨R3.out.set1 k 6 hk (by decide) (.int .i64 c) { m.pg k with fs := c } (by apply lt11 <;> rfl), kept_set K3.out _ _⟩)
    clear d0 d1 d2 d3 d4 d5 d7 d8 d9 d10
    go_wp2_with fail
    go_ret
    exact ⟨rfl, FIN.out⟩
  | false =>
    rw [show firstE m i c = 1 by simp [firstE, hc], show firstM m i c = m by simp [firstM, hc]]
    have hz : cellsV m i < 0 ∨ (¬ cellsV m i < 0 ∧ c < -1) ∨ (¬ cellsV m i < 0 ∧ ¬ c < -1 ∧ cellsV m i ≤ c) := by
      unfold cellsV
      by_cases e : inR m.n i = true ∧ (m.pg i.toNat).kd = 4
      · rw [if_pos e]
        simp only [canFirst, e.1, e.2, decide_true, Bool.true_and, Bool.or_eq_false_iff] at hc
        obtain ⟨q1, q2⟩ := hc
        have q1 : ¬ c = -1 := by simpa using q1
        have q2 : ¬ (0 ≤ c ∧ c < (ncell (m.pg i.toNat).cl : Int)) := by simpa only [inR, decide_eq_false_iff_not] using q2
        generalize ncell (m.pg i.toNat).cl = z at *
        by_cases q3 : c < -1
        · exact .inr (.inl ⟨by omega, q3⟩)
        · exact .inr (.inr ⟨by omega, q3, by omega⟩)
      · rw [if_neg e]
        left; omega
    have HZ := hid hz
    clear hc hz
    go_enter Try.func63, Try.ntmps63
    go_wp2_with fail
    refine (cells_any g cp q m _ (HR.out.rq.kept K0.out (fun _ _ x => x)) HO.out i).mono ?_
    rintro e w1 ⟨rfl, hK⟩
    have K1 := hid (none_trans K0.out hK)
    clear hK K0 X0
    generalize cellsV m i = cv at *
    rcases HZ.out with h1 | ⟨h1, h2⟩ | ⟨h1, h2, h3⟩
    all_goals
      clear HZ
      go_wp2_with fail
      go_ret
      exact ⟨rfl, HR.out.keep K1.out, kept_g K1.out g⟩
abbrev slabO (c : Int) : Obj := .cells #[.int .i64 (blankP 4 0).kd, .int .i64 (blankP 4 0).od, .int .i64 c, .int .i64 (blankP 4 0).lv, .int .i64 (blankP 4 0).nx, .int .i64 (blankP 4 0).pv, .int .i64 (blankP 4 0).fs, .int .u64 ((blankP 4 0).b0 : Int), .int .u64 ((blankP 4 0).b1 : Int), .int .u64 ((blankP 4 0).b2 : Int), .int .u64 ((blankP 4 0).b3 : Int)] 30
set_option maxRecDepth 4000 in
theorem Slab_ref (g : Option Nat) (cp : Nat) (q : Value) (R : Nat → Nat) (m : Mp) (w : World) (h : RefAt w g cp q R m) (i c : Int) :
    Calls Try.prog 60 #[rv m.o g m.n cp q, .int .i64 i, .int .i64 c] w fun e w' => e = .returned (.int .i64 (slabE m i c)) ∧ RefAt w' g cp q R (slabM m i c) ∧ Kept (onlyG g) w w' := by
  have K0 := hid (box_new w m.o g m.n cp q).1
  have X0 := hid (box_new w m.o g m.n cp q).2
  have HR := hid h
  clear h
  by_cases hc : inR m.n i = true ∧ 0 ≤ c ∧ c ≤ 7
  · rw [show slabE m i c = 0 by simp [slabE, hc], show slabM m i c = { m with pg := upp m.pg i.toNat (slabP c) } by simp [slabM, hc]]
    obtain ⟨h1, h2, h3⟩ := hc
    obtain ⟨k, rfl, hk⟩ := inR_nat h1
    rw [Int.toNat_natCast]
    have H1 := hid h1
    clear h1
    go_enter Try.func60, Try.ntmps60
    go_wp2_with fail
    refine (Is_any m.n (adr g) cp (.int .i64 (m.o : Int)) q k _).mono ?_
    rintro e w1 ⟨rfl, hK⟩
    rw [H1.out]
    have K1 := hid (none_trans K0.out hK)
    have X1 := hid ((hK.block _ (heap_lt X0.out) (fun x => x)).trans X0.out)
    clear hK K0 X0
    go_wp2_with fail
    refine (rpage_any 4 0 _).mono ?_
    rintro e w2 ⟨rfl, hK⟩
    have K2 := hid (none_trans K1.out hK)
    have X2 := hid ((hK.block _ (heap_lt X1.out) (fun x => x)).trans X1.out)
    clear hK K1 X1
    have ka := (Kept.refl none' w2).alloc (slabO c)
    have K3 := hid (none_trans K2.out ka)
    have X3 := hid ((ka.block _ (heap_lt X2.out) (fun x => x)).trans X2.out)
    have R3 := hid (HR.out.keep K3.out)
    obtain ⟨q', rfl, fz, d0, d1, d2, d3, d4, d5, d6, d7, d8, d9, d10⟩ := R3.out.rq.cell k hk
    obtain ⟨c0, c1, c2⟩ := box3 X3.out
    replace c1 : (w2.alloc (slabO c)).cell? ⟨w.heap.size, 1, none⟩ = some (.slice (some ⟨q', 0, none⟩) m.n cp) := c1
    have hki : (k : Int) < (m.n : Int) := by omega
    have FIN := hid (show RefAt (setP (w2.alloc (slabO c)) q' k (slabP c)) (some q') cp q R { m with pg := upp m.pg k (slabP c) } ∧ Kept (onlyG (some q')) w (setP (w2.alloc (slabO c)) q' k (slabP c)) from
      ⟨R3.out.put k hk (slabP c), K3.out.trans (setP_kept _ q' k (slabP c)) (fun _ _ x => x.elim) (fun x _ e => by rw [e])⟩)
    have hne : q' ≠ w2.heap.size := by have := HR.out.own_lt q' (.inl rfl); have := K2.out.size; omega
    clear ka
    go_wp2_with fail
    go_ret
    exact ⟨rfl, FIN.out⟩
  · rw [show slabE m i c = 1 by simp only [slabE, if_neg hc], show slabM m i c = m by simp only [slabM, if_neg hc]]
    have hz : inR m.n i = false ∨ (inR m.n i = true ∧ c < 0) ∨ (inR m.n i = true ∧ ¬ c < 0 ∧ 7 < c) := by
      cases hi : inR m.n i with
      | false => exact .inl rfl
      | true =>
        by_cases q1 : c < 0
        · exact .inr (.inl ⟨rfl, q1⟩)
        · exact .inr (.inr ⟨rfl, q1, by
            by_cases q2 : 7 < c
            · exact q2
            · exact absurd ⟨hi, by omega, by omega⟩ hc⟩)
    have HZ := hid hz
    clear hc hz
    go_enter Try.func60, Try.ntmps60
    go_wp2_with fail
    refine (Is_any m.n (adr g) cp (.int .i64 (m.o : Int)) q i _).mono ?_
    rintro e w1 ⟨rfl, hK⟩
    have K1 := hid (none_trans K0.out hK)
    clear hK K0 X0
    rcases HZ.out with h1 | ⟨h1, h2⟩ | ⟨h1, h2, h3⟩
    all_goals
      rw [h1]
      clear HZ h1
      go_wp2_with fail
      go_ret
      exact ⟨rfl, HR.out.keep K1.out, kept_g K1.out g⟩
end Go.Proofs.Ytbhheimedbfmeaa
