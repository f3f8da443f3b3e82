/- croftref4: Own. -/
import Derived.Test.YtbhheimedbfmeaaRfE
namespace Go.Proofs.Ytbhheimedbfmeaa
open Go.RowKit
set_option linter.unusedVariables false

theorem xor_m2 (a b : Nat) : (a ^^^ b) % 2 = (a + b) % 2 := by
  have h := Nat.xor_mod_two_pow (a := a) (b := b) (n := 1)
  rw [Nat.pow_one] at h
  rw [h]
  rcases Nat.mod_two_eq_zero_or_one a with ha | ha <;> rcases Nat.mod_two_eq_zero_or_one b with hb | hb <;> rw [ha, hb]
  · show 0 = _; omega
  · show 1 = _; omega
  · show 1 = _; omega
  · show 0 = _; omega
theorem xor_up : ∀ (r x : Nat), x / 2 ^ r % 2 = 0 → x ^^^ 2 ^ r = x + 2 ^ r
  | 0, x, h => by
    have h0 : x % 2 = 0 := by simpa using h
    have h1 := Nat.xor_div_two (a := x) (b := 1)
    have h2 := xor_m2 x 1
    rw [show 1 / 2 = 0 from rfl, Nat.xor_zero] at h1
    rw [Nat.pow_zero]
    omega
  | r + 1, x, h => by
    have hd : x / 2 / 2 ^ r % 2 = 0 := by rw [Nat.div_div_eq_div_mul, ← Nat.pow_succ']; exact h
    have ih := xor_up r (x / 2) hd
    have h1 := Nat.xor_div_two (a := x) (b := 2 ^ (r + 1))
    have h2 := xor_m2 x (2 ^ (r + 1))
    have h3 : 2 ^ (r + 1) = 2 * 2 ^ r := by rw [Nat.pow_succ, Nat.mul_comm]
    have h4 : 2 ^ (r + 1) / 2 = 2 ^ r := by rw [h3]; omega
    rw [h4, ih] at h1
    generalize x ^^^ 2 ^ (r + 1) = z at *
    generalize 2 ^ r = y at *
    omega
theorem xor_down (r x : Nat) (h : x / 2 ^ r % 2 = 1) : 2 ^ r ≤ x ∧ x ^^^ 2 ^ r = x - 2 ^ r := by
  have hb : (x ^^^ 2 ^ r) / 2 ^ r % 2 = 0 := by
    have h1 : (x ^^^ 2 ^ r).testBit r = !x.testBit r := by
      rw [Nat.testBit_xor, Nat.testBit_two_pow]
      simp
    have h2 : x.testBit r = true := by rw [Nat.testBit_eq_decide_div_mod_eq, h]; rfl
    rw [h2, Nat.testBit_eq_decide_div_mod_eq] at h1
    have : ¬ (x ^^^ 2 ^ r) / 2 ^ r % 2 = 1 := by simpa using h1
    omega
  have h2 := xor_up r (x ^^^ 2 ^ r) hb
  rw [Nat.xor_assoc, Nat.xor_self, Nat.xor_zero] at h2
  omega
theorem Rq.wcell {w g n pg} (h : Rq w g n pg) (i : Nat) (hi : i < n) (k : Nat) (hk : k < 4) : ∃ q, g = some q ∧ w.cell? ⟨q, i * 11 + 7 + k, none⟩ = some (.int .u64 ((wP (pg i) k : Nat) : Int)) := by
  obtain ⟨q, h1, h2, d0, d1, d2, d3, d4, d5, d6, d7, d8, d9, d10⟩ := h.cell i hi
  refine ⟨q, h1, ?_⟩
  match k, hk with
  | 0, _ => exact d7
  | 1, _ => exact d8
  | 2, _ => exact d9
  | 3, _ => exact d10
  | _ + 4, hk => omega
theorem turn_fld (p : Pg) (c : Nat) (hc : c < 256) : ∀ b, b < 11 → (turnP p c).fld b = if b = 7 + c / 64 then .int .u64 ((wP p (c / 64) ^^^ 2 ^ (c % 64) : Nat) : Int) else p.fld b := by
  rcases lt4 hc with h | h | h | h
  all_goals
    simp only [turnP, h, wP]
    apply lt11 <;> rfl
set_option maxRecDepth 4000 in
set_option maxHeartbeats 2000000 in
theorem own_ref_yes (q' : Nat) (cp : Nat) (q : Value) (R : Nat → Nat) (m : Mp) (w : World) (h : RefAt w (some q') cp q R m) (ok : ∀ i, i < m.n → PgOk (m.pg i)) (i c : Nat) (hi : i < m.n) (hkd : (m.pg i).kd = 4) (hc : c < ncell (m.pg i).cl) (live : Bool) (hl : litP (m.pg i) c = !live) :
    Calls Try.prog 61 #[rv m.o (some q') m.n cp q, .int .i64 (i : Int), .int .i64 (c : Int), .bool live] w fun e w' => e = .returned (.int .i64 0) ∧ RefAt w' (some q') cp q R { m with pg := upp m.pg i (ownP (m.pg i) c) } ∧ Kept (onlyG (some q')) w w' := by
  have K0 := hid (box_new w m.o (some q') m.n cp q).1
  have X0 := hid (box_new w m.o (some q') m.n cp q).2
  have HR := hid h
  have HO := hid ok
  have hii : (i : Int) < (m.n : Int) := by omega
  have hn1 := h.n1
  have HV := hid (show cellsV m (i : Int) = (ncell (m.pg i).cl : Int) by simp [cellsV, inR_yes hi, hkd])
  have hncb : ncell (m.pg i).cl ≤ 256 := by unfold ncell; exact Nat.div_le_self _ _
  obtain ⟨nc, hnc⟩ : ∃ nc, nc = ncell (m.pg i).cl := ⟨_, rfl⟩
  rw [← hnc] at HV hc hncb
  have hc256 : c < 256 := by omega
  have hci : (c : Int) < (nc : Int) := by omega
  have PO := hid (ok i hi)
  have HL := hid hl
  clear h ok hkd hnc hl
  go_enter Try.func61, Try.ntmps61
  go_wp2_with fail
  refine (cells_any (some q') cp q m _ (HR.out.rq.kept K0.out (fun _ _ x => x)) HO.out i).mono ?_
  rintro e w1 ⟨rfl, hK⟩
  rw [HV.out]
  have K1 := hid (none_trans K0.out hK)
  have X1 := hid ((hK.block _ (heap_lt X0.out) (fun x => x)).trans X0.out)
  clear hK K0 X0
  obtain ⟨c0, c1, c2⟩ := box3 X1.out
  replace c1 : w1.cell? ⟨w.heap.size, 1, none⟩ = some (.slice (some ⟨q', 0, none⟩) m.n cp) := c1
  have R1 := hid (HR.out.keep K1.out)
  obtain ⟨q2, hq2, fz, d0, d1, d2, d3, d4, d5, d6, d7, d8, d9, d10⟩ := R1.out.rq.cell i hi
  obtain rfl : q' = q2 := by simpa using hq2
  clear hq2
  go_wp2_with fail
  refine (Has_ref (m.pg i) PO.out c hc256 _).mono ?_
  rintro e w2 ⟨rfl, hK⟩
  rw [HL.out]
  have K2 := hid (none_trans K1.out hK)
  have X2 := hid ((hK.block _ (heap_lt X1.out) (fun x => x)).trans X1.out)
  clear hK K1 X1 c0 c1 c2 fz d0 d1 d2 d3 d4 d5 d6 d7 d8 d9 d10 R1
  have R2 := hid (HR.out.keep K2.out)
  obtain ⟨k, hk⟩ : ∃ k, k = c / 64 := ⟨_, rfl⟩
  obtain ⟨r, hr⟩ : ∃ r, r = c % 64 := ⟨_, rfl⟩
  obtain ⟨z, hz⟩ : ∃ z, z = 2 ^ r := ⟨_, rfl⟩
  obtain ⟨x, hx⟩ : ∃ x, x = wP (m.pg i) k := ⟨_, rfl⟩
  obtain ⟨y, hy⟩ : ∃ y, y = x ^^^ z := ⟨_, rfl⟩
  obtain ⟨lv, hlv⟩ : ∃ lv, lv = (m.pg i).lv := ⟨_, rfl⟩
  have hk4 : k < 4 := by omega
  have HZ := hid (show 2 ^ (c % 64) = z by rw [hz, hr])
  have hxl : x < 18446744073709551616 := by rw [hx]; exact wP_lt PO.out k
  have hyl : y < 18446744073709551616 := by
    have := wP_lt (PO.out.turn c) k
    have e : wP (turnP (m.pg i) c) k = y := by
      rw [hy, hx, hz, hr, hk]
      rcases lt4 hc256 with h | h | h | h <;> simp [turnP, h, wP]
    rw [e] at this
    exact this
  obtain ⟨c0, c1, c2⟩ := box3 X2.out
  replace c1 : w2.cell? ⟨w.heap.size, 1, none⟩ = some (.slice (some ⟨q', 0, none⟩) m.n cp) := c1
  obtain ⟨q2, hq2, d7⟩ := R2.out.rq.wcell i hi k hk4
  obtain rfl : q' = q2 := by simpa using hq2
  obtain ⟨q3, hq3, fz, _, _, _, d3, _⟩ := R2.out.rq.cell i hi
  obtain rfl : q' = q3 := by simpa using hq3
  rw [← hx] at d7
  rw [← hlv] at d3
  have hki : (c : Int) / 64 = (k : Int) := by omega
  have hkt : (c : Int).tdiv 64 = (k : Int) := by rw [hk]; rfl
  have hkw : IntKind.i64.wrap (k : Int) = (k : Int) := by rw [IntKind.wrap_i64]; omega
  have hk4i : (k : Int) < 4 := by omega
  have hne : w.heap.size ≠ q' := by have := HR.out.own_lt q' (.inl rfl); omega
  have hyw : IntKind.u64.wrap (y : Int) = (y : Int) := by rw [wrap_u64]; omega
  have W3 := hid (show ∀ W, Kept none' w2 W → RefAt ((W.setCell ⟨q', i * 11 + 7 + k, none⟩ (.int .u64 (y : Int)))) (some q') cp q R { m with pg := upp m.pg i (turnP (m.pg i) c) } from fun W kW => by
    have := (R2.out.keep kW).set1 i (7 + k) hi (by omega) (.int .u64 (y : Int)) (turnP (m.pg i) c) (fun b hb => by rw [turn_fld _ _ hc256 b hb, hk, hy, hx, hz, hr, hk])
    rw [show i * 11 + 7 + k = i * 11 + (7 + k) by omega]
    exact this)
  have B3 := hid (show ∀ W, Kept none' w2 W → (W.setCell ⟨q', i * 11 + 7 + k, none⟩ (.int .u64 (y : Int))).heap[w.heap.size]? = some (ro m.o (some q') m.n cp q) from fun W kW => by
    have hb := (kW.block _ (heap_lt X2.out) (fun x => x)).trans X2.out
    exact (((Kept.refl (fun x => x = q') W).setCell (p := ⟨q', i * 11 + 7 + k, none⟩) rfl _).block _ (heap_lt hb) hne).trans hb)
  have hxb : litP (m.pg i) c = (x / z % 2 == 1) := by unfold litP; rw [← hk, ← hr, ← hz, ← hx]
  have hz1 : 1 ≤ z := by rw [hz]; exact Nat.pow_pos (by decide)
  have YZ := hid (show (litP (m.pg i) c = false → (x : Int) + (z : Int) = (y : Int)) ∧ (litP (m.pg i) c = true → (x : Int) - (z : Int) = (y : Int)) from by
    rw [hxb]
    constructor
    · intro e
      have e2 : x / z % 2 = 0 := by
        have : ¬ x / z % 2 = 1 := by simpa using e
        omega
      rw [hz] at e2
      have := xor_up r x e2
      rw [← hz, ← hy] at this
      omega
    · intro e
      have e2 : x / z % 2 = 1 := by simpa using e
      rw [hz] at e2
      have := xor_down r x e2
      rw [← hz, ← hy] at this
      omega)
  have LO := hid (show (ownP (m.pg i) c).lv = wrap64 (if litP (m.pg i) c = true then lv - 1 else lv + 1) from by rw [hlv]; rfl)
  have HLVD := hid hlv
  clear hx hy hz hr hk hlv hq2 hq3 hxb
  have fin : ∀ (W : World) (v : Int), v = (ownP (m.pg i) c).lv → RefAt W (some q') cp q R { m with pg := upp m.pg i (turnP (m.pg i) c) } → Kept (onlyG (some q')) w W → RefAt (W.setCell ⟨q', i * 11 + 3, none⟩ (.int .i64 v)) (some q') cp q R { m with pg := upp m.pg i (ownP (m.pg i) c) } ∧ Kept (onlyG (some q')) w (W.setCell ⟨q', i * 11 + 3, none⟩ (.int .i64 v)) := fun W v hv rW kW => by
    refine ⟨?_, kW.setCell (p := ⟨q', _, none⟩) rfl _⟩
    have e : ({ m with pg := upp m.pg i (turnP (m.pg i) c) } : Mp).pg i = turnP (m.pg i) c := by show upp m.pg i _ i = _; unfold upp; rw [if_pos rfl]
    have r1 := rW.set1 i 3 hi (by decide) (.int .i64 v) (ownP (m.pg i) c) (by
      rw [e, hv]
      apply lt11 <;> rfl)
    have r2 : RefAt _ (some q') cp q R { m with pg := upp (upp m.pg i (turnP (m.pg i) c)) i (ownP (m.pg i) c) } := r1
    rw [upp_upp] at r2
    exact r2
  have FIN := hid fin
  clear fin
  cases live with
  | true =>
    have hadd := YZ.out.1 HL.out
    obtain ⟨lw, hlw⟩ : ∃ lw, lw = wrap64 (lv + 1) := ⟨_, rfl⟩
    have LW := hid (show lw = (ownP (m.pg i) c).lv by rw [LO.out, HL.out, hlw]; rfl)
    have hlw2 : IntKind.i64.wrap (lv + 1) = lw := by rw [hlw, IntKind.wrap_i64]; unfold wrap64; omega
    clear hlw
    go_wp2_with fail
    go_region_with (go_at_call 50; refine (bit_ref c (by omega) _).mono ?_; rintro e w3 ⟨rfl, rfl⟩; rw [HZ.out])
    all_goals
      have R4 := hid (show RefAt (w2.setCell ⟨q', i * 11 + 7 + k, none⟩ (.int .u64 (y : Int))).drew (some q') cp q R { m with pg := upp m.pg i (turnP (m.pg i) c) } from (W3.out w2 (Kept.refl none' w2)).keep (Kept.refl none' _).drew)
      have K4 := hid (show Kept (onlyG (some q')) w (w2.setCell ⟨q', i * 11 + 7 + k, none⟩ (.int .u64 (y : Int))).drew from (kept_set K2.out _ _).drew)
      have X4 := hid (show (w2.setCell ⟨q', i * 11 + 7 + k, none⟩ (.int .u64 (y : Int))).drew.heap[w.heap.size]? = some (ro m.o (some q') m.n cp q) from B3.out w2 (Kept.refl none' w2))
      obtain ⟨W4, hW4⟩ : ∃ W4, W4 = (w2.setCell ⟨q', i * 11 + 7 + k, none⟩ (.int .u64 (y : Int))).drew := ⟨_, rfl⟩
      rw [← hW4] at R4 K4 X4 ⊢
      clear hW4 c0 c1 c2 d7 d3 fz B3 W3 hadd hki hkt hkw hk4i hyw
      obtain ⟨c0, c1, c2⟩ := box3 X4.out
      replace c1 : W4.cell? ⟨w.heap.size, 1, none⟩ = some (.slice (some ⟨q', 0, none⟩) m.n cp) := c1
      obtain ⟨q3, hq3, fz, _, _, _, d3, _⟩ := R4.out.rq.cell i hi
      obtain rfl : q' = q3 := by simpa using hq3
      rw [show (upp m.pg i (turnP (m.pg i) c) i).lv = lv by unfold upp; rw [if_pos rfl, (turn_rest (m.pg i) c).2.2.2.1, HLVD.out]] at d3
      clear hq3
      go_wp2_with fail
      go_region
      all_goals
        go_wp2_with fail
        go_ret
        exact ⟨rfl, (FIN.out W4 lw LW.out R4.out K4.out).1.keep (Kept.refl none' _).drew, (FIN.out W4 lw LW.out R4.out K4.out).2.drew⟩
  | false =>
    have hadd := YZ.out.2 HL.out
    obtain ⟨lw, hlw⟩ : ∃ lw, lw = wrap64 (lv - 1) := ⟨_, rfl⟩
    have LW := hid (show lw = (ownP (m.pg i) c).lv by rw [LO.out, HL.out, hlw]; rfl)
    have hlw2 : IntKind.i64.wrap (lv - 1) = lw := by rw [hlw, IntKind.wrap_i64]; unfold wrap64; omega
    clear hlw
    go_wp2_with fail
    go_region_with (go_at_call 50; refine (bit_ref c (by omega) _).mono ?_; rintro e w3 ⟨rfl, rfl⟩; rw [HZ.out])
    all_goals
      have R4 := hid (show RefAt (w2.setCell ⟨q', i * 11 + 7 + k, none⟩ (.int .u64 (y : Int))).drew (some q') cp q R { m with pg := upp m.pg i (turnP (m.pg i) c) } from (W3.out w2 (Kept.refl none' w2)).keep (Kept.refl none' _).drew)
      have K4 := hid (show Kept (onlyG (some q')) w (w2.setCell ⟨q', i * 11 + 7 + k, none⟩ (.int .u64 (y : Int))).drew from (kept_set K2.out _ _).drew)
      have X4 := hid (show (w2.setCell ⟨q', i * 11 + 7 + k, none⟩ (.int .u64 (y : Int))).drew.heap[w.heap.size]? = some (ro m.o (some q') m.n cp q) from B3.out w2 (Kept.refl none' w2))
      obtain ⟨W4, hW4⟩ : ∃ W4, W4 = (w2.setCell ⟨q', i * 11 + 7 + k, none⟩ (.int .u64 (y : Int))).drew := ⟨_, rfl⟩
      rw [← hW4] at R4 K4 X4 ⊢
      clear hW4 c0 c1 c2 d7 d3 fz B3 W3 hadd hki hkt hkw hk4i hyw
      obtain ⟨c0, c1, c2⟩ := box3 X4.out
      replace c1 : W4.cell? ⟨w.heap.size, 1, none⟩ = some (.slice (some ⟨q', 0, none⟩) m.n cp) := c1
      obtain ⟨q3, hq3, fz, _, _, _, d3, _⟩ := R4.out.rq.cell i hi
      obtain rfl : q' = q3 := by simpa using hq3
      rw [show (upp m.pg i (turnP (m.pg i) c) i).lv = lv by unfold upp; rw [if_pos rfl, (turn_rest (m.pg i) c).2.2.2.1, HLVD.out]] at d3
      clear hq3
      go_wp2_with fail
      go_region
      all_goals
        go_wp2_with fail
        go_ret
        exact ⟨rfl, (FIN.out W4 lw LW.out R4.out K4.out).1.keep (Kept.refl none' _).drew, (FIN.out W4 lw LW.out R4.out K4.out).2.drew⟩
set_option maxRecDepth 4000 in
theorem Own_ref (g : Option Nat) (cp : Nat) (q : Value) (R : Nat → Nat) (m : Mp) (w : World) (h : RefAt w g cp q R m) (ok : ∀ i, i < m.n → PgOk (m.pg i)) (i c : Int) (live : Bool) :
    Calls Try.prog 61 #[rv m.o g m.n cp q, .int .i64 i, .int .i64 c, .bool live] w fun e w' => e = .returned (.int .i64 (ownE m i c live)) ∧ RefAt w' g cp q R (ownM m i c live) ∧ Kept (onlyG g) w w' := by
  cases hc : canOwn m i c live with
  | true =>
    rw [show ownE m i c live = 0 by simp [ownE, hc], show ownM m i c live = { m with pg := upp m.pg i.toNat (ownP (m.pg i.toNat) c.toNat) } by simp [ownM, hc]]
    simp only [canOwn, isCell, Bool.and_eq_true, decide_eq_true_eq] at hc
    obtain ⟨⟨h1, h2, h3⟩, h4⟩ := hc
    obtain ⟨k, rfl, hk⟩ := inR_nat h1
    rw [Int.toNat_natCast] at *
    obtain ⟨d, rfl, hd⟩ := inR_nat h3
    rw [Int.toNat_natCast] at *
    obtain ⟨q', _, _, rfl, _⟩ := h.rq.has (by omega)
    exact own_ref_yes q' cp q R m w h ok k d hk h2 hd live (by
      revert h4
      cases litP (m.pg k) d <;> cases live <;> simp)
  | false =>
    rw [show ownE m i c live = 1 by simp [ownE, hc], show ownM m i c live = m by simp [ownM, hc]]
    have K0 := hid (box_new w m.o g m.n cp q).1
    have X0 := hid (box_new w m.o g m.n cp q).2
    have HR := hid h
    have HO := hid ok
    by_cases hc0 : c < 0
    · clear hc h ok
      go_enter Try.func61, Try.ntmps61
      go_wp2_with fail
      go_ret
      exact ⟨rfl, HR.out.keep K0.out, kept_g K0.out g⟩
    · by_cases hcv : cellsV m i ≤ c
      · have HCV := hid hcv
        clear hc h ok hcv
        go_enter Try.func61, Try.ntmps61
        go_wp2_with fail
        refine (cells_any g cp q m _ (HR.out.rq.kept K0.out (fun _ _ x => x)) HO.out i).mono ?_
        rintro e w1 ⟨rfl, hK⟩
        have K1 := hid (none_trans K0.out hK)
        have hcv := HCV.out
        clear hK K0 X0 HCV
        generalize cellsV m i = cv at *
        go_wp2_with fail
        go_ret
        exact ⟨rfl, HR.out.keep K1.out, kept_g K1.out g⟩
      · have hin : inR m.n i = true ∧ (m.pg i.toNat).kd = 4 := by
          unfold cellsV at hcv
          by_cases e : inR m.n i = true ∧ (m.pg i.toNat).kd = 4
          · exact e
          · rw [if_neg e] at hcv; omega
        obtain ⟨k, rfl, hk⟩ := inR_nat hin.1
        obtain ⟨d, rfl⟩ := Int.eq_ofNat_of_zero_le (show 0 ≤ c by omega)
        rw [Int.toNat_natCast] at hin
        have hv : cellsV m (k : Int) = (ncell (m.pg k).cl : Int) := by simp [cellsV, hin.1, hin.2]
        have hncb : ncell (m.pg k).cl ≤ 256 := by unfold ncell; exact Nat.div_le_self _ _
        rw [hv] at hcv
        have hlit : litP (m.pg k) d = live := by
          have hir : inR (ncell (m.pg k).cl) (d : Int) = true := by simp [inR]; omega
          simp only [canOwn, isCell, Int.toNat_natCast, hin.1, hin.2, hir, decide_true, Bool.true_and] at hc
          revert hc
          cases litP (m.pg k) d <;> cases live <;> simp
        obtain ⟨nc, hnc⟩ : ∃ nc, nc = ncell (m.pg k).cl := ⟨_, rfl⟩
        have HV := hid (show cellsV m (k : Int) = (nc : Int) by rw [hv, hnc])
        rw [← hnc] at hcv hncb
        have hd256 : d < 256 := by omega
        have hdi : (d : Int) < (nc : Int) := by omega
        have HL := hid hlit
        have PO := hid (ok k hk)
        have hki : (k : Int) < (m.n : Int) := by omega
        clear hc h ok hin hv hlit hnc hcv
        go_enter Try.func61, Try.ntmps61
        go_wp2_with fail
        refine (cells_any g cp q m _ (HR.out.rq.kept K0.out (fun _ _ x => x)) HO.out k).mono ?_
        rintro e w1 ⟨rfl, hK⟩
        rw [HV.out]
        have K1 := hid (none_trans K0.out hK)
        have X1 := hid ((hK.block _ (heap_lt X0.out) (fun x => x)).trans X0.out)
        clear hK K0 X0
        obtain ⟨c0, c1, c2⟩ := box3 X1.out
        have R1 := hid (HR.out.keep K1.out)
        obtain ⟨q', rfl, fz, d0, d1, d2, d3, d4, d5, d6, d7, d8, d9, d10⟩ := R1.out.rq.cell k hk
        replace c1 : w1.cell? ⟨w.heap.size, 1, none⟩ = some (.slice (some ⟨q', 0, none⟩) m.n cp) := c1
        go_wp2_with fail
        refine (Has_ref (m.pg k) PO.out d hd256 _).mono ?_
        rintro e w2 ⟨rfl, hK⟩
        rw [HL.out]
        have K2 := hid (none_trans K1.out hK)
        clear hK K1 X1 c0 c1 c2 fz d0 d1 d2 d3 d4 d5 d6 d7 d8 d9 d10 R1
        go_wp2_with fail
        go_ret
        exact ⟨rfl, HR.out.keep K2.out, kept_g K2.out (some q')⟩
end Go.Proofs.Ytbhheimedbfmeaa
