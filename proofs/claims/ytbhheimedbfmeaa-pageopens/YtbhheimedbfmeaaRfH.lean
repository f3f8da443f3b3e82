/- croftref4: Run. -/
import Derived.Test.YtbhheimedbfmeaaRfE
import Derived.Test.YtbhheimedbfmeaaPgL
namespace Go.Proofs.Ytbhheimedbfmeaa
open Go.RowKit
set_option linter.unusedVariables false

def runK (pg : Nat → Pg) (p a o : Nat) (k : Int) : Nat → Pg := fun x => if p ≤ x ∧ x < p + a then blankP (k + 1) o else pg x
theorem runK_succ (pg : Nat → Pg) (p a o : Nat) (k : Int) : upp (runK pg p a o k) (p + a) (blankP (k + 1) o) = runK pg p (a + 1) o k := by
  funext x
  unfold upp runK
  by_cases e : x = p + a
  · rw [if_pos e, if_pos (by omega)]
  · rw [if_neg e]
    by_cases e2 : p ≤ x ∧ x < p + a
    · rw [if_pos e2, if_pos (by omega)]
    · rw [if_neg e2, if_neg (by omega)]
theorem runK_last (pg : Nat → Pg) (p o : Nat) (k : Int) : upp (runK pg p (2 ^ o) o k) p (blankP k o) = runP pg p o k := by
  funext x
  unfold upp runK runP
  by_cases e : x = p
  · rw [if_pos e, if_pos e]
  · rw [if_neg e, if_neg e]
    by_cases e2 : p ≤ x ∧ x < p + 2 ^ o
    · rw [if_pos e2, if_pos (by omega)]
    · rw [if_neg e2, if_neg (by omega)]
theorem fits {p n o O r : Nat} (hn : n = r * 2 ^ O) (hO : o ≤ O) (hp : p < n) (hm : p % 2 ^ o = 0) : p + 2 ^ o ≤ n := by
  obtain ⟨d, rfl⟩ : ∃ d, O = o + d := ⟨O - o, by omega⟩
  rw [Nat.pow_add, Nat.mul_comm (2 ^ o), ← Nat.mul_assoc] at hn
  obtain ⟨a, ha⟩ : ∃ a, p = a * 2 ^ o := ⟨p / 2 ^ o, by have := Nat.div_add_mod p (2 ^ o); rw [hm, Nat.mul_comm] at this; omega⟩
  rw [hn, ha] at hp ⊢
  have hpos : 0 < 2 ^ o := Nat.pow_pos (by decide)
  have : a < r * 2 ^ d := Nat.lt_of_mul_lt_mul_right hp
  have h2 : (a + 1) * 2 ^ o ≤ r * 2 ^ d * 2 ^ o := Nat.mul_le_mul_right _ this
  rw [Nat.add_mul, Nat.one_mul] at h2
  exact h2
set_option maxRecDepth 4000 in
set_option maxHeartbeats 2000000 in
theorem run_ref_yes (g : Option Nat) (cp : Nat) (q : Value) (R : Nat → Nat) (m : Mp) (w : World) (h : RefAt w g cp q R m) (p o : Nat) (k kd : Int) (hkd : k = kd) (hk : k = 0 ∨ k = 2) (ho : o ≤ m.o) (hp : p < m.n) (hm : p % 2 ^ o = 0) (hpn : p + 2 ^ o ≤ m.n) :
    Calls Try.prog 59 #[rv m.o g m.n cp q, .int .i64 (p : Int), .int .i64 (o : Int), .int .i64 k] w fun e w' => e = .returned (.int .i64 0) ∧ RefAt w' g cp q R { m with pg := runP m.pg p o kd } ∧ Kept (onlyG g) w w' := by
  have K0 := hid (box_new w m.o g m.n cp q).1
  have X0 := hid (box_new w m.o g m.n cp q).2
  have HR := hid h
  have HKD := hid hkd
  clear hkd
  have hn1 := h.n1
  have ho8 := h.o8
  obtain ⟨q', rfl⟩ : ∃ q', g = some q' := by
    obtain ⟨q', _, _, h1, _⟩ := h.rq.has (by omega)
    exact ⟨q', h1⟩
  clear h
  obtain ⟨z, hz⟩ : ∃ z, z = 2 ^ o := ⟨_, rfl⟩
  have HZ := hid hz
  have hz1 : 1 ≤ z := by rw [hz]; exact Nat.pow_pos (by decide)
  rw [← hz] at hm hpn
  have hrem : (p : Int) % (z : Int) = 0 := by rw [show (p : Int) % (z : Int) = ((p % z : Nat) : Int) by simp, hm]; rfl
  have hz0 : ¬ (z : Int) = 0 := by omega
  have hpz : (p : Int) ≤ (m.n : Int) - (z : Int) := by omega
  have hoi : (o : Int) ≤ (m.o : Int) := by omega
  clear hz hm
  have hkw : IntKind.i64.wrap (k + 1) = k + 1 := by rw [IntKind.wrap_i64]; omega
  rcases hk with rfl | rfl
  all_goals
    go_enter Try.func59, Try.ntmps59
    go_wp2_with fail
    refine (power_any o (by omega) _).mono ?_
    rintro e w2 ⟨rfl, hw2⟩
    rw [← hw2] at K0 X0
    rw [← HZ.out]
    have R0 := hid (HR.out.keep K0.out)
    obtain ⟨c0, c1, c2⟩ := box3 X0.out
    replace c1 : w2.cell? ⟨w.heap.size, 1, none⟩ = some (.slice (some ⟨q', 0, none⟩) m.n cp) := c1
    clear hw2
    go_wp2_with fail
    clear hrem
    go_loopw [10] (fun i W => ∃ a : Nat, a ≤ z ∧ i = .int .i64 a ∧ Hid (RefAt W (some q') cp q R { m with pg := runK m.pg p a o kd } ∧ Kept (onlyG (some q')) w W ∧ W.heap[w.heap.size]? = some (ro m.o (some q') m.n cp q))) (fun i _ => z - (intOf i).toNat)
    case atStart =>
      refine ⟨0, by omega, rfl, ⟨?_, kept_g K0.out _, X0.out⟩⟩
      refine R0.out.congr (fun i hi => ?_) (fun k hk i hi => rfl)
      unfold runK
      rw [if_neg (by omega)]
    case round =>
      obtain ⟨a, ha, rfl, hX⟩ := hrel
      clear R0 X0 c0 c1 c2 K0
      obtain ⟨c0, c1, c2⟩ := box3 hX.out.2.2
      replace c1 : wr.cell? ⟨w.heap.size, 1, none⟩ = some (.slice (some ⟨q', 0, none⟩) m.n cp) := c1
      by_cases hlt : a < z
      · have hai : (a : Int) < (z : Int) := by omega
        have hpa : IntKind.i64.wrap ((p : Int) + (a : Int)) = ((p + a : Nat) : Int) := by rw [IntKind.wrap_i64]; omega
        have hpl : p + a < m.n := by omega
        have hpli : ((p + a : Nat) : Int) < (m.n : Int) := by omega
        have c1d : wr.drew.cell? ⟨w.heap.size, 1, none⟩ = some (.slice (some ⟨q', 0, none⟩) m.n cp) := c1
        go_wp2_with fail
        go_region_with (go_at_call 68; refine (rpage_any _ _ _).mono ?_; rintro e w3 ⟨rfl, hK⟩; have HK := hid hK; have c1e := HK.out.cell (fun x => x) c1d; have R3 := hid ((hX.out.1.keep (Kept.refl none' _).drew).keep HK.out); obtain ⟨q2, hq2, fz, d0, d1, d2, d3, d4, d5, d6, d7, d8, d9, d10⟩ := R3.out.rq.cell (p + a) hpl; obtain rfl : q' = q2 := (by simpa using hq2); clear hq2 hK)
        all_goals
          have FIN := hid (show ∀ x, x = kd + 1 → RefAt (setP w3 q' (p + a) (blankP x o)) (some q') cp q R { m with pg := runK m.pg p (a + 1) o kd } ∧ Kept (onlyG (some q')) w (setP w3 q' (p + a) (blankP x o)) ∧ (setP w3 q' (p + a) (blankP x o)).heap[w.heap.size]? = some (ro m.o (some q') m.n cp q) from fun x hx => by
            subst hx
            have kd3 : Kept none' wr w3 := none_trans (Kept.refl none' wr).drew HK.out
            have r1 : RefAt (setP w3 q' (p + a) (blankP (kd + 1) o)) (some q') cp q R { m with pg := upp (runK m.pg p a o kd) (p + a) (blankP (kd + 1) o) } := R3.out.put (p + a) hpl (blankP (kd + 1) o)
            rw [runK_succ] at r1
            refine ⟨r1, (hX.out.2.1.trans kd3 (fun _ _ x => x) (fun _ _ x => x.elim)).trans (setP_kept w3 q' (p + a) _) (fun _ _ x => x) (fun x _ e => by rw [e]), ?_⟩
            have hne : w.heap.size ≠ q' := by have := HR.out.own_lt q' (.inl rfl); omega
            have hb := (kd3.block _ (heap_lt hX.out.2.2) (fun x => x)).trans hX.out.2.2
            exact ((setP_kept w3 q' (p + a) _).block _ (heap_lt hb) hne).trans hb)
          go_wp2_with fail
          go_roundw
          case rel => exact ⟨a + 1, by omega, by simp, FIN.out _ (by have := HKD.out; omega)⟩
          case measure => simp [intOf]; omega
      · have hai : ¬ (a : Int) < (z : Int) := by omega
        have haz : a = z := by omega
        subst haz
        have hpi : (p : Int) < (m.n : Int) := by omega
        have c1d : wr.drew.cell? ⟨w.heap.size, 1, none⟩ = some (.slice (some ⟨q', 0, none⟩) m.n cp) := c1
        go_wp2_with fail
        go_region_with (go_at_call 68; refine (rpage_any _ _ _).mono ?_; rintro e w3 ⟨rfl, hK⟩; have HK := hid hK; have c1e := HK.out.cell (fun x => x) c1d; have R3 := hid ((hX.out.1.keep (Kept.refl none' _).drew).keep HK.out); obtain ⟨q2, hq2, fz, d0, d1, d2, d3, d4, d5, d6, d7, d8, d9, d10⟩ := R3.out.rq.cell p hp; obtain rfl : q' = q2 := (by simpa using hq2); clear hq2 hK)
        all_goals
          have FIN := hid (show ∀ x, x = kd → RefAt (setP w3 q' p (blankP x o)) (some q') cp q R { m with pg := runP m.pg p o kd } ∧ Kept (onlyG (some q')) w (setP w3 q' p (blankP x o)) from fun x hx => by
            subst hx
            have kd3 : Kept none' wr w3 := none_trans (Kept.refl none' wr).drew HK.out
            have r1 : RefAt (setP w3 q' p (blankP x o)) (some q') cp q R { m with pg := upp (runK m.pg p a o x) p (blankP x o) } := R3.out.put p hp (blankP x o)
            rw [HZ.out, runK_last] at r1
            exact ⟨r1, (hX.out.2.1.trans kd3 (fun _ _ x => x) (fun _ _ x => x.elim)).trans (setP_kept w3 q' p _) (fun _ _ x => x) (fun x _ e => by rw [e])⟩)
          go_wp2_with fail
          go_ret
          exact ⟨rfl, FIN.out _ (by have := HKD.out; omega)⟩
set_option maxRecDepth 4000 in
theorem Run_ref (g : Option Nat) (cp : Nat) (q : Value) (R : Nat → Nat) (m : Mp) (w : World) (h : RefAt w g cp q R m) (hd : ∃ r, m.n = r * 2 ^ m.o) (p o k : Int) :
    Calls Try.prog 59 #[rv m.o g m.n cp q, .int .i64 p, .int .i64 o, .int .i64 k] w fun e w' => e = .returned (.int .i64 (runE m p o k)) ∧ RefAt w' g cp q R (runM m p o k) ∧ Kept (onlyG g) w w' := by
  cases hc : canRun m p o k with
  | true =>
    rw [show runE m p o k = 0 by simp [runE, hc], show runM m p o k = { m with pg := runP m.pg p.toNat o.toNat k } by simp [runM, hc]]
    simp only [canRun, Bool.and_eq_true, decide_eq_true_eq] at hc
    obtain ⟨⟨h1, h2, h3⟩, h4, h5⟩ := hc
    obtain ⟨p', rfl, hp⟩ := inR_nat h4
    obtain ⟨o', rfl⟩ := Int.eq_ofNat_of_zero_le h2
    simp only [Int.toNat_natCast] at *
    have h5' : p' % 2 ^ o' = 0 := by
      have : ((p' % 2 ^ o' : Nat) : Int) = 0 := by rw [Int.natCast_emod]; simpa using h5
      omega
    obtain ⟨r, hr⟩ := hd
    exact run_ref_yes g cp q R m w h p' o' k k rfl h1 (by omega) hp h5' (fits hr (by omega) hp h5')
  | false =>
    rw [show runE m p o k = 1 by simp [runE, hc], show runM m p o k = m by simp [runM, hc]]
    have K0 := hid (box_new w m.o g m.n cp q).1
    have X0 := hid (box_new w m.o g m.n cp q).2
    have HR := hid h
    have hn1 := h.n1
    have ho8 := h.o8
    clear h
    by_cases hk : k = 0 ∨ k = 2
    · by_cases ho : o < 0
      · clear hc
        rcases hk with rfl | rfl
        all_goals
          go_enter Try.func59, Try.ntmps59
          go_wp2_with fail
          go_ret
          exact ⟨rfl, HR.out.keep K0.out, kept_g K0.out g⟩
      · by_cases ho2 : (m.o : Int) < o
        · clear hc
          rcases hk with rfl | rfl
          all_goals
            go_enter Try.func59, Try.ntmps59
            go_wp2_with fail
            go_ret
            exact ⟨rfl, HR.out.keep K0.out, kept_g K0.out g⟩
        · by_cases hp0 : p < 0
          · clear hc
            rcases hk with rfl | rfl
            all_goals
              go_enter Try.func59, Try.ntmps59
              go_wp2_with fail
              go_ret
              exact ⟨rfl, HR.out.keep K0.out, kept_g K0.out g⟩
          · obtain ⟨o', rfl⟩ := Int.eq_ofNat_of_zero_le (show 0 ≤ o by omega)
            obtain ⟨p', rfl⟩ := Int.eq_ofNat_of_zero_le (show 0 ≤ p by omega)
            obtain ⟨z, hz⟩ : ∃ z, z = 2 ^ o' := ⟨_, rfl⟩
            have hz1 : 1 ≤ z := by rw [hz]; exact Nat.pow_pos (by decide)
            have hz2 : z ≤ 512 := by rw [hz]; exact Nat.le_trans (Nat.pow_le_pow_right (n := 2) (by decide) (show o' ≤ 9 by omega)) (by decide)
            have hz0 : ¬ (z : Int) = 0 := by omega
            obtain ⟨r, hr⟩ : ∃ r, r = p' % z := ⟨_, rfl⟩
            have hri : (p' : Int) % (z : Int) = (r : Int) := by rw [hr]; simp
            have hcase : ¬ (r : Int) = 0 ∨ ((r : Int) = 0 ∧ (m.n : Int) - (z : Int) < (p' : Int)) := by
              by_cases e : r = 0
              · right
                refine ⟨by omega, ?_⟩
                have h1 : decide ((k = 0 ∨ k = 2) ∧ 0 ≤ (o' : Int) ∧ (o' : Int) ≤ (m.o : Int)) = true := decide_eq_true ⟨hk, by omega, by omega⟩
                have h2 : decide ((p' : Int) % 2 ^ (o' : Int).toNat = 0) = true := decide_eq_true (by
                  rw [Int.toNat_natCast, show (2 : Int) ^ o' = ((2 ^ o' : Nat) : Int) by simp, ← hz, hri, e]
                  rfl)
                simp only [canRun, h1, h2, Bool.true_and, Bool.and_true] at hc
                simp [inR] at hc
                omega
              · left; omega
            have HZ := hid hz
            have HC := hid hcase
            clear hz hr hc hcase hd
            rcases hk with rfl | rfl
            all_goals
              go_enter Try.func59, Try.ntmps59
              go_wp2_with fail
              refine (power_any o' (by omega) _).mono ?_
              rintro e w2 ⟨rfl, hw2⟩
              rw [← hw2] at K0 X0
              rw [← HZ.out]
              obtain ⟨c0, c1, c2⟩ := box3 X0.out
              clear hw2
              rcases HC.out with h1 | ⟨h1, h2⟩
              all_goals
                have h1b := h1
                clear HC
                go_wp2_with fail
                go_ret
                exact ⟨rfl, HR.out.keep K0.out, kept_g K0.out g⟩
    · have hk0 : ¬ k = 0 := fun e => hk (.inl e)
      have hk2 : ¬ k = 2 := fun e => hk (.inr e)
      clear hc hk
      go_enter Try.func59, Try.ntmps59
      go_wp2_with fail
      go_ret
      exact ⟨rfl, HR.out.keep K0.out, kept_g K0.out g⟩
end Go.Proofs.Ytbhheimedbfmeaa
