/- Laying cells down: both passes. -/
import Derived.Test.YtibljocjdlgfbaaLeB
namespace Go.Proofs.Ytibljocjdlgfbaa
set_option linter.unusedVariables false

theorem upN_eq {x d E : Nat} (hd : 1 ≤ d) (h1 : x ≤ E * d) (h2 : E = 0 ∨ (E - 1) * d < x) : upN x d = E := by
  have a := (upN_iff x d E hd).2 h1
  rcases h2 with h2 | h2
  · omega
  · have b := mt (upN_iff x d (E - 1) hd).1 (by omega)
    omega
theorem SU.cells {V : List Un} {np : Nat} (h : SU V np) {u : Un} (hu : u ∈ V) : u.2.1 < celN u.2.2 := (h.b u hu).2.2.2.1
section
variable {r : Nat} (hp : isP r = true) (h16 : 16 ≤ r) (hr : r < 4096)
include hp h16 hr
theorem pass2 {base k n c : Nat} {L : Bls} (h : Snl base k n L) (hk : k ≤ 8) (hrm : 0 < c → rmN (allU base L) r = 0) : P2S (r := r) base k n c L (n * RS k / r) (runL base r false (L, c) (n * RS k / r)).1 (runL base r false (L, c) (n * RS k / r)).2 := by
  have hRS := RS_le k hk
  have hc0 := (celN_b r h16).1
  refine runL_ind (base := base) (r := r) (sh := false) (st := (L, c)) (P2S (r := r) base k n c L) (n * RS k / r) ?_ ?_ ?_ (n * RS k / r) (Nat.le_refl _)
  · refine ⟨h, rfl, rfl, Nat.le_refl _, .inl rfl, fun x _ => rfl, fun _ t' ht' => absurd ht' (Nat.not_lt_zero t'), fun hc u hu e hlt => ?_⟩
    exact absurd ((rm_iff _ _).1 (hrm hc) u hu e) (Nat.not_le.2 hlt)
  · intro t L' nd ht K hnd hst
    have hok := pos_ok (t := t) h.bm hp h16 (by omega) ht
    simp only [stpB, Bool.not_false, Bool.true_or, Bool.true_and] at hst
    rw [fre_lay K.sn hok, Nat.add_sub_cancel_left] at hst
    have eA : allU base (L' ++ [(base + r * t, r)]) = allU base L' ++ units (r * t) r := by rw [allU_snoc, Nat.add_sub_cancel_left]
    have SN := K.sn.snoc hok (by rw [Nat.add_sub_cancel_left]; exact hst)
    have S := K.sn.su hk
    have S' := SN.su hk
    have R0 := room_eq S r
    have R1 := room_eq S' r
    have hnu : (unX (allU base (L' ++ [(base + r * t, r)])) r).length = (unX (allU base L') r).length + 1 := by
      rw [eA, un_sml hp h16 hr, List.length_append, List.length_singleton]
    have hno : ∀ t', t' ≤ t → layOk (allU base (L' ++ [(base + r * t, r)])) (r * t') r = false := fun t' ht' => by
      rw [eA]
      rcases Nat.lt_or_ge t' t with c1 | c1
      · exact lay_keeps (K.no hnd t' c1)
      · have e : t' = t := by omega
        subst e
        exact lay_taken hp h16 hr _ _
    have hfu : ∀ u ∈ allU base (L' ++ [(base + r * t, r)]), u.2.2 = r → ((allU base (L' ++ [(base + r * t, r)])).filter fun v => v.1 == u.1).length < celN r → u.1 = (t + 1) / celN r := fun u hu e hlt => by
      refine next_page hp h16 hr S' hno hu e hlt ?_
      rw [eA] at hu hlt
      rcases List.mem_append.1 hu with hu | hu
      · refine K.fu hnd u hu e ?_
        rw [List.filter_append, List.length_append] at hlt
        omega
      · rw [(sml_pos hp h16 hr t).2.2, List.mem_singleton] at hu
        rw [hu]
    by_cases hm : ∃ u ∈ allU base L', u.1 = t / celN r
    · obtain ⟨u0, hu0, eu⟩ := hm
      have eu1 := ((lay_sml hp h16 hr _ t).1 hst u0 hu0 eu).1
      have hst1 : stN (allU base (L' ++ [(base + r * t, r)])) 1 = stN (allU base L') 1 := by rw [eA]; exact st_sml_in hp h16 hr ⟨u0, hu0, eu⟩
      have hpg1 : (pgX (allU base (L' ++ [(base + r * t, r)])) r).length = (pgX (allU base L') r).length := by rw [eA]; exact pg_sml_in hp h16 hr ⟨u0, hu0, eu1, eu⟩
      have k2 := K.nu
      have k3 := K.st
      have k4 := K.pg
      have k5 := K.lt
      rw [hpg1, hnu] at R1
      refine ⟨SN, by omega, by omega, by omega, ?_, fun x hx => ?_, fun _ t' ht' => hno t' (by omega), fun _ => hfu⟩
      · rcases k5 with k5 | k5
        · exact .inl (by omega)
        · exact .inr (by omega)
      · rw [eA, unX_app, unX_units (Ne.symm hx), List.append_nil, K.un x hx]
    · have hst1 : stN (allU base (L' ++ [(base + r * t, r)])) 1 = stN (allU base L') 1 + 1 := by rw [eA]; exact st_sml_out hp h16 hr hm
      have hpg1 : (pgX (allU base (L' ++ [(base + r * t, r)])) r).length = (pgX (allU base L') r).length + 1 := by rw [eA]; exact pg_sml_out hp h16 hr hm
      have k2 := K.nu
      have k3 := K.st
      have k4 := K.pg
      have hz : rmN (allU base L') r = 0 := by
        rw [rm_iff]
        intro u hu e
        refine Nat.le_of_not_lt fun hlt => hm ⟨u, hu, K.fu hnd u hu e hlt⟩
      rw [hpg1, hnu, Nat.mul_add, Nat.mul_one] at R1
      refine ⟨SN, by omega, by omega, by omega, .inr (by omega), fun x hx => ?_, fun _ t' ht' => hno t' (by omega), fun _ => hfu⟩
      rw [eA, unX_app, unX_units (Ne.symm hx), List.append_nil, K.un x hx]
  · intro t L' nd ht K hst
    have hno : 0 < nd → ∀ t', t' ≤ t → layOk (allU base L') (r * t') r = false := fun hnd t' ht' => by
      rcases Nat.lt_or_ge t' t with c1 | c1
      · exact K.no hnd t' c1
      · have e : t' = t := by omega
        subst e
        have hok := pos_ok (t := t') h.bm hp h16 (by omega) ht
        have hs := hst hnd
        simp only [stpB, Bool.not_false, Bool.true_or, Bool.true_and] at hs
        rw [fre_lay K.sn hok, Nat.add_sub_cancel_left] at hs
        exact hs
    exact ⟨K.sn, K.nu, K.st, K.pg, K.lt, K.un, fun hnd t' ht' => hno hnd t' (by omega), fun hnd u hu e hlt => next_page hp h16 hr (K.sn.su hk) (hno hnd) hu e hlt (K.fu hnd u hu e hlt)⟩
/-- What laying cells of one size does. -/
structure SmS (base k n c : Nat) (L : Bls) (p : Bls × Nat) : Prop where
  sn : Snl base k n p.1
  un : ∀ x, x ≠ r → unX (allU base p.1) x = unX (allU base L) x
  ok : p.2 = 0 → stN (allU base p.1) 1 = stN (allU base L) 1 + upN (c - min c (rmN (allU base L) r)) (celN r)
  no : 0 < p.2 → n * 2 ^ k < stN (allU base L) 1 + upN (c - min c (rmN (allU base L) r)) (celN r)
theorem sml_step {base k n c : Nat} {L : Bls} (h : Snl base k n L) (hk : k ≤ 8) : SmS (r := r) base k n c L (lay1 base r (n * RS k / r) L c) := by
  have hc0 := (celN_b r h16).1
  have A := pass1 hp h16 hr (c := c) h hk
  unfold lay1
  generalize e1 : runL base r true (L, c) (n * RS k / r) = p1 at A
  obtain ⟨L1, c1⟩ := p1
  have A1 : P1S (r := r) base k n c L (n * RS k / r) L1 c1 := A
  have hr1 := fun hc => A1.room hp h16 hr hk hc
  have B := pass2 hp h16 hr (c := c1) A1.sn hk hr1
  generalize e2 : runL base r false (L1, c1) (n * RS k / r) = p2 at B
  obtain ⟨L2, nd⟩ := p2
  have B1 : P2S (r := r) base k n c1 L1 (n * RS k / r) L2 nd := B
  have S0 := h.su hk
  have S1 := A1.sn.su hk
  have S2 := B1.sn.su hk
  have R0 := room_eq S0 r
  have R1 := room_eq S1 r
  have R2 := room_eq S2 r
  have a2 := A1.nu
  have a3 := A1.st
  have a4 := A1.pg
  have b2 := B1.nu
  have b3 := B1.st
  have b4 := B1.pg
  have b5 := B1.lt
  have un : ∀ x, x ≠ r → unX (allU base L2) x = unX (allU base L) x := fun x hx => (B1.un x hx).trans (A1.un x hx)
  obtain ⟨E, hE⟩ : ∃ E, (pgX (allU base L2) r).length = (pgX (allU base L1) r).length + E := ⟨_, (Nat.add_sub_cancel' b4).symm⟩
  rw [hE, Nat.mul_add] at R2
  rw [a4] at R1
  rw [a4] at R2
  have hEE : celN r * E = E * celN r := Nat.mul_comm _ _
  refine ⟨B1.sn, un, fun h0 => ?_, fun h0 => ?_⟩
  · have h0 : nd = 0 := h0
    show stN (allU base L2) 1 = _
    have hst : stN (allU base L2) 1 = stN (allU base L) 1 + E := by omega
    rw [hst]
    congr 1
    symm
    by_cases c1z : c1 = 0
    · have hE0 : E = 0 := by
        rcases b5 with b5 | b5
        · omega
        · refine Classical.byContradiction fun hne => ?_
          have : celN r * 1 ≤ celN r * E := Nat.mul_le_mul_left _ (by omega)
          omega
      subst hE0
      exact upN_eq hc0 (by omega) (.inl rfl)
    · have hz := hr1 (by omega)
      have hrest : c - min c (rmN (allU base L) r) = c1 := by omega
      rw [hrest]
      refine upN_eq hc0 (by omega) ?_
      rcases b5 with b5 | b5
      · have : E = 0 := by omega
        exact .inl this
      · refine .inr ?_
        cases E with
        | zero => omega
        | succ E =>
          rw [Nat.add_sub_cancel, Nat.mul_comm]
          rw [Nat.mul_add, Nat.mul_one] at R2
          omega
  · have h0 : 0 < nd := h0
    have hno := B1.no h0
    have hpl := places hp h16 hr k n
    have hall : stN (allU base L2) 1 = n * 2 ^ k := (stN_iff S2 (by decide) (Nat.one_mul _).symm).2 fun t ht => by
      have := hno (celN r * t) (by rw [hpl]; exact Nat.mul_lt_mul_of_pos_left ht hc0)
      rw [Bool.eq_false_iff, ne_eq, lay_sml hp h16 hr, Nat.mul_div_cancel_left _ hc0] at this
      refine Classical.byContradiction fun hc => this fun u hu e => absurd ⟨u, hu, by rw [Nat.div_one]; exact e⟩ hc
    have hz2 : rmN (allU base L2) r = 0 := by
      rw [rm_iff]
      intro u hu e
      refine full_page hp h16 hr S2 hu e fun q hq => hno _ ?_
      rw [hpl]
      have h1 := (S2.b u hu).2.2.1
      have : celN r * (u.1 + 1) ≤ celN r * (n * 2 ^ k) := Nat.mul_le_mul_left _ h1
      rw [Nat.mul_add, Nat.mul_one] at this
      omega
    have hc1 : 0 < c1 := by omega
    have hz := hr1 hc1
    have hrest : c - min c (rmN (allU base L) r) = c1 := by omega
    rw [hrest]
    have hgt : E < upN c1 (celN r) := by
      refine Nat.lt_of_not_le fun hle => ?_
      have := (upN_iff c1 (celN r) E hc0).1 hle
      omega
    omega
end
end Go.Proofs.Ytibljocjdlgfbaa
