/- A sound list's sizes need no more pages than there are. -/
import Derived.Test.YtibljocjdlgfbaaPaA
import Derived.Test.YtibljocjdlgfbaaRiA
namespace Go.Proofs.Ytibljocjdlgfbaa
set_option linter.unusedVariables false

theorem len_parts (f : Un → Bool) : ∀ V : List Un, V.length = (V.filter f).length + (V.filter fun u => !f u).length
  | [] => rfl
  | u :: r => by
    have ih := len_parts f r
    by_cases c : f u = true
    · rw [List.filter_cons_of_pos c, List.filter_cons_of_neg (by simp [c]), List.length_cons, List.length_cons]
      omega
    · rw [List.filter_cons_of_neg c, List.filter_cons_of_pos (by simpa using c), List.length_cons, List.length_cons]
      omega
theorem len_pages (c : Nat) : ∀ (d : List Nat) (V : List Un), (∀ u ∈ V, u.1 ∈ d) → (∀ p ∈ d, (V.filter fun u => u.1 == p).length ≤ c) → V.length ≤ c * d.length
  | [], V, h, _ => by
    cases V with
    | nil => simp
    | cons u r => exact absurd (h u (by simp)) (by simp)
  | p :: d, V, h, hc => by
    have ih := len_pages c d (V.filter fun u => !(u.1 == p)) (fun u hu => by
      obtain ⟨h1, h2⟩ := List.mem_filter.1 hu
      rcases List.mem_cons.1 (h u h1) with e | e
      · simp [e] at h2
      · exact e) fun q hq => by
        refine Nat.le_trans ?_ (hc q (List.mem_cons_of_mem _ hq))
        exact ((List.filter_sublist (l := V)).filter _).length_le
    have h3 := hc p (by simp)
    have h4 := len_parts (fun u => u.1 == p) V
    rw [List.length_cons, Nat.mul_add, Nat.mul_one]
    omega
/-- The cells of a size, the pages that have them. -/
def unX (U : List Un) (x : Nat) : List Un := U.filter fun u => u.2.2 == x
def pgX (U : List Un) (x : Nat) : List Nat := ded ((unX U x).map (·.1))
theorem unX_len (base : Nat) (x : Nat) : ∀ l : Bls, (unX (allU base l) x).length = (l.map (·.2)).count x * npg x
  | [] => by simp [unX, allU]
  | b :: r => by
    have ih := unX_len base x r
    have e : allU base (b :: r) = units (b.1 - base) b.2 ++ allU base r := rfl
    unfold unX at ih ⊢
    rw [e, List.filter_append, List.length_append, ih, List.map_cons, List.count_cons, Nat.add_mul]
    have hs : ∀ u ∈ units (b.1 - base) b.2, u.2.2 = b.2 := fun u hu => by
      obtain ⟨i, hi, rfl⟩ := List.mem_map.1 hu
      rfl
    by_cases c : b.2 = x
    · rw [List.filter_eq_self.2 fun u hu => by rw [hs u hu, c]; simp]
      subst c
      simp [units, uns]
      omega
    · rw [List.filter_eq_nil_iff.2 fun u hu => by rw [hs u hu]; simpa using c]
      simp [c]
theorem unX_le {U : List Un} {np : Nat} (h : SU U np) (x : Nat) : (unX U x).length ≤ celN x * (pgX U x).length := by
  refine len_pages _ _ _ (fun u hu => (mem_ded _ _).2 (List.mem_map.2 ⟨u, hu, rfl⟩)) fun p hp => ?_
  obtain ⟨u, hu, e⟩ := List.mem_map.1 ((mem_ded _ _).1 hp)
  obtain ⟨h1, h2⟩ := List.mem_filter.1 hu
  have h3 := h.cnt h1
  have h4 : u.2.2 = x := by simpa using h2
  rw [h4, e] at h3
  refine Nat.le_trans ?_ h3
  exact ((List.filter_sublist (l := U)).filter _).length_le
theorem pgX_sum {U : List Un} {np : Nat} (h : SU U np) {d : List Nat} (hd : d.Nodup) : (d.map fun x => (pgX U x).length).sum ≤ np := by
  have h1 : (d.flatMap fun x => pgX U x).Nodup := by
    rw [List.Nodup, List.pairwise_flatMap]
    refine ⟨fun x _ => nodup_ded _, hd.imp fun {x y} hxy p hp q hq e => ?_⟩
    obtain ⟨u, hu, e1⟩ := List.mem_map.1 ((mem_ded _ _).1 hp)
    obtain ⟨v, hv, e2⟩ := List.mem_map.1 ((mem_ded _ _).1 hq)
    obtain ⟨h1, h2⟩ := List.mem_filter.1 hu
    obtain ⟨h3, h4⟩ := List.mem_filter.1 hv
    have := h.same h1 h3 (by rw [e1, e2, e])
    exact hxy (by rw [← (show u.2.2 = x by simpa using h2), ← (show v.2.2 = y by simpa using h4), this])
  have h2 := nodup_le np _ h1 fun p hp => by
    obtain ⟨x, _, hx⟩ := List.mem_flatMap.1 hp
    obtain ⟨u, hu, rfl⟩ := List.mem_map.1 ((mem_ded _ _).1 hx)
    exact (h.b u (List.mem_filter.1 hu).1).2.2.1
  rw [List.length_flatMap] at h2
  exact h2
theorem npg_small {x : Nat} (h0 : 1 ≤ x) (h : x < 4096) : npg x = 1 := by unfold npg; omega
theorem npg_large {x : Nat} (hp : isP x = true) (h : 4096 ≤ x) : npg x = x / 4096 := by
  have := Nat.mod_eq_zero_of_dvd (pow_dvd isP_4096 hp h)
  unfold npg
  omega
theorem sum_le_sum (f g : Nat → Nat) : ∀ d : List Nat, (∀ x ∈ d, f x ≤ g x) → (d.map f).sum ≤ (d.map g).sum
  | [], _ => by simp
  | a :: r, h => by
    have ih := sum_le_sum f g r fun x hx => h x (List.mem_cons_of_mem _ hx)
    have := h a (by simp)
    simp only [List.map_cons, List.sum_cons]
    omega
theorem Snl.pages {base k n : Nat} {l : Bls} (h : Snl base k n l) (hk : k ≤ 8) : pgN [] (l.map (·.2)) ≤ n * 2 ^ k := by
  have S := h.su hk
  refine Nat.le_trans (sum_le_sum _ (fun x => (pgX (allU base l) x).length) _ fun x hx => ?_) (pgX_sum S (nodup_ded _))
  obtain ⟨b, hb, rfl⟩ := List.mem_map.1 ((mem_ded _ _).1 hx)
  have hO := (okO_of h.bm h.nr (h.ok hb)).1
  have h1 := unX_le S b.2
  rw [unX_len] at h1
  rw [pN_nil]
  by_cases c : b.2 < 4096
  · rw [npg_small (by have := hO.l; omega) c, Nat.mul_one] at h1
    rw [ord_small c, Nat.pow_zero, Nat.mul_one, upN_iff _ _ _ (celN_b _ hO.l).1, Nat.mul_comm]
    exact h1
  · rw [npg_large hO.p (by omega), celN_big (by omega), Nat.one_mul] at h1
    rw [celN_big (by omega), upN_one, two_ord hO.p (by omega)]
    exact h1
/-- A sound list's sizes lie in as many regions, with nothing that stays. -/
theorem sound_least {base : Nat} {lim ord n : Int} {l : Bls} (h : sndV base lim ord n l = -1) : leaO base lim ord [] (l.map (·.2)) = true ∧ ((leaV base lim ord [] (l.map (·.2)) : Nat) : Int) ≤ n := by
  unfold sndV at h
  split at h
  · rename_i h1
    obtain ⟨k, rr, L, rfl, rfl, rfl, hk8, hL1, hL64, hrL, hLR, hb0, hbm, hbe⟩ := mayR_facts h1
    have hrR : rr * RS k ≤ 4194304 := Nat.le_trans (Nat.mul_le_mul_right _ hrL) hLR
    rw [Int.toNat_natCast, Int.toNat_natCast] at h
    have Sn := Snl.of' hbm hrR h
    have hz : ∀ x ∈ l.map (·.2), szB k x = true := fun x hx => by
      obtain ⟨b, hb, rfl⟩ := List.mem_map.1 hx
      have := Sn.ok hb
      simp only [okB, Bool.and_eq_true] at this
      exact this.1.1.1
    have hle : leaN [] (l.map (·.2)) k ≤ rr := (leaN_nil hz).2 (Sn.pages hk8)
    have hO : leaO base (L : Int) (k : Int) [] (l.map (·.2)) = true := by
      have hm : mayR base (L : Int) (k : Int) (L : Int) = true := by
        simp only [mayR, Bool.and_eq_true, decide_eq_true_eq] at h1 ⊢
        exact ⟨⟨h1.1.1, by omega⟩, by omega⟩
      have ha : (l.map (·.2)).all (szB k) = true := List.all_eq_true.2 hz
      simp only [leaO, hm, Int.toNat_natCast, ha, Bool.true_and, Bool.and_true, Bool.and_eq_true, decide_eq_true_eq, beq_iff_eq]
      exact ⟨rfl, by show leaN [] _ k ≤ L; omega⟩
    refine ⟨hO, ?_⟩
    unfold leaV
    rw [if_pos hO, Int.toNat_natCast]
    show ((leaN [] (l.map (·.2)) k : Nat) : Int) ≤ (rr : Int)
    omega
  · cases h
end Go.Proofs.Ytibljocjdlgfbaa
