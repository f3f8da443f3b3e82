/- Laying all sizes down, and counting them. -/
import Derived.Test.YtibljocjdlgfbaaLeC
namespace Go.Proofs.Ytibljocjdlgfbaa
set_option linter.unusedVariables false

/-- The pages that cells of the first m sorts need. -/
def smN (U : List Un) (sz : List Nat) (m : Nat) : Nat := ((List.range m).map fun i => pN U sz (16 * 2 ^ i)).sum
theorem smN_succ (U : List Un) (sz : List Nat) (m : Nat) : smN U sz (m + 1) = smN U sz m + pN U sz (16 * 2 ^ m) := by simp [smN, List.range_succ]
theorem smN_eq {U V : List Un} {sz : List Nat} : ∀ m, (∀ i, i < m → rmN V (16 * 2 ^ i) = rmN U (16 * 2 ^ i)) → smN V sz m = smN U sz m
  | 0, _ => rfl
  | m + 1, h => by
    rw [smN_succ, smN_succ, smN_eq m fun i hi => h i (by omega)]
    unfold pN
    rw [h m (by omega)]
theorem pow_16 (m : Nat) : 2 ^ (4 + m) = 16 * 2 ^ m := by rw [Nat.pow_add]
theorem pow16_inj {i j : Nat} (h : 16 * 2 ^ i = 16 * 2 ^ j) : i = j := (Nat.pow_right_inj (a := 2) (by decide)).1 (by omega)
theorem sml_sort {m : Nat} (hm : m < 8) : isP (16 * 2 ^ m) = true ∧ 16 ≤ 16 * 2 ^ m ∧ 16 * 2 ^ m < 4096 := by
  refine ⟨(isP_iff _).2 ⟨4 + m, (pow_16 m).symm⟩, by have := Nat.two_pow_pos m; omega, ?_⟩
  have : 2 ^ m ≤ 2 ^ 7 := Nat.pow_le_pow_right (by decide) (by omega)
  omega
theorem laid_small {base k n : Nat} {sz : List Nat} (hk : k ≤ 8) : ∀ m, m ≤ 8 → ∀ L, Snl base k n L → (laidG base (n * RS k) sz m L = true ↔ stN (allU base L) 1 + smN (allU base L) sz m ≤ n * 2 ^ k)
  | 0, _, L, h => by
    have := stN_le_np (h.su hk) (by decide) (Nat.one_mul (n * 2 ^ k)).symm
    simp only [laidG, true_iff]
    exact this
  | m + 1, hm, L, h => by
    obtain ⟨hp, h16, hr⟩ := sml_sort (m := m) (by omega)
    have st := sml_step hp h16 hr (c := sz.count (16 * 2 ^ m)) h hk
    simp only [laidG]
    rw [pow_16, smN_succ]
    generalize lay1 base (16 * 2 ^ m) (n * RS k / (16 * 2 ^ m)) L (sz.count (16 * 2 ^ m)) = p at st
    rw [Bool.and_eq_true, decide_eq_true_eq]
    by_cases h0 : p.2 = 0
    · have ih := laid_small (sz := sz) hk m (by omega) p.1 st.sn
      rw [ih, st.ok h0]
      have e : smN (allU base p.1) sz m = smN (allU base L) sz m := smN_eq m fun i hi => rmN_un (h.su hk) (st.sn.su hk) (st.un _ fun e => by have := pow16_inj e; omega)
      rw [e]
      unfold pN
      constructor
      · rintro ⟨_, a⟩
        omega
      · intro a
        exact ⟨h0, by omega⟩
    · have h1 := st.no (by omega)
      constructor
      · rintro ⟨a, _⟩
        exact absurd a h0
      · intro a
        have e : pN (allU base L) sz (16 * 2 ^ m) = upN (sz.count (16 * 2 ^ m) - min (sz.count (16 * 2 ^ m)) (rmN (allU base L) (16 * 2 ^ m))) (celN (16 * 2 ^ m)) := rfl
        rw [e] at a
        omega
/-- What the greater sizes take of stretches of an order. -/
def wtF (f : Nat → Nat) : Nat → Nat → Nat
  | 0, _ => 0
  | q + 1, j => (if j ≤ q then f q * 2 ^ (q - j) else 0) + wtF f q j
theorem wtF_low (f : Nat → Nat) : ∀ q j, wtF f q j = if j < q then f j + 2 * wtF f q (j + 1) else 0
  | 0, j => by simp [wtF]
  | q + 1, j => by
    have ih := wtF_low f q j
    have ih2 := wtF_low f q (j + 1)
    simp only [wtF]
    rcases Nat.lt_trichotomy j q with c | c | c
    · rw [if_pos (show j ≤ q by omega), if_pos (show j < q + 1 by omega), if_pos (show j + 1 ≤ q by omega), ih, if_pos c]
      rw [show q - j = (q - (j + 1)) + 1 by omega, Nat.pow_succ, ← Nat.mul_assoc]
      omega
    · subst c
      rw [if_pos (Nat.le_refl j), if_pos (show j < j + 1 by omega), if_neg (show ¬ j + 1 ≤ j by omega), ih, if_neg (by omega), Nat.sub_self, Nat.pow_zero, ih2, if_neg (by omega)]
      omega
    · rw [if_neg (show ¬ j ≤ q by omega), if_neg (show ¬ j < q + 1 by omega), ih, if_neg (by omega)]
theorem wtF_tak (f : Nat → Nat) (k : Nat) : ∀ i, i ≤ k + 1 → takF f k i = wtF f (k + 1) (k + 1 - i)
  | 0, _ => by rw [wtF_low, if_neg (by omega)]; rfl
  | i + 1, hi => by
    have ih := wtF_tak f k i (by omega)
    simp only [takF]
    rw [ih, wtF_low f (k + 1) (k + 1 - (i + 1)), if_pos (by omega), show k + 1 - (i + 1) + 1 = k + 1 - i by omega, show k + 1 - (i + 1) = k - i by omega]
    omega
theorem pow_big (q : Nat) : 2 ^ (4 + (8 + q)) = 4096 * 2 ^ q := by rw [← Nat.add_assoc, Nat.pow_add]
theorem laid_big {base k n : Nat} {sz : List Nat} (hk : k ≤ 8) : ∀ q, q ≤ k + 1 → ∀ L, Snl base k n L → (laidG base (n * RS k) sz (8 + q) L = true ↔ (∀ j, j < q → wtF (fun o => sz.count (4096 * 2 ^ o)) q j + stN (allU base L) (2 ^ j) ≤ n * 2 ^ (k - j)) ∧ wtF (fun o => sz.count (4096 * 2 ^ o)) q 0 + (stN (allU base L) 1 + smN (allU base L) sz 8) ≤ n * 2 ^ k)
  | 0, _, L, h => by
    rw [Nat.add_zero, laid_small hk 8 (Nat.le_refl _) L h]
    simp [wtF]
  | q + 1, hq, L, h => by
    have hg : isP (2 ^ q) = true := (isP_iff _).2 ⟨q, rfl⟩
    have hT : n * 2 ^ k = 2 ^ q * (n * 2 ^ (k - q)) := by
      rw [Nat.mul_left_comm, ← Nat.pow_add, show q + (k - q) = k by omega]
    have hTd : n * 2 ^ k / 2 ^ q = n * 2 ^ (k - q) := by rw [hT]; exact Nat.mul_div_cancel_left _ (Nat.two_pow_pos q)
    have hgk : 4096 * 2 ^ q ≤ RS k := by
      unfold RS
      exact Nat.mul_le_mul_left _ (Nat.pow_le_pow_right (by decide) (by omega))
    have st := big_step (c := sz.count (4096 * 2 ^ q)) h hk hg (Nat.two_pow_pos q) hgk hT
    have e8 : 8 + (q + 1) = (8 + q) + 1 := by omega
    rw [e8]
    simp only [laidG]
    rw [pow_big]
    generalize lay1 base (4096 * 2 ^ q) (n * RS k / (4096 * 2 ^ q)) L (sz.count (4096 * 2 ^ q)) = p at st
    rw [Bool.and_eq_true, decide_eq_true_eq]
    have hw : ∀ j, j ≤ q → wtF (fun o => sz.count (4096 * 2 ^ o)) (q + 1) j = sz.count (4096 * 2 ^ q) * 2 ^ (q - j) + wtF (fun o => sz.count (4096 * 2 ^ o)) q j := fun j hj => by
      simp only [wtF]
      rw [if_pos hj]
    have hwq : wtF (fun o => sz.count (4096 * 2 ^ o)) (q + 1) q = sz.count (4096 * 2 ^ q) := by
      rw [hw q (Nat.le_refl _), Nat.sub_self, Nat.pow_zero, Nat.mul_one, wtF_low, if_neg (by omega), Nat.add_zero]
    by_cases h0 : p.2 = 0
    · obtain ⟨s1, s2⟩ := st.ok h0
      rw [hTd] at s2
      have sj : ∀ j, j ≤ q → stN (allU base p.1) (2 ^ j) = stN (allU base L) (2 ^ j) + sz.count (4096 * 2 ^ q) * 2 ^ (q - j) := fun j hj => s1 (2 ^ j) (2 ^ (q - j)) (by rw [← Nat.pow_add, show j + (q - j) = q by omega])
      have s0 := sj 0 (by omega)
      rw [Nat.pow_zero] at s0
      have e : smN (allU base p.1) sz 8 = smN (allU base L) sz 8 := smN_eq 8 fun i hi => rmN_un (h.su hk) (st.sn.su hk) (st.un _ (sml_sort hi).2.2)
      rw [laid_big (sz := sz) hk q (by omega) p.1 st.sn, e, s0, hw 0 (by omega)]
      constructor
      · rintro ⟨_, a, b⟩
        refine ⟨fun j hj => ?_, by omega⟩
        rcases Nat.lt_or_ge j q with c | c
        · have := a j c
          rw [sj j (by omega)] at this
          rw [hw j (by omega)]
          omega
        · have ej : j = q := by omega
          subst ej
          rw [hwq]
          omega
      · rintro ⟨a, b⟩
        refine ⟨h0, fun j hj => ?_, by omega⟩
        have := a j (by omega)
        rw [hw j (by omega)] at this
        rw [sj j (by omega)]
        omega
    · have h1 := st.no (by omega)
      rw [hTd] at h1
      constructor
      · rintro ⟨a, _⟩
        exact absurd a h0
      · rintro ⟨a, _⟩
        have := a q (by omega)
        rw [hwq] at this
        omega
/-- What is needed of each order: the greater blocks, and for order 0 the pages of cells. -/
theorem ndV_eq {U : List Un} {sz : List Nat} (h : ∀ x ∈ sz, isP x = true ∧ 16 ≤ x ∧ x ≤ 1048576) {o : Nat} (ho : o ≤ 8) : ndV U sz o = sz.count (4096 * 2 ^ o) + (if 0 = o then smN U sz 8 else 0) := by
  have hm : ∀ x ∈ sz, x ∈ D17 := fun x hx => mem_D17 (h x hx).1 (h x hx).2.1 (h x hx).2.2
  have e1 : ndV U sz o = (D17.map fun x => if ordN x = o then pN U sz x else 0).sum := by
    refine sum_over _ (nodup_ded _) D17_nodup (fun x hx => hm x ((mem_ded _ _).1 hx)) fun x hx hn => ?_
    have h0 : sz.count x = 0 := List.count_eq_zero.2 fun c => hn ((mem_ded _ _).2 c)
    have hc : 1 ≤ celN x := by unfold celN; split <;> omega
    have h1 : upN 0 (celN x) ≤ 0 := (upN_iff 0 (celN x) 0 hc).2 (by omega)
    have h2 : pN U sz x = 0 := by
      unfold pN
      rw [h0, Nat.zero_sub]
      omega
    rw [h2]
    split <;> rfl
  rw [e1]
  unfold D17
  rw [List.map_append, List.sum_append]
  have a1 : (D8.map fun x => if ordN x = o then pN U sz x else 0).sum = if 0 = o then smN U sz 8 else 0 := by
    have e : (D8.map fun x => if ordN x = o then pN U sz x else 0) = D8.map fun x => if 0 = o then pN U sz x else 0 := List.map_congr_left fun x hx => by rw [ord_small (D8_small x hx)]
    rw [e]
    by_cases c : 0 = o
    · simp only [c, if_true]
      unfold D8 smN
      rw [List.map_map]
      rfl
    · simp only [c, if_false]
      decide
  have a2 : (D9.map fun x => if ordN x = o then pN U sz x else 0).sum = sz.count (4096 * 2 ^ o) := by
    have e : (D9.map fun x => if ordN x = o then pN U sz x else 0) = (List.range 9).map fun i => (if o = i then 1 else 0) * sz.count (4096 * 2 ^ i) := by
      unfold D9
      rw [List.map_map]
      refine List.map_congr_left fun i hi => ?_
      have hx : 4096 * 2 ^ i ∈ D9 := List.mem_map.2 ⟨i, hi, rfl⟩
      have h4 := D9_large _ hx
      have ho : ordN (4096 * 2 ^ i) = i := by
        unfold ordN
        rw [Nat.mul_div_cancel_left _ (by decide), Nat.log2_two_pow]
      show (if ordN (4096 * 2 ^ i) = o then pN U sz (4096 * 2 ^ i) else 0) = _
      rw [ho]
      by_cases c : i = o
      · rw [if_pos c, if_pos c.symm, Nat.one_mul]
        unfold pN
        rw [rm_big h4, Nat.min_zero, Nat.sub_zero, celN_big h4, upN_one]
      · rw [if_neg c, if_neg (fun e => c e.symm), Nat.zero_mul]
    rw [e, sum_pick (fun i => sz.count (4096 * 2 ^ i)) o (List.range 9) List.nodup_range, if_pos (List.mem_range.2 (by omega))]
  rw [a1, a2]
  omega
theorem takF_congr {f g : Nat → Nat} {k : Nat} (h : ∀ o, o ≤ k → f o = g o) : ∀ j, takF f k j = takF g k j
  | 0 => rfl
  | j + 1 => by
    simp only [takF]
    rw [takF_congr h j, h (k - j) (by omega)]
/-- Laying the greatest first succeeds just where counting says so. -/
theorem laid_all {base k n : Nat} {sz : List Nat} {L : Bls} (hk : k ≤ 8) (h : Snl base k n L) (hz : ∀ x ∈ sz, isP x = true ∧ 16 ≤ x ∧ x ≤ 1048576) : laidG base (n * RS k) sz (k + 9) L = true ↔ rfN (allU base L) (ndV (allU base L) sz) k ≤ n := by
  rw [show k + 9 = 8 + (k + 1) by omega, laid_big hk (k + 1) (Nat.le_refl _) L h, rfN_iff]
  have et : ∀ i, i ≤ k → takF (ndV (allU base L) sz) k (i + 1) = wtF (fun o => sz.count (4096 * 2 ^ o)) (k + 1) (k - i) + (if i = k then smN (allU base L) sz 8 else 0) := fun i hi => by
    rw [takF_congr (g := fun o => (fun o => sz.count (4096 * 2 ^ o)) o + (fun o => if 0 = o then smN (allU base L) sz 8 else 0) o) (fun o ho => ndV_eq hz (by omega)), takF_add, wtF_tak _ _ _ (by omega), takF_one 0 _ k (by omega) _ (by omega), Nat.sub_zero, show k + 1 - (i + 1) = k - i by omega]
    congr 1
    by_cases c : i = k
    · subst c
      rw [if_pos (by omega), if_pos rfl, show i + 1 - 1 - i = 0 by omega, Nat.pow_zero, Nat.mul_one]
    · rw [if_neg (by omega), if_neg c]
  constructor
  · rintro ⟨a, b⟩ i hi
    rw [et i hi]
    by_cases c : i = k
    · subst c
      rw [if_pos rfl, Nat.sub_self, Nat.pow_zero]
      omega
    · rw [if_neg c, Nat.add_zero]
      have := a (k - i) (by omega)
      rw [show k - (k - i) = i by omega] at this
      exact this
  · intro a
    refine ⟨fun j hj => ?_, ?_⟩
    · have := a (k - j) (by omega)
      rw [et _ (by omega), show k - (k - j) = j by omega] at this
      omega
    · have := a k (Nat.le_refl _)
      rw [et k (Nat.le_refl _), if_pos rfl, Nat.sub_self, Nat.pow_zero] at this
      omega
/-- The pages that stay are within n regions just if each block is. -/
theorem reg_iff {base k n m : Nat} {L : Bls} (h : Snl base k m L) (hk : k ≤ 8) (hnm : n ≤ m) : rgN (allU base L) k ≤ n ↔ ∀ b ∈ L, (b.1 - base) < n * RS k := by
  unfold rgN
  rw [mxL_le]
  constructor
  · intro g b hb
    have hO := (okO_of h.bm h.nr (h.ok hb)).1
    have h1 := g ((b.1 - base) / 4096 / 2 ^ k + 1) (List.mem_map.2 ⟨uno (b.1 - base) b.2 0, List.mem_flatMap.2 ⟨b, hb, List.mem_map.2 ⟨0, List.mem_range.2 (by have := hO.l; unfold npg; omega), rfl⟩⟩, rfl⟩)
    rw [Nat.div_div_eq_div_mul] at h1
    have h2 : (b.1 - base) / (4096 * 2 ^ k) < n := by omega
    exact (Nat.div_lt_iff_lt_mul (Nat.mul_pos (by decide) (Nat.two_pow_pos k))).1 h2
  · intro g x hx
    obtain ⟨u, hu, rfl⟩ := List.mem_map.1 hx
    obtain ⟨b, hb, hub⟩ := List.mem_flatMap.1 hu
    obtain ⟨i, hi, rfl⟩ := List.mem_map.1 hub
    have hi := List.mem_range.1 hi
    have hok := h.ok hb
    have hok2 : okB base k n b.1 b.2 = true := by
      simp only [okB, Bool.and_eq_true, decide_eq_true_eq] at hok ⊢
      exact ⟨hok.1, g b hb⟩
    have hO := okO_of h.bm h.nr hok
    have hf := (okO_of h.bm (Nat.le_trans (Nat.mul_le_mul_right _ hnm) h.nr) hok2).2
    show ((b.1 - base) / 4096 + i) / 2 ^ k + 1 ≤ n
    have h1 : (b.1 - base) / 4096 + i < 2 ^ k * n := by
      have h2 : b.1 - base + b.2 ≤ 4096 * (2 ^ k * n) := by
        rw [show 4096 * (2 ^ k * n) = n * RS k by rw [RS_pages, Nat.mul_comm n]]
        omega
      unfold npg at hi
      generalize 2 ^ k * n = z at h2
      by_cases c : b.2 < 4096
      · have := hO.1.l
        have h3 := (hO.1.small c).1
        omega
      · have := hO.1.large (by omega)
        omega
    have := Nat.div_lt_of_lt_mul h1
    omega
end Go.Proofs.Ytibljocjdlgfbaa
