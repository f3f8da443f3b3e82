/- How many pages sizes need, and how many regions. -/
import Derived.Test.YtibljocjdlgfbaaTuA
import Derived.Test.YtibljocjdlgfbaaRfO
namespace Go.Proofs.Ytibljocjdlgfbaa
set_option linter.unusedVariables false

theorem upN_iff (n d m : Nat) (hd : 1 ≤ d) : upN n d ≤ m ↔ n ≤ m * d := by
  unfold upN
  rw [← Nat.lt_succ_iff, Nat.div_lt_iff_lt_mul (by omega), Nat.succ_mul]
  omega
theorem cntR_iff (U : List Un) (f : Nat → Nat) (k m : Nat) : ∀ j, cntR U f k j ≤ m ↔ ∀ i, i < j → takF f k (i + 1) + stN U (2 ^ (k - i)) ≤ m * 2 ^ i
  | 0 => by simp [cntR]
  | j + 1 => by
    simp only [cntR]
    rw [Nat.max_le, cntR_iff U f k m j, upN_iff _ _ _ (Nat.two_pow_pos j)]
    constructor
    · rintro ⟨a, b⟩ i hi
      rcases Nat.lt_or_eq_of_le (Nat.lt_succ_iff.1 hi) with c | c
      · exact a i c
      · rw [c]; exact b
    · intro a
      exact ⟨fun i hi => a i (by omega), a j (by omega)⟩
theorem rfN_iff (U : List Un) (f : Nat → Nat) (k m : Nat) : rfN U f k ≤ m ↔ ∀ i, i ≤ k → takF f k (i + 1) + stN U (2 ^ (k - i)) ≤ m * 2 ^ i := by
  unfold rfN
  rw [cntR_iff]
  exact ⟨fun h i hi => h i (by omega), fun h i hi => h i (by omega)⟩
theorem takF_add (f g : Nat → Nat) (k : Nat) : ∀ j, takF (fun i => f i + g i) k j = takF f k j + takF g k j
  | 0 => rfl
  | j + 1 => by
    simp only [takF]
    rw [takF_add f g k j]
    omega
theorem takF_zero (k : Nat) : ∀ j, takF (fun _ => 0) k j = 0
  | 0 => rfl
  | j + 1 => by
    simp only [takF]
    rw [takF_zero k j]
theorem takF_one (o c k : Nat) (ho : o ≤ k) : ∀ j, j ≤ k + 1 → takF (fun i => if o = i then c else 0) k j = if k - o < j then c * 2 ^ (j - 1 - (k - o)) else 0
  | 0, _ => by simp [takF]
  | j + 1, hj => by
    simp only [takF]
    rw [takF_one o c k ho j (by omega)]
    by_cases h1 : k - o < j
    · rw [if_pos h1, if_neg (show ¬ o = k - j by omega), if_pos (show k - o < j + 1 by omega)]
      rw [show j + 1 - 1 - (k - o) = (j - 1 - (k - o)) + 1 by omega, Nat.pow_succ]
      rw [← Nat.mul_assoc c]
      omega
    · rw [if_neg h1]
      by_cases h2 : o = k - j
      · rw [if_pos h2, if_pos (show k - o < j + 1 by omega), show j + 1 - 1 - (k - o) = 0 by omega]
        omega
      · rw [if_neg h2, if_neg (show ¬ k - o < j + 1 by omega)]
/-- What an order needs of a list of sizes is a sum. -/
theorem takF_sum (U : List Un) (l : List Nat) (k : Nat) : ∀ d : List Nat, (∀ x ∈ d, ordN x ≤ k) → takF (ndD U l d) k (k + 1) = (d.map fun x => pN U l x * 2 ^ ordN x).sum
  | [], _ => by
    have : ndD U l [] = fun _ => 0 := rfl
    rw [this, takF_zero]
    rfl
  | x :: r, h => by
    have e : ndD U l (x :: r) = fun i => (fun i => if ordN x = i then pN U l x else 0) i + ndD U l r i := funext fun i => by simp [ndD]
    rw [e, takF_add, takF_sum U l k r fun y hy => h y (List.mem_cons_of_mem _ hy), takF_one _ _ _ (h x (by simp)) _ (Nat.le_refl _), if_pos (by omega)]
    rw [List.map_cons, List.sum_cons, show k + 1 - 1 - (k - ordN x) = ordN x by have := h x (by simp); omega]
theorem takF_dbl (f : Nat → Nat) (k : Nat) : ∀ i j, takF f k j * 2 ^ i ≤ takF f k (j + i)
  | 0, j => by simp
  | i + 1, j => by
    have h1 := takF_dbl f k i j
    rw [← Nat.add_assoc]
    simp only [takF]
    rw [Nat.pow_succ, ← Nat.mul_assoc]
    omega
/-- With no blocks that stay it is the pages that count. -/
theorem rfN_nil (f : Nat → Nat) (k m : Nat) : rfN [] f k ≤ m ↔ takF f k (k + 1) ≤ m * 2 ^ k := by
  rw [rfN_iff]
  have hs : ∀ g, stN [] g = 0 := fun g => rfl
  constructor
  · intro h
    have := h k (Nat.le_refl _)
    rw [hs] at this
    exact this
  · intro h i hi
    rw [hs, Nat.add_zero]
    have h1 := takF_dbl f k (k - i) (i + 1)
    rw [show i + 1 + (k - i) = k + 1 by omega] at h1
    have h2 : m * 2 ^ k = m * 2 ^ i * 2 ^ (k - i) := by rw [Nat.mul_assoc, ← Nat.pow_add, show i + (k - i) = k by omega]
    rw [h2] at h
    exact Nat.le_of_mul_le_mul_right (Nat.le_trans h1 h) (Nat.two_pow_pos _)

/-- The pages that a list of sizes needs. -/
def pgN (U : List Un) (l : List Nat) : Nat := ((ded l).map fun x => pN U l x * 2 ^ ordN x).sum
theorem ord_le {k x : Nat} (h : szB k x = true) : ordN x ≤ k := by
  simp only [szB, Bool.and_eq_true, decide_eq_true_eq] at h
  unfold ordN
  have h1 : x / 4096 ≤ 2 ^ k := by
    have := h.2
    unfold RS at this
    exact Nat.div_le_of_le_mul this
  by_cases h0 : x / 4096 = 0
  · rw [h0]; simp
  · have := (Nat.log2_lt h0 (k := k + 1)).2 (by rw [Nat.pow_succ]; have := Nat.two_pow_pos k; omega)
    omega
theorem leaN_nil {k m : Nat} {sz : List Nat} (h : ∀ x ∈ sz, szB k x = true) : leaN [] sz k ≤ m ↔ pgN [] sz ≤ m * 2 ^ k := by
  unfold leaN
  have h0 : rgN [] k = 0 := rfl
  rw [h0, Nat.zero_max, rfN_nil]
  have : takF (ndV [] sz) k (k + 1) = pgN [] sz := takF_sum [] sz k (ded sz) fun x hx => ord_le (h x ((mem_ded _ _).1 hx))
  rw [this]
theorem leaN_up {k : Nat} {sz : List Nat} (h : ∀ x ∈ sz, szB k x = true) : leaN [] sz k = upN (pgN [] sz) (2 ^ k) := by
  have h1 := fun m => (leaN_nil (m := m) h).trans (upN_iff (pgN [] sz) (2 ^ k) m (Nat.two_pow_pos k)).symm
  exact Nat.le_antisymm ((h1 _).2 (Nat.le_refl _)) ((h1 _).1 (Nat.le_refl _))
theorem pN_nil (l : List Nat) (x : Nat) : pN [] l x = upN (l.count x) (celN x) := by
  unfold pN
  have : rmN [] x = 0 := rfl
  rw [this, Nat.min_zero, Nat.sub_zero]
theorem two_ord {x : Nat} (hp : isP x = true) (h : 4096 ≤ x) : 2 ^ ordN x = x / 4096 := by
  obtain ⟨i, rfl⟩ := (isP_iff _).1 hp
  have hi : 12 ≤ i := by
    refine Nat.le_of_not_lt fun c => ?_
    have : 2 ^ i ≤ 2 ^ 11 := Nat.pow_le_pow_right (by decide) (by omega)
    omega
  have e : 2 ^ i / 4096 = 2 ^ (i - 12) := by
    rw [show (4096 : Nat) = 2 ^ 12 by decide]
    exact Nat.pow_div hi (by decide)
  unfold ordN
  rw [e, Nat.log2_two_pow]
theorem ord_small {x : Nat} (h : x < 4096) : ordN x = 0 := by
  unfold ordN
  rw [Nat.div_eq_of_lt h]
  decide
theorem upN_one (n : Nat) : upN n 1 = n := by simp [upN]

theorem sum_over (g : Nat → Nat) {d : List Nat} (hd : d.Nodup) : ∀ {D : List Nat}, D.Nodup → (∀ x ∈ d, x ∈ D) → (∀ x ∈ D, x ∉ d → g x = 0) → (d.map g).sum = (D.map g).sum := by
  intro D hD h1 h2
  have hp : d.Perm (D.filter fun x => decide (x ∈ d)) := perm_of hd (hD.filter _) fun x => by
    rw [List.mem_filter]
    exact ⟨fun h => ⟨h1 x h, decide_eq_true h⟩, fun h => of_decide_eq_true h.2⟩
  rw [(hp.map g).sum_nat]
  clear hp h1 hD hd
  induction D with
  | nil => rfl
  | cons a r ih =>
    have ih := ih fun x hx => h2 x (List.mem_cons_of_mem _ hx)
    by_cases c : a ∈ d
    · rw [List.filter_cons_of_pos (by simpa using c), List.map_cons, List.sum_cons, List.map_cons, List.sum_cons, ih]
    · rw [List.filter_cons_of_neg (by simpa using c), List.map_cons, List.sum_cons, ih, h2 a (by simp) c, Nat.zero_add]
theorem sum_pick (h : Nat → Nat) (y : Nat) : ∀ D : List Nat, D.Nodup → (D.map fun x => (if y = x then 1 else 0) * h x).sum = if y ∈ D then h y else 0
  | [], _ => by simp
  | a :: r, hd => by
    obtain ⟨h1, h2⟩ := List.nodup_cons.1 hd
    have ih := sum_pick h y r h2
    rw [List.map_cons, List.sum_cons, ih]
    by_cases c : y = a
    · subst c
      rw [if_pos rfl, if_neg h1, if_pos (by simp), Nat.one_mul, Nat.add_zero]
    · rw [if_neg c, Nat.zero_mul, Nat.zero_add]
      by_cases e : y ∈ r
      · rw [if_pos e, if_pos (List.mem_cons_of_mem _ e)]
      · rw [if_neg e, if_neg (by rw [List.mem_cons]; exact fun o => o.elim c e)]
theorem sum_map_add (f g : Nat → Nat) : ∀ D : List Nat, (D.map fun x => f x + g x).sum = (D.map f).sum + (D.map g).sum
  | [] => rfl
  | a :: r => by
    simp only [List.map_cons, List.sum_cons]
    rw [sum_map_add f g r]
    omega
/-- A sum over a list, size by size. -/
theorem count_sum (h : Nat → Nat) {D : List Nat} (hD : D.Nodup) : ∀ s : List Nat, (∀ x ∈ s, x ∈ D) → (s.map h).sum = (D.map fun x => s.count x * h x).sum
  | [], _ => by
    have : (D.map fun x => ([] : List Nat).count x * h x) = D.map fun _ => 0 := List.map_congr_left fun x hx => by simp
    rw [this]
    clear this hD
    induction D with
    | nil => rfl
    | cons a r ih => simpa using ih
  | y :: r, hy => by
    have ih := count_sum h hD r fun x hx => hy x (List.mem_cons_of_mem _ hx)
    have e : (D.map fun x => (y :: r).count x * h x) = D.map fun x => r.count x * h x + (if y = x then 1 else 0) * h x := List.map_congr_left fun x hx => by
      rw [List.count_cons, Nat.add_mul]
      by_cases c : y = x
      · simp [c]
      · simp [c]
    rw [e, sum_map_add, sum_pick h y D hD, if_pos (hy y (by simp)), List.map_cons, List.sum_cons, ih]
    omega
/-- All sizes that may be. -/
def D8 : List Nat := (List.range 8).map fun i => 16 * 2 ^ i
def D9 : List Nat := (List.range 9).map fun i => 4096 * 2 ^ i
def D17 : List Nat := D8 ++ D9
theorem D17_nodup : D17.Nodup := by decide
theorem D8_small : ∀ x ∈ D8, x < 4096 := by decide
theorem D9_large : ∀ x ∈ D9, 4096 ≤ x := by decide
theorem D9_pow {x : Nat} (h : x ∈ D9) : isP x = true := by
  obtain ⟨i, _, rfl⟩ := List.mem_map.1 h
  exact (isP_iff _).2 ⟨12 + i, by rw [Nat.pow_add]⟩
theorem mem_D17 {x : Nat} (hp : isP x = true) (h1 : 16 ≤ x) (h2 : x ≤ 1048576) : x ∈ D17 := by
  obtain ⟨i, rfl⟩ := (isP_iff _).1 hp
  have h4 : 4 ≤ i := by
    refine Nat.le_of_not_lt fun c => ?_
    have : 2 ^ i ≤ 2 ^ 3 := Nat.pow_le_pow_right (by decide) (by omega)
    omega
  have h20 : i ≤ 20 := by
    refine Nat.le_of_not_lt fun c => ?_
    have : 2 ^ 21 ≤ 2 ^ i := Nat.pow_le_pow_right (by decide) (by omega)
    omega
  by_cases c : i < 12
  · refine List.mem_append_left _ (List.mem_map.2 ⟨i - 4, List.mem_range.2 (by omega), ?_⟩)
    rw [show (16 : Nat) = 2 ^ 4 by decide, ← Nat.pow_add, show 4 + (i - 4) = i by omega]
  · refine List.mem_append_right _ (List.mem_map.2 ⟨i - 12, List.mem_range.2 (by omega), ?_⟩)
    rw [show (4096 : Nat) = 2 ^ 12 by decide, ← Nat.pow_add, show 12 + (i - 12) = i by omega]
theorem cel_D8 : ∀ i, i < 8 → celN (16 * 2 ^ i) = 2 ^ (8 - i) := by decide
/-- The pages of the greater sizes, and of the classes. -/
def bigS (s : List Nat) : Nat := (s.map fun y => if 4096 ≤ y then y / 4096 else 0).sum
def smlS (s : List Nat) (k : Nat) : Nat := ((List.range k).map fun i => upN (s.count (16 * 2 ^ i)) (2 ^ (8 - i))).sum
theorem smlS_succ (s : List Nat) (k : Nat) : smlS s (k + 1) = smlS s k + upN (s.count (16 * 2 ^ k)) (2 ^ (8 - k)) := by
  simp [smlS, List.range_succ]
theorem bigS_app (s t : List Nat) : bigS (s ++ t) = bigS s + bigS t := by simp [bigS]
theorem pgN_law {s : List Nat} (h : ∀ x ∈ s, isP x = true ∧ 16 ≤ x ∧ x ≤ 1048576) : pgN [] s = smlS s 8 + bigS s := by
  have hm : ∀ x ∈ s, x ∈ D17 := fun x hx => mem_D17 (h x hx).1 (h x hx).2.1 (h x hx).2.2
  have e1 : pgN [] s = (D17.map fun x => pN [] s x * 2 ^ ordN x).sum := by
    refine sum_over _ (nodup_ded _) D17_nodup (fun x hx => hm x ((mem_ded _ _).1 hx)) fun x hx hn => ?_
    have : s.count x = 0 := List.count_eq_zero.2 fun c => hn ((mem_ded _ _).2 c)
    rw [pN_nil, this]
    have hc : 1 ≤ celN x := by unfold celN; split <;> omega
    have : upN 0 (celN x) ≤ 0 := (upN_iff 0 (celN x) 0 hc).2 (by omega)
    rw [show upN 0 (celN x) = 0 by omega, Nat.zero_mul]
  have e2 : bigS s = (D17.map fun x => s.count x * (if 4096 ≤ x then x / 4096 else 0)).sum := count_sum (fun y => if 4096 ≤ y then y / 4096 else 0) D17_nodup s hm
  rw [e1, e2]
  unfold D17
  rw [List.map_append, List.map_append, List.sum_append, List.sum_append]
  have a1 : D8.map (fun x => pN [] s x * 2 ^ ordN x) = (List.range 8).map fun i => upN (s.count (16 * 2 ^ i)) (2 ^ (8 - i)) := by
    unfold D8
    rw [List.map_map]
    refine List.map_congr_left fun i hi => ?_
    have hi := List.mem_range.1 hi
    show pN [] s (16 * 2 ^ i) * 2 ^ ordN (16 * 2 ^ i) = _
    rw [pN_nil, cel_D8 i hi, ord_small (D8_small _ (List.mem_map.2 ⟨i, List.mem_range.2 hi, rfl⟩)), Nat.pow_zero, Nat.mul_one]
  have a2 : D9.map (fun x => pN [] s x * 2 ^ ordN x) = D9.map fun x => s.count x * (if 4096 ≤ x then x / 4096 else 0) := List.map_congr_left fun x hx => by
    have h4 := D9_large x hx
    rw [pN_nil, celN_big h4, upN_one, two_ord (D9_pow hx) h4, if_pos h4]
  have a3 : D8.map (fun x => s.count x * (if 4096 ≤ x then x / 4096 else 0)) = D8.map fun _ => 0 := List.map_congr_left fun x hx => by
    have h4 := D8_small x hx
    rw [if_neg (by omega), Nat.mul_zero]
  have a4 : (D8.map fun _ => 0).sum = 0 := by decide
  rw [a1, a2, a3, a4, Nat.zero_add]
  rfl
end Go.Proofs.Ytibljocjdlgfbaa
