/- Room on pages with cells: by counting, and by looking at each page. -/
import Derived.Test.YtibljocjdlgfbaaRfN
namespace Go.Proofs.Ytibljocjdlgfbaa
set_option linter.unusedVariables false

theorem sum_zero (f : Nat → Nat) : ∀ l : List Nat, (l.map f).sum = 0 ↔ ∀ x ∈ l, f x = 0
  | [] => by simp
  | a :: r => by
    rw [List.map_cons, List.sum_cons]
    have := sum_zero f r
    constructor
    · intro h x hx
      rcases List.mem_cons.1 hx with e | e
      · rw [e]; omega
      · exact this.1 (by omega) x e
    · intro h
      have h1 := h a (by simp)
      have h2 := this.2 (fun x hx => h x (List.mem_cons_of_mem _ hx))
      omega
theorem rm_iff (U : List Un) (r : Nat) : rmN U r = 0 ↔ ∀ u ∈ U, u.2.2 = r → celN r ≤ (U.filter fun v => v.1 == u.1).length := by
  unfold rmN
  rw [sum_zero]
  constructor
  · intro h u hu e
    have := h u.1 ((mem_ded _ _).2 (List.mem_map.2 ⟨u, List.mem_filter.2 ⟨hu, by simpa using e⟩, rfl⟩))
    omega
  · intro h x hx
    rw [mem_ded, List.mem_map] at hx
    obtain ⟨u, hu, rfl⟩ := hx
    obtain ⟨h1, h2⟩ := List.mem_filter.1 hu
    have := h u h1 (by simpa using h2)
    omega
theorem celN_big {r : Nat} (hr : 4096 ≤ r) : celN r = 1 := by
  unfold celN
  by_cases e : r = 4096
  · subst e; rfl
  · rw [Nat.div_eq_of_lt (by omega)]; rfl
theorem celN_small {r : Nat} (hp : isP r = true) (h16 : 16 ≤ r) (hr : r ≤ 4096) : r * celN r = 4096 := by
  obtain ⟨q, hq⟩ := pow_dvd hp isP_4096 hr
  have h1 : 4096 / r = q := by rw [hq, Nat.mul_div_cancel_left _ (by omega)]
  unfold celN
  rw [h1]
  have hq0 : ¬ q < 1 := by
    intro h
    have : q = 0 := by omega
    rw [this] at hq
    omega
  rw [if_neg hq0]
  exact hq.symm
theorem rm_big {U : List Un} {r : Nat} (hr : 4096 ≤ r) : rmN U r = 0 := by
  rw [rm_iff]
  intro u hu _
  rw [celN_big hr]
  exact List.length_pos_of_mem (List.mem_filter.2 ⟨hu, by simp⟩)

/-- The bytes of the blocks on a page. -/
def smP (base : Nat) (l : Bls) (x : Nat) : Nat := ((onP base l x).map (·.2)).sum
/-- Is there one of that size? -/
def soP (base : Nat) (l : Bls) (x r : Nat) : Bool := (onP base l x).any fun b => b.2 == r

theorem sum_same (c : Nat) : ∀ m : Bls, (∀ b ∈ m, b.2 = c) → (m.map (·.2)).sum = c * m.length
  | [], _ => by simp
  | b :: r, h => by
    rw [List.map_cons, List.sum_cons, sum_same c r (fun x hx => h x (List.mem_cons_of_mem _ hx)), h b (by simp), List.length_cons, Nat.mul_add, Nat.mul_one]
    omega
theorem Snl.onP_le {base k n : Nat} {l : Bls} (h : Snl base k n l) (hk : k ≤ 8) (x : Nat) : smP base l x ≤ 268435456 := by
  unfold smP
  have hsu := h.su hk
  cases hc : onP base l x with
  | nil => simp
  | cons b r =>
    have hb : b ∈ onP base l x := by rw [hc]; simp
    obtain ⟨u, hu, e1, e2⟩ := onP_size h hk hb
    have hsame : ∀ c ∈ onP base l x, c.2 = b.2 := fun c hc' => by
      obtain ⟨u', hu', e1', e2'⟩ := onP_size h hk hc'
      rw [← e2, ← e2']
      exact hsu.same hu' hu (by rw [e1', e1])
    rw [← hc, sum_same b.2 _ hsame, onP_cnt h x, ← e1]
    have h1 := hsu.cnt hu
    have h2 := hsu.b u hu
    have h3 := celN_b u.2.2 h2.1
    rw [← e2]
    exact Nat.le_trans (Nat.mul_le_mul h2.2.1 (show _ ≤ 256 by omega)) (by decide)

/-- Where cells of a size are left. -/
theorem Snl.room {base k n : Nat} {l : Bls} (h : Snl base k n l) (hk : k ≤ 8) {r : Nat} (hp : isP r = true) (h16 : 16 ≤ r) (hr : r < 4096) :
    rmN (allU base l) r = 0 ↔ ∀ x, x < n * 2 ^ k → ¬ (soP base l x r = true ∧ smP base l x < 4096) := by
  have hsu := h.su hk
  have hcel := celN_small hp h16 (by omega)
  have on : ∀ x, soP base l x r = true → smP base l x = r * ((allU base l).filter fun v => v.1 == x).length := by
    intro x hx
    obtain ⟨b, hb, e⟩ := List.any_eq_true.1 hx
    have e : b.2 = r := by simpa using e
    obtain ⟨u, hu, e1, e2⟩ := onP_size h hk hb
    unfold smP
    rw [sum_same r _ (fun c hc => by
      obtain ⟨u', hu', e1', e2'⟩ := onP_size h hk hc
      rw [← e, ← e2, ← e2']
      exact hsu.same hu' hu (by rw [e1', e1])), onP_cnt h x]
  rw [rm_iff]
  constructor
  · rintro hall x hx ⟨h1, h2⟩
    rw [on x h1] at h2
    obtain ⟨b, hb, e⟩ := List.any_eq_true.1 h1
    have e : b.2 = r := by simpa using e
    obtain ⟨u, hu, e1, e2⟩ := onP_size h hk hb
    have := hall u hu (by rw [e2, e])
    rw [e1] at this
    have h3 := Nat.mul_le_mul_left r this
    rw [hcel] at h3
    omega
  · intro hall u hu e
    have hx := (hsu.b u hu).2.2.1
    refine Classical.byContradiction fun hc => hall u.1 hx ?_
    obtain ⟨b, hb, hub⟩ := List.mem_flatMap.1 hu
    obtain ⟨q1, q2, _⟩ := okO_of h.bm h.nr (h.ok hb)
    have hs : soP base l u.1 r = true := by
      refine List.any_eq_true.2 ⟨b, List.mem_filter.2 ⟨hb, (meet_page q2 q1).2 (units_page.1 ⟨u, hub, rfl⟩)⟩, ?_⟩
      obtain ⟨i, _, rfl⟩ := List.mem_map.1 hub
      simpa [uno] using e
    refine ⟨hs, ?_⟩
    rw [on _ hs]
    have h3 : r * (((allU base l).filter fun v => v.1 == u.1).length + 1) ≤ r * celN r := Nat.mul_le_mul_left r (by omega)
    rw [hcel, Nat.mul_add, Nat.mul_one] at h3
    omega

theorem onP_app (base : Nat) (m : Bls) (b : Nat × Nat) (x : Nat) : onP base (m ++ [b]) x = if meetB (base + 4096 * x) 4096 b.1 b.2 = true then onP base m x ++ [b] else onP base m x := by
  unfold onP
  rw [List.filter_append, List.filter_cons, List.filter_nil]
  cases meetB (base + 4096 * x) 4096 b.1 b.2 <;> simp
theorem smP_app (base : Nat) (m : Bls) (b : Nat × Nat) (x : Nat) : smP base (m ++ [b]) x = if meetB (base + 4096 * x) 4096 b.1 b.2 = true then smP base m x + b.2 else smP base m x := by
  unfold smP
  rw [onP_app]
  split <;> simp
theorem soP_app (base : Nat) (m : Bls) (b : Nat × Nat) (x r : Nat) : soP base (m ++ [b]) x r = if meetB (base + 4096 * x) 4096 b.1 b.2 = true then (soP base m x r || b.2 == r) else soP base m x r := by
  unfold soP
  rw [onP_app]
  split <;> simp

/-- The numbers of the stretches. -/
theorem lon_facts {k n r : Nat} (hk : k ≤ 8) (hp : isP r = true) (h16 : 16 ≤ r) (hr : r ≤ RS k) : 1 ≤ lonN r ∧ (if r < 4096 then 4096 else r) = 4096 * lonN r ∧ ∃ M, n * 2 ^ k = lonN r * M ∧ n * 2 ^ k / lonN r = M := by
  unfold lonN
  by_cases c : r < 4096
  · rw [if_pos c, if_pos c]
    exact ⟨by omega, by omega, n * 2 ^ k, by omega, by omega⟩
  · rw [if_neg c, if_neg c]
    obtain ⟨q, hq⟩ := pow_dvd isP_4096 hp (by omega)
    have h1 : r / 4096 = q := by rw [hq, Nat.mul_div_cancel_left _ (by decide)]
    obtain ⟨z, hz⟩ := pow_dvd hp (isP_RS k) hr
    have h2 : 2 ^ k = q * z := by
      unfold RS at hz
      rw [hq, Nat.mul_assoc] at hz
      exact Nat.eq_of_mul_eq_mul_left (by decide) hz
    have hq0 : 1 ≤ q := by
      refine Nat.one_le_iff_ne_zero.2 fun e => ?_
      rw [e] at hq
      omega
    rw [h1]
    refine ⟨hq0, hq, n * z, by rw [h2, Nat.mul_left_comm], ?_⟩
    rw [h2, Nat.mul_left_comm, Nat.mul_div_cancel_left _ (by omega)]
end Go.Proofs.Ytibljocjdlgfbaa
