/- Where nothing fits: by counting stretches and cells, and by looking at each. -/
import Derived.Test.YtibljocjdlgfbaaRfF
import Derived.Test.YtibljocjdlgfbaaOrK
namespace Go.Proofs.Ytibljocjdlgfbaa
set_option linter.unusedVariables false

/-- A list without fault. -/
structure Snl (base k n : Nat) (l : Bls) : Prop where
  bm : base % RS k = 0
  nr : n * RS k ≤ 4194304
  gd : ∀ a, a < l.length → goodB base k n l a = true

theorem Snl.ok {base k n : Nat} {l : Bls} (h : Snl base k n l) {b : Nat × Nat} (hb : b ∈ l) : okB base k n b.1 b.2 = true := by
  obtain ⟨j, hj⟩ := List.mem_iff_getElem?.1 hb
  exact goodB_ok (p := b.1) (s := b.2) hj (h.gd j (List.getElem?_eq_some_iff.1 hj).1)
theorem goodB_take {base k n : Nat} {l : Bls} {a i : Nat} (h : a < i) : goodB base k n (l.take i) a = goodB base k n l a := by
  unfold goodB
  rw [List.getElem?_take, if_pos h, List.take_take, Nat.min_eq_left (by omega)]
theorem Snl.take {base k n : Nat} {l : Bls} (h : Snl base k n l) (i : Nat) : Snl base k n (l.take i) :=
  ⟨h.bm, h.nr, fun a ha => by
    rw [List.length_take] at ha
    rw [goodB_take (by omega)]
    exact h.gd a (by omega)⟩
theorem RS_pages (k n : Nat) : n * RS k = 4096 * (n * 2 ^ k) := by rw [RS, Nat.mul_left_comm]

/-- What is known of the cells. -/
structure SU (U : List Un) (np : Nat) : Prop where
  b : ∀ u ∈ U, 16 ≤ u.2.2 ∧ u.2.2 ≤ 1048576 ∧ u.1 < np ∧ u.2.1 < celN u.2.2 ∧ isP u.2.2 = true
  p : U.Pairwise fun u u' => u.1 = u'.1 → u'.2.2 = u.2.2 ∧ u'.2.1 ≠ u.2.1
theorem SU.nil (np : Nat) : SU [] np := ⟨(fun u h => by cases h), List.Pairwise.nil⟩

theorem units_page {o s x : Nat} : (∃ u ∈ units o s, u.1 = x) ↔ o / 4096 ≤ x ∧ x < o / 4096 + npg s := by
  constructor
  · rintro ⟨u, hu, e⟩
    obtain ⟨i, hi, rfl⟩ := List.mem_map.1 hu
    rw [List.mem_range] at hi
    simp only [uno] at e
    omega
  · rintro ⟨h1, h2⟩
    exact ⟨uno o s (x - o / 4096), List.mem_map.2 ⟨_, List.mem_range.2 (by omega), rfl⟩, by simp only [uno]; omega⟩

theorem SU.add {base k n : Nat} {U : List Un} {p s : Nat} (h : SU U (n * 2 ^ k)) (hk : k ≤ 8) (hb : base % RS k = 0) (hn : n * RS k ≤ 4194304) (hok : okB base k n p s = true) (hl : layOk U (p - base) s = true) : SU (U ++ units (p - base) s) (n * 2 ^ k) := by
  obtain ⟨f1, f2, f3, f4, f5, f6, f7, f8⟩ := okB_facts hb hn hok
  have hR := RS_le k hk
  refine ⟨fun u hu => ?_, ?_⟩
  · rcases List.mem_append.1 hu with hu | hu
    · exact h.b u hu
    · obtain ⟨i, hi, rfl⟩ := List.mem_map.1 hu
      rw [List.mem_range] at hi
      refine ⟨f2, by simp only [uno]; omega, ?_, f8, f1⟩
      rw [RS_pages] at f7
      simp only [uno]
      unfold npg at hi
      have h1 : OkO (p - base) s := ⟨f1, f2, f6⟩
      by_cases c : s < 4096
      · have := h1.small c
        omega
      · have := h1.large (by omega)
        omega
  · rw [List.pairwise_append]
    refine ⟨h.p, ?_, fun u hu u' hu' e => ?_⟩
    · unfold units uns
      rw [List.pairwise_map]
      refine List.Pairwise.imp ?_ List.pairwise_lt_range
      intro i j hij e
      simp only [uno] at e
      omega
    · obtain ⟨i, hi, rfl⟩ := List.mem_map.1 hu'
      have := (layOk_iff U (p - base) s).1 hl i (List.mem_range.1 hi) u hu e
      exact ⟨this.1.symm, fun e2 => this.2 e2.symm⟩

theorem Snl.su {base k n : Nat} {l : Bls} (h : Snl base k n l) (hk : k ≤ 8) : SU (allU base l) (n * 2 ^ k) := by
  have key : ∀ i, i ≤ l.length → SU (allU base (l.take i)) (n * 2 ^ k) := by
    intro i
    induction i with
    | zero => intro _; rw [List.take_zero]; exact SU.nil _
    | succ i ih =>
      intro hi
      have hb := List.getElem?_eq_getElem (show i < l.length by omega)
      rw [take_succ' hb, allU_app]
      have hg := h.gd i (by omega)
      unfold goodB at hg
      rw [hb] at hg
      simp only [Bool.and_eq_true] at hg
      exact (ih (by omega)).add hk h.bm h.nr hg.1 hg.2
  have := key l.length (Nat.le_refl _)
  rwa [List.take_length] at this

/-- All of them are there, if they are as many. -/
theorem all_of_len {M : Nat} {d : List Nat} (hd : d.Nodup) (hb : ∀ x ∈ d, x < M) : d.length = M ↔ ∀ t, t < M → t ∈ d := by
  constructor
  · intro hl t ht
    refine Classical.byContradiction fun h => ?_
    have := nodup_le M (t :: d) (List.nodup_cons.2 ⟨h, hd⟩) (fun x hx => by
      rcases List.mem_cons.1 hx with e | e
      · rw [e]; exact ht
      · exact hb x e)
    simp at this
    omega
  · intro h
    have := (perm_of hd (List.nodup_range (n := M)) (fun x => ⟨fun hx => List.mem_range.2 (hb x hx), fun hx => h x (List.mem_range.1 hx)⟩)).length_eq
    simpa using this

theorem stN_iff {U : List Un} {np g M : Nat} (h : SU U np) (hg : 0 < g) (hM : np = g * M) : stN U g = M ↔ ∀ t, t < M → ∃ u ∈ U, u.1 / g = t := by
  unfold stN
  rw [all_of_len (nodup_ded _) (fun x hx => by
    rw [mem_ded, List.mem_map] at hx
    obtain ⟨u, hu, rfl⟩ := hx
    have := (h.b u hu).2.2.1
    rw [Nat.div_lt_iff_lt_mul hg, Nat.mul_comm]
    omega)]
  constructor
  · intro h1 t ht
    have := h1 t ht
    rw [mem_ded, List.mem_map] at this
    exact this
  · intro h1 t ht
    rw [mem_ded, List.mem_map]
    exact h1 t ht

theorem div_iff {x g t : Nat} (hg : 0 < g) : x / g = t ↔ g * t ≤ x ∧ x < g * t + g := by
  constructor
  · rintro rfl
    have h1 := Nat.div_add_mod x g
    have h2 := Nat.mod_lt x hg
    omega
  · rintro ⟨h1, h2⟩
    exact Nat.div_eq_of_lt_le (by rw [Nat.mul_comm]; exact h1) (by rw [Nat.add_mul, Nat.one_mul, Nat.mul_comm]; exact h2)

/-- Which stretches a block meets. -/
theorem meet_iff {base p s g t : Nat} (hg : 0 < g) (hb : base ≤ p) (h : OkO (p - base) s) : meetB (base + 4096 * (g * t)) (4096 * g) p s = true ↔ ∃ u ∈ units (p - base) s, u.1 / g = t := by
  have e : (∃ u ∈ units (p - base) s, u.1 / g = t) ↔ ∃ x, (p - base) / 4096 ≤ x ∧ x < (p - base) / 4096 + npg s ∧ g * t ≤ x ∧ x < g * t + g := by
    constructor
    · rintro ⟨u, hu, e⟩
      have h1 := units_page.1 ⟨u, hu, rfl⟩
      have h2 := (div_iff hg).1 e
      exact ⟨u.1, h1.1, h1.2, h2.1, h2.2⟩
    · rintro ⟨x, h1, h2, h3, h4⟩
      obtain ⟨u, hu, e⟩ := units_page.2 ⟨h1, h2⟩
      exact ⟨u, hu, by rw [e]; exact (div_iff hg).2 ⟨h3, h4⟩⟩
  rw [e]
  simp only [meetB, Bool.and_eq_true, decide_eq_true_eq]
  have hl := h.l
  generalize g * t = G
  unfold npg
  by_cases c : s < 4096
  · obtain ⟨q1, q2⟩ := h.small c
    constructor
    · rintro ⟨h1, h2⟩
      exact ⟨(p - base) / 4096, by omega, by omega, by omega, by omega⟩
    · rintro ⟨x, h1, h2, h3, h4⟩
      omega
  · obtain ⟨q1, q2⟩ := h.large (by omega)
    constructor
    · rintro ⟨h1, h2⟩
      by_cases hc : G ≤ (p - base) / 4096
      · exact ⟨(p - base) / 4096, by omega, by omega, by omega, by omega⟩
      · exact ⟨G, by omega, by omega, by omega, by omega⟩
    · rintro ⟨x, h1, h2, h3, h4⟩
      omega

theorem takB_iff {base k n : Nat} {l : Bls} (h : Snl base k n l) {g t : Nat} (hg : 0 < g) : takB (base + 4096 * (g * t)) (4096 * g) l = true ↔ ∃ u ∈ allU base l, u.1 / g = t := by
  unfold takB allU
  rw [List.any_eq_true]
  constructor
  · rintro ⟨b, hb, hm⟩
    obtain ⟨h1, h2, _⟩ := okO_of h.bm h.nr (h.ok hb)
    obtain ⟨u, hu, e⟩ := (meet_iff hg h2 h1).1 hm
    exact ⟨u, List.mem_flatMap.2 ⟨b, hb, hu⟩, e⟩
  · rintro ⟨u, hu, e⟩
    obtain ⟨b, hb, hub⟩ := List.mem_flatMap.1 hu
    obtain ⟨h1, h2, _⟩ := okO_of h.bm h.nr (h.ok hb)
    exact ⟨b, hb, (meet_iff hg h2 h1).2 ⟨u, hub, e⟩⟩

/-- The blocks on a page. -/
def onP (base : Nat) (l : Bls) (x : Nat) : Bls := l.filter fun b => meetB (base + 4096 * x) 4096 b.1 b.2
theorem meet_page {base p s x : Nat} (hb : base ≤ p) (h : OkO (p - base) s) : meetB (base + 4096 * x) 4096 p s = true ↔ (p - base) / 4096 ≤ x ∧ x < (p - base) / 4096 + npg s := by
  have := meet_iff (g := 1) (t := x) (by decide) hb h
  rw [Nat.one_mul, Nat.mul_one] at this
  rw [this]
  simp only [Nat.div_one]
  exact units_page
theorem range_one (c x : Nat) : ∀ m, ((List.range m).filter fun i => c + i == x).length = if c ≤ x ∧ x < c + m then 1 else 0
  | 0 => by simp
  | m + 1 => by
    rw [List.range_succ, List.filter_append, List.length_append, range_one c x m]
    by_cases e : c + m = x
    · simp [e]; omega
    · simp [e]
      split <;> split <;> omega
theorem units_cnt (o s x : Nat) : ((units o s).filter fun u => u.1 == x).length = if o / 4096 ≤ x ∧ x < o / 4096 + npg s then 1 else 0 := by
  unfold units uns
  rw [List.filter_map, List.length_map]
  exact range_one (o / 4096) x (npg s)
theorem onP_cnt {base k n : Nat} {l : Bls} (h : Snl base k n l) (x : Nat) : (onP base l x).length = ((allU base l).filter fun u => u.1 == x).length := by
  have key : ∀ m : Bls, (∀ b ∈ m, b ∈ l) → (onP base m x).length = ((allU base m).filter fun u => u.1 == x).length := by
    intro m
    induction m with
    | nil => intro _; rfl
    | cons b r ih =>
      intro hm
      have hr := ih (fun c hc => hm c (List.mem_cons_of_mem _ hc))
      obtain ⟨h1, h2, _⟩ := okO_of h.bm h.nr (h.ok (hm b (by simp)))
      have hu := units_cnt (b.1 - base) b.2 x
      have hmp := meet_page (x := x) h2 h1
      unfold onP at hr ⊢
      have e : allU base (b :: r) = units (b.1 - base) b.2 ++ allU base r := by simp [allU]
      rw [e, List.filter_append, List.length_append, hu, ← hr, List.filter_cons]
      by_cases c : (b.1 - base) / 4096 ≤ x ∧ x < (b.1 - base) / 4096 + npg b.2
      · rw [if_pos (hmp.2 c), if_pos c, List.length_cons]; omega
      · rw [if_neg (fun e => c (hmp.1 e)), if_neg c]; omega
  exact key l (fun _ h => h)
theorem onP_size {base k n : Nat} {l : Bls} (h : Snl base k n l) (hk : k ≤ 8) {x : Nat} {b : Nat × Nat} (hb : b ∈ onP base l x) : ∃ u ∈ allU base l, u.1 = x ∧ u.2.2 = b.2 := by
  obtain ⟨h1, h2⟩ := List.mem_filter.1 hb
  obtain ⟨q1, q2, _⟩ := okO_of h.bm h.nr (h.ok h1)
  obtain ⟨u, hu, e⟩ := units_page.2 ((meet_page q2 q1).1 h2)
  refine ⟨u, List.mem_flatMap.2 ⟨b, h1, hu⟩, e, ?_⟩
  obtain ⟨i, _, rfl⟩ := List.mem_map.1 hu
  rfl
theorem SU.same {U : List Un} {np : Nat} (h : SU U np) {u u' : Un} (hu : u ∈ U) (hu' : u' ∈ U) (e : u.1 = u'.1) : u.2.2 = u'.2.2 := by
  by_cases he : u = u'
  · rw [he]
  · have hp := h.p
    rcases List.getElem_of_mem hu with ⟨i, hi, rfl⟩
    rcases List.getElem_of_mem hu' with ⟨j, hj, rfl⟩
    rcases Nat.lt_trichotomy i j with hij | hij | hij
    · exact ((List.pairwise_iff_getElem.1 hp i j hi hj hij e).1).symm
    · subst hij; rfl
    · exact (List.pairwise_iff_getElem.1 hp j i hj hi hij e.symm).1
theorem SU.cnt {U : List Un} {np : Nat} (h : SU U np) {u : Un} (hu : u ∈ U) : (U.filter fun v => v.1 == u.1).length ≤ celN u.2.2 := by
  have hn : ((U.filter fun v => v.1 == u.1).map fun v => v.2.1).Nodup := by
    have hp := h.p.filter (fun v => v.1 == u.1)
    refine List.pairwise_map.2 (List.Pairwise.imp_of_mem ?_ hp)
    intro a b ha hb hab e
    have ea : a.1 = u.1 := by simpa using (List.mem_filter.1 ha).2
    have eb : b.1 = u.1 := by simpa using (List.mem_filter.1 hb).2
    exact (hab (by rw [ea, eb])).2 e.symm
  have := nodup_le (celN u.2.2) _ hn (fun x hx => by
    obtain ⟨v, hv, rfl⟩ := List.mem_map.1 hx
    obtain ⟨h1, h2⟩ := List.mem_filter.1 hv
    have e : v.1 = u.1 := by simpa using h2
    have := (h.b v h1).2.2.2.1
    rw [h.same h1 hu e] at this
    exact this)
  simpa using this
end Go.Proofs.Ytibljocjdlgfbaa
