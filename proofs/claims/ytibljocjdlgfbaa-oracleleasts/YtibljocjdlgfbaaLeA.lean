/- Laying blocks down, as a function; the greater sizes. -/
import Derived.Test.YtibljocjdlgfbaaPaB
import Derived.Test.YtibljocjdlgfbaaBoA
namespace Go.Proofs.Ytibljocjdlgfbaa
set_option linter.unusedVariables false

/-- Is there one of its size on its page? -/
def shrB (base : Nat) (L : Bls) (p s : Nat) : Bool := L.any fun b => decide (s < 4096) && (b.2 == s) && ((b.1 - base) / 4096 == (p - base) / 4096)
/-- Can it stand there? -/
def freB (base : Nat) (L : Bls) (p s : Nat) : Bool := L.all fun b => !confB base b.1 b.2 p s
def stpB (base r : Nat) (sh : Bool) (L : Bls) (t : Nat) : Bool := (!sh || shrB base L (base + r * t) r) && freB base L (base + r * t) r
/-- What one pass over the places leaves: the blocks, and how many are still to be laid. -/
def runL (base r : Nat) (sh : Bool) (st : Bls × Nat) : Nat → Bls × Nat
  | 0 => st
  | t + 1 => if 0 < (runL base r sh st t).2 ∧ stpB base r sh (runL base r sh st t).1 t = true then ((runL base r sh st t).1 ++ [(base + r * t, r)], (runL base r sh st t).2 - 1) else runL base r sh st t
/-- Both passes. -/
def lay1 (base r T : Nat) (L : Bls) (c : Nat) : Bls × Nat := runL base r false (runL base r true (L, c) T) T
/-- Can all sizes of m sorts be laid, the greatest first? -/
def laidG (base h : Nat) (sz : List Nat) : Nat → Bls → Bool
  | 0, _ => true
  | m + 1, L => decide ((lay1 base (2 ^ (4 + m)) (h / 2 ^ (4 + m)) L (sz.count (2 ^ (4 + m)))).2 = 0) && laidG base h sz m (lay1 base (2 ^ (4 + m)) (h / 2 ^ (4 + m)) L (sz.count (2 ^ (4 + m)))).1

theorem runL_ind {base r : Nat} {sh : Bool} {st : Bls × Nat} (P : Nat → Bls → Nat → Prop) (T : Nat) (h0 : P 0 st.1 st.2)
    (h1 : ∀ t L nd, t < T → P t L nd → 0 < nd → stpB base r sh L t = true → P (t + 1) (L ++ [(base + r * t, r)]) (nd - 1))
    (h2 : ∀ t L nd, t < T → P t L nd → (0 < nd → stpB base r sh L t = false) → P (t + 1) L nd) :
    ∀ t, t ≤ T → P t (runL base r sh st t).1 (runL base r sh st t).2
  | 0, _ => h0
  | t + 1, ht => by
    have ih := runL_ind P T h0 h1 h2 t (by omega)
    simp only [runL]
    split
    · rename_i c
      exact h1 t _ _ (by omega) ih c.1 c.2
    · rename_i c
      refine h2 t _ _ (by omega) ih fun hnd => ?_
      rw [Bool.eq_false_iff]
      exact fun e => c ⟨hnd, e⟩
theorem runL_done {base r : Nat} {sh : Bool} {st : Bls × Nat} {t : Nat} (h : (runL base r sh st t).2 = 0) : ∀ i, runL base r sh st (t + i) = runL base r sh st t
  | 0 => rfl
  | i + 1 => by
    have ih := runL_done h i
    rw [← Nat.add_assoc]
    simp only [runL]
    rw [ih, if_neg (by omega)]

theorem conf_symm {base p s p' s' : Nat} : confB base p s p' s' = confB base p' s' p s := by
  simp only [confB, meetB]
  rw [Bool.eq_iff_iff]
  simp only [Bool.or_eq_true, Bool.and_eq_true, decide_eq_true_eq]
  constructor
  · rintro (⟨a, b⟩ | ⟨⟨⟨a, b⟩, c⟩, d⟩)
    · exact .inl ⟨b, a⟩
    · exact .inr ⟨⟨⟨b, a⟩, Ne.symm c⟩, d.symm⟩
  · rintro (⟨a, b⟩ | ⟨⟨⟨a, b⟩, c⟩, d⟩)
    · exact .inl ⟨b, a⟩
    · exact .inr ⟨⟨⟨b, a⟩, Ne.symm c⟩, d.symm⟩
theorem fre_lay {base k n : Nat} {L : Bls} (h : Snl base k n L) {p s : Nat} (hok : okB base k n p s = true) : freB base L p s = layOk (allU base L) (p - base) s := by
  obtain ⟨h1, h2, _⟩ := okO_of h.bm h.nr hok
  rw [Bool.eq_iff_iff, layOk_clash, freB, List.all_eq_true]
  constructor
  · intro g b hb hc
    obtain ⟨q1, q2, _⟩ := okO_of h.bm h.nr (h.ok hb)
    have := g b hb
    rw [conf_symm, (conf_iff h2 q2 h1 q1).2 hc] at this
    cases this
  · intro g b hb
    obtain ⟨q1, q2, _⟩ := okO_of h.bm h.nr (h.ok hb)
    cases hc : confB base b.1 b.2 p s with
    | false => rfl
    | true =>
      rw [conf_symm] at hc
      exact absurd ((conf_iff h2 q2 h1 q1).1 hc) (g b hb)
theorem Snl.snoc {base k n : Nat} {L : Bls} (h : Snl base k n L) {p s : Nat} (hok : okB base k n p s = true) (hl : layOk (allU base L) (p - base) s = true) : Snl base k n (L ++ [(p, s)]) := by
  refine ⟨h.bm, h.nr, fun a ha => ?_⟩
  have ht : (L ++ [(p, s)]).take L.length = L := List.take_left' rfl
  rcases Nat.lt_or_ge a L.length with c | c
  · rw [← goodB_take c, ht]
    exact h.gd a c
  · have e : a = L.length := by rw [List.length_append, List.length_singleton] at ha; omega
    subst e
    unfold goodB
    rw [List.getElem?_append_right (Nat.le_refl _), Nat.sub_self, ht]
    simp [hok, hl]
theorem pos_ok {base k n r t : Nat} (hb : base % RS k = 0) (hp : isP r = true) (h16 : 16 ≤ r) (hr : r ≤ RS k) (ht : t < n * RS k / r) : okB base k n (base + r * t) r = true := by
  have hd := pow_dvd hp (isP_RS k) hr
  have hm : (base + r * t) % r = 0 := by
    rw [Nat.add_mul_mod_self_left]
    exact Nat.mod_eq_zero_of_dvd (Nat.dvd_trans hd (Nat.dvd_of_mod_eq_zero hb))
  have hlt : r * t < n * RS k := by
    rw [Nat.mul_comm]
    have := (Nat.lt_div_iff_mul_lt (by omega)).1 ht
    omega
  have hlt2 : base + r * t - base < n * RS k := by omega
  simp only [okB, szB, hp, Bool.true_and, Bool.and_eq_true, decide_eq_true_eq]
  exact ⟨⟨⟨⟨h16, hr⟩, hm⟩, by omega⟩, hlt2⟩
theorem allU_snoc (base : Nat) (L : Bls) (p s : Nat) : allU base (L ++ [(p, s)]) = allU base L ++ units (p - base) s := by simp [allU]
theorem lay_mono {V W : List Un} {o s : Nat} (h : layOk (V ++ W) o s = true) : layOk V o s = true :=
  (layOk_iff _ _ _).2 fun i hi u hu e => (layOk_iff _ _ _).1 h i hi u (List.mem_append_left _ hu) e
theorem unX_app (V W : List Un) (x : Nat) : unX (V ++ W) x = unX V x ++ unX W x := by simp [unX]
theorem unX_units {o s x : Nat} (h : s ≠ x) : unX (units o s) x = [] := by
  unfold unX
  refine List.filter_eq_nil_iff.2 fun u hu => ?_
  obtain ⟨i, hi, rfl⟩ := List.mem_map.1 hu
  simpa [uno] using h

/- The greater sizes. -/
theorem npg_mul (g : Nat) : npg (4096 * g) = g := by unfold npg; omega
theorem lay_big {V : List Un} {np : Nat} (h : SU V np) {g t : Nat} (hg : 0 < g) : layOk V (4096 * g * t) (4096 * g) = true ↔ ∀ u ∈ V, u.1 / g ≠ t := by
  have e1 : 4096 * g * t / 4096 = g * t := by rw [Nat.mul_assoc]; exact Nat.mul_div_cancel_left _ (by decide)
  have e2 : 4096 * g * t % 4096 = 0 := by rw [Nat.mul_assoc]; exact Nat.mul_mod_right _ _
  rw [layOk_iff, npg_mul, e1, e2, Nat.zero_div]
  constructor
  · intro hl u hu e
    obtain ⟨a, b⟩ := (div_iff hg).1 e
    obtain ⟨c1, c2⟩ := hl (u.1 - g * t) (by omega) u hu (by omega)
    have := (h.b u hu).2.2.2.1
    rw [c1, celN_big (by omega)] at this
    omega
  · intro hl i hi u hu e
    exact absurd ((div_iff hg).2 ⟨by omega, by omega⟩) (hl u hu)
theorem st_add {V : List Un} {g' d t : Nat} (hg : 0 < g') (hd : 0 < d) (hu : ∀ u ∈ V, u.1 / (g' * d) ≠ t) : stN (V ++ units (4096 * (g' * d) * t) (4096 * (g' * d))) g' = stN V g' + d := by
  have e1 : 4096 * (g' * d) * t / 4096 = g' * (d * t) := by rw [Nat.mul_assoc, Nat.mul_div_cancel_left _ (by decide), Nat.mul_assoc]
  have hp : (ded ((V ++ units (4096 * (g' * d) * t) (4096 * (g' * d))).map fun u => u.1 / g')).Perm (ded (V.map fun u => u.1 / g') ++ (List.range d).map (d * t + ·)) := by
    refine perm_of (nodup_ded _) ?_ fun x => ?_
    · rw [List.nodup_append]
      refine ⟨nodup_ded _, ?_, fun a ha b hb e => ?_⟩
      · rw [List.Nodup, List.pairwise_map]
        exact List.nodup_range.imp fun {a b} hab e => hab (by omega)
      · subst e
        obtain ⟨u, h1, h2⟩ := List.mem_map.1 ((mem_ded _ _).1 ha)
        obtain ⟨q, h3, h4⟩ := List.mem_map.1 hb
        have h3 := List.mem_range.1 h3
        refine hu u h1 ?_
        rw [← Nat.div_div_eq_div_mul, h2, ← h4]
        exact (div_iff hd).2 ⟨by omega, by omega⟩
    · rw [mem_ded, List.map_append, List.mem_append, List.mem_append, mem_ded]
      refine or_congr Iff.rfl ?_
      constructor
      · intro hx
        obtain ⟨u, hu', rfl⟩ := List.mem_map.1 hx
        obtain ⟨i, hi, rfl⟩ := List.mem_map.1 hu'
        have hi := List.mem_range.1 hi
        rw [npg_mul] at hi
        refine List.mem_map.2 ⟨i / g', List.mem_range.2 (Nat.div_lt_of_lt_mul hi), ?_⟩
        show d * t + i / g' = (4096 * (g' * d) * t / 4096 + i) / g'
        rw [e1, Nat.mul_add_div hg]
      · intro hx
        obtain ⟨q, hq, rfl⟩ := List.mem_map.1 hx
        have hq := List.mem_range.1 hq
        refine List.mem_map.2 ⟨uno (4096 * (g' * d) * t) (4096 * (g' * d)) (g' * q), List.mem_map.2 ⟨g' * q, List.mem_range.2 ?_, rfl⟩, ?_⟩
        · rw [npg_mul]
          exact Nat.mul_lt_mul_of_pos_left hq hg
        · show (4096 * (g' * d) * t / 4096 + g' * q) / g' = d * t + q
          rw [e1, ← Nat.mul_add, Nat.mul_div_cancel_left _ hg]
  have := hp.length_eq
  rw [List.length_append, List.length_map, List.length_range] at this
  exact this
theorem stN_le_np {V : List Un} {np g T : Nat} (h : SU V np) (hg : 0 < g) (hT : np = g * T) : stN V g ≤ T := by
  refine nodup_le T _ (nodup_ded _) fun x hx => ?_
  obtain ⟨u, hu, rfl⟩ := List.mem_map.1 ((mem_ded _ _).1 hx)
  have := (h.b u hu).2.2.1
  rw [hT] at this
  exact Nat.div_lt_of_lt_mul this
theorem run_sh_big {base r : Nat} (hr : 4096 ≤ r) (st : Bls × Nat) : ∀ t, runL base r true st t = st
  | 0 => rfl
  | t + 1 => by
    have ih := run_sh_big (base := base) hr st t
    simp only [runL]
    rw [ih, if_neg]
    rintro ⟨_, h⟩
    have h4 : ¬ r < 4096 := by omega
    simp [stpB, shrB, h4] at h
/-- What laying blocks of one greater size does. -/
structure BgS (base k n g c : Nat) (L : Bls) (p : Bls × Nat) : Prop where
  sn : Snl base k n p.1
  un : ∀ x, x < 4096 → unX (allU base p.1) x = unX (allU base L) x
  ok : p.2 = 0 → (∀ g' d, g' * d = g → stN (allU base p.1) g' = stN (allU base L) g' + c * d) ∧ stN (allU base L) g + c ≤ n * 2 ^ k / g
  no : 0 < p.2 → n * 2 ^ k / g < stN (allU base L) g + c
theorem big_step {base k n g c T : Nat} {L : Bls} (h : Snl base k n L) (hk : k ≤ 8) (hg : isP g = true) (hg0 : 0 < g) (hgk : 4096 * g ≤ RS k) (hT : n * 2 ^ k = g * T) : BgS base k n g c L (lay1 base (4096 * g) (n * RS k / (4096 * g)) L c) := by
  have hpr : isP (4096 * g) = true := by
    obtain ⟨i, rfl⟩ := (isP_iff _).1 hg
    exact (isP_iff _).2 ⟨12 + i, by rw [Nat.pow_add]⟩
  have hTT : n * RS k / (4096 * g) = T := by
    rw [RS_pages, hT, ← Nat.mul_assoc]
    exact Nat.mul_div_cancel_left _ (by omega)
  have hTd : n * 2 ^ k / g = T := by rw [hT]; exact Nat.mul_div_cancel_left _ hg0
  unfold lay1
  rw [run_sh_big (by omega)]
  have key := runL_ind (base := base) (r := 4096 * g) (sh := false) (st := (L, c)) (fun t L' nd => Snl base k n L' ∧ (∀ x, x < 4096 → unX (allU base L') x = unX (allU base L) x) ∧ (∃ a, a + nd = c ∧ ∀ g' d, g' * d = g → stN (allU base L') g' = stN (allU base L) g' + a * d) ∧ (0 < nd → ∀ t', t' < t → ∃ u ∈ allU base L', u.1 / g = t')) (n * RS k / (4096 * g)) ?_ ?_ ?_ (n * RS k / (4096 * g)) (Nat.le_refl _)
  · generalize runL base (4096 * g) false (L, c) (n * RS k / (4096 * g)) = p at key
    obtain ⟨k1, k2, ⟨a, k3, k4⟩, k5⟩ := key
    have S := k1.su hk
    refine ⟨k1, k2, fun h0 => ?_, fun h0 => ?_⟩
    · have ha : a = c := by omega
      subst ha
      refine ⟨k4, ?_⟩
      rw [hTd]
      have := stN_le_np S hg0 hT
      rw [k4 g 1 (Nat.mul_one g), Nat.mul_one] at this
      exact this
    · have h1 := (stN_iff S hg0 hT).2 fun t ht => k5 h0 t (by rw [hTT]; exact ht)
      rw [k4 g 1 (Nat.mul_one g), Nat.mul_one] at h1
      rw [hTd]
      omega
  · exact ⟨h, fun x hx => rfl, ⟨0, Nat.zero_add c, fun g' d _ => by rw [Nat.zero_mul, Nat.add_zero]⟩, fun _ t' ht' => absurd ht' (Nat.not_lt_zero t')⟩
  · rintro t L' nd ht ⟨k1, k2, ⟨a, k3, k4⟩, k5⟩ hnd hst
    have hok := pos_ok (t := t) h.bm hpr (by omega) hgk ht
    simp only [stpB, Bool.not_false, Bool.true_or, Bool.true_and] at hst
    rw [fre_lay k1 hok, Nat.add_sub_cancel_left] at hst
    have hun := (lay_big (k1.su hk) hg0).1 hst
    refine ⟨k1.snoc hok (by rw [Nat.add_sub_cancel_left]; exact hst), fun x hx => ?_, ⟨a + 1, by omega, fun g' d e => ?_⟩, fun _ t' ht' => ?_⟩
    · rw [allU_snoc, unX_app, unX_units (by omega), List.append_nil, k2 x hx]
    · rw [allU_snoc, Nat.add_sub_cancel_left]
      have hd0 : 0 < d := Nat.pos_of_ne_zero fun e2 => by rw [e2, Nat.mul_zero] at e; omega
      have hg' : 0 < g' := Nat.pos_of_ne_zero fun e2 => by rw [e2, Nat.zero_mul] at e; omega
      subst e
      rw [st_add hg' hd0 hun, k4 g' d rfl, Nat.add_mul, Nat.one_mul, Nat.add_assoc]
    · rw [allU_snoc, Nat.add_sub_cancel_left]
      rcases Nat.lt_or_ge t' t with c1 | c1
      · obtain ⟨u, hu, e⟩ := k5 hnd t' c1
        exact ⟨u, List.mem_append_left _ hu, e⟩
      · have e : t' = t := by omega
        subst e
        refine ⟨uno (4096 * g * t') (4096 * g) 0, List.mem_append_right _ (List.mem_map.2 ⟨0, List.mem_range.2 (by rw [npg_mul]; exact hg0), rfl⟩), ?_⟩
        show (4096 * g * t' / 4096 + 0) / g = t'
        rw [Nat.mul_assoc, Nat.mul_div_cancel_left _ (by decide), Nat.add_zero, Nat.mul_div_cancel_left _ hg0]
  · rintro t L' nd ht ⟨k1, k2, k3, k5⟩ hst
    refine ⟨k1, k2, k3, fun hnd t' ht' => ?_⟩
    rcases Nat.lt_or_ge t' t with c1 | c1
    · exact k5 hnd t' c1
    · have e : t' = t := by omega
      subst e
      have hok := pos_ok (t := t') h.bm hpr (by omega) hgk ht
      have hs := hst hnd
      simp only [stpB, Bool.not_false, Bool.true_or, Bool.true_and] at hs
      rw [fre_lay k1 hok, Nat.add_sub_cancel_left, Bool.eq_false_iff, ne_eq, lay_big (k1.su hk) hg0] at hs
      refine Classical.byContradiction fun hc => hs fun u hu e => hc ⟨u, hu, e⟩
end Go.Proofs.Ytibljocjdlgfbaa
