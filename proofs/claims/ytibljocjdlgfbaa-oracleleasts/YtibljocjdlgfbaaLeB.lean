/- Laying cells down. -/
import Derived.Test.YtibljocjdlgfbaaLeA
namespace Go.Proofs.Ytibljocjdlgfbaa
set_option linter.unusedVariables false

theorem ded_snoc_in {l : List Nat} {x : Nat} (h : x ∈ l) : (ded (l ++ [x])).length = (ded l).length :=
  (perm_of (nodup_ded _) (nodup_ded _) fun y => by
    rw [mem_ded, mem_ded, List.mem_append, List.mem_singleton]
    exact ⟨fun o => o.elim id fun e => e ▸ h, .inl⟩).length_eq
theorem ded_snoc_out {l : List Nat} {x : Nat} (h : x ∉ l) : (ded (l ++ [x])).length = (ded l).length + 1 := by
  have := (perm_of (nodup_ded (l ++ [x])) (k := ded l ++ [x]) (by
    rw [List.nodup_append]
    refine ⟨nodup_ded _, by simp, fun a ha b hb e => ?_⟩
    rw [List.mem_singleton] at hb
    subst e hb
    exact h ((mem_ded _ _).1 ha)) fun y => by rw [mem_ded, List.mem_append, List.mem_append, mem_ded]).length_eq
  rw [List.length_append, List.length_singleton] at this
  exact this
theorem len_part_sum : ∀ (d : List Nat) (W : List Un), d.Nodup → (∀ u ∈ W, u.1 ∈ d) → W.length = (d.map fun p => (W.filter fun u => u.1 == p).length).sum
  | [], W, _, h => by
    cases W with
    | nil => rfl
    | cons u r => exact absurd (h u (by simp)) (by simp)
  | p :: d, W, hd, h => by
    obtain ⟨h1, h2⟩ := List.nodup_cons.1 hd
    have ih := len_part_sum d (W.filter fun u => !(u.1 == p)) h2 fun u hu => by
      obtain ⟨a, b⟩ := List.mem_filter.1 hu
      rcases List.mem_cons.1 (h u a) with e | e
      · simp [e] at b
      · exact e
    have e : (d.map fun q => ((W.filter fun u => !(u.1 == p)).filter fun u => u.1 == q).length) = d.map fun q => (W.filter fun u => u.1 == q).length := List.map_congr_left fun q hq => by
      rw [List.filter_filter]
      congr 1
      refine List.filter_congr fun u hu => ?_
      by_cases c : u.1 = q
      · have : ¬ u.1 = p := fun e => h1 (by rw [← e, c]; exact hq)
        simp [c]
        rw [← c]
        exact this
      · simp [c]
    rw [e] at ih
    rw [List.map_cons, List.sum_cons, ← ih, len_parts (fun u => u.1 == p) W]
/-- What is left on the pages of a size, and what is there, make up the pages. -/
theorem room_eq {V : List Un} {np : Nat} (h : SU V np) (r : Nat) : rmN V r + (unX V r).length = celN r * (pgX V r).length := by
  have e0 : (unX V r).length = ((pgX V r).map fun p => (V.filter fun u => u.1 == p).length).sum := by
    rw [len_part_sum (pgX V r) (unX V r) (nodup_ded _) fun u hu => (mem_ded _ _).2 (List.mem_map.2 ⟨u, hu, rfl⟩)]
    congr 1
    refine List.map_congr_left fun p hp => ?_
    obtain ⟨u, hu, e⟩ := List.mem_map.1 ((mem_ded _ _).1 hp)
    obtain ⟨h1, h2⟩ := List.mem_filter.1 hu
    unfold unX
    rw [List.filter_filter]
    congr 1
    refine List.filter_congr fun v hv => ?_
    by_cases c : v.1 = p
    · have := h.same hv h1 (by rw [c, e])
      simp [c, this, show u.2.2 = r by simpa using h2]
    · simp [c]
  rw [e0]
  have hb : ∀ p ∈ pgX V r, (V.filter fun u => u.1 == p).length ≤ celN r := fun p hp => by
    obtain ⟨u, hu, e⟩ := List.mem_map.1 ((mem_ded _ _).1 hp)
    obtain ⟨h1, h2⟩ := List.mem_filter.1 hu
    have := h.cnt h1
    rw [e, show u.2.2 = r by simpa using h2] at this
    exact this
  show ((pgX V r).map fun n => celN r - (V.filter fun u => u.1 == n).length).sum + _ = _
  generalize pgX V r = d at hb
  induction d with
  | nil => rfl
  | cons p d ih =>
    have ih := ih fun q hq => hb q (List.mem_cons_of_mem _ hq)
    have := hb p (by simp)
    simp only [List.map_cons, List.sum_cons, List.length_cons, Nat.mul_add, Nat.mul_one]
    omega
theorem rmN_un {V W : List Un} {np np' : Nat} (h : SU V np) (h' : SU W np') {x : Nat} (e : unX W x = unX V x) : rmN W x = rmN V x := by
  have h1 := room_eq h x
  have h2 := room_eq h' x
  have e2 : pgX W x = pgX V x := by unfold pgX; rw [e]
  rw [e2, e] at h2
  omega
theorem lay_keeps {V : List Un} {W : List Un} {o r : Nat} (h : layOk V o r = false) : layOk (V ++ W) o r = false := by
  rw [Bool.eq_false_iff] at h ⊢
  exact fun e => h (lay_mono e)

section
variable {r : Nat} (hp : isP r = true) (h16 : 16 ≤ r) (hr : r < 4096)
include hp h16 hr
theorem sml_pos (t : Nat) : r * t / 4096 = t / celN r ∧ r * t % 4096 / r = t % celN r ∧ units (r * t) r = [(t / celN r, t % celN r, r)] := by
  have hc := celN_small hp h16 (by omega)
  have e1 : r * t / 4096 = t / celN r := by rw [← hc]; exact Nat.mul_div_mul_left _ _ (by omega)
  have e2 : r * t % 4096 / r = t % celN r := by
    rw [← hc, Nat.mul_mod_mul_left]
    exact Nat.mul_div_cancel_left _ (by omega)
  refine ⟨e1, e2, ?_⟩
  unfold units
  rw [npg_small (by omega) hr]
  show [uno (r * t) r 0] = _
  unfold uno
  rw [e1, e2, Nat.add_zero]
theorem lay_sml (V : List Un) (t : Nat) : layOk V (r * t) r = true ↔ ∀ u ∈ V, u.1 = t / celN r → u.2.2 = r ∧ u.2.1 ≠ t % celN r := by
  obtain ⟨e1, e2, _⟩ := sml_pos hp h16 hr t
  rw [layOk_iff, npg_small (by omega) hr, e1, e2]
  constructor
  · intro h u hu e
    exact h 0 (by omega) u hu (by omega)
  · intro h i hi u hu e
    exact h u hu (by omega)
theorem shr_iff {base k n : Nat} {L : Bls} (h : Snl base k n L) (t : Nat) : shrB base L (base + r * t) r = true ↔ ∃ u ∈ allU base L, u.2.2 = r ∧ u.1 = t / celN r := by
  obtain ⟨e1, e2, _⟩ := sml_pos hp h16 hr t
  unfold shrB
  rw [List.any_eq_true, Nat.add_sub_cancel_left, e1]
  constructor
  · rintro ⟨b, hb, hc⟩
    simp only [Bool.and_eq_true, decide_eq_true_eq, beq_iff_eq] at hc
    refine ⟨uno (b.1 - base) b.2 0, List.mem_flatMap.2 ⟨b, hb, List.mem_map.2 ⟨0, List.mem_range.2 ?_, rfl⟩⟩, hc.1.2, ?_⟩
    · rw [hc.1.2, npg_small (by omega) hr]; omega
    · show (b.1 - base) / 4096 + 0 = _
      rw [Nat.add_zero]; exact hc.2
  · rintro ⟨u, hu, h1, h2⟩
    obtain ⟨b, hb, hub⟩ := List.mem_flatMap.1 hu
    obtain ⟨i, hi, rfl⟩ := List.mem_map.1 hub
    have hb2 : b.2 = r := h1
    have hi := List.mem_range.1 hi
    rw [hb2, npg_small (by omega) hr] at hi
    have h2 : (b.1 - base) / 4096 + i = t / celN r := h2
    refine ⟨b, hb, ?_⟩
    simp only [Bool.and_eq_true, decide_eq_true_eq, beq_iff_eq]
    exact ⟨⟨hr, hb2⟩, by omega⟩
/-- A page of that size no cell of which is free is full. -/
theorem full_page {V : List Un} {np : Nat} (h : SU V np) {u : Un} (hu : u ∈ V) (e : u.2.2 = r) (hf : ∀ q, q < celN r → layOk V (r * (celN r * u.1 + q)) r = false) : celN r ≤ (V.filter fun v => v.1 == u.1).length := by
  have hc0 := (celN_b r h16).1
  have h1 : ∀ q, q < celN r → q ∈ (V.filter fun v => v.1 == u.1).map fun v => v.2.1 := fun q hq => by
    have h2 := hf q hq
    rw [Bool.eq_false_iff, ne_eq, lay_sml hp h16 hr, Nat.mul_add_div (by omega), Nat.div_eq_of_lt hq, Nat.add_zero, Nat.mul_add_mod, Nat.mod_eq_of_lt hq] at h2
    refine Classical.byContradiction fun hc => h2 fun v hv ev => ⟨by rw [h.same hv hu ev, e], fun e2 => hc ?_⟩
    exact List.mem_map.2 ⟨v, List.mem_filter.2 ⟨hv, by simpa using ev⟩, e2⟩
  have h2 := (all_of_len (nodup_ded ((V.filter fun v => v.1 == u.1).map fun v => v.2.1)) (M := celN r) fun x hx => by
    obtain ⟨v, hv, rfl⟩ := List.mem_map.1 ((mem_ded _ _).1 hx)
    obtain ⟨a, b⟩ := List.mem_filter.1 hv
    have := (h.b v a).2.2.2.1
    rw [h.same a hu (by simpa using b), e] at this
    exact this).2 fun q hq => (mem_ded _ _).2 (h1 q hq)
  have h3 := ded_len ((V.filter fun v => v.1 == u.1).map fun v => v.2.1)
  rw [List.length_map] at h3
  omega
theorem st_sml_in {V : List Un} {t : Nat} (h : ∃ u ∈ V, u.1 = t / celN r) : stN (V ++ units (r * t) r) 1 = stN V 1 := by
  rw [(sml_pos hp h16 hr t).2.2]
  unfold stN
  rw [List.map_append]
  refine ded_snoc_in ?_
  obtain ⟨u, hu, e⟩ := h
  exact List.mem_map.2 ⟨u, hu, by rw [e]⟩
theorem st_sml_out {V : List Un} {t : Nat} (h : ¬ ∃ u ∈ V, u.1 = t / celN r) : stN (V ++ units (r * t) r) 1 = stN V 1 + 1 := by
  rw [(sml_pos hp h16 hr t).2.2]
  unfold stN
  rw [List.map_append]
  refine ded_snoc_out fun hm => h ?_
  obtain ⟨u, hu, e⟩ := List.mem_map.1 hm
  have e : u.1 / 1 = t / celN r / 1 := e
  rw [Nat.div_one, Nat.div_one] at e
  exact ⟨u, hu, e⟩
theorem un_sml (V : List Un) (t : Nat) : unX (V ++ units (r * t) r) r = unX V r ++ [(t / celN r, t % celN r, r)] := by
  rw [(sml_pos hp h16 hr t).2.2, unX_app]
  simp [unX]
theorem pg_sml_in {V : List Un} {t : Nat} (h : ∃ u ∈ V, u.2.2 = r ∧ u.1 = t / celN r) : (pgX (V ++ units (r * t) r) r).length = (pgX V r).length := by
  unfold pgX
  rw [un_sml hp h16 hr, List.map_append]
  refine ded_snoc_in ?_
  obtain ⟨u, hu, e1, e2⟩ := h
  exact List.mem_map.2 ⟨u, List.mem_filter.2 ⟨hu, by simpa using e1⟩, e2⟩
theorem pg_sml_out {V : List Un} {t : Nat} (h : ¬ ∃ u ∈ V, u.1 = t / celN r) : (pgX (V ++ units (r * t) r) r).length = (pgX V r).length + 1 := by
  unfold pgX
  rw [un_sml hp h16 hr, List.map_append]
  refine ded_snoc_out fun hm => h ?_
  obtain ⟨u, hu, e⟩ := List.mem_map.1 hm
  exact ⟨u, (List.mem_filter.1 hu).1, e⟩
theorem lay_taken (V : List Un) (t : Nat) : layOk (V ++ units (r * t) r) (r * t) r = false := by
  rw [Bool.eq_false_iff, ne_eq, lay_sml hp h16 hr, (sml_pos hp h16 hr t).2.2]
  intro h
  exact (h _ (List.mem_append_right _ (List.mem_singleton.2 rfl)) rfl).2 rfl

/-- The pass over the pages that hold some of that size. -/
structure P1S (base k n c : Nat) (L : Bls) (t : Nat) (L' : Bls) (nd : Nat) : Prop where
  sn : Snl base k n L'
  nu : (unX (allU base L') r).length + nd = (unX (allU base L) r).length + c
  st : stN (allU base L') 1 = stN (allU base L) 1
  pg : (pgX (allU base L') r).length = (pgX (allU base L) r).length
  un : ∀ x, x ≠ r → unX (allU base L') x = unX (allU base L) x
  no : 0 < nd → ∀ t', t' < t → ∀ u ∈ allU base L', u.2.2 = r → u.1 = t' / celN r → layOk (allU base L') (r * t') r = false
theorem pass1 {base k n c : Nat} {L : Bls} (h : Snl base k n L) (hk : k ≤ 8) : P1S (r := r) base k n c L (n * RS k / r) (runL base r true (L, c) (n * RS k / r)).1 (runL base r true (L, c) (n * RS k / r)).2 := by
  have hRS := RS_le k hk
  refine runL_ind (base := base) (r := r) (sh := true) (st := (L, c)) (P1S (r := r) base k n c L) (n * RS k / r) ?_ ?_ ?_ (n * RS k / r) (Nat.le_refl _)
  · exact ⟨h, rfl, rfl, rfl, fun x _ => rfl, fun _ t' ht' => absurd ht' (Nat.not_lt_zero t')⟩
  · intro t L' nd ht K hnd hst
    have hok := pos_ok (t := t) h.bm hp h16 (by omega) ht
    simp only [stpB, Bool.not_true, Bool.false_or, Bool.and_eq_true] at hst
    obtain ⟨hs1, hs2⟩ := hst
    rw [fre_lay K.sn hok, Nat.add_sub_cancel_left] at hs2
    obtain ⟨u0, hu0, eu1, eu2⟩ := (shr_iff hp h16 hr K.sn t).1 hs1
    have eA : allU base (L' ++ [(base + r * t, r)]) = allU base L' ++ units (r * t) r := by rw [allU_snoc, Nat.add_sub_cancel_left]
    refine ⟨K.sn.snoc hok (by rw [Nat.add_sub_cancel_left]; exact hs2), ?_, ?_, ?_, fun x hx => ?_, fun _ t' ht' u hu e1 e2 => ?_⟩
    · rw [eA, un_sml hp h16 hr, List.length_append, List.length_singleton]
      have := K.nu
      omega
    · rw [eA, st_sml_in hp h16 hr ⟨u0, hu0, eu2⟩, K.st]
    · rw [eA, pg_sml_in hp h16 hr ⟨u0, hu0, eu1, eu2⟩, K.pg]
    · rw [eA, unX_app, unX_units (Ne.symm hx), List.append_nil, K.un x hx]
    · rw [eA] at hu ⊢
      rcases Nat.lt_or_ge t' t with c1 | c1
      · refine lay_keeps ?_
        rcases List.mem_append.1 hu with hu | hu
        · exact K.no hnd t' c1 u hu e1 e2
        · rw [(sml_pos hp h16 hr t).2.2, List.mem_singleton] at hu
          subst hu
          exact K.no hnd t' c1 u0 hu0 eu1 (by rw [eu2]; exact e2)
      · have e : t' = t := by omega
        subst e
        exact lay_taken hp h16 hr _ _
  · intro t L' nd ht K hst
    refine ⟨K.sn, K.nu, K.st, K.pg, K.un, fun hnd t' ht' u hu e1 e2 => ?_⟩
    rcases Nat.lt_or_ge t' t with c1 | c1
    · exact K.no hnd t' c1 u hu e1 e2
    · have e : t' = t := by omega
      subst e
      have hok := pos_ok (t := t') h.bm hp h16 (by omega) ht
      have hs := hst hnd
      have h1 := (shr_iff hp h16 hr K.sn t').2 ⟨u, hu, e1, e2⟩
      simp only [stpB, h1, Bool.not_true, Bool.false_or, Bool.true_and] at hs
      rw [fre_lay K.sn hok, Nat.add_sub_cancel_left] at hs
      exact hs
theorem places (k n : Nat) : n * RS k / r = celN r * (n * 2 ^ k) := by
  have hc := celN_small hp h16 (by omega)
  rw [RS_pages, ← hc, Nat.mul_assoc]
  exact Nat.mul_div_cancel_left _ (by omega)
theorem P1S.room {base k n c nd : Nat} {L L' : Bls} (h : P1S (r := r) base k n c L (n * RS k / r) L' nd) (hk : k ≤ 8) (hnd : 0 < nd) : rmN (allU base L') r = 0 := by
  have S := h.sn.su hk
  rw [rm_iff]
  intro u hu e
  refine full_page hp h16 hr S hu e fun q hq => ?_
  have hc0 := (celN_b r h16).1
  refine h.no hnd _ ?_ u hu e ?_
  · rw [places hp h16 hr]
    have h1 := (S.b u hu).2.2.1
    have : celN r * (u.1 + 1) ≤ celN r * (n * 2 ^ k) := Nat.mul_le_mul_left _ h1
    rw [Nat.mul_add, Nat.mul_one] at this
    omega
  · rw [Nat.mul_add_div (by omega), Nat.div_eq_of_lt hq, Nat.add_zero]
/-- The pass over all places. -/
structure P2S (base k n c : Nat) (L : Bls) (t : Nat) (L' : Bls) (nd : Nat) : Prop where
  sn : Snl base k n L'
  nu : (unX (allU base L') r).length + nd = (unX (allU base L) r).length + c
  st : stN (allU base L') 1 + (pgX (allU base L) r).length = stN (allU base L) 1 + (pgX (allU base L') r).length
  pg : (pgX (allU base L) r).length ≤ (pgX (allU base L') r).length
  lt : (pgX (allU base L') r).length = (pgX (allU base L) r).length ∨ rmN (allU base L') r < celN r
  un : ∀ x, x ≠ r → unX (allU base L') x = unX (allU base L) x
  no : 0 < nd → ∀ t', t' < t → layOk (allU base L') (r * t') r = false
  fu : 0 < nd → ∀ u ∈ allU base L', u.2.2 = r → ((allU base L').filter fun v => v.1 == u.1).length < celN r → u.1 = t / celN r
/-- Where all places up to t are tried, no page but that of the next can have room. -/
theorem next_page {V : List Un} {np t : Nat} (S : SU V np) (hno : ∀ t', t' ≤ t → layOk V (r * t') r = false) {u : Un} (hu : u ∈ V) (e : u.2.2 = r) (hlt : (V.filter fun v => v.1 == u.1).length < celN r) (he : u.1 = t / celN r) : u.1 = (t + 1) / celN r := by
  have hc0 := (celN_b r h16).1
  refine Classical.byContradiction fun hne => ?_
  have hfull := full_page hp h16 hr S hu e fun q hq => ?_
  · omega
  · refine hno _ ?_
    obtain ⟨a1, a2⟩ := (div_iff (show 0 < celN r by omega)).1 he.symm
    have : t + 1 = celN r * u.1 + celN r := by
      refine Classical.byContradiction fun hc => hne ?_
      exact ((div_iff (show 0 < celN r by omega)).2 ⟨by omega, by omega⟩).symm
    omega
end
end Go.Proofs.Ytibljocjdlgfbaa
