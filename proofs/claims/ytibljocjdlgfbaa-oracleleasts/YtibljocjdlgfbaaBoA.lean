/- The bound on fragmentation: the bytes of blocks, by their cells. -/
import Derived.Test.YtibljocjdlgfbaaRiA
import Derived.Test.YtibljocjdlgfbaaOrQ
namespace Go.Proofs.Ytibljocjdlgfbaa
set_option linter.unusedVariables false

/-- All bytes of blocks. -/
def totN (l : Bls) : Nat := (l.map (·.2)).sum
/-- The bytes that a block has on one page. -/
def wtU (u : Un) : Nat := if u.2.2 < 4096 then u.2.2 else 4096
def wtS (U : List Un) : Nat := (U.map wtU).sum
theorem wtS_app (U V : List Un) : wtS (U ++ V) = wtS U + wtS V := by simp [wtS]
theorem wtS_uns (o s : Nat) : ∀ m, wtS (uns o s m) = m * (if s < 4096 then s else 4096)
  | 0 => by simp [wtS, uns]
  | m + 1 => by
    rw [uns_succ, wtS_app, wtS_uns o s m, Nat.add_mul, Nat.one_mul]
    rfl
theorem units_wt {o s : Nat} (h : OkO o s) : wtS (units o s) = s := by
  unfold units
  rw [wtS_uns]
  have h16 := h.l
  unfold npg
  by_cases c : s < 4096
  · rw [if_pos c, show (s + 4095) / 4096 = 1 by omega, Nat.one_mul]
  · rw [if_neg c]
    have := (h.large (by omega)).2
    omega
theorem Snl.okO {base k n : Nat} {l : Bls} (h : Snl base k n l) {b : Nat × Nat} (hb : b ∈ l) : OkO (b.1 - base) b.2 := (okO_of h.bm h.nr (h.ok hb)).1
theorem tot_wt (base : Nat) : ∀ l : Bls, (∀ b ∈ l, OkO (b.1 - base) b.2) → totN l = wtS (allU base l)
  | [], _ => rfl
  | b :: r, h => by
    have ih := tot_wt base r fun x hx => h x (List.mem_cons_of_mem _ hx)
    have e : allU base (b :: r) = units (b.1 - base) b.2 ++ allU base r := rfl
    rw [e, wtS_app, units_wt (h b (by simp)), ← ih]
    simp [totN]
theorem wtS_ge (c : Nat) : ∀ U : List Un, (∀ u ∈ U, c ≤ wtU u) → c * U.length ≤ wtS U
  | [], _ => by simp
  | u :: r, h => by
    have ih := wtS_ge c r fun x hx => h x (List.mem_cons_of_mem _ hx)
    have h1 := h u (by simp)
    simp only [wtS, List.map_cons, List.sum_cons, List.length_cons, Nat.mul_add, Nat.mul_one] at ih ⊢
    omega
theorem wtS_le (c : Nat) : ∀ U : List Un, (∀ u ∈ U, wtU u ≤ c) → wtS U ≤ c * U.length
  | [], _ => by simp [wtS]
  | u :: r, h => by
    have ih := wtS_le c r fun x hx => h x (List.mem_cons_of_mem _ hx)
    have h1 := h u (by simp)
    simp only [wtS, List.map_cons, List.sum_cons, List.length_cons, Nat.mul_add, Nat.mul_one] at ih ⊢
    omega
theorem ded_len : ∀ l : List Nat, (ded l).length ≤ l.length
  | [] => by simp [ded]
  | a :: r => by
    have := ded_len r
    unfold ded
    split
    · rw [List.length_cons]; omega
    · rw [List.length_cons, List.length_cons]; omega
/-- The cells, page by page. -/
theorem wtS_split (p : Nat) : ∀ U : List Un, wtS U = wtS (U.filter fun u => u.1 == p) + wtS (U.filter fun u => u.1 != p)
  | [] => by simp [wtS]
  | u :: r => by
    have ih := wtS_split p r
    by_cases c : u.1 = p
    · rw [List.filter_cons_of_pos (by simp [c]), List.filter_cons_of_neg (by simp [c])]
      simp only [wtS, List.map_cons, List.sum_cons] at ih ⊢
      omega
    · rw [List.filter_cons_of_neg (by simp [c]), List.filter_cons_of_pos (by simp [c])]
      simp only [wtS, List.map_cons, List.sum_cons] at ih ⊢
      omega
theorem wtS_pages (c : Nat) : ∀ (d : List Nat) (U : List Un), d.Nodup → (∀ p ∈ d, c ≤ wtS (U.filter fun u => u.1 == p)) → c * d.length ≤ wtS U
  | [], U, _, _ => by simp
  | p :: d, U, hd, h => by
    obtain ⟨h1, h2⟩ := List.nodup_cons.1 hd
    have ih := wtS_pages c d (U.filter fun u => u.1 != p) h2 fun q hq => by
      have e : (U.filter fun u => u.1 != p).filter (fun u => u.1 == q) = U.filter fun u => u.1 == q := by
        rw [List.filter_filter]
        refine List.filter_congr fun u hu => ?_
        by_cases c : u.1 = q
        · have : u.1 ≠ p := fun e => h1 (by rw [← e, c]; exact hq)
          simp [c]
          rw [← c]
          exact this
        · simp [c]
      rw [e]
      exact h q (List.mem_cons_of_mem _ hq)
    have h3 := h p (by simp)
    have h4 := wtS_split p U
    rw [List.length_cons, Nat.mul_add, Nat.mul_one]
    omega
theorem SU.len {U : List Un} {np : Nat} (h : SU U np) (hn : np ≤ 1024) : U.length ≤ 262144 := by
  have h1 : (U.map fun u => u.1 * 256 + u.2.1).Nodup := by
    rw [List.Nodup, List.pairwise_map]
    refine h.p.imp_of_mem fun {u v} hu hv huv e => ?_
    have hu' := h.b u hu
    have hv' := h.b v hv
    have cu := (celN_b u.2.2 hu'.1).2
    have cv := (celN_b v.2.2 hv'.1).2
    have e1 : u.1 = v.1 := by omega
    exact (huv e1).2 (by omega)
  have h2 := nodup_le 262144 _ h1 fun x hx => by
    obtain ⟨u, hu, rfl⟩ := List.mem_map.1 hx
    have hu' := h.b u hu
    have cu := (celN_b u.2.2 hu'.1).2
    omega
  rw [List.length_map] at h2
  exact h2
theorem SU.wt16 {U : List Un} {np : Nat} (h : SU U np) {u : Un} (hu : u ∈ U) : 16 ≤ wtU u ∧ wtU u ≤ 4096 := by
  have := (h.b u hu).1
  unfold wtU
  split <;> omega
theorem pow_32 {x : Nat} (hp : isP x = true) (h : 16 ≤ x) (hn : x ≠ 16) : 32 ≤ x := by
  obtain ⟨i, rfl⟩ := (isP_iff _).1 hp
  have h4 : 4 < i := by
    refine Nat.lt_of_not_le fun c => hn ?_
    have : 2 ^ i ≤ 2 ^ 4 := Nat.pow_le_pow_right (by decide) c
    omega
  have := Nat.pow_le_pow_right (n := 2) (by decide) (show 5 ≤ i by omega)
  omega
theorem wtS_mem {u : Un} : ∀ {V : List Un}, u ∈ V → wtU u ≤ wtS V
  | [], h => by cases h
  | v :: V, h => by
    have e : wtS (v :: V) = wtU v + wtS V := rfl
    rw [e]
    rcases List.mem_cons.1 h with c | c
    · rw [c]; omega
    · have := wtS_mem c; omega
/-- What the bound says: T4's two sides. -/
structure BdF (r : Nat) (k n t : Nat) (l : Bls) : Prop where
  cB : bdC r ≤ 1048576
  hB : n * RS k ≤ 4194304
  tB : t ≤ 1073741824
  b1 : bdM r * (n * RS k) ≤ bdC r * t
  b2 : (∀ b ∈ l, 4096 ≤ b.2) → 4096 * (n * RS k) ≤ bdC r * t
theorem nof_bound {base : Nat} {lim ord n : Int} {l : Bls} {r : Nat} (hV : nofV base lim ord n l r = true) : ∃ k m : Nat, k ≤ 8 ∧ m ≤ 64 ∧ ord = (k : Int) ∧ n = (m : Int) ∧ BdF r k m (totN l) l := by
  obtain ⟨h1, h2, h3, h5⟩ := nofV_facts hV
  obtain ⟨k, m, L, rfl, rfl, rfl, hk8, hL1, hL64, hrL, hLR, hb0, hbm, hbe⟩ := mayR_facts h1
  have hmR : m * RS k ≤ 4194304 := Nat.le_trans (Nat.mul_le_mul_right _ hrL) hLR
  rw [Int.toNat_natCast, Int.toNat_natCast] at h2 h5
  rw [Int.toNat_natCast] at h3
  have Sn := Snl.of' hbm hmR h2
  have S := Sn.su hk8
  obtain ⟨a1, a2, a3⟩ := szB_iff.1 h3
  obtain ⟨f1, f2, M, f3, f4⟩ := lon_facts (n := m) hk8 a1 a2 a3
  have hT := tot_wt base l fun b hb => Sn.okO hb
  have hnp : m * 2 ^ k ≤ 1024 := by
    rw [RS_pages] at hmR
    omega
  have hlen := S.len hnp
  simp only [fitU, Bool.and_eq_true, beq_iff_eq] at h5
  rw [f4] at h5
  obtain ⟨g1, g2⟩ := h5
  have hst : M ≤ (allU base l).length := by
    have := ded_len ((allU base l).map fun u => u.1 / lonN r)
    rw [List.length_map] at this
    unfold stN at g1
    omega
  have hc : bdC r = 4096 * lonN r := f2
  have key : ∀ w, w * M ≤ totN l → w * (m * RS k) ≤ bdC r * totN l := fun w hw => by
    rw [RS_pages, f3, hc, Nat.mul_left_comm w 4096, Nat.mul_left_comm w (lonN r), Nat.mul_assoc 4096]
    exact Nat.mul_le_mul_left _ (Nat.mul_le_mul_left _ hw)
  refine ⟨k, m, hk8, by omega, rfl, rfl, ?_, hmR, ?_, ?_, ?_⟩
  · have := RS_le k hk8
    unfold bdC
    split <;> omega
  · rw [hT]
    exact Nat.le_trans (wtS_le 4096 _ fun u hu => (S.wt16 hu).2) (Nat.le_trans (Nat.mul_le_mul_left 4096 hlen) (by decide))
  · refine key _ ?_
    unfold bdM
    split
    · rename_i e
      subst e
      have hl1 : lonN 16 = 1 := rfl
      rw [hl1] at g1 f3
      rw [← g1, hT]
      unfold stN
      refine wtS_pages 32 _ _ (nodup_ded _) fun p hp => ?_
      obtain ⟨u, hu, e⟩ := List.mem_map.1 ((mem_ded _ _).1 hp)
      rw [Nat.div_one] at e
      have hin : u ∈ (allU base l).filter fun v => v.1 == p := List.mem_filter.2 ⟨hu, by simp [e]⟩
      by_cases c : u.2.2 = 16
      · have h6 := (rm_iff _ _).1 g2 u hu c
        rw [e] at h6
        have h7 := wtS_ge 16 ((allU base l).filter fun v => v.1 == p) fun v hv => (S.wt16 (List.mem_filter.1 hv).1).1
        have h8 : celN 16 = 256 := by decide
        omega
      · have h6 := S.b u hu
        have h7 := pow_32 h6.2.2.2.2 h6.1 c
        have h8 := wtS_mem hin
        have h9 : 32 ≤ wtU u := by
          unfold wtU
          split <;> omega
        omega
    · rw [hT]
      exact Nat.le_trans (Nat.mul_le_mul_left 16 hst) (wtS_ge 16 _ fun u hu => (S.wt16 hu).1)
  · intro hall
    refine key _ ?_
    rw [hT]
    refine Nat.le_trans (Nat.mul_le_mul_left 4096 hst) (wtS_ge 4096 _ fun u hu => ?_)
    obtain ⟨b, hb, hub⟩ := List.mem_flatMap.1 hu
    obtain ⟨i, hi, rfl⟩ := List.mem_map.1 hub
    have := hall b hb
    show 4096 ≤ (if b.2 < 4096 then b.2 else 4096)
    rw [if_neg (by omega)]
    exact Nat.le_refl _
end Go.Proofs.Ytibljocjdlgfbaa
