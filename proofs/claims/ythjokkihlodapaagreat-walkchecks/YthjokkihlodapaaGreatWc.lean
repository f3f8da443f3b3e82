import Derived.Test.YthjokkihlodapaaGreatXo
import Derived.Test.YthjokkihlodapaaGreatXv
import Derived.Test.YthjokkihlodapaaGreatWe
set_option maxRecDepth 1000000
set_option maxHeartbeats 80000000
/- The blocks of a sound image: they rise, apart. -/
namespace Go.Proofs.YthjokkihlodapaaGreat
open Go.RowKit
set_option linter.unusedVariables false
/-- What rule 4 says of a page. -/
def Gd9 (I : Img) (g : Nat) : Prop := ((I.pg g).kd = 1 ∨ (I.pg g).kd = 3) ∨ (hdOk (I.pg g) g = true ∧ ∀ i, i < 2 ^ (I.pg g).od.toNat - 1 → rsOk (I.pg g) (I.pg (g + 1 + i)) = true)
theorem rs_kd {p q : Pg} (h : rsOk p q = true) : q.kd = p.kd + 1 := by
  have : q = blankP (p.kd + 1) p.od := of_decide_eq_true h
  rw [this]
  rfl
theorem hd_kd {p : Pg} {a : Nat} (h : hdOk p a = true) : (p.kd = 4 ∧ p.od = 0) ∨ ((p.kd = 0 ∨ p.kd = 2) ∧ a % 2 ^ p.od.toNat = 0) := by
  unfold hdOk at h
  split at h
  · rename_i e
    exact .inl ⟨e, by simpa using h⟩
  · split at h
    · rename_i e
      simp only [Bool.and_eq_true, decide_eq_true_eq] at h
      exact .inr ⟨e, h.1⟩
    · cases h
theorem r4_good {I : Img} : ∀ n a, r4F I n a = none → I.np ≤ a + n → ∀ g, a ≤ g → g < I.np → Gd9 I g
  | 0, a, _, hn, g, h1, h2 => absurd h2 (by omega)
  | n + 1, a, h, hn, g, h1, h2 => by
    unfold r4F at h
    rw [if_neg (by omega)] at h
    by_cases hh : hdOk (I.pg a) a = false
    · rw [if_pos hh] at h; cases h
    rw [if_neg hh] at h
    have hh : hdOk (I.pg a) a = true := by simpa using hh
    cases e : fst1 (2 ^ (I.pg a).od.toNat - 1) (fun i => rsOk (I.pg a) (I.pg (a + 1 + i))) with
    | some i => rw [e] at h; cases h
    | none =>
      rw [e] at h
      have hr := fst1_none e
      have hp : 0 < 2 ^ (I.pg a).od.toNat := Nat.two_pow_pos _
      by_cases g1 : g = a
      · subst g1
        exact .inr ⟨hh, hr⟩
      · by_cases g2 : g < a + 2 ^ (I.pg a).od.toNat
        · left
          obtain ⟨i, rfl⟩ : ∃ i, g = a + 1 + i := ⟨g - (a + 1), by omega⟩
          have := rs_kd (hr i (by omega))
          rcases hd_kd hh with ⟨_, e0⟩ | ⟨e1 | e1, _⟩
          · exfalso
            have e2 : (I.pg a).od.toNat = 0 := by omega
            rw [e2] at g2
            omega
          · left; omega
          · right; omega
        · exact r4_good n _ h (by omega) g (by omega) h2
/-- One behind the other; of one size where they share a page. -/
def BRel (x y : Nat × Nat) : Prop := x.1 + x.2 ≤ y.1 ∧ (x.1 / 4096 = y.1 / 4096 → x.2 = y.2)
structure BOk (I : Img) (k : Nat) (x : Nat × Nat) : Prop where
  s16 : 16 ≤ x.2
  sR : x.2 ≤ 4096 * 2 ^ k
  pw : ∃ e, e ≤ 20 ∧ x.2 = 2 ^ e
  al : x.1 % x.2 = 0
  lo : I.base ≤ x.1
  hi : x.1 - I.base + x.2 ≤ I.nm
theorem ceB_mem {base g sz : Nat} {ws : List Nat} {x : Nat × Nat} : ∀ {j : Nat}, x ∈ ceB base g sz ws j → ∃ i, i < j ∧ x = (base + g * 4096 + i * sz, sz)
  | 0, h => by simp [ceB] at h
  | j + 1, h => by
    unfold ceB at h
    split at h
    · rcases List.mem_append.1 h with h | h
      · obtain ⟨i, h1, h2⟩ := ceB_mem h
        exact ⟨i, by omega, h2⟩
      · exact ⟨j, by omega, by simpa using h⟩
    · obtain ⟨i, h1, h2⟩ := ceB_mem h
      exact ⟨i, by omega, h2⟩
theorem ceB_pw {base g sz : Nat} {ws : List Nat} : ∀ j, (ceB base g sz ws j).Pairwise BRel
  | 0 => by simp [ceB]
  | j + 1 => by
    unfold ceB
    split
    · refine List.pairwise_append.2 ⟨ceB_pw j, by simp, fun x hx y hy => ?_⟩
      obtain ⟨i, h1, rfl⟩ := ceB_mem hx
      obtain rfl : y = (base + g * 4096 + j * sz, sz) := by simpa using hy
      refine ⟨?_, fun _ => rfl⟩
      have : (i + 1) * sz ≤ j * sz := Nat.mul_le_mul_right _ h1
      rw [Nat.add_mul, Nat.one_mul] at this
      show base + g * 4096 + i * sz + sz ≤ base + g * 4096 + j * sz
      omega
    · exact ceB_pw j
theorem cell_at {base g q c i : Nat} (hb : base = 4096 * q) (hc : c ≤ 7) (hi : i < celN9 c) : 16 ≤ 16 * 2 ^ c ∧ 16 * 2 ^ c ≤ 4096 ∧ 16 * 2 ^ c = 2 ^ (4 + c) ∧ (base + g * 4096 + i * (16 * 2 ^ c)) % (16 * 2 ^ c) = 0 ∧ i * (16 * 2 ^ c) + 16 * 2 ^ c ≤ 4096 := by
  subst hb
  unfold celN9 at hi
  have : c = 0 ∨ c = 1 ∨ c = 2 ∨ c = 3 ∨ c = 4 ∨ c = 5 ∨ c = 6 ∨ c = 7 := by omega
  rcases this with rfl | rfl | rfl | rfl | rfl | rfl | rfl | rfl <;> simp at hi ⊢ <;> omega
/-- The blocks that begin at a page. -/
theorem pgB_in {I : Img} {k r : Nat} (hS : Sn9 I k r) (h4 : r4 I = none) {g : Nat} (hg : g < I.np) {x : Nat × Nat} (hx : x ∈ pgB I g) :
    BOk I k x ∧ I.base + g * 4096 ≤ x.1 ∧ x.1 < I.base + (g + 1) * 4096 ∧ ((I.pg g).kd = 2 ∨ (I.pg g).kd = 4) ∧ ((I.pg g).kd = 4 → x.1 + x.2 ≤ I.base + (g + 1) * 4096) ∧ ((I.pg g).kd = 2 → x.1 + x.2 = I.base + g * 4096 + 4096 * 2 ^ (I.pg g).od.toNat) := by
  obtain ⟨kd, o, c, l, e1, e2, e3, e4, e5, e6, -⟩ := hS.pg g hg
  have hgd := r4_good _ _ h4 (by omega) g (by omega) hg
  have hbm := hS.bm
  unfold M.RS at hbm
  have hP : 0 < 2 ^ k := Nat.two_pow_pos k
  obtain ⟨q, hq⟩ : ∃ q, I.base = 4096 * q := by
    have : 4096 ∣ I.base := Nat.dvd_trans ⟨2 ^ k, rfl⟩ (Nat.dvd_of_mod_eq_zero hbm)
    exact this
  have hnm := hS.nm
  unfold pgB at hx
  split at hx
  · rename_i kd2
    have eo : (I.pg g).od.toNat = o := by omega
    rw [eo] at hx ⊢
    obtain rfl : x = (I.base + g * 4096, 4096 * 2 ^ o) := by simpa using hx
    rcases hgd with hgd | ⟨hh, _⟩
    · omega
    rcases hd_kd hh with ⟨h, _⟩ | ⟨_, hal⟩
    · omega
    rw [eo] at hal
    have ok : 2 ^ o ∣ 2 ^ k := Nat.pow_dvd_pow 2 e4
    have hPo : 0 < 2 ^ o := Nat.two_pow_pos o
    have db : 4096 * 2 ^ o ∣ I.base := Nat.dvd_trans (Nat.mul_dvd_mul_left _ ok) (Nat.dvd_of_mod_eq_zero hbm)
    have dg : 2 ^ o ∣ g := Nat.dvd_of_mod_eq_zero hal
    have dn : 2 ^ o ∣ I.np := by rw [hS.np]; exact Nat.dvd_trans ok ⟨r, Nat.mul_comm _ _⟩
    have fit : g + 2 ^ o ≤ I.np := by
      obtain ⟨u, hu⟩ := dg
      obtain ⟨v, hv⟩ := dn
      have huv : u < v := by
        refine Nat.lt_of_mul_lt_mul_left (a := 2 ^ o) ?_
        rw [← hu, ← hv]; exact hg
      have := Nat.mul_le_mul_left (2 ^ o) (Nat.succ_le_of_lt huv)
      rw [Nat.mul_succ] at this
      omega
    have le : 2 ^ o ≤ 2 ^ k := Nat.le_of_dvd hP ok
    refine ⟨⟨by show 16 ≤ 4096 * 2 ^ o; omega, by show 4096 * 2 ^ o ≤ _; omega, ⟨12 + o, by have := hS.k8; omega, by show 4096 * 2 ^ o = _; rw [Nat.pow_add]⟩, ?_, by show I.base ≤ I.base + g * 4096; omega, by show I.base + g * 4096 - I.base + 4096 * 2 ^ o ≤ I.nm; omega⟩, by show _ ≤ I.base + g * 4096; omega, by show I.base + g * 4096 < _; omega, .inl kd2, fun h => by omega, fun _ => rfl⟩
    refine Nat.mod_eq_zero_of_dvd (Nat.dvd_add db ?_)
    rw [Nat.mul_comm g]
    exact Nat.mul_dvd_mul_left _ dg
  · rename_i kd2
    split at hx
    · rename_i kd4
      have ec : (I.pg g).cl.toNat = c := by omega
      rw [ec] at hx
      obtain ⟨i, hi, rfl⟩ := ceB_mem hx
      obtain ⟨f1, f2, f3, f4, f5⟩ := cell_at (g := g) hq e6 hi
      generalize hz : 16 * 2 ^ c = sz at *
      have hk1 : 4096 ≤ 4096 * 2 ^ k := Nat.le_mul_of_pos_right _ hP
      refine ⟨⟨f1, by show sz ≤ _; omega, ⟨4 + c, by omega, f3⟩, f4, by show I.base ≤ I.base + g * 4096 + i * sz; omega, ?_⟩, by show _ ≤ I.base + g * 4096 + i * sz; omega, by show I.base + g * 4096 + i * sz < _; omega, .inr kd4, fun _ => by show I.base + g * 4096 + i * sz + sz ≤ _; omega, fun h => absurd h kd2⟩
      show I.base + g * 4096 + i * sz - I.base + sz ≤ I.nm
      omega
    · simp at hx
theorem pgB_two {I : Img} {k r : Nat} (hS : Sn9 I k r) (h4 : r4 I = none) {g g' : Nat} (hgg : g < g') (hg : g' < I.np) {x y : Nat × Nat} (hx : x ∈ pgB I g) (hy : y ∈ pgB I g') : BRel x y := by
  obtain ⟨_, x1, x2, x3, x4, x5⟩ := pgB_in hS h4 (by omega) hx
  obtain ⟨_, y1, y2, y3, _, _⟩ := pgB_in hS h4 hg hy
  have hbm := hS.bm
  unfold M.RS at hbm
  obtain ⟨q, hq⟩ : ∃ q, I.base = 4096 * q := by
    have : 4096 ∣ I.base := Nat.dvd_trans ⟨2 ^ k, rfl⟩ (Nat.dvd_of_mod_eq_zero hbm)
    exact this
  refine ⟨?_, fun e => by exfalso; omega⟩
  rcases x3 with k2 | k4
  · have := x5 k2
    rcases Nat.lt_or_ge g' (g + 2 ^ (I.pg g).od.toNat) with hlt | hge
    · exfalso
      rcases r4_good _ _ h4 (by omega) g (by omega) (by omega) with h | ⟨hh, hr⟩
      · omega
      · have := rs_kd (hr (g' - (g + 1)) (by omega))
        rw [show g + 1 + (g' - (g + 1)) = g' by omega] at this
        omega
    · omega
  · have := x4 k4
    omega
theorem bkL_mem {I : Img} {x : Nat × Nat} : ∀ {j : Nat}, x ∈ bkL I j → ∃ g, g < j ∧ x ∈ pgB I g
  | 0, h => by simp [bkL] at h
  | j + 1, h => by
    rcases List.mem_append.1 h with h | h
    · obtain ⟨g, h1, h2⟩ := bkL_mem h
      exact ⟨g, by omega, h2⟩
    · exact ⟨j, by omega, h⟩
theorem pgB_pw {I : Img} (g : Nat) : (pgB I g).Pairwise BRel := by
  unfold pgB
  split
  · simp
  · split
    · exact ceB_pw _
    · simp
theorem bkL_pw {I : Img} {k r : Nat} (hS : Sn9 I k r) (h4 : r4 I = none) : ∀ j, j ≤ I.np → (bkL I j).Pairwise BRel
  | 0, _ => by simp [bkL]
  | j + 1, hj => by
    refine List.pairwise_append.2 ⟨bkL_pw hS h4 j (by omega), pgB_pw j, fun x hx y hy => ?_⟩
    obtain ⟨g, h1, h2⟩ := bkL_mem hx
    exact pgB_two hS h4 h1 (by omega) h2 hy
theorem blks_ok {I : Img} {x : Nat × Nat} (hx : x ∈ blks I) : (∃ r, Sn9 I I.ord.toNat r) ∧ BOk I I.ord.toNat x := by
  unfold blks at hx
  split at hx
  · rename_i h
    obtain ⟨r, hS⟩ := sn9_chk h
    obtain ⟨g, h1, h2⟩ := bkL_mem hx
    exact ⟨⟨r, hS⟩, (pgB_in hS (chk_zero h 3 (by decide)) h1 h2).1⟩
  · simp at hx
theorem blks_pw (I : Img) : (blks I).Pairwise BRel := by
  unfold blks
  split
  · rename_i h
    obtain ⟨r, hS⟩ := sn9_chk h
    exact bkL_pw hS (chk_zero h 3 (by decide)) _ (Nat.le_refl _)
  · simp
end Go.Proofs.YthjokkihlodapaaGreat
/- croftref9: its rules by counting, and the same by what is left. -/
namespace Go.Proofs.YthjokkihlodapaaGreat
open Go.RowKit
set_option linter.unusedVariables false
theorem plB_eq (p : Pg) (k o : Int) : pgE p (blankP k o) = (decide (p.kd = k) && (decide (p.od = o) && plB p)) := by
  obtain ⟨kd, od, cl, lv, nx, pv, fs, b0, b1, b2, b3⟩ := p
  unfold pgE plB blankP
  rw [← Bool.decide_and, ← Bool.decide_and, decide_eq_decide, Pg.mk.injEq]
/-- Rule 8 of an order, by counting. -/
theorem ok8_eq {I : Img} {k r : Nat} (hS : Sn9 I k r) (j : Nat) : ok8 I j = refL (decP I) 0 (fun i => M.word I.mem (4096 * i)) (fun i => M.word I.mem (4096 * i + 8)) (fun i => isF (I.pg i) (j : Int)) (pgL I fun p => isF p (j : Int)).length (I.hd.getD j 0) 0 := by
  unfold ok8
  refine prgL_eq (cod := fun i => I.base + 4096 * i) (fun i => by have := hS.b0; omega) (fun i j h => by omega) (fun p i h => (decP_lt hS h).2.1) ?_ (pgL I fun p => isF p (j : Int)) (pgL_nodup _ _) (fun p i h => ?_) _ (pgL I fun p => isF p (j : Int)) [] _ _ rfl (pgL_nodup _ _) List.nodup_nil (fun i => by simp) (fun i _ h => by cases h) trivial rfl
  · unfold decP
    rw [if_neg (by have := hS.b0; omega)]
  · rw [pgL_mem]
    exact ⟨fun x => x.2, fun x => ⟨(decP_lt hS h).1, x⟩⟩
theorem cnt_ws (p : Pg) (hp : PgIn p) : cntS (wsP p) = cntB (bit (wsP p)) 256 := by
  refine cntTo_cntB (wsP p) (fun i => ?_) 4
  match i with
  | 0 => exact hp.b0
  | 1 => exact hp.b1
  | 2 => exact hp.b2
  | 3 => exact hp.b3
  | i + 4 => simp [List.getD]
/-- What rule 5 says of a slab page. -/
theorem ok5_iff (p : Pg) (hp : PgIn p) (c : Nat) (hc : p.cl = (c : Int)) (h4 : p.kd = 4) : ok5 p = true ↔ (0 < p.lv ∧ p.lv = (cntB (bit (wsP p)) 256 : Int)) ∧ ∀ j, celN9 c ≤ j → j < 256 → bit (wsP p) j = false := by
  unfold ok5
  rw [hc, Int.toNat_natCast, cnt_ws p hp, decide_eq_true h4, Bool.not_true, Bool.false_or, Bool.and_eq_true, Bool.and_eq_true, decide_eq_true_eq, decide_eq_true_eq, decide_eq_true_eq]
  refine and_congr_right fun _ => ?_
  rcases nxtN_of (n := 256) (ws := wsP p) (k := celN9 c) with ⟨h1, h2⟩ | ⟨j, h1, h2, h3, h5, h6⟩
  · exact ⟨fun _ => h2, fun _ => h1⟩
  · rw [h1]
    refine ⟨fun h => by omega, fun h => ?_⟩
    rw [h j h2 h3] at h5
    cases h5
theorem cntB_cut (f : Nat → Bool) (n : Nat) : ∀ d, (∀ j, n ≤ j → j < n + d → f j = false) → cntB f (n + d) = cntB f n
  | 0, _ => rfl
  | d + 1, h => by
    rw [← Nat.add_assoc, cntB_false f _ (h (n + d) (by omega) (by omega))]
    exact cntB_cut f n d (fun j h1 h2 => h j h1 (by omega))
theorem cel_256 (c : Nat) (h : c ≤ 7) : celN9 c ≤ 256 ∧ 1 ≤ celN9 c := by
  match c, h with
  | 0, _ => decide
  | 1, _ => decide
  | 2, _ => decide
  | 3, _ => decide
  | 4, _ => decide
  | 5, _ => decide
  | 6, _ => decide
  | 7, _ => decide
/-- Of a slab page that keeps rule 5. -/
theorem ok5_lv {p : Pg} (hp : PgIn p) {c : Nat} (hc : p.cl = (c : Int)) (h7 : c ≤ 7) (h4 : p.kd = 4) (h : ok5 p = true) : ∃ l : Nat, p.lv = (l : Int) ∧ 1 ≤ l ∧ l ≤ celN9 c ∧ l = cntB (bit (wsP p)) (celN9 c) := by
  rw [ok5_iff p hp c hc h4] at h
  obtain ⟨⟨h1, h2⟩, h3⟩ := h
  have hk := cel_256 c h7
  have e : cntB (bit (wsP p)) 256 = cntB (bit (wsP p)) (celN9 c) := by
    have := cntB_cut (bit (wsP p)) (celN9 c) (256 - celN9 c) (fun j a b => h3 j a (by omega))
    rwa [show celN9 c + (256 - celN9 c) = 256 by omega] at this
  have := cntB_le (bit (wsP p)) (celN9 c)
  exact ⟨cntB (bit (wsP p)) 256, h2, by omega, by omega, e⟩
/-- How many free cells there are. -/
theorem frL_len (p : Pg) (n : Nat) : (frL p n).length + cntB (bit (wsP p)) n = n := by
  induction n with
  | zero => rfl
  | succ n ih =>
    unfold frL at ih ⊢
    rw [List.range_succ, List.filter_append, List.length_append]
    cases h : bit (wsP p) n with
    | true => rw [cntB_true _ _ h]; simp [h]; omega
    | false => rw [cntB_false _ _ h]; simp [h]; omega
/-- Rule 10 of a class, by counting. -/
theorem ok10_eq (I : Img) (j : Nat) : ok10 I j = refL (dec10 I) (-1) (fun i => (I.pg i).nx) (fun i => (I.pg i).pv) (fun i => prS (j : Int) (I.pg i)) (pgL I (prS (j : Int))).length (I.pt.getD j 0) (-1) := by
  unfold ok10
  refine prgL_eq (cod := fun i => (i : Int)) (fun i => by omega) (fun i j h => by omega) (fun p i h => (dec10_i h).2.1) rfl (pgL I (prS (j : Int))) (pgL_nodup _ _) (fun p i h => ?_) _ (pgL I (prS (j : Int))) [] _ _ rfl (pgL_nodup _ _) List.nodup_nil (fun i => by simp) (fun i _ h => by cases h) trivial rfl
  rw [pgL_mem]
  exact ⟨fun x => x.2, fun x => ⟨(dec10_i h).1, x⟩⟩
theorem pgL_cnt (I : Img) (S : Pg → Bool) : ∀ n, ((List.range n).filter fun i => S (I.pg i)).length = cntB (fun i => S (I.pg i)) n
  | 0 => rfl
  | n + 1 => by
    rw [List.range_succ, List.filter_append, List.length_append, pgL_cnt I S n]
    cases h : S (I.pg n) with
    | true => rw [cntB_true (fun i => S (I.pg i)) n h]; simp [h]
    | false => rw [cntB_false (fun i => S (I.pg i)) n h]; simp [h]
theorem pgL_len (I : Img) (S : Pg → Bool) : (pgL I S).length = cntB (fun i => S (I.pg i)) I.np := pgL_cnt I S I.np
end Go.Proofs.YthjokkihlodapaaGreat
/- croftref2.Same; awake; grown. -/
namespace Go.Proofs.YthjokkihlodapaaGreat.M
open Go.RowKit
set_option linter.unusedVariables false

theorem SpaceAt.some {w b ao base R lim n f} (h : SpaceAt w b ao base R lim n f) (hn : 0 < n) : ∃ g, ao = some g := by
  cases ao with
  | none =>
    obtain ⟨cap, _, h1, _⟩ := h.ex
    omega
  | some g => exact ⟨g, rfl⟩

theorem addr_plain {w : World} {a : Addr} {v : Value} (h : w.cell? (a.add 0) = some v) : ∃ b o, a = ⟨b, o, none⟩ := by
  obtain ⟨b, o, s⟩ := a
  cases s with
  | none => exact ⟨b, o, rfl⟩
  | some s =>
    exfalso
    unfold World.cell? Addr.add at h
    split at h
    · simp at h
    · cases h

/-- What lies at B or behind it. -/
def from' (B : Nat) : Nat → Prop := fun x => B ≤ x

theorem Kept.fresh {B : Nat} {S : Nat → Prop} {a b : World} (h : Kept S a b) (hS : ∀ x, S x → B ≤ x) : Kept (from' B) a b := h.mono (fun x _ => hS x)
theorem Kept.then' {B : Nat} {a b c : World} (h : Kept (from' B) a b) (k : Kept (from' B) b c) : Kept (from' B) a c := h.trans k (fun _ _ x => x) (fun _ _ x => x)

end Go.Proofs.YthjokkihlodapaaGreat.M
/- croftref2.May, R, New. -/
namespace Go.Proofs.YthjokkihlodapaaGreat.M
open Go.RowKit
set_option linter.unusedVariables false

theorem May_bad (base : Nat) (lim ord : Int) (hl1 : -9223372036854775808 ≤ lim) (hl2 : lim ≤ 9223372036854775807) (ho1 : -9223372036854775808 ≤ ord) (ho2 : ord ≤ 9223372036854775807) (h : ¬ Bounds lim ord) (w : World) :
    Calls Tryz.prog 15 #[.agg #[.int .u64 (base : Int), .int .i64 lim, .int .i64 ord]] w fun e w' => e = .returned (.bool false) ∧ Kept none' w w' := by
  by_cases h1 : ord < 0
  · clear h
    go_enter Tryz.func15, Tryz.ntmps15
    go_wp2
    go_ret
    exact ⟨rfl, (Kept.refl _ w).alloc _⟩
  · by_cases h2 : 8 < ord
    · clear h
      go_enter Tryz.func15, Tryz.ntmps15
      go_wp2
      go_ret
      exact ⟨rfl, (Kept.refl _ w).alloc _⟩
    · by_cases h3 : lim < 1
      · clear h
        go_enter Tryz.func15, Tryz.ntmps15
        go_wp2
        go_ret
        exact ⟨rfl, (Kept.refl _ w).alloc _⟩
      · have h4 : 64 < lim := by unfold Bounds at h; omega
        clear h
        go_enter Tryz.func15, Tryz.ntmps15
        go_wp2
        go_ret
        exact ⟨rfl, (Kept.refl _ w).alloc _⟩

theorem pow_mono (j k : Nat) (h : j ≤ k) (hk : k ≤ 8) : 1 ≤ 2 ^ j ∧ 2 ^ j ≤ 256 := pow8 j (by omega)

theorem May_in (base : Nat) (hb64 : base < 18446744073709551616) (lim k : Nat) (hk : k ≤ 8) (hl1 : 1 ≤ lim) (hl2 : lim ≤ 64) (w : World) :
    Calls Tryz.prog 15 #[.agg #[.int .u64 (base : Int), .int .i64 (lim : Int), .int .i64 (k : Int)]] w fun e w' => e = .returned (.bool (mayB base lim k)) ∧ Kept none' w w' := by
  have hB : Bounds (lim : Int) (k : Int) := by unfold Bounds; omega
  have HMAY := hid (show mayB base lim k = (decide (lim * 2 ^ k ≤ 1024) && (decide (base ≠ 0) && decide (base % RS k = 0) && decide (base + lim * RS k ≤ 9223372036854775808))) from by
    unfold mayB
    rw [decide_eq_true hB, Int.toNat_natCast, Int.toNat_natCast, Bool.true_and])
  clear hB
  go_enter Tryz.func15, Tryz.ntmps15
  go_wp2
  go_loop [3, 4, 5] (fun pg r i => ∃ j : Nat, j ≤ k ∧ i = .int .i64 j ∧ pg = .int .i64 ((lim * 2 ^ j : Nat) : Int) ∧ r = .int .u64 ((4096 * 2 ^ j : Nat) : Int)) (fun _ _ i => k - (intOf i).toNat)
  case atStart => exact ⟨0, by omega, rfl, by simp, by simp⟩
  case round =>
    obtain ⟨j, hj, rfl, rfl, rfl⟩ := hrel
    obtain ⟨P, hP⟩ : ∃ P, P = 2 ^ j := ⟨_, rfl⟩
    have hP8 := pow8 j (by omega)
    rw [← hP] at hP8 ⊢
    obtain ⟨lp, hlp⟩ : ∃ lp, lp = lim * P := ⟨_, rfl⟩
    have hlp2 : lp ≤ 16384 := by
      rw [hlp]
      exact Nat.le_trans (Nat.mul_le_mul hl2 hP8.2) (by decide)
    rw [← hlp]
    obtain ⟨R, hR⟩ : ∃ R, R = 4096 * P := ⟨_, rfl⟩
    have hR1 : R ≤ 1048576 := by omega
    rw [← hR]
    by_cases hlt : j < k
    · have hN1 := hid (show lim * 2 ^ (j + 1) = lp * 2 from by rw [hlp, hP, Nat.pow_succ, Nat.mul_assoc])
      have hN2 := hid (show 4096 * 2 ^ (j + 1) = R * 2 from by rw [hR, hP, Nat.pow_succ, Nat.mul_assoc])
      have hji : (j : Int) < (k : Int) := by omega
      clear hP hlp hR
      go_wp2
      refine ⟨⟨j + 1, by omega, by simp, ?_, ?_⟩, by simp [intOf]; omega⟩
      · rw [hN1.out]; simp
      · rw [hN2.out]; simp
    · obtain rfl : j = k := by omega
      have e1 : RS j = R := by rw [hR, hP]; rfl
      obtain ⟨lr, hlr⟩ : ∃ lr, lr = lim * R := ⟨_, rfl⟩
      have hlr2 : lr = 4096 * lp := by rw [hlr, hR, hlp, Nat.mul_left_comm]
      have hmul : (R : Int) * (lim : Int) = (lr : Int) := by rw [hlr, Int.mul_comm]; simp
      have HM := hid (show mayB base lim j = (decide (lp ≤ 1024) && (decide (base ≠ 0) && decide (base % R = 0) && decide (base + lr ≤ 9223372036854775808))) from by
        rw [HMAY.out, e1, ← hP, ← hlp, ← hlr])
      clear e1 HMAY
      have hR0 : ¬ (R : Int) = 0 := by omega
      clear hP hlp hR hlr hP8
      by_cases h1 : lp ≤ 1024
      · have H1 := hid (decide_eq_true h1)
        have h1' : ¬ (1024 : Int) < lp := by omega
        by_cases h0 : base = 0
        · have hb0 : ((base : Int) == 0) = true := by rw [h0]; rfl
          have H0 := hid h0
          clear h0 hlr2
          go_wp2
          go_ret
          exact ⟨ret_bool (by rw [HM.out, H0.out]; simp), (Kept.refl _ w).alloc _⟩
        · have hb0 : ((base : Int) == 0) = false := by rw [beq_eq_false_iff_ne]; omega
          have H0 := hid (show decide (base ≠ 0) = true from decide_eq_true h0)
          by_cases h2 : base % R = 0
          · have hm : ((base : Int) % (R : Int) != 0) = false := by rw [bne_eq_false_iff_eq]; omega
            have H2 := hid (show decide (base % R = 0) = true from decide_eq_true h2)
            clear h2
            by_cases h3 : base ≤ 9223372036854775808
            · have h3' : (base : Int) ≤ 9223372036854775808 := by omega
              go_wp2
              go_ret
              exact ⟨ret_bool (by rw [HM.out, H0.out, H1.out, H2.out, Bool.true_and, Bool.true_and, Bool.true_and, decide_eq_decide]; omega), (Kept.refl _ w).alloc _⟩
            · have h3' : ¬ (base : Int) ≤ 9223372036854775808 := by omega
              have H3 := hid (show decide (base + lr ≤ 9223372036854775808) = false from decide_eq_false (by omega))
              go_wp2
              go_ret
              exact ⟨ret_bool (by rw [HM.out, H3.out]; simp), (Kept.refl _ w).alloc _⟩
          · have hm : ((base : Int) % (R : Int) != 0) = true := by rw [bne_iff_ne]; omega
            have H2 := hid (show decide (base % R = 0) = false from decide_eq_false h2)
            clear h2 hlr2
            go_wp2
            go_ret
            exact ⟨ret_bool (by rw [HM.out, H2.out]; simp), (Kept.refl _ w).alloc _⟩
      · have H1 := hid (show decide (lp ≤ 1024) = false from decide_eq_false h1)
        have h1' : (1024 : Int) < lp := by omega
        clear h1 hlr2
        go_wp2
        go_ret
        exact ⟨ret_bool (by rw [HM.out, H1.out]; simp), (Kept.refl _ w).alloc _⟩

theorem May_any (base : Nat) (hb64 : base < 18446744073709551616) (lim ord : Int) (hl1 : -9223372036854775808 ≤ lim) (hl2 : lim ≤ 9223372036854775807) (ho1 : -9223372036854775808 ≤ ord) (ho2 : ord ≤ 9223372036854775807) (w : World) :
    Calls Tryz.prog 15 #[.agg #[.int .u64 (base : Int), .int .i64 lim, .int .i64 ord]] w fun e w' => e = .returned (.bool (mayB base lim ord)) ∧ Kept none' w w' := by
  by_cases h : Bounds lim ord
  · have h' := h
    unfold Bounds at h'
    obtain ⟨l, rfl⟩ := Int.eq_ofNat_of_zero_le (by omega : 0 ≤ lim)
    obtain ⟨k, rfl⟩ := Int.eq_ofNat_of_zero_le h'.1
    exact May_in base hb64 l k (by omega) (by omega) (by omega) w
  · have e : mayB base lim ord = false := by unfold mayB; rw [decide_eq_false h, Bool.false_and, Bool.false_and]
    rw [e]
    exact May_bad base lim ord hl1 hl2 ho1 ho2 h w

theorem R_any (base lim : Int) (k : Nat) (hk : k ≤ 8) (w : World) :
    Calls Tryz.prog 53 #[.agg #[.int .u64 base, .int .i64 lim, .int .i64 (k : Int)]] w fun e w' => e = .returned (.int .u64 ((RS k : Nat) : Int)) ∧ Kept none' w w' := by
  go_enter Tryz.func53, Tryz.ntmps53
  go_wp2
  go_loop [3, 4] (fun r i => ∃ j : Nat, j ≤ k ∧ i = .int .i64 j ∧ r = .int .u64 ((4096 * 2 ^ j : Nat) : Int)) (fun _ i => k - (intOf i).toNat)
  case atStart => exact ⟨0, by omega, rfl, by simp⟩
  case round =>
    obtain ⟨j, hj, rfl, rfl⟩ := hrel
    obtain ⟨P, hP⟩ : ∃ P, P = 2 ^ j := ⟨_, rfl⟩
    have hP8 := pow8 j (by omega)
    rw [← hP] at hP8 ⊢
    obtain ⟨R, hR⟩ : ∃ R, R = 4096 * P := ⟨_, rfl⟩
    have hR1 : R ≤ 1048576 := by omega
    rw [← hR]
    by_cases hlt : j < k
    · have hN2 := hid (show 4096 * 2 ^ (j + 1) = R * 2 from by rw [hR, hP, Nat.pow_succ, Nat.mul_assoc])
      have hji : (j : Int) < (k : Int) := by omega
      clear hP hR
      go_wp2
      refine ⟨⟨j + 1, by omega, by simp, ?_⟩, by simp [intOf]; omega⟩
      rw [hN2.out]; simp
    · obtain rfl : j = k := by omega
      have E := hid (show RS j = R by rw [hR, hP]; rfl)
      clear hP hR
      go_wp2
      go_ret
      exact ⟨ret_int (by rw [E.out]), (Kept.refl _ w).alloc _⟩

theorem two_new (w : World) (A B : Obj) : ((w.alloc A).alloc B).heap[w.heap.size + 1]? = some B := by
  have := heap_new (w.alloc A) B
  rwa [World.size_alloc] at this

/-- The document's own space, as a value. -/
def refV (base R lim : Nat) (mo : Option Nat) (n cap : Nat) : Value := .agg #[.int .u64 (base : Int), .int .u64 (R : Int), .int .i64 (lim : Int), .slice (adr mo) n cap]

end Go.Proofs.YthjokkihlodapaaGreat.M
/- croftref9: number. -/
namespace Go.Proofs.YthjokkihlodapaaGreat
open Go.RowKit
set_option linter.unusedVariables false
set_option maxHeartbeats 8000000
set_option maxRecDepth 6000
theorem number9 (I : Img) (V : ImV) (k r : Nat) (hS : Sn9 I k r) (p : Nat) (w : World) (hI : ImD w I V) :
    Calls Tryz.prog 56 #[imA I V, .int .u64 (p : Int)] w fun e w' => e = .returned (.int .i64 (decI (decP I p))) ∧ Kept none' w w' := by
  obtain ⟨⟨ma, mc, hm⟩, ⟨pa, pc, hp⟩, ⟨ra, rc, hr⟩, ⟨ha, hc, hh⟩, ⟨ta, tc, ht⟩, -⟩ := hI.sl
  obtain ⟨vm, vp, vr, vh, vt⟩ := V
  dsimp only at hm hp hr hh ht
  subst hm hp hr hh ht
  have IM0 := hid (show ImAt (w.alloc (imO I _)) w.heap.size I _ from ⟨heap_new _ _, hI.keep ((Kept.refl _ w).alloc _)⟩)
  have K0 := hid (show Kept none' w (w.alloc (imO I _)) from (Kept.refl _ w).alloc (imO I ⟨.slice ma I.nm mc, .slice pa I.np pc, .slice ra I.no rc, .slice ha I.hd.length hc, .slice ta I.pt.length tc⟩))
  obtain ⟨c0, c1, c2, c3, c4, c5, c6, c7, c8⟩ := IM0.out.cells
  have HNP := hid hS.np1
  have HBE := hid hS.be
  have HNM := hid hS.nm
  obtain ⟨rr, hrr⟩ : ∃ rr, rr = decI (decP I p) := ⟨_, rfl⟩
  rw [← hrr]
  have HIT := hid (show ∀ a, a < I.np → p = I.base + 4096 * a → rr = (a : Int) from fun a h1 h2 => by
    have := hS.nm
    rw [hrr]
    unfold decP
    rw [if_pos ⟨by omega, by omega, by omega⟩]
    show (((p - I.base) / 4096 : Nat) : Int) = _
    omega)
  have MISS := hid (show (∀ a, a < I.np → ¬ p = I.base + 4096 * a) → rr = -1 from fun h => by
    have := hS.nm
    rw [hrr]
    unfold decP
    rw [if_neg (fun hc => h ((p - I.base) / 4096) (by omega) (by omega))]
    rfl)
  clear hI hrr hS
  go_enter Tryz.func56, Tryz.ntmps56
  go_wp2_with fail
  clear c0 c1 c2 c3 c4 c5 c6 c7 c8
  generalize w.heap.size = ib at *
  generalize w.alloc (imO I ⟨.slice ma I.nm mc, .slice pa I.np pc, .slice ra I.no rc, .slice ha I.hd.length hc, .slice ta I.pt.length tc⟩) = W0 at *
  go_loopw [5] (fun iv W => ∃ a : Nat, a ≤ I.np ∧ iv = .int .i64 a ∧ Hid (Kept none' W0 W ∧ ∀ j, j < a → ¬ p = I.base + 4096 * j)) (fun iv _ => I.np - (intOf iv).toNat)
  case atStart => exact ⟨0, Nat.zero_le _, rfl, hid ⟨Kept.refl _ _, fun j hj => by omega⟩⟩
  case round =>
    obtain ⟨a, ha', rfl, hG⟩ := hrel
    have IMa := hid (IM0.out.keep hG.out.1)
    obtain ⟨c0, c1, c2, c3, c4, c5, c6, c7, c8⟩ := IMa.out.cells
    dsimp only at c5
    by_cases hlt : a < I.np
    · have hai : (a : Int) < (I.np : Int) := by omega
      obtain ⟨base, hbase⟩ : ∃ b, b = I.base := ⟨_, rfl⟩
      rw [← hbase] at c0
      obtain ⟨q, hq⟩ : ∃ q, q = base + 4096 * a := ⟨_, rfl⟩
      have g1 : IntKind.u64.wrap (a : Int) = (a : Int) := by have := HNP.out; rw [wrap_u64]; omega
      have g2 : IntKind.u64.wrap (4096 * (a : Int)) = 4096 * (a : Int) := by have := HNP.out; rw [wrap_u64]; omega
      have g3 : IntKind.u64.wrap ((base : Int) + 4096 * (a : Int)) = (q : Int) := by have := HBE.out; have := HNM.out; rw [wrap_u64]; omega
      have g4 : (base : Int) + 4096 * (a : Int) = (q : Int) := by omega
      have g5 : IntKind.u64.wrap (q : Int) = (q : Int) := by have := HBE.out; have := HNM.out; rw [wrap_u64]; omega
      have HITA := hid (show p = q → rr = (a : Int) from fun h => HIT.out a hlt (by rw [h, hq, hbase]))
      have MISA := hid (show ¬ p = q → ∀ j, j < a + 1 → ¬ p = I.base + 4096 * j from fun h j hj => by
        by_cases e : j = a
        · rw [e, ← hbase, ← hq]; exact h
        · exact hG.out.2 j (by omega))
      have KG := hid hG.out.1
      have HLT := hid hlt
      clear hbase hq hlt ha' hG
      by_cases h : p = q
      · have er := HITA.out h
        subst er
        have q1 : ((p : Int) == (q : Int)) = true := by rw [beq_iff_eq]; omega
        have q2 : (p == q) = true := by rw [beq_iff_eq]; exact h
        clear h
        go_wp2_with fail
        go_ret
        exact ⟨rfl, none_trans K0.out (none_trans KG.out (Kept.refl none' wr))⟩
      · have q1 : ((p : Int) == (q : Int)) = false := by rw [beq_eq_false_iff_ne]; omega
        have q2 : (p == q) = false := by rw [beq_eq_false_iff_ne]; exact h
        have N1 := hid (MISA.out h)
        clear h
        go_wp2_with fail
        have hw : wrap64 ((a : Int) + 1) = ((a + 1 : Nat) : Int) := by have := HNP.out; have := HLT.out; rw [wrap64]; omega
        rw [hw]
        exact ⟨⟨a + 1, by have := HLT.out; omega, rfl, hid ⟨none_trans KG.out (Kept.refl none' wr), N1.out⟩⟩, by have := HLT.out; simp only [intOf, Int.toNat_natCast]; omega⟩
    · have hai : ¬ (a : Int) < (I.np : Int) := by omega
      have er := MISS.out (fun j hj => hG.out.2 j (by omega))
      subst er
      go_wp2_with fail
      go_ret
      exact ⟨rfl, none_trans K0.out hG.out.1⟩
end Go.Proofs.YthjokkihlodapaaGreat
