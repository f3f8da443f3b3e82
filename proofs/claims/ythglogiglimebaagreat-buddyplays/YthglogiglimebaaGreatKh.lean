import Derived.Test.YthglogiglimebaaGreatKg
import Derived.Test.YthglogiglimebaaGreatLwA
/- P5.7: the calls of a buddy without fault: its live blocks L. -/
namespace Go.Proofs.YthglogiglimebaaGreat
open Go.RowKit
set_option linter.unusedVariables false

theorem runM_n (m : Mp) (p o k : Int) : (runM m p o k).n = m.n := by unfold runM; split <;> rfl
theorem flipM_n (m : Mp) (k i : Int) : (flipM m k i).n = m.n := by unfold flipM; split <;> rfl
theorem enterT_n (x : Bx) (t : Bt) (p k : Nat) : (enterT x t p k).m.n = t.m.n := by
  unfold enterT
  split
  · exact (flipM_n _ _ _).trans (runM_n _ _ _ _)
  · rfl
theorem cutL_n (x : Bx) (p to : Nat) : ∀ (d : Nat) (t : Bt), (cutL x p to d t).1.m.n = t.m.n
  | 0, t => rfl
  | d + 1, t => by
    rw [cutL]
    split
    · exact (cutL_n x p to d _).trans (enterT_n _ _ _ _)
    · exact enterT_n _ _ _ _
theorem cutT_n (x : Bx) (t : Bt) (p a b : Nat) : (cutT x t p a b).m.n = t.m.n := (runM_n _ _ _ _).trans (cutL_n _ _ _ _ _)
theorem takeT_n (x : Bx) (t : Bt) (q j k : Nat) : (takeT x t q j k).m.n = t.m.n := (cutT_n _ _ _ _ _).trans (flipM_n _ _ _)
theorem joinL_n (x : Bx) : ∀ (d : Nat) (t : Bt) (p k : Nat), (joinL x d t p k).1.m.n = t.m.n
  | 0, t, p, k => rfl
  | d + 1, t, p, k => by
    rw [joinL]
    split
    · split
      · exact (joinL_n x d _ _ _).trans (flipM_n _ _ _)
      · rfl
    · rfl
/-- A buddy without fault, its live blocks being L. -/
def Sn (x : Bx) (t : Bt) (L : Nat → Nat → Prop) : Prop := ∃ fr B, Sd x t fr B ∧ (∀ q i, ¬ B 9 q i) ∧ ∀ q i, B 2 q i ↔ L q i
/-- Two stretches meet. -/
def Meet (p k q i : Nat) : Prop := p < q + 2 ^ i ∧ q < p + 2 ^ k
/-- A call is done: t is t', the live blocks are L'. -/
def Done (x : Bx) (t : Bt) (w w' : World) (L' : Nat → Nat → Prop) : Prop := ∃ t', BdAt w' x t' ∧ Kept (bown x) w w' ∧ Sn x t' L' ∧ t'.m.n = t.m.n
/-- The pages of the blocks L. -/
def Lp (L : Nat → Nat → Prop) (g : Nat) : Prop := ∃ q i, L q i ∧ q ≤ g ∧ g < q + 2 ^ i
/-- .. and the cells of pages that are live ahead of it and behind it are as they were. -/
def DoneK (x : Bx) (t : Bt) (w w' : World) (L L' : Nat → Nat → Prop) : Prop := ∃ t', BdAt w' x t' ∧ Kept (bown x) w w' ∧ Sn x t' L' ∧ t'.m.n = t.m.n ∧ Kp x t t' (fun g => Lp L g ∧ Lp L' g)
theorem DoneK.done {x t w w' L L'} (h : DoneK x t w w' L L') : Done x t w w' L' := by
  obtain ⟨t', h1, h2, h3, h4, _⟩ := h
  exact ⟨t', h1, h2, h3, h4⟩
theorem Sd.notfr {x t fr B} (s : Sd x t fr B) {L : Nat → Nat → Prop} (hL : ∀ q i, B 2 q i ↔ L q i) {g : Nat} (h : Lp L g) : ∀ j, ¬ B 0 g j := by
  obtain ⟨q, i, h1, h2, h3⟩ := h
  intro j hb
  have hz : 0 < 2 ^ j := Nat.pow_pos (by decide)
  rcases s.ds _ _ _ _ _ _ ((hL q i).2 h1) hb with ⟨e, _⟩ | e | e <;> omega
theorem Sd.notfr' {x t fr B} (s : Sd x t fr B) {L : Nat → Nat → Prop} (hL : ∀ q i, B 2 q i ↔ L q i) {g : Nat} (h : Lp L g) : ∀ j, j ≤ x.o → g ∉ fr j := fun j hj hm => s.notfr hL h j ((s.fi g j).2 ⟨hj, hm⟩)
theorem Sn.apart {x t L} (s : Sn x t L) {p k q i : Nat} (h1 : L p k) (h2 : L q i) : (p = q ∧ k = i) ∨ p + 2 ^ k ≤ q ∨ q + 2 ^ i ≤ p := by
  obtain ⟨fr, B, s, _, hL⟩ := s
  rcases s.ds _ _ _ _ _ _ ((hL p k).2 h1) ((hL q i).2 h2) with ⟨_, e⟩ | e
  · exact .inl e
  · exact .inr e
theorem Sn.al {x t L} (s : Sn x t L) {p k : Nat} (h : L p k) : k ≤ x.o ∧ p % 2 ^ k = 0 ∧ p + 2 ^ k ≤ t.m.n := by
  obtain ⟨fr, B, s, _, hL⟩ := s
  exact s.al _ _ _ ((hL p k).2 h)
/-- Either no head from k on, or a least one. -/
theorem least_or (x : Bx) (t : Bt) (k : Nat) : (∀ a, k ≤ a → a ≤ x.o → t.hd a = 0) ∨ ∃ j, j ≤ x.o ∧ Least x t k j := by
  have main : ∀ d, ∀ a0, k ≤ a0 → a0 + d = x.o + 1 → (∀ a, k ≤ a → a < a0 → t.hd a = 0) → (∀ a, k ≤ a → a ≤ x.o → t.hd a = 0) ∨ ∃ j, j ≤ x.o ∧ Least x t k j := by
    intro d
    induction d with
    | zero => exact fun a0 h1 h2 h3 => .inl fun a h4 h5 => h3 a h4 (by omega)
    | succ d ih =>
      intro a0 h1 h2 h3
      by_cases e : t.hd a0 = 0
      · refine ih (a0 + 1) (by omega) (by omega) fun a h4 h5 => ?_
        by_cases ea : a = a0
        · rw [ea]; exact e
        · exact h3 a h4 (by omega)
      · exact .inr ⟨a0, by omega, h1, by omega, h3, fun _ => e⟩
  by_cases hk : k ≤ x.o
  · exact main (x.o + 1 - k) k (Nat.le_refl _) (by omega) fun a h1 h2 => by omega
  · exact .inl fun a h1 h2 => by omega
theorem Take_snK (x : Bx) (t : Bt) (L : Nat → Nat → Prop) (s : Sn x t L) (k : Nat) (hk : k ≤ x.o) (w : World) (h : BdAt w x t) :
    Calls Tryz.prog 10 #[.pointer (some ⟨x.b, 0, none⟩), .int .i64 (k : Int)] w fun e w' =>
      (e = .returned (.tuple #[.int .u64 0, .int .i64 2]) ∧ w' = w ∧ ∀ a, a % 2 ^ k = 0 → a + 2 ^ k ≤ t.m.n → ∃ q i, L q i ∧ Meet a k q i) ∨
      (∃ p, e = .returned (.tuple #[.int .u64 ((ad x p : Nat) : Int), .int .i64 0]) ∧ DoneK x t w w' L (fun q i => L q i ∨ (q = p ∧ i = k)) ∧ p % 2 ^ k = 0 ∧ p + 2 ^ k ≤ t.m.n ∧ ∀ q i, L q i → ¬ Meet p k q i) := by
  obtain ⟨fr, B, s, hN, hL⟩ := s
  rcases least_or x t k with hz | ⟨j, hj, hl⟩
  · refine (Take_empty x t k hk hz w h).mono ?_
    rintro e w' ⟨rfl, rfl⟩
    refine .inl ⟨rfl, rfl, fun a h1 h2 => ?_⟩
    refine Classical.byContradiction fun hno => ?_
    obtain ⟨q, j, h3, h4, _⟩ := s.stretch hN hk h1 h2 fun p j hb => by
      by_cases e : p + 2 ^ j ≤ a ∨ a + 2 ^ k ≤ p
      · exact e
      · exact absurd ⟨p, j, (hL p j).1 hb, by unfold Meet; omega⟩ hno
    obtain ⟨h5, h6⟩ := (s.fi q j).1 h4
    have := (s.ch j h5).zero.1 (hz j h3 h5)
    rw [List.map_eq_nil_iff] at this
    rw [this] at h6
    cases h6
  · obtain ⟨p, l, hfr⟩ : ∃ p l, fr j = p :: l := by
      cases e : fr j with
      | nil => exact absurd ((s.ch j hj).zero.2 (by rw [e]; rfl)) (hl.lh hj)
      | cons p l => exact ⟨p, l, rfl⟩
    obtain ⟨c1, c2, c3, c4, c5, c6, fr', B', c7, c8, c9, _, c11⟩ := s.take hN hl.lk hj hfr
    refine (Take_yes x t k j p hk hl hj c1 c2 c3 c4 c5 c6 w h).mono ?_
    rintro e w' ⟨rfl, h1, h2⟩
    have hb := (c9 p k).2 (.inr ⟨rfl, rfl⟩)
    have hal := c7.al _ _ _ hb
    rw [takeT_n] at hal
    have hb0 : B 0 p j := (s.fi p j).2 ⟨hj, by rw [hfr]; exact List.mem_cons_self⟩
    have hkj : 2 ^ k ≤ 2 ^ j := Nat.pow_le_pow_right (by decide) hl.lk
    have hL' : ∀ q i, B' 2 q i ↔ (L q i ∨ (q = p ∧ i = k)) := fun q i => by rw [c9, hL]
    refine .inr ⟨p, rfl, ⟨_, h1, h2, ⟨fr', B', c7, c8, hL'⟩, takeT_n _ _ _ _ _, c11.mono fun g hg => ⟨s.notfr' hL hg.1, c7.notfr' hL' hg.2⟩⟩, hal.2.1, hal.2.2, fun q i hq hm => ?_⟩
    unfold Meet at hm
    rcases s.ds _ _ _ _ _ _ hb0 ((hL q i).2 hq) with e | e | e <;> omega
theorem Take_sn (x : Bx) (t : Bt) (L : Nat → Nat → Prop) (s : Sn x t L) (k : Nat) (hk : k ≤ x.o) (w : World) (h : BdAt w x t) :
    Calls Tryz.prog 10 #[.pointer (some ⟨x.b, 0, none⟩), .int .i64 (k : Int)] w fun e w' =>
      (e = .returned (.tuple #[.int .u64 0, .int .i64 2]) ∧ w' = w ∧ ∀ a, a % 2 ^ k = 0 → a + 2 ^ k ≤ t.m.n → ∃ q i, L q i ∧ Meet a k q i) ∨
      (∃ p, e = .returned (.tuple #[.int .u64 ((ad x p : Nat) : Int), .int .i64 0]) ∧ Done x t w w' (fun q i => L q i ∨ (q = p ∧ i = k)) ∧ p % 2 ^ k = 0 ∧ p + 2 ^ k ≤ t.m.n ∧ ∀ q i, L q i → ¬ Meet p k q i) := by
  refine (Take_snK x t L s k hk w h).mono ?_
  rintro e w' (h1 | ⟨p, h1, h2, h3⟩)
  · exact .inl h1
  · exact .inr ⟨p, h1, h2.done, h3⟩
theorem Sn.live_iff {x t L} (s : Sn x t L) (p k : Nat) (hp : p < t.m.n) : liveB x t (ad x p) (k : Int) = true ↔ L p k := by
  obtain ⟨fr, B, s, hN, hL⟩ := s
  rw [s.live_iff hN p k hp, hL]
theorem Sn.n {x t L} (s : Sn x t L) : t.m.n ≤ 1024 ∧ x.base + x.n ≤ 9223372036854775808 ∧ t.m.n * 4096 ≤ x.n := by
  obtain ⟨fr, B, s, hN, hL⟩ := s
  exact ⟨s.n1, s.b2, s.nb⟩
theorem Give_snK (x : Bx) (t : Bt) (L : Nat → Nat → Prop) (s : Sn x t L) (p k : Nat) (hl : L p k) (w : World) (h : BdAt w x t) :
    Calls Tryz.prog 18 #[.pointer (some ⟨x.b, 0, none⟩), .int .u64 ((ad x p : Nat) : Int), .int .i64 (k : Int)] w fun e w' => e = .returned (.int .i64 0) ∧ DoneK x t w w' L (fun q i => L q i ∧ ¬ (q = p ∧ i = k)) := by
  obtain ⟨n1, n2, n3⟩ := s.n
  obtain ⟨a1, a2, a3⟩ := s.al hl
  have hz : 0 < 2 ^ k := Nat.pow_pos (by decide)
  have hlv := (s.live_iff p k (by omega)).2 hl
  obtain ⟨fr, B, s, hN, hL⟩ := s
  obtain ⟨pg1, _⟩ := page_ad s p (by omega)
  obtain ⟨t', p', k', c1, c2, B', c3, c4, c5, _, _, c6⟩ := s.give hN ((hL p k).2 hl)
  refine (Give_yes x t (ad x p) k (by unfold ad; omega) hlv w h).mono ?_
  rintro e w' ⟨tr, pr, kr, hj, rfl, h1, h2⟩
  rw [pg1, c1] at hj
  cases hj
  have hL' : ∀ q i, B' 2 q i ↔ (L q i ∧ ¬ (q = p ∧ i = k)) := fun q i => by rw [c5, hL]
  refine ⟨by rw [c2]; rfl, _, h1, h2, ⟨_, B', c3, c4, hL'⟩, ?_, c6.mono fun g hg => ⟨s.notfr' hL hg.1, c3.notfr hL' hg.2⟩⟩
  rw [enterT_n]
  have := joinL_n x (x.o - k) t p k
  rw [c1] at this
  exact this
theorem Give_sn (x : Bx) (t : Bt) (L : Nat → Nat → Prop) (s : Sn x t L) (p k : Nat) (hl : L p k) (w : World) (h : BdAt w x t) :
    Calls Tryz.prog 18 #[.pointer (some ⟨x.b, 0, none⟩), .int .u64 ((ad x p : Nat) : Int), .int .i64 (k : Int)] w fun e w' => e = .returned (.int .i64 0) ∧ Done x t w w' (fun q i => L q i ∧ ¬ (q = p ∧ i = k)) := by
  refine (Give_snK x t L s p k hl w h).mono ?_
  rintro e w' ⟨h1, h2⟩
  exact ⟨h1, h2.done⟩
theorem Give_no_sn (x : Bx) (t : Bt) (L : Nat → Nat → Prop) (s : Sn x t L) (p k : Nat) (hp : p < t.m.n) (hl : ¬ L p k) (w : World) (h : BdAt w x t) :
    Calls Tryz.prog 18 #[.pointer (some ⟨x.b, 0, none⟩), .int .u64 ((ad x p : Nat) : Int), .int .i64 (k : Int)] w fun e w' => e = .returned (.int .i64 1) ∧ Kept none' w w' := by
  obtain ⟨n1, n2, n3⟩ := s.n
  refine Give_no x t (ad x p) (k : Int) (by unfold ad; omega) ?_ w h
  have := s.live_iff p k hp
  cases e : liveB x t (ad x p) (k : Int) with
  | false => rfl
  | true => exact absurd (this.1 e) hl
theorem Shrink_snK (x : Bx) (t : Bt) (L : Nat → Nat → Prop) (s : Sn x t L) (p k o : Nat) (hl : L p k) (ho : o ≤ k) (w : World) (h : BdAt w x t) :
    Calls Tryz.prog 50 #[.pointer (some ⟨x.b, 0, none⟩), .int .u64 ((ad x p : Nat) : Int), .int .i64 (k : Int), .int .i64 (o : Int)] w fun e w' => e = .returned (.int .i64 0) ∧ DoneK x t w w' L (fun q i => (L q i ∧ ¬ (q = p ∧ i = k)) ∨ (q = p ∧ i = o)) := by
  obtain ⟨n1, n2, n3⟩ := s.n
  obtain ⟨a1, a2, a3⟩ := s.al hl
  have hz : 0 < 2 ^ k := Nat.pow_pos (by decide)
  have hlv := (s.live_iff p k (by omega)).2 hl
  obtain ⟨fr, B, s, hN, hL⟩ := s
  obtain ⟨pg1, _⟩ := page_ad s p (by omega)
  obtain ⟨c1, fr', B', c3, c4, c5, _, c6⟩ := s.shrink hN ((hL p k).2 hl) ho
  refine (Shrink_yesB x t (ad x p) k o (by unfold ad; omega) hlv ho w h).mono ?_
  rintro e w' ⟨rfl, h1, h2⟩
  rw [pg1] at h1 ⊢
  have hL' : ∀ q i, B' 2 q i ↔ ((L q i ∧ ¬ (q = p ∧ i = k)) ∨ (q = p ∧ i = o)) := fun q i => by rw [c5, hL]
  exact ⟨by rw [c1]; rfl, _, h1, h2, ⟨_, B', c3, c4, hL'⟩, cutT_n _ _ _ _ _, c6.mono fun g hg => c3.notfr' hL' hg.2⟩
theorem Shrink_sn (x : Bx) (t : Bt) (L : Nat → Nat → Prop) (s : Sn x t L) (p k o : Nat) (hl : L p k) (ho : o ≤ k) (w : World) (h : BdAt w x t) :
    Calls Tryz.prog 50 #[.pointer (some ⟨x.b, 0, none⟩), .int .u64 ((ad x p : Nat) : Int), .int .i64 (k : Int), .int .i64 (o : Int)] w fun e w' => e = .returned (.int .i64 0) ∧ Done x t w w' (fun q i => (L q i ∧ ¬ (q = p ∧ i = k)) ∨ (q = p ∧ i = o)) := by
  refine (Shrink_snK x t L s p k o hl ho w h).mono ?_
  rintro e w' ⟨h1, h2⟩
  exact ⟨h1, h2.done⟩
end Go.Proofs.YthglogiglimebaaGreat
/- P5.7: Feed, Pull; a new buddy; regions that come and go. -/
namespace Go.Proofs.YthglogiglimebaaGreat
open Go.RowKit
set_option linter.unusedVariables false

theorem Sn.new (x : Bx) (f : Nat → Nat) (ho : x.o ≤ 8) (hb : 1 ≤ x.base) (h63 : x.base + x.n ≤ 9223372036854775808) : Sn x ⟨f, newM x.o, fun _ => 0⟩ (fun _ _ => False) := by
  refine ⟨fun _ => [], fun _ _ _ => False, ⟨rfl, ho, ⟨0, by simp [newM]⟩, by simp [newM], by simp [newM], hb, h63, fun _ _ _ h => h.elim, fun p k => ⟨fun h => h.elim, fun h => by cases h.2⟩, fun _ _ _ h => h.elim, fun _ _ _ _ _ _ h => h.elim, fun i hi => absurd hi (Nat.not_lt_zero _), fun _ _ _ h => h.elim, fun k hk => M.Chn.nil _ _ _, fun k hk => ?_, fun k hk i hi => ?_, fun k hk i h => by cases h.1⟩, fun _ _ h => h, fun _ _ => Iff.rfl⟩
  · show 0 = (0 / 2 ^ (k + 1) + 63) / 64
    rw [Nat.zero_div]
  · have hi : i < 0 / 2 ^ (k + 1) := hi
    rw [Nat.zero_div] at hi
    omega
theorem bd_words {w x t} (h : BdAt w x t) : (∀ k, k < x.o → ∀ i, (t.m.wd k).getD i 0 < 2 ^ 64) ∧ ∀ k, k < x.o → ∀ j, t.m.n / 2 ^ (k + 1) ≤ j → bit (t.m.wd k) j = false :=
  ⟨fun k hk => (set_words (h.mp.set k (by rw [h.mo]; exact hk))).1, fun k hk => (set_words (h.mp.set k (by rw [h.mo]; exact hk))).2⟩
theorem Sn.grow {w x t L} (s : Sn x t L) (h : BdAt w x t) (x' : Bx) (ho : x'.o = x.o) (hb : x'.base = x.base) (hn : x'.n = x.n + x.R) (h63 : x.base + x'.n ≤ 9223372036854775808) (hg : t.m.n + 2 ^ x.o ≤ 1024) :
    Sn x' ⟨M.more t.f x.n, growM t.m, t.hd⟩ (fun q i => L q i ∨ (q = t.m.n ∧ i = x.o)) := by
  obtain ⟨hz, hp⟩ := bd_words h
  have hR := h.hR
  obtain ⟨fr, B, s, hN, hL⟩ := s
  have hnb := s.nb
  refine ⟨fr, plus B 2 t.m.n x.o, s.grow x' ho hb (by rw [hn, hR, Nat.add_mul, Nat.mul_comm (2 ^ x.o)]; exact Nat.add_le_add_right hnb _) h63 hg _ (fun i hi => ?_) hz hp, ?_, ?_⟩
  · unfold M.more
    rw [if_pos (by omega)]
  · rintro q i (h | ⟨e, _⟩)
    · exact hN q i h
    · omega
  · intro q i
    unfold plus
    rw [hL]
    constructor
    · rintro (h | ⟨_, h⟩)
      · exact .inl h
      · exact .inr h
    · rintro (h | h)
      · exact .inl h
      · exact .inr ⟨rfl, h⟩
theorem Sn.drop {w x t L} (s : Sn x t L) (h : BdAt w x t) (c : Nat) (hc : t.m.n = c + 2 ^ x.o) (hl : L c x.o) (x' : Bx) (ho : x'.o = x.o) (hb : x'.base = x.base) (hn : c * 4096 ≤ x'.n) (hn2 : x'.n ≤ x.n) :
    Sn x' ⟨t.f, resizeM t.m c, t.hd⟩ (fun q i => L q i ∧ ¬ (q = c ∧ i = x.o)) := by
  obtain ⟨hz, hp⟩ := bd_words h
  obtain ⟨fr, B, s, hN, hL⟩ := s
  have hb2 := s.b2
  refine ⟨fr, minus B 2 c x.o, s.drop c hc ((hL c x.o).2 hl) x' ho hb hn (by omega) _ (fun i hi => rfl) hz, fun q i h => hN q i h.1, fun q i => ?_⟩
  unfold minus
  rw [hL]
  constructor
  · exact fun h => ⟨h.1, fun e => h.2 ⟨rfl, e⟩⟩
  · exact fun h => ⟨h.1, fun e => h.2 e.2⟩
/-- The topmost region's first page. -/
theorem Sn.top {x t L} (s : Sn x t L) (hn : topOk x t) : t.m.n = topP x + 2 ^ x.o ∧ topP x % 2 ^ x.o = 0 := by
  obtain ⟨fr, B, s, hN, hL⟩ := s
  obtain ⟨r, hr⟩ := s.dv
  obtain ⟨h1, h2⟩ := hn
  have h3 : x.n / 4096 = t.m.n := by omega
  have hr1 : 1 ≤ r := by
    rcases Nat.eq_zero_or_pos r with e | e
    · rw [e, Nat.zero_mul] at hr; omega
    · exact e
  have h4 : r * 2 ^ x.o = (r - 1) * 2 ^ x.o + 2 ^ x.o := by
    rw [show r = (r - 1) + 1 by omega, Nat.add_mul, Nat.one_mul]; rfl
  have h5 : topP x = (r - 1) * 2 ^ x.o := by unfold topP; omega
  exact ⟨by omega, by rw [h5]; exact Nat.mul_mod_left _ _⟩
theorem Feed_snK (x : Bx) (t : Bt) (L : Nat → Nat → Prop) (s : Sn x t L) (hn : topOk x t) (hl : L (topP x) x.o) (w : World) (h : BdAt w x t) :
    Calls Tryz.prog 15 #[.pointer (some ⟨x.b, 0, none⟩)] w fun e w' => e = .returned (.int .i64 0) ∧ DoneK x t w w' L (fun q i => L q i ∧ ¬ (q = topP x ∧ i = x.o)) := by
  obtain ⟨t1, t2⟩ := s.top hn
  have hz : 0 < 2 ^ x.o := Nat.pow_pos (by decide)
  have hlv := (s.live_iff (topP x) x.o (by omega)).2 hl
  obtain ⟨fr, B, s, hN, hL⟩ := s
  obtain ⟨pg1, _⟩ := page_ad s (topP x) (by omega)
  obtain ⟨t', p', k', c1, c2, B', c3, c4, c5, _, _, c6⟩ := s.give hN ((hL (topP x) x.o).2 hl)
  rw [Nat.sub_self, joinL] at c1
  cases c1
  refine (Feed_yes x t hn hlv (by rw [pg1]; exact c2) w h).mono ?_
  rintro e w' ⟨rfl, h1, h2⟩
  rw [pg1] at h1
  have hL' : ∀ q i, B' 2 q i ↔ (L q i ∧ ¬ (q = topP x ∧ i = x.o)) := fun q i => by rw [c5, hL]
  exact ⟨rfl, _, h1, h2, ⟨_, B', c3, c4, hL'⟩, enterT_n _ _ _ _, c6.mono fun g hg => ⟨s.notfr' hL hg.1, c3.notfr hL' hg.2⟩⟩
theorem Feed_sn (x : Bx) (t : Bt) (L : Nat → Nat → Prop) (s : Sn x t L) (hn : topOk x t) (hl : L (topP x) x.o) (w : World) (h : BdAt w x t) :
    Calls Tryz.prog 15 #[.pointer (some ⟨x.b, 0, none⟩)] w fun e w' => e = .returned (.int .i64 0) ∧ Done x t w w' (fun q i => L q i ∧ ¬ (q = topP x ∧ i = x.o)) := by
  refine (Feed_snK x t L s hn hl w h).mono ?_
  rintro e w' ⟨h1, h2⟩
  exact ⟨h1, h2.done⟩
theorem Sn.top_free {x t L} (s : Sn x t L) (hn : topOk x t) : freeB x t (topP x) x.o = true ↔ ∀ q i, L q i → ¬ Meet (topP x) x.o q i := by
  obtain ⟨t1, t2⟩ := s.top hn
  obtain ⟨fr, B, s, hN, hL⟩ := s
  rw [s.free_iff hN _ _ (Nat.le_refl _)]
  have hz : 0 < 2 ^ x.o := Nat.pow_pos (by decide)
  constructor
  · intro hb q i hq hm
    unfold Meet at hm
    rcases s.ds _ _ _ _ _ _ hb ((hL q i).2 hq) with e | e | e <;> omega
  · intro hf
    obtain ⟨q, j, h1, h2, h3, h4⟩ := s.stretch hN (Nat.le_refl _) t2 (Nat.le_of_eq t1.symm) fun p j hb => by
      have := hf p j ((hL p j).1 hb)
      unfold Meet at this
      omega
    obtain ⟨a1, a2, a3⟩ := s.al _ _ _ h2
    have ej : j = x.o := by omega
    subst ej
    have eq : q = topP x := by omega
    rw [← eq]
    exact h2
theorem Pull_snK (x : Bx) (t : Bt) (L : Nat → Nat → Prop) (s : Sn x t L) (hn : topOk x t) (hl : ∀ q i, L q i → ¬ Meet (topP x) x.o q i) (w : World) (h : BdAt w x t) :
    Calls Tryz.prog 43 #[.pointer (some ⟨x.b, 0, none⟩)] w fun e w' => e = .returned (.int .i64 0) ∧ DoneK x t w w' L (fun q i => L q i ∨ (q = topP x ∧ i = x.o)) := by
  obtain ⟨t1, t2⟩ := s.top hn
  have hz : 0 < 2 ^ x.o := Nat.pow_pos (by decide)
  have hfb := (s.top_free hn).2 hl
  obtain ⟨fr, B, s, hN, hL⟩ := s
  have hb := (s.free_iff hN _ _ (Nat.le_refl _)).1 hfb
  obtain ⟨_, hm⟩ := (s.fi _ _).1 hb
  obtain ⟨c1, c2⟩ := s.leave (Nat.le_refl _) hm (q := topP x) (by omega) rfl
  have et : turnT (remT x t (topP x) x.o) (topP x : Int) (x.o : Int) = remT x t (topP x) x.o := by
    unfold turnT
    rw [flipM_no _ _ _ (by show ¬ x.o < t.m.o; rw [s.mo]; exact Nat.lt_irrefl _)]
  rw [et] at c2
  have c3 := c2.live (p := topP x) (k := x.o) (.inr ⟨rfl, rfl, rfl⟩)
  refine (Pull_yes x t hn hfb c1 w h).mono ?_
  rintro e w' ⟨rfl, h1, h2⟩
  refine ⟨rfl, _, h1, h2, ⟨_, _, c3, ?_, ?_⟩, runM_n _ _ _ _, ((s.leaveK (Nat.le_refl _) hm).to (t'' := pullT x t) rfl).mono fun g hg => s.notfr' hL hg.1 x.o (Nat.le_refl _)⟩
  · rintro q i (⟨⟨h3, _⟩ | ⟨_, h3, h4⟩, h5⟩ | ⟨h3, _⟩)
    · exact hN q i h3
    · exact h5 ⟨rfl, h3, h4⟩
    · omega
  · intro q i
    show rep (rep B 0 (topP x) x.o 9) 9 (topP x) x.o 2 2 q i ↔ (L q i ∨ q = topP x ∧ i = x.o)
    rw [← hL q i]
    constructor
    · rintro (⟨⟨h3, _⟩ | ⟨h3, _⟩, _⟩ | ⟨_, h3⟩)
      · exact .inl h3
      · omega
      · exact .inr h3
    · rintro (h3 | h3)
      · exact .inl ⟨.inl ⟨h3, fun e => by omega⟩, fun e => by omega⟩
      · exact .inr ⟨rfl, h3⟩
theorem Pull_sn (x : Bx) (t : Bt) (L : Nat → Nat → Prop) (s : Sn x t L) (hn : topOk x t) (hl : ∀ q i, L q i → ¬ Meet (topP x) x.o q i) (w : World) (h : BdAt w x t) :
    Calls Tryz.prog 43 #[.pointer (some ⟨x.b, 0, none⟩)] w fun e w' => e = .returned (.int .i64 0) ∧ Done x t w w' (fun q i => L q i ∨ (q = topP x ∧ i = x.o)) := by
  refine (Pull_snK x t L s hn hl w h).mono ?_
  rintro e w' ⟨h1, h2⟩
  exact ⟨h1, h2.done⟩
theorem Pull_no_sn (x : Bx) (t : Bt) (L : Nat → Nat → Prop) (s : Sn x t L) (hn : ¬ topOk x t ∨ ∃ q i, L q i ∧ Meet (topP x) x.o q i) (w : World) (h : BdAt w x t) :
    Calls Tryz.prog 43 #[.pointer (some ⟨x.b, 0, none⟩)] w fun e w' => e = .returned (.int .i64 9) ∧ Kept none' w w' := by
  refine Pull_no x t ?_ w h
  by_cases ht : topOk x t
  · refine .inr ⟨ht, ?_⟩
    rcases hn with hn | ⟨q, i, h1, h2⟩
    · exact absurd ht hn
    · cases e : freeB x t (topP x) x.o with
      | false => rfl
      | true => exact absurd h2 ((s.top_free ht).1 e q i h1)
  · exact .inl ht
end Go.Proofs.YthglogiglimebaaGreat
/- croftref5's lives of any live list. -/
namespace Go.Proofs.YthglogiglimebaaGreat
open Go.RowKit
set_option linter.unusedVariables false

/-- The cells of n Runs. -/
def flatR (R : Nat → Int × Int) : Nat → List Value
  | 0 => []
  | n + 1 => flatR R n ++ [.int .i64 (R n).1, .int .i64 (R n).2]
theorem flatR_len (R : Nat → Int × Int) : ∀ n, (flatR R n).length = n * 2
  | 0 => rfl
  | n + 1 => by rw [flatR, List.length_append, flatR_len R n]; simp; omega
theorem flatR_get (R : Nat → Int × Int) : ∀ n i, i < n → (flatR R n)[2 * i]? = some (.int .i64 (R i).1) ∧ (flatR R n)[2 * i + 1]? = some (.int .i64 (R i).2)
  | 0, i, h => by omega
  | n + 1, i, h => by
    have hl := flatR_len R n
    rw [flatR]
    by_cases e : i = n
    · subst e
      rw [List.getElem?_append_right (by omega), List.getElem?_append_right (by omega), hl]
      rw [show 2 * i - i * 2 = 0 by omega, show 2 * i + 1 - i * 2 = 1 by omega]
      exact ⟨rfl, rfl⟩
    · rw [List.getElem?_append_left (by omega), List.getElem?_append_left (by omega)]
      exact flatR_get R n i (by omega)
/-- n Runs lie in a block of them. -/
def Rns (W : World) (v : Value) (n : Nat) (R : Nat → Int × Int) : Prop := W.ownsRow 0 104 2 v n (flatR R n)
theorem Rns.val {W v n R} (h : Rns W v n R) : ∃ va vc, v = .slice va n vc := by
  rcases h.2 with ⟨h0, h1⟩ | ⟨g, cap, cur, h0, _⟩
  · exact ⟨none, 0, by rw [h0, h1]⟩
  · exact ⟨_, _, h0⟩
theorem Rns.kept {W W' v n R} {S : Nat → Prop} (h : Rns W v n R) (k : Kept S W W') (hS : ∀ x, v.ownBlock = some x → ¬ S x) : Rns W' v n R := by
  refine ⟨h.1, ?_⟩
  rcases h.2 with h0 | ⟨g, cap, cur, h0, hb, hg, h3⟩
  · exact .inl h0
  · refine .inr ⟨g, cap, cur, h0, hb, (k.block _ (heap_lt hg) (hS g (by rw [h0]; rfl))).trans hg, h3⟩
theorem add0 (g j : Nat) : (⟨g, 0, none⟩ : Addr).add j = ⟨g, j, none⟩ := by
  cases j <;> simp [Addr.add]
theorem Rns.get {W va n vc R} (h : Rns W (.slice va n vc) n R) (i : Nat) (hi : i < n) : ∃ g, va = some ⟨g, 0, none⟩ ∧ W.cell? ⟨g, i * 2, none⟩ = some (.int .i64 (R i).1) ∧ W.cell? ⟨g, i * 2 + 1, none⟩ = some (.int .i64 (R i).2) := by
  obtain ⟨e1, e2⟩ := flatR_get R n i hi
  rcases h.2 with ⟨_, h1⟩ | ⟨g, cap, cur, h0, _⟩
  · omega
  · injection h0 with h0
    refine ⟨g, h0, ?_, ?_⟩
    · have := World.ownsRow.cells h (g := g) (by rw [h0]; rfl) _ _ e1
      rw [add0, Nat.mul_comm] at this
      exact this
    · have := World.ownsRow.cells h (g := g) (by rw [h0]; rfl) _ _ e2
      rw [add0, Nat.mul_comm] at this
      exact this
/-- Between two rounds of lives. -/
structure Lv (w0 W : World) (x : Nat) (o p : Int) (fv lv : Value) (n k : Nat) (R : Nat → Int × Int) (v : Value) : Prop where
  gs : GS w0 W 104 2 v k (flatR R k)
  x0 : W.heap[x]? = some (r5O o p fv lv)
  y0 : W.heap[x + 1]? = some r5Z
  rn : Rns W lv n R
  nw : ∀ g, v.ownBlock = some g → w0.heap.size ≤ g
/-- What lives answers. -/
def Lives5P (w : World) (o p : Int) (fv : Value) (n : Nat) (R : Nat → Int × Int) (e : Ending) (w' : World) : Prop := ∃ g cap, e = .returned (r5V o p fv (.slice (some ⟨g, 0, none⟩) (n + 1) cap)) ∧ Kept none' w w' ∧ Rns w' (.slice (some ⟨g, 0, none⟩) (n + 1) cap) (n + 1) R ∧ w.heap.size ≤ g
theorem Lv.step {w0 W x o p fv lv n k R v g cap w'} (h : Lv w0 W x o p fv lv n k R v) (hx : x + 2 ≤ w0.heap.size) (hlv : ∀ y, lv.ownBlock = some y → y < w0.heap.size) (h2 : GS w0 w' 104 2 (.slice (some ⟨g, 0, none⟩) (k + 1) cap) (k + 1) (flatR R (k + 1))) (hg : w0.heap.size ≤ g) (hkeep : ∀ y, v.ownBlock ≠ some y → ∀ o, W.heap[y]? = some o → w'.heap[y]? = some o) :
    Lv w0 w' x o p fv lv n (k + 1) R (.slice (some ⟨g, 0, none⟩) (k + 1) cap) := by
  refine ⟨h2, hkeep x (fun e => by have := h.nw _ e; omega) _ h.x0, hkeep (x + 1) (fun e => by have := h.nw _ e; omega) _ h.y0, ?_, fun y e => ?_⟩
  · refine ⟨h.rn.1, ?_⟩
    rcases h.rn.2 with h0 | ⟨g, cap, cur, h0, hb, hg, h3⟩
    · exact .inl h0
    · exact .inr ⟨g, cap, cur, h0, hb, hkeep g (fun e => by have := h.nw _ e; have := hlv g (by rw [h0]; rfl); omega) _ hg, h3⟩
  · simp [Value.ownBlock] at e
    omega
set_option maxRecDepth 4000 in
set_option maxHeartbeats 1000000 in
theorem lives5_any (o p : Int) (fa : Option Addr) (fl fc : Nat) (va : Option Addr) (n vc : Nat) (R : Nat → Int × Int) (hn : n ≤ 1000) (pg k : Int) (hpk : R n = (pg, k)) (w : World) (h : Rns w (.slice va n vc) n R) :
    Calls Tryz.prog 82 #[r5V o p (.slice fa fl fc) (.slice va n vc), .int .i64 pg, .int .i64 k] w fun e w' => Lives5P w o p (.slice fa fl fc) n R e w' := by
  have T2 := two5 w (r5O o p (.slice fa fl fc) (.slice va n vc)) r5Z
  have K0 := hid T2.1
  have hlv : ∀ y, (Value.slice va n vc).ownBlock = some y → y < w.heap.size := fun y e => (World.ownsRow.lt h y e).2
  have S0 : ((w.alloc (r5O o p (.slice fa fl fc) (.slice va n vc))).alloc r5Z).heap.size = w.heap.size + 2 := by simp
  have L0 := hid (show Lv ((w.alloc (r5O o p (.slice fa fl fc) (.slice va n vc))).alloc r5Z) ((w.alloc (r5O o p (.slice fa fl fc) (.slice va n vc))).alloc r5Z) w.heap.size o p (.slice fa fl fc) (.slice va n vc) n 0 R (.slice none 0 0) from ⟨GS.nil _ _ _ _ (Kept.refl none' _), T2.2.1, T2.2.2, h.kept T2.1 (fun _ _ e => e), fun g e => by simp [Value.ownBlock] at e⟩)
  clear T2 h
  go_enter Tryz.func82, Tryz.ntmps82
  go_wp2_with fail
  generalize (w.alloc (r5O o p (.slice fa fl fc) (.slice va n vc))).alloc r5Z = W0 at *
  have HLV := hid hlv
  have HS0 := hid S0
  clear hlv S0
  go_loopw [7, 8] (fun l i W => ∃ j : Nat, j ≤ n ∧ i = .int .i64 j ∧ (∃ la lc, l = .slice la j lc) ∧ Hid (Lv W0 W w.heap.size o p (.slice fa fl fc) (.slice va n vc) n j R l)) (fun _ i _ => n - (intOf i).toNat)
  case atStart => exact ⟨0, by omega, rfl, ⟨none, 0, rfl⟩, L0⟩
  case round =>
    clear L0
    obtain ⟨j, hj, rfl, ⟨la, lc, rfl⟩, hR⟩ := hrel
    obtain ⟨x0, x1, x2, x3, fx⟩ := r5c hR.out.x0
    by_cases hlt : j < n
    · have hji : (j : Int) < (n : Int) := by omega
      obtain ⟨g0, hva, r0, r1⟩ := hR.out.rn.get j hlt
      subst hva
      obtain ⟨g, cap, w', hap, hg2, hge, hkeep⟩ := push_run5 hR.out.gs (R j).1 (R j).2 (by omega)
      have D := hid (hR.out.step (by have := HS0.out; omega) (fun y e => by have := HLV.out y e; have := HS0.out; omega) hg2 hge hkeep)
      have HAP := hid hap
      clear hap hg2 hge hkeep
      go_wp2_with (at_builtin; refine Lib.wpList_append_run _ rfl _ _ _ _ rfl (.slice la j lc) (.slice (some ⟨wr.heap.size, 0, none⟩) 1 1) rfl rfl _ _ (HAP.out _) ?_)
      exact ⟨⟨j + 1, by omega, by simp, ⟨_, _, rfl⟩, D⟩, by simp [intOf]; omega⟩
    · have hji : ¬ (j : Int) < (n : Int) := by omega
      have hjn : j = n := by omega
      subst hjn
      obtain ⟨g, cap, w', hap, hg2, hge, hkeep⟩ := push_run5 hR.out.gs pg k (by omega)
      have hg3 : GS W0 w' 104 2 (.slice (some ⟨g, 0, none⟩) (j + 1) cap) (j + 1) (flatR R (j + 1)) := by
        rw [flatR, hpk]; exact hg2
      have D := hR.out.step (by have := HS0.out; omega) (fun y e => by have := HLV.out y e; have := HS0.out; omega) hg3 hge hkeep
      have hx' := D.x0
      have hy' := D.y0
      obtain ⟨z0, z1, z2, z3, fz⟩ := r5c hx'
      have HAP := hid hap
      have hsz := HS0.out
      have ks : Kept (fun y => y = w.heap.size) w' (w'.setCell ⟨w.heap.size, 3, none⟩ (.slice (some ⟨g, 0, none⟩) (j + 1) cap)) := (Kept.refl (fun y => y = w.heap.size) w').setCell (p := ⟨w.heap.size, 3, none⟩) rfl _
      have X2 := hid (show (w'.setCell ⟨w.heap.size, 3, none⟩ (.slice (some ⟨g, 0, none⟩) (j + 1) cap)).heap[w.heap.size]? = some (r5O o p (.slice fa fl fc) (.slice (some ⟨g, 0, none⟩) (j + 1) cap)) from heap_set hx' 3 _)
      have Y2 := hid ((ks.block _ (heap_lt hy') (by omega)).trans hy')
      have K2 := hid ((none_trans K0.out D.gs.kp).setNew (p := ⟨w.heap.size, 3, none⟩) (fun e => absurd e (Nat.lt_irrefl _)) (.slice (some ⟨g, 0, none⟩) (j + 1) cap))
      have R1 : Rns w' (.slice (some ⟨g, 0, none⟩) (j + 1) cap) (j + 1) R := D.gs.own
      have R2 := R1.kept ks (fun y e => by simp [Value.ownBlock] at e; omega)
      have R3 := hid (show ∀ u0 u1 u2 u3, Rns (((((w'.setCell ⟨w.heap.size, 3, none⟩ (.slice (some ⟨g, 0, none⟩) (j + 1) cap)).setCell ⟨w.heap.size + 1, 0, none⟩ u0).setCell ⟨w.heap.size + 1, 1, none⟩ u1).setCell ⟨w.heap.size + 1, 2, none⟩ u2).setCell ⟨w.heap.size + 1, 3, none⟩ u3) (.slice (some ⟨g, 0, none⟩) (j + 1) cap) (j + 1) R from fun u0 u1 u2 u3 => by
        refine R2.kept (((((Kept.refl (fun y => y = w.heap.size + 1) _).setCell (p := ⟨w.heap.size + 1, 0, none⟩) rfl u0).setCell (p := ⟨w.heap.size + 1, 1, none⟩) rfl u1).setCell (p := ⟨w.heap.size + 1, 2, none⟩) rfl u2).setCell (p := ⟨w.heap.size + 1, 3, none⟩) rfl u3) (fun y e => ?_)
        simp [Value.ownBlock] at e
        omega)
      have HGE := hid (show w.heap.size ≤ g by omega)
      obtain ⟨a0, a1, a2, a3, fa4⟩ := r5c X2.out
      obtain ⟨b0, b1, b2, b3, fb⟩ := r5c Y2.out
      have HF := hid (fun u0 u1 u2 u3 => set4_kept K2.out (w.heap.size + 1) (by omega) u0 u1 u2 u3)
      clear hap hg2 hg3 hge hkeep hx' hy' ks D R1 R2 hsz
      go_wp2_with (at_builtin; refine Lib.wpList_append_run _ rfl _ _ _ _ rfl (.slice la j lc) (.slice (some ⟨wr.heap.size, 0, none⟩) 1 1) rfl rfl _ _ (HAP.out _) ?_)
      exact ⟨rfl, r5V o p (.slice fa fl fc) (.slice (some ⟨g, 0, none⟩) (j + 1) cap), by simp [results, Tryz.results82, go_sem, b0, b1, b2, b3], _, _, rfl, HF.out _ _ _ _, R3.out _ _ _ _, HGE.out⟩
end Go.Proofs.YthglogiglimebaaGreat
/- croftref5's Come of any live list; what a law's world does to such a list. -/
namespace Go.Proofs.YthglogiglimebaaGreat
open Go.RowKit
set_option linter.unusedVariables false

theorem flatR_congr {R R' : Nat → Int × Int} : ∀ n, (∀ i, i < n → R i = R' i) → flatR R n = flatR R' n
  | 0, _ => rfl
  | n + 1, h => by rw [flatR, flatR, flatR_congr n (fun i hi => h i (by omega)), h n (by omega)]
/-- n Runs, whatever they are. -/
def RL (W : World) (v : Value) (n : Nat) : Prop := ∃ R, Rns W v n R
theorem RL.kept {W W' v n} {S : Nat → Prop} (h : RL W v n) (k : Kept S W W') (hS : ∀ x, v.ownBlock = some x → ¬ S x) : RL W' v n := by
  obtain ⟨R, h⟩ := h
  exact ⟨R, h.kept k hS⟩
theorem RL.keep {W W' v n} (h : RL W v n) (k : Kept none' W W') : RL W' v n := h.kept k (fun _ _ e => e)
theorem RL.nil (W : World) : RL W (.slice none 0 0) 0 := ⟨fun _ => (0, 0), World.ownsRow_nil _ _ _ _⟩
theorem RL.lt {W v n} (h : RL W v n) {y : Nat} (e : v.ownBlock = some y) : y < W.heap.size := by
  obtain ⟨R, h⟩ := h
  exact (World.ownsRow.lt h y e).2
theorem RL.ty {W v n} (h : RL W v n) {y : Nat} (e : v.ownBlock = some y) : ∃ cs, W.heap[y]? = some (.cells cs 104 (0, 0)) := by
  obtain ⟨R, h⟩ := h
  rcases h.2 with ⟨h0, _⟩ | ⟨g, cap, cur, h0, hb, hg, h3⟩
  · rw [h0] at e; simp [Value.ownBlock] at e
  · rw [h0] at e; simp [Value.ownBlock] at e
    subst e
    exact ⟨_, hg⟩
def Come5Q (w : World) (o p : Int) (fv : Value) (n : Nat) (e : Ending) (w' : World) : Prop := ∃ g cap, e = .returned (r5V o p fv (.slice (some ⟨g, 0, none⟩) (n + 1) cap)) ∧ Kept none' w w' ∧ RL w' (.slice (some ⟨g, 0, none⟩) (n + 1) cap) (n + 1) ∧ w.heap.size ≤ g
set_option maxRecDepth 4000 in
theorem Come5_any (o p : Nat) (ho : o ≤ 8) (hp : p ≤ 1024) (fa : Option Addr) (fl fc : Nat) (va : Option Addr) (n vc : Nat) (hn : n ≤ 1000) (w : World) (h : RL w (.slice va n vc) n) :
    Calls Tryz.prog 59 #[r5V (o : Int) (p : Int) (.slice fa fl fc) (.slice va n vc)] w fun e w' => Come5Q w (o : Int) ((p + 2 ^ o : Nat) : Int) (.slice fa fl fc) n e w' := by
  have T2 := two5 w (r5O (o : Int) (p : Int) (.slice fa fl fc) (.slice va n vc)) r5Z
  have K0 := hid T2.1
  have X0 := hid T2.2.1
  have Y0 := hid T2.2.2
  clear T2
  obtain ⟨z, hz⟩ : ∃ z, z = 2 ^ o := ⟨_, rfl⟩
  have hzi : (2 : Int) ^ o = (z : Int) := by rw [hz]; simp
  have hz2 : z ≤ 256 := by rw [hz]; exact Nat.pow_le_pow_right (n := 2) (by decide) ho
  rw [← hz]
  obtain ⟨P, hP⟩ : ∃ P, P = p + z := ⟨_, rfl⟩
  have hPi : (p : Int) + (z : Int) = (P : Int) := by omega
  rw [← hP]
  clear hz hP
  have LV := hid (show ∀ W, Kept none' w W → Calls Tryz.prog 82 #[r5V (o : Int) (P : Int) (.slice fa fl fc) (.slice va n vc), .int .i64 (p : Int), .int .i64 (o : Int)] W fun e w' => Come5Q W (o : Int) (P : Int) (.slice fa fl fc) n e w' from fun W hW => by
    obtain ⟨R, hR⟩ := h.keep hW
    have hR' : Rns W (.slice va n vc) n (fun i => if i < n then R i else ((p : Int), (o : Int))) := by
      have := flatR_congr (R := R) (R' := fun i => if i < n then R i else ((p : Int), (o : Int))) n (fun i hi => by simp [hi])
      unfold Rns at hR ⊢
      rw [← this]
      exact hR
    refine (lives5_any (o : Int) (P : Int) fa fl fc va n vc _ hn (p : Int) (o : Int) (by simp) W hR').mono ?_
    rintro e w' ⟨g, cap, rfl, h1, h2, h3⟩
    exact ⟨g, cap, rfl, h1, ⟨_, h2⟩, h3⟩)
  clear h
  go_enter Tryz.func59, Tryz.ntmps59
  obtain ⟨x0, x1, x2, x3, fx⟩ := r5c X0.out
  have T3 := two5 w (r5O (o : Int) (P : Int) (.slice fa fl fc) (.slice va n vc)) r5Z
  have K1 := hid T3.1
  have Y1 := hid T3.2.2
  clear T3
  go_wp2_with fail
  refine (LV.out _ K1.out).mono ?_
  rintro e w4 ⟨g, cap, rfl, hk, hr, hg⟩
  have Y4 := hid ((hk.block _ (heap_lt Y1.out) (fun x => x)).trans Y1.out)
  have K4 := hid (none_trans K1.out hk)
  have hsz := K1.out.size
  have hlt := heap_lt Y1.out
  have HG := hid (show w.heap.size + 2 ≤ g by omega)
  obtain ⟨b0, b1, b2, b3, fb⟩ := r5c Y4.out
  have HF := hid (fun u0 u1 u2 u3 => set4_kept K4.out (w.heap.size + 1) (by omega) u0 u1 u2 u3)
  have HR := hid (show ∀ u0 u1 u2 u3, RL ((((w4.setCell ⟨w.heap.size + 1, 0, none⟩ u0).setCell ⟨w.heap.size + 1, 1, none⟩ u1).setCell ⟨w.heap.size + 1, 2, none⟩ u2).setCell ⟨w.heap.size + 1, 3, none⟩ u3) (.slice (some ⟨g, 0, none⟩) (n + 1) cap) (n + 1) from fun u0 u1 u2 u3 => by
    refine hr.kept (((((Kept.refl (fun y => y = w.heap.size + 1) _).setCell (p := ⟨w.heap.size + 1, 0, none⟩) rfl u0).setCell (p := ⟨w.heap.size + 1, 1, none⟩) rfl u1).setCell (p := ⟨w.heap.size + 1, 2, none⟩) rfl u2).setCell (p := ⟨w.heap.size + 1, 3, none⟩) rfl u3) (fun y e => ?_)
    have := HG.out
    simp [Value.ownBlock] at e
    omega)
  clear hk hr hg x0 x1 x2 x3 fx hsz hlt
  go_wp2_with fail
  exact ⟨rfl, r5V (o : Int) (P : Int) (.slice fa fl fc) (.slice (some ⟨g, 0, none⟩) (n + 1) cap), by simp [results, Tryz.results59, go_sem, b0, b1, b2, b3], _, _, rfl, HF.out _ _ _ _, HR.out _ _ _ _, by have := HG.out; omega⟩
/-- A law's world does nothing to a list of Runs. -/
theorem LW.rl {w W W' lw x t dP fv lv v n} (h : LW w W lw x t dP fv lv) (r : RL W v n) (k : Kept (bown x) W W') : RL W' v n := by
  refine r.kept k fun y e hx => ?_
  obtain ⟨cs, hg⟩ := r.ty e
  rcases hx with hx | hx | ⟨j, hj, e⟩
  · obtain ⟨cs, t', z, h1, h2⟩ := space_ty h.bd.sp hx
    rw [hg] at h1
    cases h1
    rcases h2 with e | e <;> exact absurd e (by decide)
  · rw [← h.bd.mo] at hx
    obtain ⟨cs, t', z, h1, h2⟩ := map_ty h.bd.mp hx
    rw [hg] at h1
    cases h1
    rcases h2 with e | e | e | e | e <;> exact absurd e (by decide)
  · exact ty_ne hg (h.bd.ls j hj).hc (by decide) e
end Go.Proofs.YthglogiglimebaaGreat
/- The law's come, of any live list. -/
namespace Go.Proofs.YthglogiglimebaaGreat
open Go.RowKit
set_option linter.unusedVariables false

/-- What come leaves. -/
def ComeQ (w W : World) (lw : Nat) (x : Bx) (t : Bt) (dP : Nat) (fv : Value) (nv : Nat) (e : Ending) (w' : World) : Prop := ∃ x' ga gc, e = .returned (.bool true) ∧ LW w w' lw x' ⟨M.more t.f x.n, growM t.m, t.hd⟩ (dP + 2 ^ x.o) fv (.slice ga (nv + 1) gc) ∧ RL w' (.slice ga (nv + 1) gc) (nv + 1) ∧ Kept (fun y => bown x y ∨ y = lw) W w' ∧ x'.base = x.base ∧ x'.R = x.R ∧ x'.lim = x.lim ∧ x'.n = x.n + x.R ∧ x'.o = x.o ∧ x'.b = x.b ∧ x'.s = x.s
set_option maxRecDepth 4000 in
set_option maxHeartbeats 1000000 in
theorem come_any (lw : Nat) (x : Bx) (t : Bt) (dP : Nat) (fa : Option Addr) (fl fc : Nat) (va : Option Addr) (nv vc : Nat) (hnv : nv ≤ 1000) (w W : World) (h : LW w W lw x t dP (.slice fa fl fc) (.slice va nv vc)) (r : RL W (.slice va nv vc) nv) (hk : ∃ k, x.n = k * x.R ∧ k + 1 ≤ x.lim) (hst : t.m.n * 4096 = x.n) (hd : dP = t.m.n) (hg : t.m.n + 2 ^ x.o ≤ 1024) :
    Calls Tryz.prog 14 #[.pointer (some ⟨lw, 0, none⟩)] W fun e w' => ComeQ w W lw x t dP (.slice fa fl fc) nv e w' := by
  have ho := h.bd.o8
  have CM := hid (M.Commit_ok x.s x.a x.base x.R x.lim x.n t.f W h.bd.sp hk)
  have hR1 := h.bd.sp.cfg.r1
  obtain ⟨c0, c1, c2, c3, c4, c5, c6, c7, c8, c9⟩ := h.c
  have H := hid h
  have RR := hid r
  clear r
  have HST := hid hst
  have HD := hid hd
  have HG := hid hg
  have HR1 := hid hR1
  clear h hk hst hd hg hR1
  go_enter Tryz.func14, Tryz.ntmps14
  go_wp2_with fail
  refine CM.out.mono ?_
  rintro e w1 ⟨rfl, g', hS, hK, hg'⟩
  have H1 := hid (H.out.space (toK hK) hS hg')
  have Q1 := hid (show Kept (bown x) W w1 from (Kept.refl (bown x) W).trans (toK hK) (fun _ _ e => e) (fun _ _ e => .inl e))
  have NT := hid (show ¬ topOk { x with a := some g', n := x.n + x.R } { t with f := M.more t.f x.n } from fun e => by
    have h2 : t.m.n * 4096 = x.n + x.R := e.2
    have := HST.out
    have := HR1.out
    omega)
  have FD := hid (Feed_no _ _ (.inl NT.out) w1 H1.out.bd)
  clear hS hK hg' c0 c1 c2 c3 c4 c5 c6 c7 c8 c9 CM
  obtain ⟨c0, c1, c2, c3, c4, c5, c6, c7, c8, c9⟩ := H1.out.c
  go_wp2_with fail
  refine FD.out.mono ?_
  rintro e w2 ⟨rfl, hk⟩
  have H2 := hid (H1.out.keep hk)
  have Q2 := hid (Q1.out.trans hk (fun _ _ e => e) (fun _ _ e => e.elim))
  have PL2 := hid (Pull_no _ _ (.inl NT.out) w2 H2.out.bd)
  clear hk c0 c1 c2 c3 c4 c5 c6 c7 c8 c9 FD H1
  obtain ⟨c0, c1, c2, c3, c4, c5, c6, c7, c8, c9⟩ := H2.out.c
  go_wp2_with fail
  refine PL2.out.mono ?_
  rintro e w3 ⟨rfl, hk⟩
  have H3 := hid (H2.out.keep hk)
  have Q3 := hid (Q2.out.trans hk (fun _ _ e => e) (fun _ _ e => e.elim))
  clear hk c0 c1 c2 c3 c4 c5 c6 c7 c8 c9 PL2 H2
  obtain ⟨c0, c1, c2, c3, c4, c5, c6, c7, c8, c9⟩ := H3.out.c
  go_wp2_with fail
  refine (Grow_any x.m x.B t.m _ H3.out.bd.mp).mono ?_
  rintro e w4 ⟨rfl, B', hM, hK, hF⟩
  have H4 := hid (H3.out.grow hK hM (growM_o _) hF)
  have Q4 := hid (show Kept (bown x) W w4 from Q3.out.trans hK (fun _ _ e => e) (fun _ _ e => .inr (.inl (H.out.bd.mo ▸ e))))
  have R4 := hid (H.out.rl RR.out Q4.out)
  clear hM hK hF c0 c1 c2 c3 c4 c5 c6 c7 c8 c9 H3
  obtain ⟨c0, c1, c2, c3, c4, c5, c6, c7, c8, c9⟩ := H4.out.c
  go_wp2_with fail
  refine (Come5_any x.o dP ho (by rw [HD.out]; exact Nat.le_trans (Nat.le_add_right _ _) HG.out) fa fl fc va nv vc hnv _ R4.out).mono ?_
  rintro e w5 ⟨ga0, gc, rfl, hk, hr5, hg5⟩
  obtain ⟨ga, hga⟩ : ∃ ga : Option Addr, ga = some ⟨ga0, 0, none⟩ := ⟨_, rfl⟩
  rw [← hga] at hr5 ⊢
  have R5 := hid hr5
  have Q5 := hid (Q4.out.trans hk (fun _ _ e => e) (fun _ _ e => e.elim))
  clear hr5 hg5 hga
  have H5 := hid (H4.out.keep hk)
  clear hk c0 c1 c2 c3 c4 c5 c6 c7 c8 c9 H4
  obtain ⟨c0, c1, c2, c3, c4, c5, c6, c7, c8, c9⟩ := H5.out.c
  have fz := H5.out.fz
  obtain ⟨P, hP⟩ : ∃ P, P = dP + 2 ^ x.o := ⟨_, rfl⟩
  rw [← hP]
  have H6 := hid (H5.out.doc P (.slice fa fl fc) (.slice ga (nv + 1) gc))
  have HP := hid hP
  have kd : Kept (fun y => y = lw) w5 ((((w5.setCell ⟨lw, 6, none⟩ (.int .i64 (x.o : Int))).setCell ⟨lw, 7, none⟩ (.int .i64 (P : Int))).setCell ⟨lw, 8, none⟩ (.slice fa fl fc)).setCell ⟨lw, 9, none⟩ (.slice ga (nv + 1) gc)) := ((((Kept.refl (fun y => y = lw) w5).setCell (p := ⟨lw, 6, none⟩) rfl _).setCell (p := ⟨lw, 7, none⟩) rfl _).setCell (p := ⟨lw, 8, none⟩) rfl _).setCell (p := ⟨lw, 9, none⟩) rfl _
  have Q6 := hid (show Kept (fun y => bown x y ∨ y = lw) W _ from Q5.out.trans kd (fun _ _ e => .inl e) (fun _ _ e => .inr e))
  have R6 := hid (R5.out.kept kd (fun y e hy => by
    obtain ⟨cs, hg⟩ := R5.out.ty e
    exact ty_ne hg H5.out.box (by decide) hy))
  clear kd
  have PGN := hid (show (growM t.m).n = P from by
    have := HG.out
    have h2 := H5.out.bd.mo
    rw [growM_o] at h2
    rw [hP, HD.out]
    unfold growM
    rw [h2, if_neg (by show ¬ 1024 < t.m.n + 2 ^ x.o; omega)]
    rfl)
  clear hP
  go_wp2_with fail
  clear c0 c1 c2 c3 c4 c5 c6 c7 c8 c9 fz H5
  generalize (((w5.setCell ⟨lw, 6, none⟩ (.int .i64 (x.o : Int))).setCell ⟨lw, 7, none⟩ (.int .i64 (P : Int))).setCell ⟨lw, 8, none⟩ (.slice fa fl fc)).setCell ⟨lw, 9, none⟩ (.slice ga (nv + 1) gc) = W6 at *
  obtain ⟨c0, c1, c2, c3, c4, c5, c6, c7, c8, c9⟩ := H6.out.c
  have PG := hid (show ∀ n, Calls Tryz.prog 60 #[.pointer (some ⟨x.m, 0, none⟩)] (W6.drewN n) fun e w' => e = .returned (.int .i64 (P : Int)) ∧ w' = W6.drewN n from fun n => by
    have q := pages_any x.m B' (growM t.m) (W6.drewN n) (H6.out.bd.mp.keep ((Kept.refl none' W6).drewN n))
    rw [PGN.out] at q
    exact q)
  go_quiet ((go_at_call 60; exact Calls.quiet_of_same (PG.out _)))
  have H7 := hid (H6.out.keep ((Kept.refl none' W6).drewN nq))
  have R7 := hid (R6.out.keep ((Kept.refl none' W6).drewN nq))
  have Q7 := hid (Q6.out.trans ((Kept.refl none' W6).drewN nq) (fun _ _ e => e) (fun _ _ e => e.elim))
  generalize W6.drewN nq = W7 at *
  go_wp2_with fail
  go_ret
  refine ⟨{ x with a := some g', n := x.n + x.R, B := B' }, ga, gc, ret_bool (by simp), ?_, R7.out, Q7.out, rfl, rfl, rfl, rfl, rfl, rfl, rfl⟩
  rw [← HP.out]
  exact H7.out
end Go.Proofs.YthglogiglimebaaGreat
/- croftref5's dies, Top and Go of any live list. -/
namespace Go.Proofs.YthglogiglimebaaGreat
open Go.RowKit
set_option linter.unusedVariables false

/-- Between two rounds of dies. -/
structure Ld (w0 W : World) (x : Nat) (o p : Int) (fv lv : Value) (n k : Nat) (R : Nat → Int × Int) (v : Value) : Prop where
  gs : ∃ R', GS w0 W 104 2 v k (flatR R' k)
  x0 : W.heap[x]? = some (r5O o p fv lv)
  y0 : W.heap[x + 1]? = some r5Z
  rn : Rns W lv n R
  nw : ∀ g, v.ownBlock = some g → w0.heap.size ≤ g
theorem Ld.step {w0 W x o p fv lv n k R v g cap w' R'} (h : Ld w0 W x o p fv lv n k R v) (hx : x + 2 ≤ w0.heap.size) (hlv : ∀ y, lv.ownBlock = some y → y < w0.heap.size) (a b : Int) (h2 : GS w0 w' 104 2 (.slice (some ⟨g, 0, none⟩) (k + 1) cap) (k + 1) (flatR R' k ++ [.int .i64 a, .int .i64 b])) (hg : w0.heap.size ≤ g) (hkeep : ∀ y, v.ownBlock ≠ some y → ∀ o, W.heap[y]? = some o → w'.heap[y]? = some o) :
    Ld w0 w' x o p fv lv n (k + 1) R (.slice (some ⟨g, 0, none⟩) (k + 1) cap) := by
  refine ⟨⟨fun i => if i < k then R' i else (a, b), ?_⟩, hkeep x (fun e => by have := h.nw _ e; omega) _ h.x0, hkeep (x + 1) (fun e => by have := h.nw _ e; omega) _ h.y0, ?_, fun y e => ?_⟩
  · rw [flatR, ← flatR_congr (R := R') k (fun i hi => by simp [hi])]
    simp
    exact h2
  · refine ⟨h.rn.1, ?_⟩
    rcases h.rn.2 with h0 | ⟨g, cap, cur, h0, hb, hg, h3⟩
    · exact .inl h0
    · exact .inr ⟨g, cap, cur, h0, hb, hkeep g (fun e => by have := h.nw _ e; have := hlv g (by rw [h0]; rfl); omega) _ hg, h3⟩
  · simp [Value.ownBlock] at e
    omega
/-- What dies and Go answer. -/
def Dies5P (w : World) (o p : Int) (fv : Value) (n : Nat) (e : Ending) (w' : World) : Prop := ∃ va m vc, m ≤ n ∧ e = .returned (r5V o p fv (.slice va m vc)) ∧ Kept none' w w' ∧ RL w' (.slice va m vc) m ∧ ∀ y, (Value.slice va m vc).ownBlock = some y → w.heap.size + 2 ≤ y
set_option maxRecDepth 4000 in
set_option maxHeartbeats 1000000 in
theorem dies5_any (o p : Int) (fa : Option Addr) (fl fc : Nat) (va : Option Addr) (n vc : Nat) (hn : n ≤ 1000) (pg : Int) (w : World) (h : RL w (.slice va n vc) n) :
    Calls Tryz.prog 94 #[r5V o p (.slice fa fl fc) (.slice va n vc), .int .i64 pg] w fun e w' => Dies5P w o p (.slice fa fl fc) n e w' := by
  have T2 := two5 w (r5O o p (.slice fa fl fc) (.slice va n vc)) r5Z
  have K0 := hid T2.1
  obtain ⟨R, h⟩ := h
  have hlv : ∀ y, (Value.slice va n vc).ownBlock = some y → y < w.heap.size := fun y e => (World.ownsRow.lt h y e).2
  have S0 : ((w.alloc (r5O o p (.slice fa fl fc) (.slice va n vc))).alloc r5Z).heap.size = w.heap.size + 2 := by simp
  have L0 := hid (show Ld ((w.alloc (r5O o p (.slice fa fl fc) (.slice va n vc))).alloc r5Z) ((w.alloc (r5O o p (.slice fa fl fc) (.slice va n vc))).alloc r5Z) w.heap.size o p (.slice fa fl fc) (.slice va n vc) n 0 R (.slice none 0 0) from ⟨⟨fun _ => (0, 0), GS.nil _ _ _ _ (Kept.refl none' _)⟩, T2.2.1, T2.2.2, h.kept T2.1 (fun _ _ e => e), fun g e => by simp [Value.ownBlock] at e⟩)
  clear T2 h
  go_enter Tryz.func94, Tryz.ntmps94
  go_wp2_with fail
  generalize (w.alloc (r5O o p (.slice fa fl fc) (.slice va n vc))).alloc r5Z = W0 at *
  have HLV := hid hlv
  have HS0 := hid S0
  clear hlv S0
  go_loopw [5, 6] (fun l i W => ∃ j m : Nat, j ≤ n ∧ m ≤ j ∧ i = .int .i64 j ∧ (∃ la lc, l = .slice la m lc) ∧ Hid (Ld W0 W w.heap.size o p (.slice fa fl fc) (.slice va n vc) n m R l)) (fun _ i _ => n - (intOf i).toNat)
  case atStart => exact ⟨0, 0, by omega, by omega, rfl, ⟨none, 0, rfl⟩, L0⟩
  case round =>
    clear L0
    obtain ⟨j, m, hj, hm, rfl, ⟨la, lc, rfl⟩, hR⟩ := hrel
    obtain ⟨x0, x1, x2, x3, fx⟩ := r5c hR.out.x0
    by_cases hlt : j < n
    · have hji : (j : Int) < (n : Int) := by omega
      obtain ⟨g0, hva, r0, r1⟩ := hR.out.rn.get j hlt
      subst hva
      by_cases heq : (R j).1 = pg
      · go_wp2_with fail
        exact ⟨⟨j + 1, m, by omega, by omega, by simp, ⟨_, _, rfl⟩, hR⟩, by simp [intOf]; omega⟩
      · obtain ⟨R', hgs⟩ := hR.out.gs
        obtain ⟨g, cap, w', hap, hg2, hge, hkeep⟩ := push_run5 hgs (R j).1 (R j).2 (by omega)
        have D := hid (hR.out.step (by have := HS0.out; omega) (fun y e => by have := HLV.out y e; have := HS0.out; omega) _ _ hg2 hge hkeep)
        have HAP := hid hap
        clear hap hg2 hge hkeep
        go_wp2_with (at_builtin; refine Lib.wpList_append_run _ rfl _ _ _ _ rfl (.slice la m lc) (.slice (some ⟨wr.heap.size, 0, none⟩) 1 1) rfl rfl _ _ (HAP.out _) ?_)
        exact ⟨⟨j + 1, m + 1, by omega, by omega, by simp, ⟨_, _, rfl⟩, D⟩, by simp [intOf]; omega⟩
    · have hji : ¬ (j : Int) < (n : Int) := by omega
      have hsz := HS0.out
      have hx' := hR.out.x0
      have hy' := hR.out.y0
      have ks : Kept (fun y => y = w.heap.size) wr (wr.setCell ⟨w.heap.size, 3, none⟩ (.slice la m lc)) := (Kept.refl (fun y => y = w.heap.size) wr).setCell (p := ⟨w.heap.size, 3, none⟩) rfl _
      have X2 := hid (show (wr.setCell ⟨w.heap.size, 3, none⟩ (.slice la m lc)).heap[w.heap.size]? = some (r5O o p (.slice fa fl fc) (.slice la m lc)) from heap_set hx' 3 _)
      have Y2 := hid ((ks.block _ (heap_lt hy') (by omega)).trans hy')
      obtain ⟨R', hgs⟩ := hR.out.gs
      have K2 := hid ((none_trans K0.out hgs.kp).setNew (p := ⟨w.heap.size, 3, none⟩) (fun e => absurd e (Nat.lt_irrefl _)) (.slice la m lc))
      have hnw : ∀ y, (Value.slice la m lc).ownBlock = some y → w.heap.size + 2 ≤ y := fun y e => by have := hR.out.nw y e; omega
      have R1 : RL wr (.slice la m lc) m := ⟨R', hgs.own⟩
      have R2 := R1.kept ks (fun y e hy => by have := hnw y e; omega)
      have R3 := hid (show ∀ u0 u1 u2 u3, RL (((((wr.setCell ⟨w.heap.size, 3, none⟩ (.slice la m lc)).setCell ⟨w.heap.size + 1, 0, none⟩ u0).setCell ⟨w.heap.size + 1, 1, none⟩ u1).setCell ⟨w.heap.size + 1, 2, none⟩ u2).setCell ⟨w.heap.size + 1, 3, none⟩ u3) (.slice la m lc) m from fun u0 u1 u2 u3 => by
        refine R2.kept (((((Kept.refl (fun y => y = w.heap.size + 1) _).setCell (p := ⟨w.heap.size + 1, 0, none⟩) rfl u0).setCell (p := ⟨w.heap.size + 1, 1, none⟩) rfl u1).setCell (p := ⟨w.heap.size + 1, 2, none⟩) rfl u2).setCell (p := ⟨w.heap.size + 1, 3, none⟩) rfl u3) (fun y e hy => ?_)
        have := hnw y e
        omega)
      have HNW := hid hnw
      obtain ⟨a0, a1, a2, a3, fa4⟩ := r5c X2.out
      obtain ⟨b0, b1, b2, b3, fb⟩ := r5c Y2.out
      have HF := hid (fun u0 u1 u2 u3 => set4_kept K2.out (w.heap.size + 1) (by omega) u0 u1 u2 u3)
      clear hgs hx' hy' ks R1 R2 hsz hnw
      go_wp2_with fail
      exact ⟨rfl, r5V o p (.slice fa fl fc) (.slice la m lc), by simp [results, Tryz.results94, go_sem, b0, b1, b2, b3], _, _, _, by omega, rfl, HF.out _ _ _ _, R3.out _ _ _ _, HNW.out⟩
end Go.Proofs.YthglogiglimebaaGreat
/- croftref5's Top and Go. -/
namespace Go.Proofs.YthglogiglimebaaGreat
open Go.RowKit
set_option linter.unusedVariables false

set_option maxRecDepth 4000 in
theorem Top5_any (o p : Nat) (ho : o ≤ 8) (hp : p ≤ 1024) (hz : 2 ^ o ≤ p) (fa : Option Addr) (fl fc : Nat) (lv : Value) (w : World) :
    Calls Tryz.prog 44 #[r5V (o : Int) (p : Int) (.slice fa fl fc) lv] w fun e w' => e = .returned (.int .i64 ((p - 2 ^ o : Nat) : Int)) ∧ Kept none' w w' := by
  have K0 := hid ((Kept.refl none' w).alloc (r5O (o : Int) (p : Int) (.slice fa fl fc) lv))
  have X0 := hid (heap_new w (r5O (o : Int) (p : Int) (.slice fa fl fc) lv))
  obtain ⟨z, hz1⟩ : ∃ z, z = 2 ^ o := ⟨_, rfl⟩
  have hzi : (2 : Int) ^ o = (z : Int) := by rw [hz1]; simp
  have hz2 : z ≤ 256 := by rw [hz1]; exact Nat.pow_le_pow_right (n := 2) (by decide) ho
  have hz0 : 0 < z := by rw [hz1]; exact Nat.pow_pos (by decide)
  rw [← hz1] at hz ⊢
  obtain ⟨P, hP⟩ : ∃ P, P = p - z := ⟨_, rfl⟩
  have hPi : (p : Int) - (z : Int) = (P : Int) := by omega
  rw [← hP]
  have hp0 : ¬ (p : Int) = 0 := by omega
  clear hz1 hP
  go_enter Tryz.func44, Tryz.ntmps44
  obtain ⟨x0, x1, x2, x3, fx⟩ := r5c X0.out
  go_wp2_with fail
  go_ret
  exact ⟨rfl, K0.out⟩
set_option maxRecDepth 4000 in
set_option maxHeartbeats 1000000 in
theorem Go5_any (o p : Nat) (ho : o ≤ 8) (hp : p ≤ 1024) (hz : 2 ^ o ≤ p) (fa : Option Addr) (fl fc : Nat) (va : Option Addr) (n vc : Nat) (hn : n ≤ 1000) (w : World) (h : RL w (.slice va n vc) n) :
    Calls Tryz.prog 93 #[r5V (o : Int) (p : Int) (.slice fa fl fc) (.slice va n vc)] w fun e w' => ∃ va' m vc', m ≤ n ∧ e = .returned (r5V (o : Int) ((p - 2 ^ o : Nat) : Int) (.slice fa fl fc) (.slice va' m vc')) ∧ Kept none' w w' ∧ RL w' (.slice va' m vc') m := by
  have T2 := two5 w (r5O (o : Int) (p : Int) (.slice fa fl fc) (.slice va n vc)) r5Z
  have K0 := hid T2.1
  have X0 := hid T2.2.1
  have Y0 := hid T2.2.2
  clear T2
  obtain ⟨P, hP⟩ : ∃ P, P = p - 2 ^ o := ⟨_, rfl⟩
  have TP := hid (show ∀ W, Calls Tryz.prog 44 #[r5V (o : Int) (p : Int) (.slice fa fl fc) (.slice va n vc)] W fun e w' => e = .returned (.int .i64 (P : Int)) ∧ Kept none' W w' from fun W => by rw [hP]; exact Top5_any o p ho hp hz fa fl fc _ W)
  have DS := hid (show ∀ W, Kept none' w W → Calls Tryz.prog 94 #[r5V (o : Int) (p : Int) (.slice fa fl fc) (.slice va n vc), .int .i64 (P : Int)] W fun e w' => Dies5P W (o : Int) (p : Int) (.slice fa fl fc) n e w' from fun W hW => dies5_any (o : Int) (p : Int) fa fl fc va n vc hn (P : Int) W (h.keep hW))
  rw [← hP]
  clear hP hz h
  go_enter Tryz.func93, Tryz.ntmps93
  obtain ⟨x0, x1, x2, x3, fx⟩ := r5c X0.out
  go_wp2_with fail
  refine (TP.out _).mono ?_
  rintro e w3 ⟨rfl, hk3⟩
  have X3 := hid ((hk3.block _ (heap_lt X0.out) (fun x => x)).trans X0.out)
  have Y3 := hid ((hk3.block _ (heap_lt Y0.out) (fun x => x)).trans Y0.out)
  have K3 := hid (none_trans K0.out hk3)
  clear hk3 x0 x1 x2 x3 fx
  obtain ⟨x0, x1, x2, x3, fx⟩ := r5c X3.out
  go_wp2_with fail
  refine (DS.out _ K3.out).mono ?_
  rintro e w4 ⟨va', m, vc', hm, rfl, hk4, hr4, hnw⟩
  have X4 := hid ((hk4.block _ (heap_lt X3.out) (fun x => x)).trans X3.out)
  have Y4 := hid ((hk4.block _ (heap_lt Y3.out) (fun x => x)).trans Y3.out)
  have K4 := hid (none_trans K3.out hk4)
  have hsz := heap_lt Y0.out
  have hs0 : w.heap.size + 1 < w3.heap.size := heap_lt Y3.out
  obtain ⟨s, hs⟩ : ∃ s, s = w.heap.size := ⟨_, rfl⟩
  have ks : Kept (fun y => y = w.heap.size) w4 (((((w4.setCell ⟨w.heap.size, 0, none⟩ (.int .i64 (o : Int))).setCell ⟨w.heap.size, 1, none⟩ (.int .i64 (p : Int))).setCell ⟨w.heap.size, 2, none⟩ (.slice fa fl fc)).setCell ⟨w.heap.size, 3, none⟩ (.slice va' m vc')).setCell ⟨w.heap.size, 1, none⟩ (.int .i64 (P : Int))) := (((((Kept.refl (fun y => y = w.heap.size) w4).setCell (p := ⟨w.heap.size, 0, none⟩) rfl _).setCell (p := ⟨w.heap.size, 1, none⟩) rfl _).setCell (p := ⟨w.heap.size, 2, none⟩) rfl _).setCell (p := ⟨w.heap.size, 3, none⟩) rfl _).setCell (p := ⟨w.heap.size, 1, none⟩) rfl _
  have X5 := hid (show (((((w4.setCell ⟨w.heap.size, 0, none⟩ (.int .i64 (o : Int))).setCell ⟨w.heap.size, 1, none⟩ (.int .i64 (p : Int))).setCell ⟨w.heap.size, 2, none⟩ (.slice fa fl fc)).setCell ⟨w.heap.size, 3, none⟩ (.slice va' m vc')).setCell ⟨w.heap.size, 1, none⟩ (.int .i64 (P : Int))).heap[w.heap.size]? = some (r5O (o : Int) (P : Int) (.slice fa fl fc) (.slice va' m vc')) from heap_set (heap_set (heap_set (heap_set (heap_set X4.out 0 _) 1 _) 2 _) 3 _) 1 _)
  have Y5 := hid ((ks.block _ (heap_lt Y4.out) (by omega)).trans Y4.out)
  have K5 := hid (K4.out.trans ks (fun _ _ e => e) (fun y hy e => absurd (show y = w.heap.size from e) (by omega)))
  have R5 := hr4.kept ks (fun y e hy => by have := hnw y e; omega)
  have HF := hid (fun u0 u1 u2 u3 => set4_kept K5.out (w.heap.size + 1) (by omega) u0 u1 u2 u3)
  have RF := hid (fun u0 u1 u2 u3 => R5.kept (((((Kept.refl (fun y => y = w.heap.size + 1) _).setCell (p := ⟨w.heap.size + 1, 0, none⟩) rfl u0).setCell (p := ⟨w.heap.size + 1, 1, none⟩) rfl u1).setCell (p := ⟨w.heap.size + 1, 2, none⟩) rfl u2).setCell (p := ⟨w.heap.size + 1, 3, none⟩) rfl u3) (fun y e hy => by have := hnw y e; omega))
  clear hk4 x0 x1 x2 x3 fx ks R5 hr4 hnw hsz hs0 hs s
  obtain ⟨_, _, _, _, fx⟩ := r5c X4.out
  obtain ⟨a0, a1, a2, a3, fa4⟩ := r5c X5.out
  obtain ⟨b0, b1, b2, b3, fb⟩ := r5c Y5.out
  go_wp2_with fail
  exact ⟨rfl, r5V (o : Int) (P : Int) (.slice fa fl fc) (.slice va' m vc'), by simp [results, Tryz.results93, go_sem, b0, b1, b2, b3], _, _, _, hm, rfl, HF.out _ _ _ _, RF.out _ _ _ _⟩
end Go.Proofs.YthglogiglimebaaGreat
/- The law's goes. -/
namespace Go.Proofs.YthglogiglimebaaGreat
open Go.RowKit
set_option linter.unusedVariables false

theorem LW.space0 {w W W' lw x t dP fv lv} {n' : Nat} {f' : Nat → Nat} (h : LW w W lw x t dP fv lv) (k : Kept (M.own x.s x.a) W W') (hs : M.SpaceAt W' x.s x.a x.base x.R x.lim n' f') : LW w W' lw { x with n := n' } { t with f := f' } dP fv lv :=
  ⟨(k.block _ (heap_lt h.box) (fun e => h.nlw (.inl e))).trans h.box, h.bd.space k hs, h.nw, h.kp.trans k (fun _ _ e => e) (fun y hy e => absurd (h.nw y (.inl (.inl e))) (by omega))⟩
/-- What goes leaves. -/
def GoesQ (w W : World) (lw : Nat) (x : Bx) (t : Bt) (dP : Nat) (fv : Value) (nv : Nat) (e : Ending) (w' : World) : Prop := ∃ x' ga m gc, m ≤ nv ∧ e = .returned (.bool true) ∧ LW w w' lw x' ⟨t.f, resizeM t.m (t.m.n - 2 ^ x.o), t.hd⟩ (dP - 2 ^ x.o) fv (.slice ga m gc) ∧ RL w' (.slice ga m gc) m ∧ Kept (fun y => bown x y ∨ y = lw) W w' ∧ x'.base = x.base ∧ x'.R = x.R ∧ x'.lim = x.lim ∧ x'.n = x.n - x.R ∧ x'.o = x.o ∧ x'.b = x.b ∧ x'.s = x.s
set_option maxRecDepth 4000 in
set_option maxHeartbeats 1000000 in
theorem goes_any (lw : Nat) (x : Bx) (t : Bt) (dP : Nat) (fa : Option Addr) (fl fc : Nat) (va : Option Addr) (nv vc : Nat) (hnv : nv ≤ 1000) (w W : World) (h : LW w W lw x t dP (.slice fa fl fc) (.slice va nv vc)) (r : RL W (.slice va nv vc) nv) (hR : x.R ≤ x.n) (hd : dP = t.m.n) (hn : 2 ^ x.o ≤ t.m.n) :
    Calls Tryz.prog 46 #[.pointer (some ⟨lw, 0, none⟩)] W fun e w' => GoesQ w W lw x t dP (.slice fa fl fc) nv e w' := by
  have ho := h.bd.o8
  have hR1 := h.bd.sp.cfg.r1
  have hz : 0 < 2 ^ x.o := Nat.pow_pos (by decide)
  have hmo := h.bd.mo
  have hn1 := h.bd.mp.n1
  have DC := hid (M.Decommit_ok x.s x.a x.base x.R x.lim x.n t.f 1 W h.bd.sp (Nat.div_pos hR (by omega)))
  have SH := hid (show ∀ W1, MapAt W1 x.m x.B t.m → Calls Tryz.prog 92 #[.pointer (some ⟨x.m, 0, none⟩), .int .i64 ((1 : Nat) : Int)] W1 fun e w' => e = .returned (.int .i64 0) ∧ ∃ B', MapAt w' x.m B' (resizeM t.m (t.m.n - 2 ^ x.o)) ∧ Kept (mown x.m x.B t.m.o) W1 w' ∧ From W1 x.m x.B B' t.m.o from fun W1 hW => by
    have := Shrink_ok x.m x.B t.m 1 W1 hW (by rw [hmo]; exact Nat.div_pos hn hz)
    rw [Nat.one_mul, hmo] at this
    rw [hmo]
    exact this)
  have GV := hid (show ∀ W1, RL W1 (.slice va nv vc) nv → Calls Tryz.prog 93 #[r5V (x.o : Int) (dP : Int) (.slice fa fl fc) (.slice va nv vc)] W1 fun e w' => ∃ va' m vc', m ≤ nv ∧ e = .returned (r5V (x.o : Int) ((dP - 2 ^ x.o : Nat) : Int) (.slice fa fl fc) (.slice va' m vc')) ∧ Kept none' W1 w' ∧ RL w' (.slice va' m vc') m from fun W1 hW => Go5_any x.o dP ho (by omega) (by omega) fa fl fc va nv vc hnv W1 hW)
  obtain ⟨c0, c1, c2, c3, c4, c5, c6, c7, c8, c9⟩ := h.c
  have H := hid h
  have RR := hid r
  clear r h hR hd hn hR1 hz hmo hn1
  rw [Int.natCast_one] at DC SH
  go_enter Tryz.func46, Tryz.ntmps46
  go_wp2_with fail
  refine DC.out.mono ?_
  rintro e w1 ⟨rfl, hS, hK⟩
  have H1 := hid (H.out.space0 (toK hK) hS)
  have Q1 := hid (show Kept (bown x) W w1 from (Kept.refl (bown x) W).trans (toK hK) (fun _ _ e => e) (fun _ _ e => .inl e))
  clear hS hK c0 c1 c2 c3 c4 c5 c6 c7 c8 c9 DC
  obtain ⟨c0, c1, c2, c3, c4, c5, c6, c7, c8, c9⟩ := H1.out.c
  go_wp2_with fail
  refine (SH.out _ H1.out.bd.mp).mono ?_
  rintro e w4 ⟨rfl, B', hM, hK, hF⟩
  have H4 := hid (H1.out.grow hK hM rfl hF)
  have Q4 := hid (show Kept (bown x) W w4 from Q1.out.trans hK (fun _ _ e => e) (fun _ _ e => .inr (.inl (H.out.bd.mo ▸ e))))
  have R4 := hid (H.out.rl RR.out Q4.out)
  clear hM hK hF c0 c1 c2 c3 c4 c5 c6 c7 c8 c9 H1
  obtain ⟨c0, c1, c2, c3, c4, c5, c6, c7, c8, c9⟩ := H4.out.c
  go_wp2_with fail
  refine (GV.out _ R4.out).mono ?_
  rintro e w5 ⟨ga, m, gc, hm, rfl, hk, hr5⟩
  have H5 := hid (H4.out.keep hk)
  have R5 := hid hr5
  have Q5 := hid (Q4.out.trans hk (fun _ _ e => e) (fun _ _ e => e.elim))
  clear hk hr5 c0 c1 c2 c3 c4 c5 c6 c7 c8 c9 H4
  obtain ⟨P, hP⟩ : ∃ P, P = dP - 2 ^ x.o := ⟨_, rfl⟩
  rw [← hP]
  have H6 := hid (H5.out.doc P (.slice fa fl fc) (.slice ga m gc))
  have kd : Kept (fun y => y = lw) w5 ((((w5.setCell ⟨lw, 6, none⟩ (.int .i64 (x.o : Int))).setCell ⟨lw, 7, none⟩ (.int .i64 (P : Int))).setCell ⟨lw, 8, none⟩ (.slice fa fl fc)).setCell ⟨lw, 9, none⟩ (.slice ga m gc)) := ((((Kept.refl (fun y => y = lw) w5).setCell (p := ⟨lw, 6, none⟩) rfl _).setCell (p := ⟨lw, 7, none⟩) rfl _).setCell (p := ⟨lw, 8, none⟩) rfl _).setCell (p := ⟨lw, 9, none⟩) rfl _
  have Q6 := hid (show Kept (fun y => bown x y ∨ y = lw) W _ from Q5.out.trans kd (fun _ _ e => .inl e) (fun _ _ e => .inr e))
  have R6 := hid (R5.out.kept kd (fun y e hy => by
    obtain ⟨cs, hg⟩ := R5.out.ty e
    exact ty_ne hg H5.out.box (by decide) hy))
  have HP := hid hP
  clear kd hP
  obtain ⟨c0, c1, c2, c3, c4, c5, c6, c7, c8, c9⟩ := H5.out.c
  have fz := H5.out.fz
  go_wp2_with fail
  go_ret
  refine ⟨{ x with n := x.n - 1 * x.R, B := B' }, ga, m, gc, hm, rfl, ?_, R6.out, Q6.out, rfl, rfl, rfl, by rw [Nat.one_mul], rfl, rfl, rfl⟩
  rw [← HP.out]
  exact H6.out
end Go.Proofs.YthglogiglimebaaGreat
/- What cells are as they were says of bytes. -/
namespace Go.Proofs.YthglogiglimebaaGreat
open Go.RowKit
set_option linter.unusedVariables false

theorem wordTo_inj (f g : Nat → Nat) : ∀ k, (∀ i, i < k → f i < 256) → (∀ i, i < k → g i < 256) → M.wordTo f k = M.wordTo g k → ∀ i, i < k → f i = g i
  | 0, _, _, _, i, hi => absurd hi (Nat.not_lt_zero _)
  | k + 1, hf, hg, h, i, hi => by
    have hf' := M.wordTo_lt f k (fun i hi => hf i (by omega))
    have hg' := M.wordTo_lt g k (fun i hi => hg i (by omega))
    rw [M.wordTo, M.wordTo] at h
    have hz : 0 < 256 ^ k := Nat.pow_pos (by decide)
    have e1 : (M.wordTo f k + f k * 256 ^ k) / 256 ^ k = f k := by
      rw [Nat.add_mul_div_right _ _ hz, Nat.div_eq_of_lt hf', Nat.zero_add]
    have e2 : (M.wordTo g k + g k * 256 ^ k) / 256 ^ k = g k := by
      rw [Nat.add_mul_div_right _ _ hz, Nat.div_eq_of_lt hg', Nat.zero_add]
    have e3 : f k = g k := by rw [← e1, h, e2]
    by_cases e : i = k
    · rw [e]; exact e3
    · rw [e3] at h
      exact wordTo_inj f g k (fun i hi => hf i (by omega)) (fun i hi => hg i (by omega)) (Nat.add_right_cancel h) i (by omega)
theorem SpaceAt_byte {w s a base R lim n f} (h : M.SpaceAt w s a base R lim n f) {i : Nat} (hi : i < n) : f i < 256 := by
  obtain ⟨cap, hb, hr⟩ := h.ex
  cases a with
  | none =>
    obtain ⟨e, _⟩ := hr
    omega
  | some g =>
    obtain ⟨_, rs, _, _, h1, h2, h3⟩ := hr
    rw [← h2 i hi]
    exact h3 i
theorem word_byte {f g : Nat → Nat} {o : Nat} (hf : ∀ i, i < 8 → f (o + i) < 256) (hg : ∀ i, i < 8 → g (o + i) < 256) (h : M.word f o = M.word g o) (j : Nat) (hj : j < 8) : f (o + j) = g (o + j) :=
  wordTo_inj (fun i => f (o + i)) (fun i => g (o + i)) 8 hf hg h j hj
theorem Kp.byte {w w' x t t'} {G : Nat → Prop} (h : Kp x t t' G) (hb : BdAt w x t) (hb' : BdAt w' x t') {i : Nat} (hi : i / 4096 * 4096 + 4096 ≤ x.n) (hG : G (i / 4096)) : t'.f i = t.f i := by
  have hc := hb.sp.cfg
  have hn := hb.sp.nle
  have hbe := hc.be
  have hb1 := hc.b1
  have hcell : M.IsCell x.base x.n (x.base + i / 16 * 16) := by unfold M.IsCell; omega
  obtain ⟨h1, h2⟩ := h _ hcell (by rw [show (x.base + i / 16 * 16 - x.base) / 4096 = i / 4096 by omega]; exact hG)
  unfold M.nx at h1
  unfold M.pv at h2
  rw [show x.base + i / 16 * 16 - x.base = i / 16 * 16 by omega] at h1
  rw [show x.base + i / 16 * 16 + 8 - x.base = i / 16 * 16 + 8 by omega] at h2
  have f1 : ∀ j, j < 16 → t.f (i / 16 * 16 + j) < 256 := fun j hj => SpaceAt_byte hb.sp (by omega)
  have f2 : ∀ j, j < 16 → t'.f (i / 16 * 16 + j) < 256 := fun j hj => SpaceAt_byte hb'.sp (by omega)
  by_cases e : i % 16 < 8
  · have := word_byte (fun j hj => f2 j (by omega)) (fun j hj => f1 j (by omega)) h1 (i % 16) e
    rw [show i / 16 * 16 + i % 16 = i by omega] at this
    exact this
  · have := word_byte (o := i / 16 * 16 + 8) (fun j hj => by have := f2 (8 + j) (by omega); rw [← Nat.add_assoc] at this; exact this) (fun j hj => by have := f1 (8 + j) (by omega); rw [← Nat.add_assoc] at this; exact this) h2 (i % 16 - 8) (by omega)
    rw [show i / 16 * 16 + 8 + (i % 16 - 8) = i by omega] at this
    exact this
end Go.Proofs.YthglogiglimebaaGreat
