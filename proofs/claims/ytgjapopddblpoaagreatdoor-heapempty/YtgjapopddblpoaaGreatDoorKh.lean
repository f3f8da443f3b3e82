import Derived.Test.YtgjapopddblpoaaGreatDoorKg
import Derived.Test.YtgjapopddblpoaaGreatDoorBdM
import Derived.Test.YtgjapopddblpoaaGreatDoorKc
import Derived.Test.YtgjapopddblpoaaGreatDoorKf
/- P5.7: the calls of a buddy without fault: its live blocks L. -/
namespace Go.Proofs.YtgjapopddblpoaaGreatDoor
open Go.RowKit
set_option linter.unusedVariables false

theorem runM_n (m : Mp) (p o k : Int) : (runM m p o k).n = m.n := by unfold runM; split <;> rfl
theorem flipM_n (m : Mp) (k i : Int) : (flipM m k i).n = m.n := by unfold flipM; split <;> rfl
theorem enterT_n (x : Bx) (t : Bt) (p k : Nat) : (enterT x t p k).m.n = t.m.n := by
  unfold enterT
  split
  · exact (flipM_n _ _ _).trans (runM_n _ _ _ _)
  · rfl
theorem cutL_n (x : Bx) (p to : Nat) : ∀ (d : Nat) (t : Bt), (cutL x p to d t).1.m.n = t.m.n
  | 0, t => rfl
  | d + 1, t => by
    rw [cutL]
    split
    · exact (cutL_n x p to d _).trans (enterT_n _ _ _ _)
    · exact enterT_n _ _ _ _
theorem cutT_n (x : Bx) (t : Bt) (p a b : Nat) : (cutT x t p a b).m.n = t.m.n := (runM_n _ _ _ _).trans (cutL_n _ _ _ _ _)
theorem takeT_n (x : Bx) (t : Bt) (q j k : Nat) : (takeT x t q j k).m.n = t.m.n := (cutT_n _ _ _ _ _).trans (flipM_n _ _ _)
theorem joinL_n (x : Bx) : ∀ (d : Nat) (t : Bt) (p k : Nat), (joinL x d t p k).1.m.n = t.m.n
  | 0, t, p, k => rfl
  | d + 1, t, p, k => by
    rw [joinL]
    split
    · split
      · exact (joinL_n x d _ _ _).trans (flipM_n _ _ _)
      · rfl
    · rfl
/-- A buddy without fault, its live blocks being L. -/
def Sn (x : Bx) (t : Bt) (L : Nat → Nat → Prop) : Prop := ∃ fr B, Sd x t fr B ∧ (∀ q i, ¬ B 9 q i) ∧ ∀ q i, B 2 q i ↔ L q i
/-- Two stretches meet. -/
def Meet (p k q i : Nat) : Prop := p < q + 2 ^ i ∧ q < p + 2 ^ k
/-- A call is done: t is t', the live blocks are L'. -/
def Done (x : Bx) (t : Bt) (w w' : World) (L' : Nat → Nat → Prop) : Prop := ∃ t', BdAt w' x t' ∧ Kept (bown x) w w' ∧ Sn x t' L' ∧ t'.m.n = t.m.n
/-- The pages of the blocks L. -/
def Lp (L : Nat → Nat → Prop) (g : Nat) : Prop := ∃ q i, L q i ∧ q ≤ g ∧ g < q + 2 ^ i
/-- .. and the cells of pages that are live ahead of it and behind it are as they were. -/
def DoneK (x : Bx) (t : Bt) (w w' : World) (L L' : Nat → Nat → Prop) : Prop := ∃ t', BdAt w' x t' ∧ Kept (bown x) w w' ∧ Sn x t' L' ∧ t'.m.n = t.m.n ∧ Kp x t t' (fun g => Lp L g ∧ Lp L' g)
theorem DoneK.done {x t w w' L L'} (h : DoneK x t w w' L L') : Done x t w w' L' := by
  obtain ⟨t', h1, h2, h3, h4, _⟩ := h
  exact ⟨t', h1, h2, h3, h4⟩
theorem Sd.notfr {x t fr B} (s : Sd x t fr B) {L : Nat → Nat → Prop} (hL : ∀ q i, B 2 q i ↔ L q i) {g : Nat} (h : Lp L g) : ∀ j, ¬ B 0 g j := by
  obtain ⟨q, i, h1, h2, h3⟩ := h
  intro j hb
  have hz : 0 < 2 ^ j := Nat.pow_pos (by decide)
  rcases s.ds _ _ _ _ _ _ ((hL q i).2 h1) hb with ⟨e, _⟩ | e | e <;> omega
theorem Sd.notfr' {x t fr B} (s : Sd x t fr B) {L : Nat → Nat → Prop} (hL : ∀ q i, B 2 q i ↔ L q i) {g : Nat} (h : Lp L g) : ∀ j, j ≤ x.o → g ∉ fr j := fun j hj hm => s.notfr hL h j ((s.fi g j).2 ⟨hj, hm⟩)
theorem Sn.apart {x t L} (s : Sn x t L) {p k q i : Nat} (h1 : L p k) (h2 : L q i) : (p = q ∧ k = i) ∨ p + 2 ^ k ≤ q ∨ q + 2 ^ i ≤ p := by
  obtain ⟨fr, B, s, _, hL⟩ := s
  rcases s.ds _ _ _ _ _ _ ((hL p k).2 h1) ((hL q i).2 h2) with ⟨_, e⟩ | e
  · exact .inl e
  · exact .inr e
theorem Sn.al {x t L} (s : Sn x t L) {p k : Nat} (h : L p k) : k ≤ x.o ∧ p % 2 ^ k = 0 ∧ p + 2 ^ k ≤ t.m.n := by
  obtain ⟨fr, B, s, _, hL⟩ := s
  exact s.al _ _ _ ((hL p k).2 h)
/-- Either no head from k on, or a least one. -/
theorem least_or (x : Bx) (t : Bt) (k : Nat) : (∀ a, k ≤ a → a ≤ x.o → t.hd a = 0) ∨ ∃ j, j ≤ x.o ∧ Least x t k j := by
  have main : ∀ d, ∀ a0, k ≤ a0 → a0 + d = x.o + 1 → (∀ a, k ≤ a → a < a0 → t.hd a = 0) → (∀ a, k ≤ a → a ≤ x.o → t.hd a = 0) ∨ ∃ j, j ≤ x.o ∧ Least x t k j := by
    intro d
    induction d with
    | zero => exact fun a0 h1 h2 h3 => .inl fun a h4 h5 => h3 a h4 (by omega)
    | succ d ih =>
      intro a0 h1 h2 h3
      by_cases e : t.hd a0 = 0
      · refine ih (a0 + 1) (by omega) (by omega) fun a h4 h5 => ?_
        by_cases ea : a = a0
        · rw [ea]; exact e
        · exact h3 a h4 (by omega)
      · exact .inr ⟨a0, by omega, h1, by omega, h3, fun _ => e⟩
  by_cases hk : k ≤ x.o
  · exact main (x.o + 1 - k) k (Nat.le_refl _) (by omega) fun a h1 h2 => by omega
  · exact .inl fun a h1 h2 => by omega
theorem Take_snK (x : Bx) (t : Bt) (L : Nat → Nat → Prop) (s : Sn x t L) (k : Nat) (hk : k ≤ x.o) (w : World) (h : BdAt w x t) :
    Calls Tryz.prog 145 #[.pointer (some ⟨x.b, 0, none⟩), .int .i64 (k : Int)] w fun e w' =>
      (e = .returned (.tuple #[.int .u64 0, .int .i64 2]) ∧ w' = w ∧ ∀ a, a % 2 ^ k = 0 → a + 2 ^ k ≤ t.m.n → ∃ q i, L q i ∧ Meet a k q i) ∨
      (∃ p, e = .returned (.tuple #[.int .u64 ((ad x p : Nat) : Int), .int .i64 0]) ∧ DoneK x t w w' L (fun q i => L q i ∨ (q = p ∧ i = k)) ∧ p % 2 ^ k = 0 ∧ p + 2 ^ k ≤ t.m.n ∧ ∀ q i, L q i → ¬ Meet p k q i) := by
  obtain ⟨fr, B, s, hN, hL⟩ := s
  rcases least_or x t k with hz | ⟨j, hj, hl⟩
  · refine (Take_empty x t k hk hz w h).mono ?_
    rintro e w' ⟨rfl, rfl⟩
    refine .inl ⟨rfl, rfl, fun a h1 h2 => ?_⟩
    refine Classical.byContradiction fun hno => ?_
    obtain ⟨q, j, h3, h4, _⟩ := s.stretch hN hk h1 h2 fun p j hb => by
      by_cases e : p + 2 ^ j ≤ a ∨ a + 2 ^ k ≤ p
      · exact e
      · exact absurd ⟨p, j, (hL p j).1 hb, by unfold Meet; omega⟩ hno
    obtain ⟨h5, h6⟩ := (s.fi q j).1 h4
    have := (s.ch j h5).zero.1 (hz j h3 h5)
    rw [List.map_eq_nil_iff] at this
    rw [this] at h6
    cases h6
  · obtain ⟨p, l, hfr⟩ : ∃ p l, fr j = p :: l := by
      cases e : fr j with
      | nil => exact absurd ((s.ch j hj).zero.2 (by rw [e]; rfl)) (hl.lh hj)
      | cons p l => exact ⟨p, l, rfl⟩
    obtain ⟨c1, c2, c3, c4, c5, c6, fr', B', c7, c8, c9, _, c11⟩ := s.take hN hl.lk hj hfr
    refine (Take_yes x t k j p hk hl hj c1 c2 c3 c4 c5 c6 w h).mono ?_
    rintro e w' ⟨rfl, h1, h2⟩
    have hb := (c9 p k).2 (.inr ⟨rfl, rfl⟩)
    have hal := c7.al _ _ _ hb
    rw [takeT_n] at hal
    have hb0 : B 0 p j := (s.fi p j).2 ⟨hj, by rw [hfr]; exact List.mem_cons_self⟩
    have hkj : 2 ^ k ≤ 2 ^ j := Nat.pow_le_pow_right (by decide) hl.lk
    have hL' : ∀ q i, B' 2 q i ↔ (L q i ∨ (q = p ∧ i = k)) := fun q i => by rw [c9, hL]
    refine .inr ⟨p, rfl, ⟨_, h1, h2, ⟨fr', B', c7, c8, hL'⟩, takeT_n _ _ _ _ _, c11.mono fun g hg => ⟨s.notfr' hL hg.1, c7.notfr' hL' hg.2⟩⟩, hal.2.1, hal.2.2, fun q i hq hm => ?_⟩
    unfold Meet at hm
    rcases s.ds _ _ _ _ _ _ hb0 ((hL q i).2 hq) with e | e | e <;> omega
theorem Take_sn (x : Bx) (t : Bt) (L : Nat → Nat → Prop) (s : Sn x t L) (k : Nat) (hk : k ≤ x.o) (w : World) (h : BdAt w x t) :
    Calls Tryz.prog 145 #[.pointer (some ⟨x.b, 0, none⟩), .int .i64 (k : Int)] w fun e w' =>
      (e = .returned (.tuple #[.int .u64 0, .int .i64 2]) ∧ w' = w ∧ ∀ a, a % 2 ^ k = 0 → a + 2 ^ k ≤ t.m.n → ∃ q i, L q i ∧ Meet a k q i) ∨
      (∃ p, e = .returned (.tuple #[.int .u64 ((ad x p : Nat) : Int), .int .i64 0]) ∧ Done x t w w' (fun q i => L q i ∨ (q = p ∧ i = k)) ∧ p % 2 ^ k = 0 ∧ p + 2 ^ k ≤ t.m.n ∧ ∀ q i, L q i → ¬ Meet p k q i) := by
  refine (Take_snK x t L s k hk w h).mono ?_
  rintro e w' (h1 | ⟨p, h1, h2, h3⟩)
  · exact .inl h1
  · exact .inr ⟨p, h1, h2.done, h3⟩
theorem Sn.live_iff {x t L} (s : Sn x t L) (p k : Nat) (hp : p < t.m.n) : liveB x t (ad x p) (k : Int) = true ↔ (L p k ∧ x.P p = none) := by
  obtain ⟨fr, B, s, hN, hL⟩ := s
  rw [s.live_iff hN p k hp, hL]
theorem Sn.n {x t L} (s : Sn x t L) : t.m.n ≤ 1024 ∧ x.base + x.n ≤ 9223372036854775808 ∧ t.m.n * 4096 ≤ x.n := by
  obtain ⟨fr, B, s, hN, hL⟩ := s
  exact ⟨s.n1, s.b2, s.nb⟩
theorem Give_snK (x : Bx) (t : Bt) (L : Nat → Nat → Prop) (s : Sn x t L) (p k : Nat) (hl : L p k) (hv : x.P p = none) (w : World) (h : BdAt w x t) :
    Calls Tryz.prog 133 #[.pointer (some ⟨x.b, 0, none⟩), .int .u64 ((ad x p : Nat) : Int), .int .i64 (k : Int)] w fun e w' => e = .returned (.int .i64 0) ∧ DoneK x t w w' L (fun q i => L q i ∧ ¬ (q = p ∧ i = k)) := by
  obtain ⟨n1, n2, n3⟩ := s.n
  obtain ⟨a1, a2, a3⟩ := s.al hl
  have hz : 0 < 2 ^ k := Nat.pow_pos (by decide)
  have hlv := (s.live_iff p k (by omega)).2 ⟨hl, hv⟩
  obtain ⟨fr, B, s, hN, hL⟩ := s
  obtain ⟨pg1, _⟩ := page_ad s p (by omega)
  obtain ⟨t', p', k', c1, c2, B', c3, c4, c5, _, _, c6⟩ := s.give hN ((hL p k).2 hl) hv
  refine (Give_yes x t (ad x p) k (by unfold ad; omega) hlv w h).mono ?_
  rintro e w' ⟨tr, pr, kr, hj, rfl, h1, h2⟩
  rw [pg1, c1] at hj
  cases hj
  have hL' : ∀ q i, B' 2 q i ↔ (L q i ∧ ¬ (q = p ∧ i = k)) := fun q i => by rw [c5, hL]
  refine ⟨by rw [c2]; rfl, _, h1, h2, ⟨_, B', c3, c4, hL'⟩, ?_, c6.mono fun g hg => ⟨s.notfr' hL hg.1, c3.notfr hL' hg.2⟩⟩
  rw [enterT_n]
  have := joinL_n x (x.o - k) t p k
  rw [c1] at this
  exact this
theorem Give_sn (x : Bx) (t : Bt) (L : Nat → Nat → Prop) (s : Sn x t L) (p k : Nat) (hl : L p k) (hv : x.P p = none) (w : World) (h : BdAt w x t) :
    Calls Tryz.prog 133 #[.pointer (some ⟨x.b, 0, none⟩), .int .u64 ((ad x p : Nat) : Int), .int .i64 (k : Int)] w fun e w' => e = .returned (.int .i64 0) ∧ Done x t w w' (fun q i => L q i ∧ ¬ (q = p ∧ i = k)) := by
  refine (Give_snK x t L s p k hl hv w h).mono ?_
  rintro e w' ⟨h1, h2⟩
  exact ⟨h1, h2.done⟩
theorem Give_no_sn (x : Bx) (t : Bt) (L : Nat → Nat → Prop) (s : Sn x t L) (p k : Nat) (hp : p < t.m.n) (hl : ¬ L p k) (w : World) (h : BdAt w x t) :
    Calls Tryz.prog 133 #[.pointer (some ⟨x.b, 0, none⟩), .int .u64 ((ad x p : Nat) : Int), .int .i64 (k : Int)] w fun e w' => e = .returned (.int .i64 1) ∧ Kept none' w w' := by
  obtain ⟨n1, n2, n3⟩ := s.n
  refine Give_no x t (ad x p) (k : Int) (by unfold ad; omega) ?_ w h
  have := s.live_iff p k hp
  cases e : liveB x t (ad x p) (k : Int) with
  | false => rfl
  | true => exact absurd (this.1 e).1 hl
theorem Shrink_snK (x : Bx) (t : Bt) (L : Nat → Nat → Prop) (s : Sn x t L) (p k o : Nat) (hl : L p k) (hv : x.P p = none) (ho : o ≤ k) (w : World) (h : BdAt w x t) :
    Calls Tryz.prog 49 #[.pointer (some ⟨x.b, 0, none⟩), .int .u64 ((ad x p : Nat) : Int), .int .i64 (k : Int), .int .i64 (o : Int)] w fun e w' => e = .returned (.int .i64 0) ∧ DoneK x t w w' L (fun q i => (L q i ∧ ¬ (q = p ∧ i = k)) ∨ (q = p ∧ i = o)) := by
  obtain ⟨n1, n2, n3⟩ := s.n
  obtain ⟨a1, a2, a3⟩ := s.al hl
  have hz : 0 < 2 ^ k := Nat.pow_pos (by decide)
  have hlv := (s.live_iff p k (by omega)).2 ⟨hl, hv⟩
  obtain ⟨fr, B, s, hN, hL⟩ := s
  obtain ⟨pg1, _⟩ := page_ad s p (by omega)
  obtain ⟨c1, fr', B', c3, c4, c5, _, c6⟩ := s.shrink hN ((hL p k).2 hl) hv ho
  refine (Shrink_yesB x t (ad x p) k o (by unfold ad; omega) hlv ho w h).mono ?_
  rintro e w' ⟨rfl, h1, h2⟩
  rw [pg1] at h1 ⊢
  have hL' : ∀ q i, B' 2 q i ↔ ((L q i ∧ ¬ (q = p ∧ i = k)) ∨ (q = p ∧ i = o)) := fun q i => by rw [c5, hL]
  exact ⟨by rw [c1]; rfl, _, h1, h2, ⟨_, B', c3, c4, hL'⟩, cutT_n _ _ _ _ _, c6.mono fun g hg => c3.notfr' hL' hg.2⟩
theorem Shrink_sn (x : Bx) (t : Bt) (L : Nat → Nat → Prop) (s : Sn x t L) (p k o : Nat) (hl : L p k) (hv : x.P p = none) (ho : o ≤ k) (w : World) (h : BdAt w x t) :
    Calls Tryz.prog 49 #[.pointer (some ⟨x.b, 0, none⟩), .int .u64 ((ad x p : Nat) : Int), .int .i64 (k : Int), .int .i64 (o : Int)] w fun e w' => e = .returned (.int .i64 0) ∧ Done x t w w' (fun q i => (L q i ∧ ¬ (q = p ∧ i = k)) ∨ (q = p ∧ i = o)) := by
  refine (Shrink_snK x t L s p k o hl hv ho w h).mono ?_
  rintro e w' ⟨h1, h2⟩
  exact ⟨h1, h2.done⟩
end Go.Proofs.YtgjapopddblpoaaGreatDoor
/- The general half of the law of stage 5. -/
namespace Go.Proofs.YtgjapopddblpoaaGreatDoor
open Go.RowKit
set_option linter.unusedVariables false

theorem GS.keptN {w0 W W' : World} {e : TypeId} {size : Nat} {v : Value} {n : Nat} {xs : List Value} {S : Nat → Prop} (h : GS w0 W e size v n xs) (k : Kept S W W') (hS : ∀ x, v.ownBlock = some x → ¬ S x) (h0 : ∀ x, S x → w0.heap.size ≤ x) : GS w0 W' e size v n xs := by
  refine ⟨⟨h.own.1, ?_⟩, h.new, h.kp.trans k (fun _ _ x => x) (fun x hx e => absurd (h0 x e) (by omega))⟩
  rcases h.own.2 with h0 | ⟨g, cap, cur, rfl, hb, hg, h3⟩
  · exact .inl h0
  · exact .inr ⟨g, cap, cur, rfl, hb, (k.block g (heap_lt hg) (hS g (by simp [Value.ownBlock]))).trans hg, h3⟩
theorem two5 (w : World) (a b : Obj) : Kept none' w ((w.alloc a).alloc b) ∧ ((w.alloc a).alloc b).heap[w.heap.size]? = some a ∧ ((w.alloc a).alloc b).heap[w.heap.size + 1]? = some b :=
  ⟨((Kept.refl none' w).alloc _).alloc _, (((Kept.refl none' (w.alloc a)).alloc b).block _ (heap_lt (heap_new w a)) (fun x => x)).trans (heap_new w a), heap_new2 w a b⟩
theorem BdAt.space {w w' x t} {a' : Option Nat} {n' : Nat} {f' : Nat → Nat} (h : BdAt w x t) (k : Kept (M.own x.s x.a) w w') (hs : M.SpaceAt w' x.s a' x.base x.R x.lim n' f') : BdAt w' { x with a := a', n := n' } { t with f := f' } := by
  have nb := h.nb
  have nl := h.nl
  refine ⟨hs, h.mp.kept k (fun y hy e => map_space h.mp h.sp hy e), fun i hi => (h.ls i hi).kept (ofK k) (fun e => space_list h.sp (h.ls i hi) e), (k.block _ (heap_lt h.bs) (fun e => nb (.inl e))).trans h.bs, ?_, h.mo, h.iL, h.hR⟩
  obtain ⟨cs, hl, hc⟩ := h.lr
  exact ⟨cs, (k.block _ (heap_lt hl) (fun e => nl (.inl e))).trans hl, hc⟩
theorem BdAt.grow {w w' x t} {B' : Bs} {m' : Mp} (h : BdAt w x t) (k : Kept (mown x.m x.B t.m.o) w w') (hm : MapAt w' x.m B' m') (ho : m'.o = t.m.o) : BdAt w' { x with B := B' } { t with m := m' } := by
  have nb := h.nb
  have nl := h.nl
  refine ⟨h.sp.kept (ofK k) (fun y hy e => map_space h.mp h.sp e hy), hm, fun i hi => (h.ls i hi).kept (ofK k) (fun e => map_list h.mp (h.ls i hi) e), (k.block _ (heap_lt h.bs) (fun e => nb (.inr (.inl (h.mo ▸ e))))).trans h.bs, ?_, ho.trans h.mo, h.iL, h.hR⟩
  obtain ⟨cs, hl, hc⟩ := h.lr
  exact ⟨cs, (k.block _ (heap_lt hl) (fun e => nl (.inr (.inl (h.mo ▸ e))))).trans hl, hc⟩
theorem growM_o (m : Mp) : (growM m).o = m.o := by unfold growM; split <;> rfl
theorem alloc_cellL {w : World} {a : Addr} {v : Value} {o : Obj} (h : w.cell? a = some v) : (w.alloc o).cell? a = some v := ((Kept.refl none' w).alloc o).cell (fun x => x) h
theorem growM_n {m : Mp} {o : Nat} (ho : m.o = o) (h : m.n + 2 ^ o ≤ 1024) : (growM m).n = m.n + 2 ^ o := by
  subst ho
  unfold growM
  rw [if_neg (by show ¬ 1024 < m.n + 2 ^ m.o; omega)]
  rfl
theorem ty_ne' {W : World} {y : Nat} {cs cs' : Array Value} {a b : TypeId} {z z' : Nat × Nat} (h : W.heap[y]? = some (.cells cs a z)) (h' : W.heap[y]? = some (.cells cs' b z')) : a = b := by
  rw [h] at h'
  injection h' with h'
  injection h' with _ h'
end Go.Proofs.YtgjapopddblpoaaGreatDoor
/- P5.7: Feed, Pull; a new buddy; regions that come and go. -/
namespace Go.Proofs.YtgjapopddblpoaaGreatDoor
open Go.RowKit
set_option linter.unusedVariables false

theorem Sn.new (x : Bx) (f : Nat → Nat) (hP : x.P = fun _ => none) (ho : x.o ≤ 8) (hb : 1 ≤ x.base) (h63 : x.base + x.n ≤ 9223372036854775808) : Sn x ⟨f, newM x.o, fun _ => 0⟩ (fun _ _ => False) := by
  refine ⟨fun _ => [], fun _ _ _ => False, ⟨rfl, ho, ⟨0, by simp [newM]⟩, by simp [newM], by simp [newM], hb, h63, fun _ _ _ h => h.elim, fun p k => ⟨fun h => h.elim, fun h => by cases h.2⟩, fun _ _ _ h => h.elim, fun _ _ _ _ _ _ h => h.elim, fun i hi => absurd hi (Nat.not_lt_zero _), fun _ _ _ h => h.elim, fun k hk => M.Chn.nil _ _ _, fun k hk => ?_, fun k hk i hi => ?_, fun k hk i h => (by cases h.1), fun p q h => (by rw [hP] at h; cases h)⟩, fun _ _ h => h, fun _ _ => Iff.rfl⟩
  · show 0 = (0 / 2 ^ (k + 1) + 63) / 64
    rw [Nat.zero_div]
  · have hi : i < 0 / 2 ^ (k + 1) := hi
    rw [Nat.zero_div] at hi
    omega
theorem bd_words {w x t} (h : BdAt w x t) : (∀ k, k < x.o → ∀ i, (t.m.wd k).getD i 0 < 2 ^ 64) ∧ ∀ k, k < x.o → ∀ j, t.m.n / 2 ^ (k + 1) ≤ j → bit (t.m.wd k) j = false :=
  ⟨fun k hk => (set_words (h.mp.set k (by rw [h.mo]; exact hk))).1, fun k hk => (set_words (h.mp.set k (by rw [h.mo]; exact hk))).2⟩
theorem Sn.grow {w x t L} (s : Sn x t L) (h : BdAt w x t) (x' : Bx) (hP : x'.P = x.P) (ho : x'.o = x.o) (hb : x'.base = x.base) (hn : x'.n = x.n + x.R) (h63 : x.base + x'.n ≤ 9223372036854775808) (hg : t.m.n + 2 ^ x.o ≤ 1024) :
    Sn x' ⟨M.more t.f x.n, growM t.m, t.hd⟩ (fun q i => L q i ∨ (q = t.m.n ∧ i = x.o)) := by
  obtain ⟨hz, hp⟩ := bd_words h
  have hR := h.hR
  obtain ⟨fr, B, s, hN, hL⟩ := s
  have hnb := s.nb
  refine ⟨fr, plus B 2 t.m.n x.o, s.grow x' hP ho hb (by rw [hn, hR, Nat.add_mul, Nat.mul_comm (2 ^ x.o)]; exact Nat.add_le_add_right hnb _) h63 hg _ (fun i hi => ?_) hz hp, ?_, ?_⟩
  · unfold M.more
    rw [if_pos (by omega)]
  · rintro q i (h | ⟨e, _⟩)
    · exact hN q i h
    · omega
  · intro q i
    unfold plus
    rw [hL]
    constructor
    · rintro (h | ⟨_, h⟩)
      · exact .inl h
      · exact .inr h
    · rintro (h | h)
      · exact .inl h
      · exact .inr ⟨rfl, h⟩
theorem Sn.drop {w x t L} (s : Sn x t L) (h : BdAt w x t) (c : Nat) (hc : t.m.n = c + 2 ^ x.o) (hl : L c x.o) (hv : x.P c = none) (x' : Bx) (hP : x'.P = x.P) (ho : x'.o = x.o) (hb : x'.base = x.base) (hn : c * 4096 ≤ x'.n) (hn2 : x'.n ≤ x.n) :
    Sn x' ⟨t.f, resizeM t.m c, t.hd⟩ (fun q i => L q i ∧ ¬ (q = c ∧ i = x.o)) := by
  obtain ⟨hz, hp⟩ := bd_words h
  obtain ⟨fr, B, s, hN, hL⟩ := s
  have hb2 := s.b2
  refine ⟨fr, minus B 2 c x.o, s.drop c hc ((hL c x.o).2 hl) hv x' hP ho hb hn (by omega) _ (fun i hi => rfl) hz, fun q i h => hN q i h.1, fun q i => ?_⟩
  unfold minus
  rw [hL]
  constructor
  · exact fun h => ⟨h.1, fun e => h.2 ⟨rfl, e⟩⟩
  · exact fun h => ⟨h.1, fun e => h.2 e.2⟩
/-- The topmost region's first page. -/
theorem Sn.top {x t L} (s : Sn x t L) (hn : topOk x t) : t.m.n = topP x + 2 ^ x.o ∧ topP x % 2 ^ x.o = 0 := by
  obtain ⟨fr, B, s, hN, hL⟩ := s
  obtain ⟨r, hr⟩ := s.dv
  obtain ⟨h1, h2⟩ := hn
  have h3 : x.n / 4096 = t.m.n := by omega
  have hr1 : 1 ≤ r := by
    rcases Nat.eq_zero_or_pos r with e | e
    · rw [e, Nat.zero_mul] at hr; omega
    · exact e
  have h4 : r * 2 ^ x.o = (r - 1) * 2 ^ x.o + 2 ^ x.o := by
    rw [show r = (r - 1) + 1 by omega, Nat.add_mul, Nat.one_mul]; rfl
  have h5 : topP x = (r - 1) * 2 ^ x.o := by unfold topP; omega
  exact ⟨by omega, by rw [h5]; exact Nat.mul_mod_left _ _⟩
theorem Feed_snK (x : Bx) (t : Bt) (L : Nat → Nat → Prop) (s : Sn x t L) (hn : topOk x t) (hl : L (topP x) x.o) (hv : x.P (topP x) = none) (w : World) (h : BdAt w x t) :
    Calls Tryz.prog 200 #[.pointer (some ⟨x.b, 0, none⟩)] w fun e w' => e = .returned (.int .i64 0) ∧ DoneK x t w w' L (fun q i => L q i ∧ ¬ (q = topP x ∧ i = x.o)) := by
  obtain ⟨t1, t2⟩ := s.top hn
  have hz : 0 < 2 ^ x.o := Nat.pow_pos (by decide)
  have hlv := (s.live_iff (topP x) x.o (by omega)).2 ⟨hl, hv⟩
  obtain ⟨fr, B, s, hN, hL⟩ := s
  obtain ⟨pg1, _⟩ := page_ad s (topP x) (by omega)
  obtain ⟨t', p', k', c1, c2, B', c3, c4, c5, _, _, c6⟩ := s.give hN ((hL (topP x) x.o).2 hl) hv
  rw [Nat.sub_self, joinL] at c1
  cases c1
  refine (Feed_yes x t hn hlv (by rw [pg1]; exact c2) w h).mono ?_
  rintro e w' ⟨rfl, h1, h2⟩
  rw [pg1] at h1
  have hL' : ∀ q i, B' 2 q i ↔ (L q i ∧ ¬ (q = topP x ∧ i = x.o)) := fun q i => by rw [c5, hL]
  exact ⟨rfl, _, h1, h2, ⟨_, B', c3, c4, hL'⟩, enterT_n _ _ _ _, c6.mono fun g hg => ⟨s.notfr' hL hg.1, c3.notfr hL' hg.2⟩⟩
theorem Feed_sn (x : Bx) (t : Bt) (L : Nat → Nat → Prop) (s : Sn x t L) (hn : topOk x t) (hl : L (topP x) x.o) (hv : x.P (topP x) = none) (w : World) (h : BdAt w x t) :
    Calls Tryz.prog 200 #[.pointer (some ⟨x.b, 0, none⟩)] w fun e w' => e = .returned (.int .i64 0) ∧ Done x t w w' (fun q i => L q i ∧ ¬ (q = topP x ∧ i = x.o)) := by
  refine (Feed_snK x t L s hn hl hv w h).mono ?_
  rintro e w' ⟨h1, h2⟩
  exact ⟨h1, h2.done⟩
theorem Sn.top_free {x t L} (s : Sn x t L) (hn : topOk x t) : freeB x t (topP x) x.o = true ↔ ∀ q i, L q i → ¬ Meet (topP x) x.o q i := by
  obtain ⟨t1, t2⟩ := s.top hn
  obtain ⟨fr, B, s, hN, hL⟩ := s
  rw [s.free_iff hN _ _ (Nat.le_refl _)]
  have hz : 0 < 2 ^ x.o := Nat.pow_pos (by decide)
  constructor
  · intro hb q i hq hm
    unfold Meet at hm
    rcases s.ds _ _ _ _ _ _ hb ((hL q i).2 hq) with e | e | e <;> omega
  · intro hf
    obtain ⟨q, j, h1, h2, h3, h4⟩ := s.stretch hN (Nat.le_refl _) t2 (Nat.le_of_eq t1.symm) fun p j hb => by
      have := hf p j ((hL p j).1 hb)
      unfold Meet at this
      omega
    obtain ⟨a1, a2, a3⟩ := s.al _ _ _ h2
    have ej : j = x.o := by omega
    subst ej
    have eq : q = topP x := by omega
    rw [← eq]
    exact h2
theorem Pull_snK (x : Bx) (t : Bt) (L : Nat → Nat → Prop) (s : Sn x t L) (hn : topOk x t) (hl : ∀ q i, L q i → ¬ Meet (topP x) x.o q i) (w : World) (h : BdAt w x t) :
    Calls Tryz.prog 140 #[.pointer (some ⟨x.b, 0, none⟩)] w fun e w' => e = .returned (.int .i64 0) ∧ DoneK x t w w' L (fun q i => L q i ∨ (q = topP x ∧ i = x.o)) := by
  obtain ⟨t1, t2⟩ := s.top hn
  have hz : 0 < 2 ^ x.o := Nat.pow_pos (by decide)
  have hfb := (s.top_free hn).2 hl
  obtain ⟨fr, B, s, hN, hL⟩ := s
  have hb := (s.free_iff hN _ _ (Nat.le_refl _)).1 hfb
  obtain ⟨_, hm⟩ := (s.fi _ _).1 hb
  obtain ⟨c1, c2⟩ := s.leave (Nat.le_refl _) hm (q := topP x) (by omega) rfl
  have et : turnT (remT x t (topP x) x.o) (topP x : Int) (x.o : Int) = remT x t (topP x) x.o := by
    unfold turnT
    rw [flipM_no _ _ _ (by show ¬ x.o < t.m.o; rw [s.mo]; exact Nat.lt_irrefl _)]
  rw [et] at c2
  have c3 := c2.live (p := topP x) (k := x.o) (.inr ⟨rfl, rfl, rfl⟩)
  refine (Pull_yes x t hn hfb c1 w h).mono ?_
  rintro e w' ⟨rfl, h1, h2⟩
  refine ⟨rfl, _, h1, h2, ⟨_, _, c3, ?_, ?_⟩, runM_n _ _ _ _, ((s.leaveK (Nat.le_refl _) hm).to (t'' := pullT x t) rfl).mono fun g hg => s.notfr' hL hg.1 x.o (Nat.le_refl _)⟩
  · rintro q i (⟨⟨h3, _⟩ | ⟨_, h3, h4⟩, h5⟩ | ⟨h3, _⟩)
    · exact hN q i h3
    · exact h5 ⟨rfl, h3, h4⟩
    · omega
  · intro q i
    show rep (rep B 0 (topP x) x.o 9) 9 (topP x) x.o 2 2 q i ↔ (L q i ∨ q = topP x ∧ i = x.o)
    rw [← hL q i]
    constructor
    · rintro (⟨⟨h3, _⟩ | ⟨h3, _⟩, _⟩ | ⟨_, h3⟩)
      · exact .inl h3
      · omega
      · exact .inr h3
    · rintro (h3 | h3)
      · exact .inl ⟨.inl ⟨h3, fun e => by omega⟩, fun e => by omega⟩
      · exact .inr ⟨rfl, h3⟩
theorem Pull_sn (x : Bx) (t : Bt) (L : Nat → Nat → Prop) (s : Sn x t L) (hn : topOk x t) (hl : ∀ q i, L q i → ¬ Meet (topP x) x.o q i) (w : World) (h : BdAt w x t) :
    Calls Tryz.prog 140 #[.pointer (some ⟨x.b, 0, none⟩)] w fun e w' => e = .returned (.int .i64 0) ∧ Done x t w w' (fun q i => L q i ∨ (q = topP x ∧ i = x.o)) := by
  refine (Pull_snK x t L s hn hl w h).mono ?_
  rintro e w' ⟨h1, h2⟩
  exact ⟨h1, h2.done⟩
theorem Pull_no_sn (x : Bx) (t : Bt) (L : Nat → Nat → Prop) (s : Sn x t L) (hn : ¬ topOk x t ∨ ∃ q i, L q i ∧ Meet (topP x) x.o q i) (w : World) (h : BdAt w x t) :
    Calls Tryz.prog 140 #[.pointer (some ⟨x.b, 0, none⟩)] w fun e w' => e = .returned (.int .i64 9) ∧ Kept none' w w' := by
  refine Pull_no x t ?_ w h
  by_cases ht : topOk x t
  · refine .inr ⟨ht, ?_⟩
    rcases hn with hn | ⟨q, i, h1, h2⟩
    · exact absurd ht hn
    · cases e : freeB x t (topP x) x.o with
      | false => rfl
      | true => exact absurd h2 ((s.top_free ht).1 e q i h1)
  · exact .inl ht
end Go.Proofs.YtgjapopddblpoaaGreatDoor
/- Lists of free blocks, rows of live ones, as things. -/
namespace Go.Proofs.YtgjapopddblpoaaGreatDoor
open Go.RowKit
set_option linter.unusedVariables false

/-- Is there a live block of that page and order? -/
def liveL (ls : List (Nat × Nat)) (pg od : Int) : Bool := ls.any fun r => decide ((r.1 : Int) = pg) && decide ((r.2 : Int) = od)
/-- The live blocks without those of a page. -/
def dropR (ls : List (Nat × Nat)) (pg : Nat) : List (Nat × Nat) := ls.filter fun r => decide (r.1 ≠ pg)
/-- The lists behind a cut. -/
def cutF (fr : Nat → List Nat) (pg frm tt : Nat) : Nat → List Nat := fun j => if tt ≤ j ∧ j < frm then (pg + 2 ^ j) :: fr j else fr j
theorem cutF_next (fr : Nat → List Nat) (pg frm d : Nat) (h : d < frm) : frU (cutF fr pg frm (d + 1)) d ((pg + 2 ^ d) :: cutF fr pg frm (d + 1) d) = cutF fr pg frm d := by
  funext j
  unfold frU cutF
  by_cases e : j = d
  · subst e
    rw [if_pos rfl, if_neg (by omega), if_pos (by omega)]
  · rw [if_neg e]
    by_cases e2 : d ≤ j ∧ j < frm
    · rw [if_pos (by omega), if_pos e2]
    · rw [if_neg (by omega), if_neg e2]
theorem cutF_low (fr : Nat → List Nat) (pg frm d : Nat) : cutF fr pg frm (d + 1) d = fr d := by
  unfold cutF
  rw [if_neg (by omega)]
theorem cutF_self (fr : Nat → List Nat) (pg frm : Nat) : cutF fr pg frm frm = fr := by
  funext j
  unfold cutF
  rw [if_neg (by omega)]
theorem liveL_mem {ls : List (Nat × Nat)} {p k : Nat} : liveL ls (p : Int) (k : Int) = true ↔ (p, k) ∈ ls := by
  unfold liveL
  rw [List.any_eq_true]
  constructor
  · rintro ⟨⟨a, b⟩, h1, h2⟩
    rw [Bool.and_eq_true, decide_eq_true_iff, decide_eq_true_iff] at h2
    obtain ⟨h3, h4⟩ := h2
    have h3 : a = p := Int.ofNat.inj h3
    have h4 : b = k := Int.ofNat.inj h4
    rw [h3, h4] at h1
    exact h1
  · intro h
    exact ⟨(p, k), h, by simp⟩
/-- The lists behind a Give. -/
def giveF (o : Nat) (fr : Nat → List Nat) (p k : Nat) : Nat → List Nat := frU (joinF o (o - k) fr p k).1 (joinF o (o - k) fr p k).2.2 ((joinF o (o - k) fr p k).2.1 :: (joinF o (o - k) fr p k).1 (joinF o (o - k) fr p k).2.2)
theorem dropR_len (ls : List (Nat × Nat)) (p : Nat) : (dropR ls p).length ≤ ls.length := List.length_filter_le _ _
end Go.Proofs.YtgjapopddblpoaaGreatDoor
/- BuddyPlays: a buddy without fault, its lists and its live blocks told one by one. -/
namespace Go.Proofs.YtgjapopddblpoaaGreatDoor
open Go.RowKit
set_option linter.unusedVariables false

/-- A buddy without fault: its free lists are fr, its live blocks ls. -/
def Sf (x : Bx) (t : Bt) (fr : Nat → List Nat) (ls : List (Nat × Nat)) : Prop := ∃ B, Sd x t fr B ∧ (∀ q i, ¬ B 9 q i) ∧ ∀ q i, B 2 q i ↔ (q, i) ∈ ls
theorem Sf.sn {x t fr ls} (s : Sf x t fr ls) : Sn x t (fun q i => (q, i) ∈ ls) := by
  obtain ⟨B, h⟩ := s
  exact ⟨fr, B, h⟩
/-- A call is done. -/
def DF (x : Bx) (t : Bt) (w w' : World) (fr : Nat → List Nat) (ls : List (Nat × Nat)) : Prop := ∃ t', BdAt w' x t' ∧ Kept (bown x) w w' ∧ Sf x t' fr ls ∧ t'.m.n = t.m.n
theorem Sf.nd {x t fr ls} (s : Sf x t fr ls) {k : Nat} (hk : k ≤ x.o) : (fr k).Nodup := by
  obtain ⟨B, s, _⟩ := s
  have := (s.ch k hk).nodup
  rw [List.nodup_iff_pairwise_ne, List.pairwise_map] at this
  exact this.imp fun h e => h (by rw [e])
theorem Sf.lt {x t fr ls} (s : Sf x t fr ls) {k q : Nat} (hk : k ≤ x.o) (hq : q ∈ fr k) : q + 2 ^ k ≤ t.m.n := by
  obtain ⟨B, s, _⟩ := s
  exact (s.al _ _ _ ((s.fi _ _).2 ⟨hk, hq⟩)).2.2
theorem Sf.len {x t fr ls} (s : Sf x t fr ls) {k : Nat} (hk : k ≤ x.o) : (fr k).length ≤ 1024 := by
  have h1 := M.nodup_len t.m.n (fr k) (s.nd hk) (fun q hq => by
    have := s.lt hk hq
    have hz : 0 < 2 ^ k := Nat.pow_pos (by decide)
    omega)
  have := s.sn.n.1
  omega
theorem Sf.le {x t fr ls} (s : Sf x t fr ls) {k q : Nat} (hk : k ≤ x.o) (hq : q ∈ fr k) : q ≤ 1024 := by
  have := s.lt hk hq
  have := s.sn.n.1
  have hz : 0 < 2 ^ k := Nat.pow_pos (by decide)
  omega
theorem Sf.one {x t fr ls} (s : Sf x t fr ls) {p k i : Nat} (h1 : (p, k) ∈ ls) (h2 : (p, i) ∈ ls) : i = k := by
  have hz : 0 < 2 ^ k := Nat.pow_pos (by decide)
  have hz2 : 0 < 2 ^ i := Nat.pow_pos (by decide)
  rcases s.sn.apart h1 h2 with e | e | e <;> omega
theorem mem_dropR {ls : List (Nat × Nat)} {p q i : Nat} : (q, i) ∈ dropR ls p ↔ (q, i) ∈ ls ∧ q ≠ p := by
  unfold dropR
  rw [List.mem_filter]
  simp
theorem Sf.drop_iff {x t fr ls} (s : Sf x t fr ls) {p k : Nat} (h : (p, k) ∈ ls) (q i : Nat) : ((q, i) ∈ ls ∧ ¬ (q = p ∧ i = k)) ↔ (q, i) ∈ dropR ls p := by
  rw [mem_dropR]
  constructor
  · rintro ⟨h1, h2⟩
    exact ⟨h1, fun e => h2 ⟨e, s.one h (e ▸ h1)⟩⟩
  · rintro ⟨h1, h2⟩
    exact ⟨h1, fun e => h2 e.1⟩
theorem mem_app {ls : List (Nat × Nat)} {p k q i : Nat} : (q, i) ∈ ls ++ [(p, k)] ↔ (q, i) ∈ ls ∨ (q = p ∧ i = k) := by
  rw [List.mem_append, List.mem_singleton, Prod.mk.injEq]
/-- A page past the pages, a page on a list, is no slab page. -/
theorem Sf.pout {x t fr ls} (s : Sf x t fr ls) {p : Nat} (h : t.m.n ≤ p) : x.P p = none := by
  obtain ⟨B, s, _⟩ := s
  cases hP : x.P p with
  | none => rfl
  | some q =>
    have := (s.al _ _ _ (s.vs p q hP).1).2.2
    omega
theorem Sf.pfree {x t fr ls} (s : Sf x t fr ls) {p k : Nat} (hk : k ≤ x.o) (h : p ∈ fr k) : x.P p = none := by
  obtain ⟨B, s, _⟩ := s
  exact s.pn9 ((s.fi p k).2 ⟨hk, h⟩) (by decide) p (Nat.le_refl _) (by have : 0 < 2 ^ k := Nat.pow_pos (by decide); omega)
theorem Sf.pslab {x t fr ls} (s : Sf x t fr ls) {p : Nat} {q : Pg} (h : x.P p = some q) : (p, 0) ∈ ls ∧ q.kd = 4 ∧ p < t.m.n ∧ t.m.pg p = q := by
  obtain ⟨B, s, _, hL⟩ := s
  have hv := s.vs p q h
  have ha := (s.al _ _ _ hv.1).2.2
  have hp := s.pg _ _ _ hv.1 (by decide) p (Nat.le_refl _) (by omega)
  rw [h, Option.getD_some] at hp
  exact ⟨(hL p 0).1 hv.1, hv.2, by omega, hp⟩
/-- A page of a live block that is no slab page. -/
theorem Sf.pbig {x t fr ls} (s : Sf x t fr ls) {p k : Nat} (h : (p, k) ∈ ls) (hv : x.P p = none) : ∀ i, p ≤ i → i < p + 2 ^ k → x.P i = none ∧ t.m.pg i = blankP (if i = p then 2 else 3) (k : Int) := by
  obtain ⟨B, s, _, hL⟩ := s
  intro i h1 h2
  have hn := s.pn ((hL p k).2 h) (fun _ _ => hv) i h1 h2
  have hp := s.pg _ _ _ ((hL p k).2 h) (by decide) i h1 h2
  rw [hn, Option.getD_none] at hp
  refine ⟨hn, hp.trans ?_⟩
  by_cases e : i = p
  · rw [if_pos e, if_pos e]; rfl
  · rw [if_neg e, if_neg e]; rfl
theorem Take_f (x : Bx) (t : Bt) (fr : Nat → List Nat) (ls : List (Nat × Nat)) (s : Sf x t fr ls) (k : Nat) (hk : k ≤ x.o) (w : World) (h : BdAt w x t) :
    Calls Tryz.prog 145 #[.pointer (some ⟨x.b, 0, none⟩), .int .i64 (k : Int)] w fun e w' =>
      (e = .returned (.tuple #[.int .u64 0, .int .i64 2]) ∧ w' = w ∧ ∀ j, k ≤ j → j ≤ x.o → fr j = []) ∨
      (∃ j p l, k ≤ j ∧ j ≤ x.o ∧ (∀ i, k ≤ i → i < j → fr i = []) ∧ fr j = p :: l ∧ e = .returned (.tuple #[.int .u64 ((ad x p : Nat) : Int), .int .i64 0]) ∧ DF x t w w' (cutF (frU fr j (M.dropL (fr j) p)) p j k) (ls ++ [(p, k)])) := by
  obtain ⟨B, s, hN, hL⟩ := s
  rcases least_or x t k with hz | ⟨j, hj, hl⟩
  · refine (Take_empty x t k hk hz w h).mono ?_
    rintro e w' ⟨rfl, rfl⟩
    exact .inl ⟨rfl, rfl, fun j h1 h2 => (s.head j h2).1 (hz j h1 h2)⟩
  · obtain ⟨p, l, hfr⟩ : ∃ p l, fr j = p :: l := by
      cases e : fr j with
      | nil => exact absurd ((s.head j hj).2 e) (hl.lh hj)
      | cons p l => exact ⟨p, l, rfl⟩
    obtain ⟨c1, c2, c3, c4, c5, c6, fr', B', c7, c8, c9, c10, _⟩ := s.take hN hl.lk hj hfr
    refine (Take_yes x t k j p hk hl hj c1 c2 c3 c4 c5 c6 w h).mono ?_
    rintro e w' ⟨rfl, h1, h2⟩
    have hfr' : fr' = cutF (frU fr j (M.dropL (fr j) p)) p j k := by
      funext i
      rw [c10]
      unfold cutF frU
      by_cases e : k ≤ i ∧ i < j
      · rw [if_pos e, if_pos e, if_neg (by omega)]
      · rw [if_neg e, if_neg e]
    subst hfr'
    exact .inr ⟨j, p, l, hl.lk, hj, fun i h3 h4 => (s.head i (by omega)).1 (hl.lz i h3 h4), hfr, rfl, _, h1, h2, ⟨B', c7, c8, fun q i => by rw [c9, hL, mem_app]⟩, takeT_n _ _ _ _ _⟩
theorem Give_f (x : Bx) (t : Bt) (fr : Nat → List Nat) (ls : List (Nat × Nat)) (s0 : Sf x t fr ls) (p k : Nat) (hl : (p, k) ∈ ls) (hv : x.P p = none) (w : World) (h : BdAt w x t) :
    Calls Tryz.prog 133 #[.pointer (some ⟨x.b, 0, none⟩), .int .u64 ((ad x p : Nat) : Int), .int .i64 (k : Int)] w fun e w' => e = .returned (.int .i64 0) ∧ DF x t w w' (giveF x.o fr p k) (dropR ls p) := by
  obtain ⟨n1, n2, n3⟩ := s0.sn.n
  obtain ⟨a1, a2, a3⟩ := s0.sn.al hl
  have hz : 0 < 2 ^ k := Nat.pow_pos (by decide)
  have hlv := (s0.sn.live_iff p k (by omega)).2 ⟨hl, hv⟩
  have hdr := s0.drop_iff hl
  obtain ⟨B, s, hN, hL⟩ := s0
  obtain ⟨pg1, _⟩ := page_ad s p (by omega)
  obtain ⟨t', p', k', c1, c2, B', c3, c4, c5, e1, e2, _⟩ := s.give hN ((hL p k).2 hl) hv
  refine (Give_yes x t (ad x p) k (by unfold ad; omega) hlv w h).mono ?_
  rintro e w' ⟨tr, pr, kr, hj, rfl, h1, h2⟩
  rw [pg1, c1] at hj
  cases hj
  have hn2 : (enterT x t' p' k').m.n = t.m.n := by
    rw [enterT_n]
    have := joinL_n x (x.o - k) t p k
    rw [c1] at this
    exact this
  subst e1 e2
  exact ⟨by rw [c2]; rfl, _, h1, h2, ⟨B', c3, c4, fun q i => by rw [c5, hL]; exact hdr q i⟩, hn2⟩
theorem Shrink_f (x : Bx) (t : Bt) (fr : Nat → List Nat) (ls : List (Nat × Nat)) (s0 : Sf x t fr ls) (p k o : Nat) (hl : (p, k) ∈ ls) (hv : x.P p = none) (ho : o ≤ k) (w : World) (h : BdAt w x t) :
    Calls Tryz.prog 49 #[.pointer (some ⟨x.b, 0, none⟩), .int .u64 ((ad x p : Nat) : Int), .int .i64 (k : Int), .int .i64 (o : Int)] w fun e w' => e = .returned (.int .i64 0) ∧ DF x t w w' (cutF fr p k o) (dropR ls p ++ [(p, o)]) := by
  obtain ⟨n1, n2, n3⟩ := s0.sn.n
  obtain ⟨a1, a2, a3⟩ := s0.sn.al hl
  have hz : 0 < 2 ^ k := Nat.pow_pos (by decide)
  have hlv := (s0.sn.live_iff p k (by omega)).2 ⟨hl, hv⟩
  have hdr := s0.drop_iff hl
  obtain ⟨B, s, hN, hL⟩ := s0
  obtain ⟨pg1, _⟩ := page_ad s p (by omega)
  obtain ⟨c1, fr', B', c3, c4, c5, c6, _⟩ := s.shrink hN ((hL p k).2 hl) hv ho
  refine (Shrink_yesB x t (ad x p) k o (by unfold ad; omega) hlv ho w h).mono ?_
  rintro e w' ⟨rfl, h1, h2⟩
  rw [pg1] at h1 ⊢
  have hfr' : fr' = cutF fr p k o := by
    funext i
    rw [c6]
    rfl
  subst hfr'
  exact ⟨by rw [c1]; rfl, _, h1, h2, ⟨B', c3, c4, fun q i => by rw [c5, hL, mem_app, hdr]⟩, cutT_n _ _ _ _ _⟩
theorem Feed_f (x : Bx) (t : Bt) (fr : Nat → List Nat) (ls : List (Nat × Nat)) (s0 : Sf x t fr ls) (hn : topOk x t) (hl : (topP x, x.o) ∈ ls) (hv : x.P (topP x) = none) (w : World) (h : BdAt w x t) :
    Calls Tryz.prog 200 #[.pointer (some ⟨x.b, 0, none⟩)] w fun e w' => e = .returned (.int .i64 0) ∧ DF x t w w' (giveF x.o fr (topP x) x.o) (dropR ls (topP x)) := by
  obtain ⟨t1, t2⟩ := s0.sn.top hn
  have hz : 0 < 2 ^ x.o := Nat.pow_pos (by decide)
  have hlv := (s0.sn.live_iff (topP x) x.o (by omega)).2 ⟨hl, hv⟩
  have hdr := s0.drop_iff hl
  obtain ⟨B, s, hN, hL⟩ := s0
  obtain ⟨pg1, _⟩ := page_ad s (topP x) (by omega)
  obtain ⟨t', p', k', c1, c2, B', c3, c4, c5, e1, e2, _⟩ := s.give hN ((hL (topP x) x.o).2 hl) hv
  subst e1 e2
  rw [Nat.sub_self, joinL] at c1
  have c1a : t' = t := (congrArg Prod.fst c1).symm
  have c1b : (joinF x.o (x.o - x.o) fr (topP x) x.o).2.1 = topP x := by rw [Nat.sub_self]; rfl
  have c1c : (joinF x.o (x.o - x.o) fr (topP x) x.o).2.2 = x.o := by rw [Nat.sub_self]; rfl
  subst c1a
  rw [c1b, c1c] at c2
  refine (Feed_yes x t' hn hlv (by rw [pg1]; exact c2) w h).mono ?_
  rintro e w' ⟨rfl, h1, h2⟩
  rw [pg1] at h1
  have c3' : Sd x (enterT x t' (topP x) x.o) (giveF x.o fr (topP x) x.o) B' := by
    have := c3
    rw [c1b, c1c] at this
    unfold giveF
    rw [c1b, c1c]
    exact this
  exact ⟨rfl, _, h1, h2, ⟨B', c3', c4, fun q i => by rw [c5, hL]; exact hdr q i⟩, enterT_n _ _ _ _⟩
theorem Pull_f (x : Bx) (t : Bt) (fr : Nat → List Nat) (ls : List (Nat × Nat)) (s0 : Sf x t fr ls) (hn : topOk x t) (hm : topP x ∈ fr x.o) (w : World) (h : BdAt w x t) :
    Calls Tryz.prog 140 #[.pointer (some ⟨x.b, 0, none⟩)] w fun e w' => e = .returned (.int .i64 0) ∧ DF x t w w' (frU fr x.o (M.dropL (fr x.o) (topP x))) (ls ++ [(topP x, x.o)]) := by
  obtain ⟨t1, t2⟩ := s0.sn.top hn
  have hz : 0 < 2 ^ x.o := Nat.pow_pos (by decide)
  obtain ⟨B, s, hN, hL⟩ := s0
  have hb := (s.fi _ _).2 ⟨Nat.le_refl _, hm⟩
  have hfb := (s.free_iff hN _ _ (Nat.le_refl _)).2 hb
  obtain ⟨c1, c2⟩ := s.leave (Nat.le_refl _) hm (q := topP x) (by omega) rfl
  have et : turnT (remT x t (topP x) x.o) (topP x : Int) (x.o : Int) = remT x t (topP x) x.o := by
    unfold turnT
    rw [flipM_no _ _ _ (by show ¬ x.o < t.m.o; rw [s.mo]; exact Nat.lt_irrefl _)]
  rw [et] at c2
  have c3 := c2.live (p := topP x) (k := x.o) (.inr ⟨rfl, rfl, rfl⟩)
  refine (Pull_yes x t hn hfb c1 w h).mono ?_
  rintro e w' ⟨rfl, h1, h2⟩
  refine ⟨rfl, _, h1, h2, ⟨_, c3, ?_, ?_⟩, runM_n _ _ _ _⟩
  · rintro q i (⟨⟨h3, _⟩ | ⟨_, h3, h4⟩, h5⟩ | ⟨h3, _⟩)
    · exact hN q i h3
    · exact h5 ⟨rfl, h3, h4⟩
    · omega
  · intro q i
    show rep (rep B 0 (topP x) x.o 9) 9 (topP x) x.o 2 2 q i ↔ (q, i) ∈ ls ++ [(topP x, x.o)]
    rw [mem_app, ← hL q i]
    constructor
    · rintro (⟨⟨h3, _⟩ | ⟨h3, _⟩, _⟩ | ⟨_, h3⟩)
      · exact .inl h3
      · omega
      · exact .inr h3
    · rintro (h3 | h3)
      · exact .inl ⟨.inl ⟨h3, fun e => by omega⟩, fun e => by omega⟩
      · exact .inr ⟨rfl, h3⟩
theorem Pull_no_f (x : Bx) (t : Bt) (fr : Nat → List Nat) (ls : List (Nat × Nat)) (s0 : Sf x t fr ls) (hm : topOk x t → topP x ∉ fr x.o) (w : World) (h : BdAt w x t) :
    Calls Tryz.prog 140 #[.pointer (some ⟨x.b, 0, none⟩)] w fun e w' => e = .returned (.int .i64 9) ∧ Kept none' w w' := by
  refine Pull_no x t ?_ w h
  by_cases ht : topOk x t
  · refine .inr ⟨ht, ?_⟩
    obtain ⟨B, s, hN, hL⟩ := s0
    cases e : freeB x t (topP x) x.o with
    | false => rfl
    | true => exact absurd ((s.fi _ _).1 ((s.free_iff hN _ _ (Nat.le_refl _)).1 e)).2 (hm ht)
  · exact .inl ht
theorem Feed_no_f (x : Bx) (t : Bt) (fr : Nat → List Nat) (ls : List (Nat × Nat)) (s0 : Sf x t fr ls) (hm : topOk x t → (topP x, x.o) ∉ ls) (w : World) (h : BdAt w x t) :
    Calls Tryz.prog 200 #[.pointer (some ⟨x.b, 0, none⟩)] w fun e w' => e = .returned (.int .i64 9) ∧ Kept none' w w' := by
  refine Feed_no x t ?_ w h
  by_cases ht : topOk x t
  · refine .inr ⟨ht, ?_⟩
    obtain ⟨t1, t2⟩ := s0.sn.top ht
    have hz : 0 < 2 ^ x.o := Nat.pow_pos (by decide)
    cases e : liveB x t (ad x (topP x)) (x.o : Int) with
    | false => rfl
    | true => exact absurd ((s0.sn.live_iff (topP x) x.o (by omega)).1 e).1 (hm ht)
  · exact .inl ht
/-- The page of an address, as the law tells it. -/
def pgV (base P a : Nat) : Int := if base ≤ a ∧ a % 4096 = 0 ∧ a - base < 4096 * P then (((a - base) / 4096 : Nat) : Int) else -1
/-- The live blocks that are no slab pages. -/
def bigL (x : Bx) (ls : List (Nat × Nat)) : List (Nat × Nat) := ls.filter fun r => (x.P r.1).isNone
theorem mem_big {x : Bx} {ls : List (Nat × Nat)} {p k : Nat} : (p, k) ∈ bigL x ls ↔ (p, k) ∈ ls ∧ x.P p = none := by
  unfold bigL
  rw [List.mem_filter]
  simp
theorem Sf.live_all {x t fr ls} (s0 : Sf x t fr ls) (hb : x.base % 4096 = 0) (hst : t.m.n * 4096 = x.n) (a : Nat) (ha : a < 18446744073709551616) (k : Int) : liveB x t a k = liveL (bigL x ls) (pgV x.base t.m.n a) k := by
  obtain ⟨n1, n2, n3⟩ := s0.sn.n
  unfold pgV
  by_cases hc : x.base ≤ a ∧ a % 4096 = 0 ∧ a - x.base < 4096 * t.m.n
  · rw [if_pos hc]
    obtain ⟨p, hp⟩ : ∃ p, p = (a - x.base) / 4096 := ⟨_, rfl⟩
    rw [← hp]
    have hap : a = ad x p := by unfold ad; omega
    have hpn : p < t.m.n := by omega
    rw [hap]
    by_cases hk : 0 ≤ k
    · obtain ⟨kn, rfl⟩ := Int.eq_ofNat_of_zero_le hk
      have := s0.sn.live_iff p kn hpn
      rw [← mem_big (ls := ls), ← liveL_mem] at this
      exact Bool.eq_iff_iff.2 this
    · have h1 : liveB x t (ad x p) k = false := by
        unfold liveB
        rw [show inR (x.o + 1) k = false from decide_eq_false (by omega), Bool.and_false, Bool.false_and]
      rw [h1]
      symm
      cases e : liveL (bigL x ls) (p : Int) k with
      | false => rfl
      | true =>
        obtain ⟨r, _, h2⟩ := List.any_eq_true.1 e
        rw [Bool.and_eq_true, decide_eq_true_iff, decide_eq_true_iff] at h2
        omega
  · rw [if_neg hc]
    have h1 : pageB x t a = false := decide_eq_false fun h => by
      obtain ⟨⟨h3, h4⟩, h5⟩ := h
      unfold M.In at h5
      have hoff : offP x a = a - x.base := by unfold offP; omega
      rw [hoff] at h3 h4
      omega
    unfold liveB
    rw [h1, Bool.false_and, Bool.false_and]
    symm
    cases e : liveL (bigL x ls) (-1) k with
    | false => rfl
    | true =>
      obtain ⟨r, _, h2⟩ := List.any_eq_true.1 e
      rw [Bool.and_eq_true, decide_eq_true_iff, decide_eq_true_iff] at h2
      omega
theorem wordTo_congr (f g : Nat → Nat) : ∀ k, (∀ i, i < k → f i = g i) → M.wordTo f k = M.wordTo g k
  | 0, _ => rfl
  | k + 1, h => by rw [M.wordTo, M.wordTo, wordTo_congr f g k (fun i hi => h i (by omega)), h k (by omega)]
theorem Sd.bytes {x t fr B} (s : Sd x t fr B) {f' : Nat → Nat} (h : ∀ q j, B 0 q j → ∀ i, i < 16 → f' (4096 * q + i) = t.f (4096 * q + i)) : Sd x { t with f := f' } fr B := by
  refine ⟨s.mo, s.o8, s.dv, s.nb, s.n1, s.b1, s.b2, s.tg, s.fi, s.al, s.ds, s.cv, s.pg, fun k hk => (s.ch k hk).congr fun c hc => ?_, s.wl, s.bt, s.nm, s.vs⟩
  obtain ⟨q, hq, rfl⟩ := List.mem_map.1 hc
  have hb := h q k ((s.fi q k).2 ⟨hk, hq⟩)
  have e1 : ad x q - x.base = 4096 * q := by unfold ad; omega
  have e2 : ad x q + 8 - x.base = 4096 * q + 8 := by unfold ad; omega
  constructor
  · show M.nx x.base f' (ad x q) = M.nx x.base t.f (ad x q)
    unfold M.nx M.word
    rw [e1]
    exact wordTo_congr _ _ 8 fun i hi => hb i (by omega)
  · show M.pv x.base f' (ad x q) = M.pv x.base t.f (ad x q)
    unfold M.pv M.word
    rw [e2]
    exact wordTo_congr _ _ 8 fun i hi => by have := hb (8 + i) (by omega); rw [← Nat.add_assoc] at this; exact this
theorem Sf.grow {w x t fr ls} (s : Sf x t fr ls) (h : BdAt w x t) (x' : Bx) (hP : x'.P = x.P) (ho : x'.o = x.o) (hb : x'.base = x.base) (hn : x'.n = x.n + x.R) (h63 : x.base + x'.n ≤ 9223372036854775808) (hg : t.m.n + 2 ^ x.o ≤ 1024) :
    Sf x' ⟨M.more t.f x.n, growM t.m, t.hd⟩ fr (ls ++ [(t.m.n, x.o)]) := by
  obtain ⟨hz, hp⟩ := bd_words h
  have hR := h.hR
  obtain ⟨B, s, hN, hL⟩ := s
  have hnb := s.nb
  refine ⟨plus B 2 t.m.n x.o, s.grow x' hP ho hb (by rw [hn, hR, Nat.add_mul, Nat.mul_comm (2 ^ x.o)]; exact Nat.add_le_add_right hnb _) h63 hg _ (fun i hi => ?_) hz hp, ?_, ?_⟩
  · unfold M.more
    rw [if_pos (by omega)]
  · rintro q i (h | ⟨e, _⟩)
    · exact hN q i h
    · omega
  · intro q i
    rw [mem_app]
    unfold plus
    rw [hL]
    constructor
    · rintro (h | ⟨_, h⟩)
      · exact .inl h
      · exact .inr h
    · rintro (h | h)
      · exact .inl h
      · exact .inr ⟨rfl, h⟩
theorem Sf.dropT {w x t fr ls} (s0 : Sf x t fr ls) (h : BdAt w x t) (c : Nat) (hc : t.m.n = c + 2 ^ x.o) (hl : (c, x.o) ∈ ls) (hv : x.P c = none) (x' : Bx) (hP : x'.P = x.P) (ho : x'.o = x.o) (hb : x'.base = x.base) (hn : c * 4096 ≤ x'.n) (hn2 : x'.n ≤ x.n) :
    Sf x' ⟨t.f, resizeM t.m c, t.hd⟩ fr (dropR ls c) := by
  obtain ⟨hz, hp⟩ := bd_words h
  obtain ⟨B, s, hN, hL⟩ := s0
  have hb2 := s.b2
  refine ⟨minus B 2 c x.o, s.drop c hc ((hL c x.o).2 hl) hv x' hP ho hb hn (by omega) _ (fun i hi => rfl) hz, fun q i h => hN q i h.1, fun q i => ?_⟩
  rw [← Sf.drop_iff ⟨B, s, hN, hL⟩ hl]
  unfold minus
  rw [hL]
  constructor
  · exact fun h => ⟨h.1, fun e => h.2 ⟨rfl, e⟩⟩
  · exact fun h => ⟨h.1, fun e => h.2 e.2⟩
/-- What is written into a live block touches no list. -/
theorem Sf.fill {x t fr ls} (s : Sf x t fr ls) {p k : Nat} (hl : (p, k) ∈ ls) {f' : Nat → Nat} (h : ∀ i, ¬ (4096 * p ≤ i ∧ i < 4096 * (p + 2 ^ k)) → f' i = t.f i) : Sf x { t with f := f' } fr ls := by
  obtain ⟨B, s, hN, hL⟩ := s
  refine ⟨B, s.bytes fun q j hb i hi => h _ fun e => ?_, hN, hL⟩
  have hz : 0 < 2 ^ j := Nat.pow_pos (by decide)
  rcases s.ds _ _ _ _ _ _ hb ((hL p k).2 hl) with ⟨e1, _⟩ | e1 | e1 <;> omega
theorem Sf.hd {x t fr ls} (s : Sf x t fr ls) {k : Nat} (hk : k ≤ x.o) : t.hd k = ((fr k).map (ad x)).getD 0 0 := by
  obtain ⟨B, s, _⟩ := s
  exact (s.ch k hk).head
theorem Sf.words {x t fr ls} (s : Sf x t fr ls) {k : Nat} (hk : k ≤ x.o) : freeL x t k = (fr k).map (ad x) := by
  obtain ⟨B, s, _⟩ := s
  exact s.freeL k hk
theorem Sf.new (x : Bx) (f : Nat → Nat) (hP : x.P = fun _ => none) (ho : x.o ≤ 8) (hb : 1 ≤ x.base) (h63 : x.base + x.n ≤ 9223372036854775808) : Sf x ⟨f, newM x.o, fun _ => 0⟩ (fun _ => []) [] := by
  refine ⟨fun _ _ _ => False, ⟨rfl, ho, ⟨0, by simp [newM]⟩, by simp [newM], by simp [newM], hb, h63, fun _ _ _ h => h.elim, fun p k => ⟨fun h => h.elim, fun h => by cases h.2⟩, fun _ _ _ h => h.elim, fun _ _ _ _ _ _ h => h.elim, fun i hi => absurd hi (Nat.not_lt_zero _), fun _ _ _ h => h.elim, fun k hk => M.Chn.nil _ _ _, fun k hk => ?_, fun k hk i hi => ?_, fun k hk i h => (by cases h.1), fun p q h => (by rw [hP] at h; cases h)⟩, fun _ _ h => h, fun _ _ => ⟨fun h => h.elim, fun h => by cases h⟩⟩
  · show 0 = (0 / 2 ^ (k + 1) + 63) / 64
    rw [Nat.zero_div]
  · have hi : i < 0 / 2 ^ (k + 1) := hi
    rw [Nat.zero_div] at hi
    omega
theorem DF.same {x t w w' fr ls} (h : BdAt w x t) (s : Sf x t fr ls) (k : Kept none' w w') : DF x t w w' fr ls := ⟨t, h.keep k, k.mono (fun _ _ e => e.elim), s, rfl⟩
theorem Sf.congr {x t fr fr' ls} (s : Sf x t fr ls) (h : ∀ k, k ≤ x.o → fr' k = fr k) : Sf x t fr' ls := by
  obtain ⟨B, s, hN, hL⟩ := s
  refine ⟨B, ⟨s.mo, s.o8, s.dv, s.nb, s.n1, s.b1, s.b2, s.tg, fun p k => ?_, s.al, s.ds, s.cv, s.pg, fun k hk => by rw [h k hk]; exact s.ch k hk, s.wl, fun k hk => ?_, fun k hk => ?_, s.vs⟩, hN, hL⟩
  · rw [s.fi]
    constructor
    · exact fun e => ⟨e.1, by rw [h k e.1]; exact e.2⟩
    · exact fun e => ⟨e.1, by rw [← h k e.1]; exact e.2⟩
  · rw [h k (Nat.le_of_lt hk)]; exact s.bt k hk
  · rw [h k (Nat.le_of_lt hk)]; exact s.nm k hk
end Go.Proofs.YtgjapopddblpoaaGreatDoor
/- A pool's world. -/
namespace Go.Proofs.YtgjapopddblpoaaGreatDoor
open Go.RowKit
set_option linter.unusedVariables false

/-- A pool's struct. -/
abbrev plO (x : Bx) : Obj := .cells #[.pointer (some ⟨x.s, 0, none⟩), .pointer (some ⟨x.m, 0, none⟩), .pointer (some ⟨x.b, 0, none⟩)] 100
structure Pol (w W : World) (lw : Nat) (x : Bx) (t : Bt) : Prop where
  box : W.heap[lw]? = some (plO x)
  bd : BdAt W x t
  nw : ∀ y, bown x y ∨ y = x.b ∨ y = x.l ∨ y = lw → w.heap.size ≤ y
  kp : Kept none' w W
theorem Pol.nlw {w W lw x t} (h : Pol w W lw x t) : ¬ bown x lw := by
  rintro (hx | hx | ⟨k, hk, e⟩)
  · obtain ⟨cs, t', z, h1, h2⟩ := space_ty h.bd.sp hx
    rw [h.box] at h1
    cases h1
    rcases h2 with e | e <;> exact absurd e (by decide)
  · rw [← h.bd.mo] at hx
    obtain ⟨cs, t', z, h1, h2⟩ := map_ty h.bd.mp hx
    rw [h.box] at h1
    cases h1
    rcases h2 with e | e | e | e | e <;> exact absurd e (by decide)
  · exact absurd e (ty_ne h.box (h.bd.ls k hk).hc (by decide))
theorem Pol.call {w W W' lw x t t'} (h : Pol w W lw x t) (hb : BdAt W' x t') (k : Kept (bown x) W W') : Pol w W' lw x t' :=
  ⟨(k.block _ (heap_lt h.box) h.nlw).trans h.box, hb, h.nw, h.kp.trans k (fun _ _ e => e) (fun y hy e => absurd (h.nw y (.inl e)) (by omega))⟩
theorem Pol.keep {w W W' lw x t} (h : Pol w W lw x t) (k : Kept none' W W') : Pol w W' lw x t := h.call (h.bd.keep k) (bown_none k)
theorem Pol.fz {w W lw x t} (h : Pol w W lw x t) (j : Nat) : W.frozen? ⟨lw, j, none⟩ = false := by simp [World.frozen?, h.box]
theorem Pol.space {w W W' lw x t} {g' n' : Nat} {f' : Nat → Nat} (h : Pol w W lw x t) (k : Kept (M.own x.s x.a) W W') (hs : M.SpaceAt W' x.s (some g') x.base x.R x.lim n' f') (hg : x.a = some g' ∨ W.heap.size ≤ g') : Pol w W' lw { x with a := some g', n := n' } { t with f := f' } := by
  refine ⟨(k.block _ (heap_lt h.box) (fun e => h.nlw (.inl e))).trans h.box, h.bd.space k hs, ?_, h.kp.trans k (fun _ _ e => e) (fun y hy e => absurd (h.nw y (.inl (.inl e))) (by omega))⟩
  have hz := h.kp.size
  rintro y (hy | rfl | rfl | rfl)
  · rcases hy with hy | hy | ⟨k, hk, rfl⟩
    · rcases hy with rfl | hy
      · exact h.nw _ (.inl (.inl (.inl rfl)))
      · have hy : some g' = some y := hy
        cases hy
        rcases hg with e | e
        · exact h.nw _ (.inl (.inl (.inr e)))
        · omega
    · exact h.nw _ (.inl (.inr (.inl hy)))
    · exact h.nw _ (.inl (.inr (.inr ⟨k, hk, rfl⟩)))
  · exact h.nw _ (.inr (.inl rfl))
  · exact h.nw _ (.inr (.inr (.inl rfl)))
  · exact h.nw _ (.inr (.inr (.inr rfl)))
theorem Pol.grow {w W W' lw x t} {B' : Bs} {m' : Mp} (h : Pol w W lw x t) (k : Kept (mown x.m x.B t.m.o) W W') (hm : MapAt W' x.m B' m') (ho : m'.o = t.m.o) (hF : From W x.m x.B B' t.m.o) : Pol w W' lw { x with B := B' } { t with m := m' } := by
  refine ⟨(k.block _ (heap_lt h.box) (fun e => h.nlw (.inr (.inl (h.bd.mo ▸ e))))).trans h.box, h.bd.grow k hm ho, ?_, h.kp.trans k (fun _ _ e => e) (fun y hy e => absurd (h.nw y (.inl (.inr (.inl (h.bd.mo ▸ e))))) (by omega))⟩
  have hz := h.kp.size
  rintro y (hy | rfl | rfl | rfl)
  · rcases hy with hy | hy | ⟨k, hk, rfl⟩
    · exact h.nw _ (.inl (.inl hy))
    · have hy : mown x.m B' x.o y := hy
      rw [← h.bd.mo] at hy
      rcases hF y hy with e | e
      · exact h.nw _ (.inl (.inr (.inl (h.bd.mo ▸ e))))
      · omega
    · exact h.nw _ (.inl (.inr (.inr ⟨k, hk, rfl⟩)))
  · exact h.nw _ (.inr (.inl rfl))
  · exact h.nw _ (.inr (.inr (.inl rfl)))
  · exact h.nw _ (.inr (.inr (.inr rfl)))
theorem Pol.space0 {w W W' lw x t} {n' : Nat} {f' : Nat → Nat} (h : Pol w W lw x t) (k : Kept (M.own x.s x.a) W W') (hs : M.SpaceAt W' x.s x.a x.base x.R x.lim n' f') : Pol w W' lw { x with n := n' } { t with f := f' } :=
  ⟨(k.block _ (heap_lt h.box) (fun e => h.nlw (.inl e))).trans h.box, h.bd.space k hs, h.nw, h.kp.trans k (fun _ _ e => e) (fun y hy e => absurd (h.nw y (.inl (.inl e))) (by omega))⟩
theorem Pol.lt {w W lw x t} (h : Pol w W lw x t) : ∀ y, bown x y ∨ y = lw → y < W.heap.size := by
  rintro y ((hx | hx | ⟨j, hj, e⟩) | rfl)
  · obtain ⟨cs, t', z, h1, h2⟩ := space_ty h.bd.sp hx
    exact heap_lt h1
  · rw [← h.bd.mo] at hx
    obtain ⟨cs, t', z, h1, h2⟩ := map_ty h.bd.mp hx
    exact heap_lt h1
  · rw [e]; exact heap_lt (h.bd.ls j hj).hc
  · exact heap_lt h.box
theorem Pol.lts {w W lw x t} (h : Pol w W lw x t) : ∀ y, bown x y ∨ y = x.b ∨ y = x.l ∨ y = lw → y < W.heap.size := by
  rintro y (hx | rfl | rfl | rfl)
  · exact h.lt y (.inl hx)
  · exact heap_lt h.bd.bs
  · obtain ⟨cs, hl, _⟩ := h.bd.lr
    exact heap_lt hl
  · exact heap_lt h.box
theorem Pol.c {w W lw x t} (h : Pol w W lw x t) : W.cell? ⟨lw, 0, none⟩ = some (.pointer (some ⟨x.s, 0, none⟩)) ∧ W.cell? ⟨lw, 1, none⟩ = some (.pointer (some ⟨x.m, 0, none⟩)) ∧ W.cell? ⟨lw, 2, none⟩ = some (.pointer (some ⟨x.b, 0, none⟩)) := by
  refine ⟨?_, ?_, ?_⟩ <;> simp [World.cell?, h.box]
/-- A pool without fault: its free lists are fr, its live blocks ls. -/
structure PO (w W : World) (lw : Nat) (x : Bx) (t : Bt) (fr : Nat → List Nat) (ls : List (Nat × Nat)) : Prop where
  pl : Pol w W lw x t
  sf : Sf x t fr ls
  st : t.m.n * 4096 = x.n
  bm : x.base % 4096 = 0
theorem PO.keep {w W W' lw x t fr ls} (h : PO w W lw x t fr ls) (k : Kept none' W W') : PO w W' lw x t fr ls := ⟨h.pl.keep k, h.sf, h.st, h.bm⟩
theorem PO.k0 {w W W' lw x t fr ls} (h : PO w W lw x t fr ls) (k : Kept (bown x) W W') : Kept none' w W' := h.pl.kp.trans k (fun _ _ e => e) (fun y hy e => absurd (h.pl.nw y (.inl e)) (by omega))
theorem PO.nums {w W lw x t fr ls} (h : PO w W lw x t fr ls) : x.o ≤ 8 ∧ t.m.n ≤ 1024 ∧ 1 ≤ x.base ∧ x.base + x.n ≤ 9223372036854775808 ∧ (∃ r, t.m.n = r * 2 ^ x.o ∧ r ≤ x.lim ∧ x.n = r * x.R) ∧ x.lim ≤ 64 ∧ x.lim * 2 ^ x.o ≤ 1024 := by
  obtain ⟨n1, n2, n3⟩ := h.sf.sn.n
  have hc := h.pl.bd.sp.cfg
  obtain ⟨r, hr, hr2⟩ := h.pl.bd.sp.kn
  have hR := h.pl.bd.hR
  have hst := h.st
  have hlr := hc.lr
  refine ⟨h.pl.bd.o8, n1, hc.b1, n2, ⟨r, ?_, hr2, hr⟩, hc.l2, ?_⟩
  · rw [hr, hR] at hst
    have e : r * (4096 * 2 ^ x.o) = (r * 2 ^ x.o) * 4096 := by rw [Nat.mul_comm 4096, Nat.mul_assoc]
    rw [e] at hst
    exact Nat.eq_of_mul_eq_mul_right (by decide) hst
  · rw [hR] at hlr
    have e : x.lim * (4096 * 2 ^ x.o) = (x.lim * 2 ^ x.o) * 4096 := by rw [Nat.mul_comm 4096, Nat.mul_assoc]
    rw [e] at hlr
    omega
theorem PO.top {w W lw x t fr ls} (h : PO w W lw x t fr ls) : (t.m.n = 0 ∧ ¬ topOk x t) ∨ (2 ^ x.o ≤ t.m.n ∧ topOk x t ∧ topP x = t.m.n - 2 ^ x.o) := by
  have hst := h.st
  by_cases h0 : t.m.n = 0
  · exact .inl ⟨h0, fun e => e.1 (by omega)⟩
  · have ht : topOk x t := ⟨by omega, hst⟩
    obtain ⟨t1, _⟩ := h.sf.sn.top ht
    exact .inr ⟨by omega, ht, by omega⟩
theorem PO.done {w W W' lw x t fr ls fr' ls'} (h : PO w W lw x t fr ls) (d : DF x t W W' fr' ls') : ∃ t', PO w W' lw x t' fr' ls' ∧ t'.m.n = t.m.n ∧ Kept (bown x) W W' := by
  obtain ⟨t', hb, hk, hs, hn⟩ := d
  exact ⟨t', ⟨h.pl.call hb hk, hs, by rw [hn]; exact h.st, h.bm⟩, hn, hk⟩
end Go.Proofs.YtgjapopddblpoaaGreatDoor
