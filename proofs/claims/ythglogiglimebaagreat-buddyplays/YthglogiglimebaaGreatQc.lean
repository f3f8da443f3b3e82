import Derived.Test.YthglogiglimebaaGreatQb
/- BuddyPlays: a buddy without fault, its lists and its live blocks told one by one. -/
namespace Go.Proofs.YthglogiglimebaaGreat
open Go.RowKit
set_option linter.unusedVariables false

/-- A buddy without fault: its free lists are fr, its live blocks ls. -/
def Sf (x : Bx) (t : Bt) (fr : Nat → List Nat) (ls : List (Nat × Nat)) : Prop := ∃ B, Sd x t fr B ∧ (∀ q i, ¬ B 9 q i) ∧ ∀ q i, B 2 q i ↔ (q, i) ∈ ls
theorem Sf.sn {x t fr ls} (s : Sf x t fr ls) : Sn x t (fun q i => (q, i) ∈ ls) := by
  obtain ⟨B, h⟩ := s
  exact ⟨fr, B, h⟩
/-- A call is done. -/
def DF (x : Bx) (t : Bt) (w w' : World) (fr : Nat → List Nat) (ls : List (Nat × Nat)) : Prop := ∃ t', BdAt w' x t' ∧ Kept (bown x) w w' ∧ Sf x t' fr ls ∧ t'.m.n = t.m.n
theorem Sf.nd {x t fr ls} (s : Sf x t fr ls) {k : Nat} (hk : k ≤ x.o) : (fr k).Nodup := by
  obtain ⟨B, s, _⟩ := s
  have := (s.ch k hk).nodup
  rw [List.nodup_iff_pairwise_ne, List.pairwise_map] at this
  exact this.imp fun h e => h (by rw [e])
theorem Sf.lt {x t fr ls} (s : Sf x t fr ls) {k q : Nat} (hk : k ≤ x.o) (hq : q ∈ fr k) : q + 2 ^ k ≤ t.m.n := by
  obtain ⟨B, s, _⟩ := s
  exact (s.al _ _ _ ((s.fi _ _).2 ⟨hk, hq⟩)).2.2
theorem Sf.len {x t fr ls} (s : Sf x t fr ls) {k : Nat} (hk : k ≤ x.o) : (fr k).length ≤ 1024 := by
  have h1 := M.nodup_len t.m.n (fr k) (s.nd hk) (fun q hq => by
    have := s.lt hk hq
    have hz : 0 < 2 ^ k := Nat.pow_pos (by decide)
    omega)
  have := s.sn.n.1
  omega
theorem Sf.le {x t fr ls} (s : Sf x t fr ls) {k q : Nat} (hk : k ≤ x.o) (hq : q ∈ fr k) : q ≤ 1024 := by
  have := s.lt hk hq
  have := s.sn.n.1
  have hz : 0 < 2 ^ k := Nat.pow_pos (by decide)
  omega
theorem Sf.one {x t fr ls} (s : Sf x t fr ls) {p k i : Nat} (h1 : (p, k) ∈ ls) (h2 : (p, i) ∈ ls) : i = k := by
  have hz : 0 < 2 ^ k := Nat.pow_pos (by decide)
  have hz2 : 0 < 2 ^ i := Nat.pow_pos (by decide)
  rcases s.sn.apart h1 h2 with e | e | e <;> omega
theorem mem_dropR {ls : List (Nat × Nat)} {p q i : Nat} : (q, i) ∈ dropR ls p ↔ (q, i) ∈ ls ∧ q ≠ p := by
  unfold dropR
  rw [List.mem_filter]
  simp
theorem Sf.drop_iff {x t fr ls} (s : Sf x t fr ls) {p k : Nat} (h : (p, k) ∈ ls) (q i : Nat) : ((q, i) ∈ ls ∧ ¬ (q = p ∧ i = k)) ↔ (q, i) ∈ dropR ls p := by
  rw [mem_dropR]
  constructor
  · rintro ⟨h1, h2⟩
    exact ⟨h1, fun e => h2 ⟨e, s.one h (e ▸ h1)⟩⟩
  · rintro ⟨h1, h2⟩
    exact ⟨h1, fun e => h2 e.1⟩
theorem mem_app {ls : List (Nat × Nat)} {p k q i : Nat} : (q, i) ∈ ls ++ [(p, k)] ↔ (q, i) ∈ ls ∨ (q = p ∧ i = k) := by
  rw [List.mem_append, List.mem_singleton, Prod.mk.injEq]
theorem Take_f (x : Bx) (t : Bt) (fr : Nat → List Nat) (ls : List (Nat × Nat)) (s : Sf x t fr ls) (k : Nat) (hk : k ≤ x.o) (w : World) (h : BdAt w x t) :
    Calls Tryz.prog 10 #[.pointer (some ⟨x.b, 0, none⟩), .int .i64 (k : Int)] w fun e w' =>
      (e = .returned (.tuple #[.int .u64 0, .int .i64 2]) ∧ w' = w ∧ ∀ j, k ≤ j → j ≤ x.o → fr j = []) ∨
      (∃ j p l, k ≤ j ∧ j ≤ x.o ∧ (∀ i, k ≤ i → i < j → fr i = []) ∧ fr j = p :: l ∧ e = .returned (.tuple #[.int .u64 ((ad x p : Nat) : Int), .int .i64 0]) ∧ DF x t w w' (cutF (frU fr j (M.dropL (fr j) p)) p j k) (ls ++ [(p, k)])) := by
  obtain ⟨B, s, hN, hL⟩ := s
  rcases least_or x t k with hz | ⟨j, hj, hl⟩
  · refine (Take_empty x t k hk hz w h).mono ?_
    rintro e w' ⟨rfl, rfl⟩
    exact .inl ⟨rfl, rfl, fun j h1 h2 => (s.head j h2).1 (hz j h1 h2)⟩
  · obtain ⟨p, l, hfr⟩ : ∃ p l, fr j = p :: l := by
      cases e : fr j with
      | nil => exact absurd ((s.head j hj).2 e) (hl.lh hj)
      | cons p l => exact ⟨p, l, rfl⟩
    obtain ⟨c1, c2, c3, c4, c5, c6, fr', B', c7, c8, c9, c10, _⟩ := s.take hN hl.lk hj hfr
    refine (Take_yes x t k j p hk hl hj c1 c2 c3 c4 c5 c6 w h).mono ?_
    rintro e w' ⟨rfl, h1, h2⟩
    have hfr' : fr' = cutF (frU fr j (M.dropL (fr j) p)) p j k := by
      funext i
      rw [c10]
      unfold cutF frU
      by_cases e : k ≤ i ∧ i < j
      · rw [if_pos e, if_pos e, if_neg (by omega)]
      · rw [if_neg e, if_neg e]
    subst hfr'
    exact .inr ⟨j, p, l, hl.lk, hj, fun i h3 h4 => (s.head i (by omega)).1 (hl.lz i h3 h4), hfr, rfl, _, h1, h2, ⟨B', c7, c8, fun q i => by rw [c9, hL, mem_app]⟩, takeT_n _ _ _ _ _⟩
theorem Give_f (x : Bx) (t : Bt) (fr : Nat → List Nat) (ls : List (Nat × Nat)) (s0 : Sf x t fr ls) (p k : Nat) (hl : (p, k) ∈ ls) (w : World) (h : BdAt w x t) :
    Calls Tryz.prog 18 #[.pointer (some ⟨x.b, 0, none⟩), .int .u64 ((ad x p : Nat) : Int), .int .i64 (k : Int)] w fun e w' => e = .returned (.int .i64 0) ∧ DF x t w w' (giveF x.o fr p k) (dropR ls p) := by
  obtain ⟨n1, n2, n3⟩ := s0.sn.n
  obtain ⟨a1, a2, a3⟩ := s0.sn.al hl
  have hz : 0 < 2 ^ k := Nat.pow_pos (by decide)
  have hlv := (s0.sn.live_iff p k (by omega)).2 hl
  have hdr := s0.drop_iff hl
  obtain ⟨B, s, hN, hL⟩ := s0
  obtain ⟨pg1, _⟩ := page_ad s p (by omega)
  obtain ⟨t', p', k', c1, c2, B', c3, c4, c5, e1, e2, _⟩ := s.give hN ((hL p k).2 hl)
  refine (Give_yes x t (ad x p) k (by unfold ad; omega) hlv w h).mono ?_
  rintro e w' ⟨tr, pr, kr, hj, rfl, h1, h2⟩
  rw [pg1, c1] at hj
  cases hj
  have hn2 : (enterT x t' p' k').m.n = t.m.n := by
    rw [enterT_n]
    have := joinL_n x (x.o - k) t p k
    rw [c1] at this
    exact this
  subst e1 e2
  exact ⟨by rw [c2]; rfl, _, h1, h2, ⟨B', c3, c4, fun q i => by rw [c5, hL]; exact hdr q i⟩, hn2⟩
theorem Shrink_f (x : Bx) (t : Bt) (fr : Nat → List Nat) (ls : List (Nat × Nat)) (s0 : Sf x t fr ls) (p k o : Nat) (hl : (p, k) ∈ ls) (ho : o ≤ k) (w : World) (h : BdAt w x t) :
    Calls Tryz.prog 50 #[.pointer (some ⟨x.b, 0, none⟩), .int .u64 ((ad x p : Nat) : Int), .int .i64 (k : Int), .int .i64 (o : Int)] w fun e w' => e = .returned (.int .i64 0) ∧ DF x t w w' (cutF fr p k o) (dropR ls p ++ [(p, o)]) := by
  obtain ⟨n1, n2, n3⟩ := s0.sn.n
  obtain ⟨a1, a2, a3⟩ := s0.sn.al hl
  have hz : 0 < 2 ^ k := Nat.pow_pos (by decide)
  have hlv := (s0.sn.live_iff p k (by omega)).2 hl
  have hdr := s0.drop_iff hl
  obtain ⟨B, s, hN, hL⟩ := s0
  obtain ⟨pg1, _⟩ := page_ad s p (by omega)
  obtain ⟨c1, fr', B', c3, c4, c5, c6, _⟩ := s.shrink hN ((hL p k).2 hl) ho
  refine (Shrink_yesB x t (ad x p) k o (by unfold ad; omega) hlv ho w h).mono ?_
  rintro e w' ⟨rfl, h1, h2⟩
  rw [pg1] at h1 ⊢
  have hfr' : fr' = cutF fr p k o := by
    funext i
    rw [c6]
    rfl
  subst hfr'
  exact ⟨by rw [c1]; rfl, _, h1, h2, ⟨B', c3, c4, fun q i => by rw [c5, hL, mem_app, hdr]⟩, cutT_n _ _ _ _ _⟩
theorem Feed_f (x : Bx) (t : Bt) (fr : Nat → List Nat) (ls : List (Nat × Nat)) (s0 : Sf x t fr ls) (hn : topOk x t) (hl : (topP x, x.o) ∈ ls) (w : World) (h : BdAt w x t) :
    Calls Tryz.prog 15 #[.pointer (some ⟨x.b, 0, none⟩)] w fun e w' => e = .returned (.int .i64 0) ∧ DF x t w w' (giveF x.o fr (topP x) x.o) (dropR ls (topP x)) := by
  obtain ⟨t1, t2⟩ := s0.sn.top hn
  have hz : 0 < 2 ^ x.o := Nat.pow_pos (by decide)
  have hlv := (s0.sn.live_iff (topP x) x.o (by omega)).2 hl
  have hdr := s0.drop_iff hl
  obtain ⟨B, s, hN, hL⟩ := s0
  obtain ⟨pg1, _⟩ := page_ad s (topP x) (by omega)
  obtain ⟨t', p', k', c1, c2, B', c3, c4, c5, e1, e2, _⟩ := s.give hN ((hL (topP x) x.o).2 hl)
  subst e1 e2
  rw [Nat.sub_self, joinL] at c1
  have c1a : t' = t := (congrArg Prod.fst c1).symm
  have c1b : (joinF x.o (x.o - x.o) fr (topP x) x.o).2.1 = topP x := by rw [Nat.sub_self]; rfl
  have c1c : (joinF x.o (x.o - x.o) fr (topP x) x.o).2.2 = x.o := by rw [Nat.sub_self]; rfl
  subst c1a
  rw [c1b, c1c] at c2
  refine (Feed_yes x t' hn hlv (by rw [pg1]; exact c2) w h).mono ?_
  rintro e w' ⟨rfl, h1, h2⟩
  rw [pg1] at h1
  have c3' : Sd x (enterT x t' (topP x) x.o) (giveF x.o fr (topP x) x.o) B' := by
    have := c3
    rw [c1b, c1c] at this
    unfold giveF
    rw [c1b, c1c]
    exact this
  exact ⟨rfl, _, h1, h2, ⟨B', c3', c4, fun q i => by rw [c5, hL]; exact hdr q i⟩, enterT_n _ _ _ _⟩
theorem Pull_f (x : Bx) (t : Bt) (fr : Nat → List Nat) (ls : List (Nat × Nat)) (s0 : Sf x t fr ls) (hn : topOk x t) (hm : topP x ∈ fr x.o) (w : World) (h : BdAt w x t) :
    Calls Tryz.prog 43 #[.pointer (some ⟨x.b, 0, none⟩)] w fun e w' => e = .returned (.int .i64 0) ∧ DF x t w w' (frU fr x.o (M.dropL (fr x.o) (topP x))) (ls ++ [(topP x, x.o)]) := by
  obtain ⟨t1, t2⟩ := s0.sn.top hn
  have hz : 0 < 2 ^ x.o := Nat.pow_pos (by decide)
  obtain ⟨B, s, hN, hL⟩ := s0
  have hb := (s.fi _ _).2 ⟨Nat.le_refl _, hm⟩
  have hfb := (s.free_iff hN _ _ (Nat.le_refl _)).2 hb
  obtain ⟨c1, c2⟩ := s.leave (Nat.le_refl _) hm (q := topP x) (by omega) rfl
  have et : turnT (remT x t (topP x) x.o) (topP x : Int) (x.o : Int) = remT x t (topP x) x.o := by
    unfold turnT
    rw [flipM_no _ _ _ (by show ¬ x.o < t.m.o; rw [s.mo]; exact Nat.lt_irrefl _)]
  rw [et] at c2
  have c3 := c2.live (p := topP x) (k := x.o) (.inr ⟨rfl, rfl, rfl⟩)
  refine (Pull_yes x t hn hfb c1 w h).mono ?_
  rintro e w' ⟨rfl, h1, h2⟩
  refine ⟨rfl, _, h1, h2, ⟨_, c3, ?_, ?_⟩, runM_n _ _ _ _⟩
  · rintro q i (⟨⟨h3, _⟩ | ⟨_, h3, h4⟩, h5⟩ | ⟨h3, _⟩)
    · exact hN q i h3
    · exact h5 ⟨rfl, h3, h4⟩
    · omega
  · intro q i
    show rep (rep B 0 (topP x) x.o 9) 9 (topP x) x.o 2 2 q i ↔ (q, i) ∈ ls ++ [(topP x, x.o)]
    rw [mem_app, ← hL q i]
    constructor
    · rintro (⟨⟨h3, _⟩ | ⟨h3, _⟩, _⟩ | ⟨_, h3⟩)
      · exact .inl h3
      · omega
      · exact .inr h3
    · rintro (h3 | h3)
      · exact .inl ⟨.inl ⟨h3, fun e => by omega⟩, fun e => by omega⟩
      · exact .inr ⟨rfl, h3⟩
theorem Pull_no_f (x : Bx) (t : Bt) (fr : Nat → List Nat) (ls : List (Nat × Nat)) (s0 : Sf x t fr ls) (hm : topOk x t → topP x ∉ fr x.o) (w : World) (h : BdAt w x t) :
    Calls Tryz.prog 43 #[.pointer (some ⟨x.b, 0, none⟩)] w fun e w' => e = .returned (.int .i64 9) ∧ Kept none' w w' := by
  refine Pull_no x t ?_ w h
  by_cases ht : topOk x t
  · refine .inr ⟨ht, ?_⟩
    obtain ⟨B, s, hN, hL⟩ := s0
    cases e : freeB x t (topP x) x.o with
    | false => rfl
    | true => exact absurd ((s.fi _ _).1 ((s.free_iff hN _ _ (Nat.le_refl _)).1 e)).2 (hm ht)
  · exact .inl ht
theorem Feed_no_f (x : Bx) (t : Bt) (fr : Nat → List Nat) (ls : List (Nat × Nat)) (s0 : Sf x t fr ls) (hm : topOk x t → (topP x, x.o) ∉ ls) (w : World) (h : BdAt w x t) :
    Calls Tryz.prog 15 #[.pointer (some ⟨x.b, 0, none⟩)] w fun e w' => e = .returned (.int .i64 9) ∧ Kept none' w w' := by
  refine Feed_no x t ?_ w h
  by_cases ht : topOk x t
  · refine .inr ⟨ht, ?_⟩
    obtain ⟨t1, t2⟩ := s0.sn.top ht
    have hz : 0 < 2 ^ x.o := Nat.pow_pos (by decide)
    cases e : liveB x t (ad x (topP x)) (x.o : Int) with
    | false => rfl
    | true => exact absurd ((s0.sn.live_iff (topP x) x.o (by omega)).1 e) (hm ht)
  · exact .inl ht
/-- The page of an address, as the law tells it. -/
def pgV (base P a : Nat) : Int := if base ≤ a ∧ a % 4096 = 0 ∧ a - base < 4096 * P then (((a - base) / 4096 : Nat) : Int) else -1
theorem Sf.live_all {x t fr ls} (s0 : Sf x t fr ls) (hb : x.base % 4096 = 0) (hst : t.m.n * 4096 = x.n) (a : Nat) (ha : a < 18446744073709551616) (k : Int) : liveB x t a k = liveL ls (pgV x.base t.m.n a) k := by
  obtain ⟨n1, n2, n3⟩ := s0.sn.n
  unfold pgV
  by_cases hc : x.base ≤ a ∧ a % 4096 = 0 ∧ a - x.base < 4096 * t.m.n
  · rw [if_pos hc]
    obtain ⟨p, hp⟩ : ∃ p, p = (a - x.base) / 4096 := ⟨_, rfl⟩
    rw [← hp]
    have hap : a = ad x p := by unfold ad; omega
    have hpn : p < t.m.n := by omega
    rw [hap]
    by_cases hk : 0 ≤ k
    · obtain ⟨kn, rfl⟩ := Int.eq_ofNat_of_zero_le hk
      have := s0.sn.live_iff p kn hpn
      rw [← liveL_mem] at this
      exact Bool.eq_iff_iff.2 this
    · have h1 : liveB x t (ad x p) k = false := by
        unfold liveB
        rw [show inR (x.o + 1) k = false from decide_eq_false (by omega), Bool.and_false, Bool.false_and]
      rw [h1]
      symm
      cases e : liveL ls (p : Int) k with
      | false => rfl
      | true =>
        obtain ⟨r, _, h2⟩ := List.any_eq_true.1 e
        rw [Bool.and_eq_true, decide_eq_true_iff, decide_eq_true_iff] at h2
        omega
  · rw [if_neg hc]
    have h1 : pageB x t a = false := decide_eq_false fun h => by
      obtain ⟨⟨h3, h4⟩, h5⟩ := h
      unfold M.In at h5
      have hoff : offP x a = a - x.base := by unfold offP; omega
      rw [hoff] at h3 h4
      omega
    unfold liveB
    rw [h1, Bool.false_and, Bool.false_and]
    symm
    cases e : liveL ls (-1) k with
    | false => rfl
    | true =>
      obtain ⟨r, _, h2⟩ := List.any_eq_true.1 e
      rw [Bool.and_eq_true, decide_eq_true_iff, decide_eq_true_iff] at h2
      omega
end Go.Proofs.YthglogiglimebaaGreat
/- BuddyPlays: croftref5's Come, Go, of lists. -/
namespace Go.Proofs.YthglogiglimebaaGreat
open Go.RowKit
set_option linter.unusedVariables false

set_option maxRecDepth 4000 in
theorem Come5x (o p : Nat) (ho : o ≤ 8) (hp : p ≤ 1024) (fa : Option Addr) (fl fc : Nat) (va : Option Addr) (vc : Nat) (ls : List (Nat × Nat)) (hn : ls.length ≤ 1000) (w : World) (h : RN w (.slice va ls.length vc) ls) :
    Calls Tryz.prog 59 #[r5V (o : Int) (p : Int) (.slice fa fl fc) (.slice va ls.length vc)] w fun e w' => L5P w (o : Int) ((p + 2 ^ o : Nat) : Int) (.slice fa fl fc) (ls ++ [(p, o)]) e w' := by
  obtain ⟨n, hn'⟩ : ∃ n, n = ls.length := ⟨_, rfl⟩
  have T2 := two5 w (r5O (o : Int) (p : Int) (.slice fa fl fc) (.slice va n vc)) r5Z
  have X0 := hid T2.2.1
  clear T2
  obtain ⟨z, hz⟩ : ∃ z, z = 2 ^ o := ⟨_, rfl⟩
  have hzi : (2 : Int) ^ o = (z : Int) := by rw [hz]; simp
  have hz2 : z ≤ 256 := by rw [hz]; exact Nat.pow_le_pow_right (n := 2) (by decide) ho
  rw [← hz]
  obtain ⟨P, hP⟩ : ∃ P, P = p + z := ⟨_, rfl⟩
  have hPi : (p : Int) + (z : Int) = (P : Int) := by omega
  rw [← hP]
  clear hz hP
  have LV := hid (fun W (k : Kept none' w W) => lives5 (o : Int) (P : Int) fa fl fc va vc ls hn p o W (h.keep k))
  rw [← hn'] at LV hn ⊢
  clear h hn'
  go_enter Tryz.func59, Tryz.ntmps59
  obtain ⟨x0, x1, x2, x3, fx⟩ := r5c X0.out
  have T3 := two5 w (r5O (o : Int) (P : Int) (.slice fa fl fc) (.slice va n vc)) r5Z
  have K1 := hid T3.1
  have Y1 := hid T3.2.2
  clear T3
  go_wp2_with fail
  refine (LV.out _ K1.out).mono ?_
  rintro e w4 ⟨va4, vc4, rfl, hk, hr⟩
  obtain ⟨m, hm⟩ : ∃ m, m = (ls ++ [(p, o)]).length := ⟨_, rfl⟩
  rw [← hm] at hr ⊢
  have HM := hid hm
  have Y4 := (hk.block _ (heap_lt Y1.out) (fun x => x)).trans Y1.out
  have FIN := hid (fun u0 u1 u2 u3 => And.intro ((none_trans K1.out hk).trans (set4_k w4 (w.heap.size + 1) u0 u1 u2 u3) (fun _ _ e => e) (fun y hy e => by have e : y = w.heap.size + 1 := e; omega)) (hr.set4 Y4 u0 u1 u2 u3))
  obtain ⟨b0, b1, b2, b3, fb⟩ := r5c Y4
  clear hk hr x0 x1 x2 x3 fx Y4 hm LV
  go_wp2_with fail
  exact ⟨rfl, r5V (o : Int) (P : Int) (.slice fa fl fc) (.slice va4 m vc4), by simp [results, Tryz.results59, go_sem, b0, b1, b2, b3], va4, vc4, by rw [HM.out], (FIN.out _ _ _ _).1, by rw [← HM.out]; exact (FIN.out _ _ _ _).2⟩
set_option maxRecDepth 4000 in
set_option maxHeartbeats 1000000 in
theorem Go5x (o p : Nat) (ho : o ≤ 8) (hp : p ≤ 1024) (hz : 2 ^ o ≤ p) (fa : Option Addr) (fl fc : Nat) (va : Option Addr) (vc : Nat) (ls : List (Nat × Nat)) (hn : ls.length ≤ 1000) (w : World) (h : RN w (.slice va ls.length vc) ls) :
    Calls Tryz.prog 93 #[r5V (o : Int) (p : Int) (.slice fa fl fc) (.slice va ls.length vc)] w fun e w' => L5P w (o : Int) ((p - 2 ^ o : Nat) : Int) (.slice fa fl fc) (dropR ls (p - 2 ^ o)) e w' := by
  obtain ⟨n, hn'⟩ : ∃ n, n = ls.length := ⟨_, rfl⟩
  have T2 := two5 w (r5O (o : Int) (p : Int) (.slice fa fl fc) (.slice va n vc)) r5Z
  have K0 := hid T2.1
  have X0 := hid T2.2.1
  have Y0 := hid T2.2.2
  clear T2
  obtain ⟨P, hP⟩ : ∃ P, P = p - 2 ^ o := ⟨_, rfl⟩
  have TP := hid (show ∀ W, Calls Tryz.prog 44 #[r5V (o : Int) (p : Int) (.slice fa fl fc) (.slice va n vc)] W fun e w' => e = .returned (.int .i64 (P : Int)) ∧ Kept none' W w' from fun W => by rw [hP]; exact Top5_any o p ho hp hz fa fl fc _ W)
  have DS := hid (fun W (k : Kept none' w W) => dies5 (o : Int) (p : Int) fa fl fc va vc ls hn P W (h.keep k))
  rw [← hP]
  rw [← hn'] at DS hn ⊢
  clear hP hz h hn'
  go_enter Tryz.func93, Tryz.ntmps93
  obtain ⟨x0, x1, x2, x3, fx⟩ := r5c X0.out
  go_wp2_with fail
  refine (TP.out _).mono ?_
  rintro e w3 ⟨rfl, hk3⟩
  have X3 := hid ((hk3.block _ (heap_lt X0.out) (fun x => x)).trans X0.out)
  have Y3 := hid ((hk3.block _ (heap_lt Y0.out) (fun x => x)).trans Y0.out)
  have K3 := hid (none_trans K0.out hk3)
  clear hk3 x0 x1 x2 x3 fx
  obtain ⟨x0, x1, x2, x3, fx⟩ := r5c X3.out
  go_wp2_with fail
  refine (DS.out _ K3.out).mono ?_
  rintro e w4 ⟨va', vc', rfl, hk4, hr4⟩
  obtain ⟨m, hm⟩ : ∃ m, m = (dropR ls P).length := ⟨_, rfl⟩
  rw [← hm] at hr4 ⊢
  have HM := hid hm
  have X4 := hid ((hk4.block _ (heap_lt X3.out) (fun x => x)).trans X3.out)
  have Y4 := hid ((hk4.block _ (heap_lt Y3.out) (fun x => x)).trans Y3.out)
  have K4 := hid (none_trans K3.out hk4)
  have ks : Kept (fun y => y = w.heap.size) w4 (((((w4.setCell ⟨w.heap.size, 0, none⟩ (.int .i64 (o : Int))).setCell ⟨w.heap.size, 1, none⟩ (.int .i64 (p : Int))).setCell ⟨w.heap.size, 2, none⟩ (.slice fa fl fc)).setCell ⟨w.heap.size, 3, none⟩ (.slice va' m vc')).setCell ⟨w.heap.size, 1, none⟩ (.int .i64 (P : Int))) := (((((Kept.refl (fun y => y = w.heap.size) w4).setCell (p := ⟨w.heap.size, 0, none⟩) rfl _).setCell (p := ⟨w.heap.size, 1, none⟩) rfl _).setCell (p := ⟨w.heap.size, 2, none⟩) rfl _).setCell (p := ⟨w.heap.size, 3, none⟩) rfl _).setCell (p := ⟨w.heap.size, 1, none⟩) rfl _
  have X5 := hid (show (((((w4.setCell ⟨w.heap.size, 0, none⟩ (.int .i64 (o : Int))).setCell ⟨w.heap.size, 1, none⟩ (.int .i64 (p : Int))).setCell ⟨w.heap.size, 2, none⟩ (.slice fa fl fc)).setCell ⟨w.heap.size, 3, none⟩ (.slice va' m vc')).setCell ⟨w.heap.size, 1, none⟩ (.int .i64 (P : Int))).heap[w.heap.size]? = some (r5O (o : Int) (P : Int) (.slice fa fl fc) (.slice va' m vc')) from heap_set (heap_set (heap_set (heap_set (heap_set X4.out 0 _) 1 _) 2 _) 3 _) 1 _)
  have Y5 := hid ((ks.block _ (heap_lt Y4.out) (by omega)).trans Y4.out)
  have K5 := hid (K4.out.trans ks (fun _ _ e => e) (fun y hy e => absurd (show y = w.heap.size from e) (by omega)))
  have R5 := own_kept hr4 ks (fun y e hy => by
    obtain ⟨cs, hc⟩ := own_ty hr4 e
    exact ty_ne hc X4.out (by decide) hy)
  have FIN := hid (fun u0 u1 u2 u3 => And.intro (K5.out.trans (set4_k _ (w.heap.size + 1) u0 u1 u2 u3) (fun _ _ e => e) (fun y hy e => by have e : y = w.heap.size + 1 := e; omega)) (RN.set4 R5 Y5.out u0 u1 u2 u3))
  clear hk4 x0 x1 x2 x3 fx ks R5 hr4 hm
  obtain ⟨_, _, _, _, fx⟩ := r5c X4.out
  obtain ⟨a0, a1, a2, a3, fa4⟩ := r5c X5.out
  obtain ⟨b0, b1, b2, b3, fb⟩ := r5c Y5.out
  go_wp2_with fail
  exact ⟨rfl, r5V (o : Int) (P : Int) (.slice fa fl fc) (.slice va' m vc'), by simp [results, Tryz.results93, go_sem, b0, b1, b2, b3], va', vc', by rw [HM.out], (FIN.out _ _ _ _).1, by rw [← HM.out]; exact (FIN.out _ _ _ _).2⟩
end Go.Proofs.YthglogiglimebaaGreat
