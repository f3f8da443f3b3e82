import Derived.Test.YtgjapopddblpoaaGreatDoorRgD
import Derived.Test.YtgjapopddblpoaaGreatDoorKbz
/- The calls of a buddy without fault keep the bytes of live blocks. (Written by mk6k.py off Sff.) -/
namespace Go.Proofs.YtgjapopddblpoaaGreatDoor.K
open Go.RowKit
set_option linter.unusedVariables false

def DF (x : Bx) (t : Bt) (w w' : World) (ls0 : List (Nat × Nat)) (fr : Nat → List Nat) (ls : List (Nat × Nat)) : Prop := ∃ t', BdAt w' x t' ∧ Kept (bown x) w w' ∧ Sf x t' fr ls ∧ t'.m.n = t.m.n ∧ BK t t' ls0 ls
theorem Take_f (x : Bx) (t : Bt) (fr : Nat → List Nat) (ls : List (Nat × Nat)) (s : Sf x t fr ls) (k : Nat) (hk : k ≤ x.o) (w : World) (h : BdAt w x t) :
    Calls Tryz.prog 145 #[.pointer (some ⟨x.b, 0, none⟩), .int .i64 (k : Int)] w fun e w' =>
      (e = .returned (.tuple #[.int .u64 0, .int .i64 2]) ∧ w' = w ∧ ∀ j, k ≤ j → j ≤ x.o → fr j = []) ∨
      (∃ j p l, k ≤ j ∧ j ≤ x.o ∧ (∀ i, k ≤ i → i < j → fr i = []) ∧ fr j = p :: l ∧ e = .returned (.tuple #[.int .u64 ((ad x p : Nat) : Int), .int .i64 0]) ∧ DF x t w w' ls (cutF (frU fr j (M.dropL (fr j) p)) p j k) (ls ++ [(p, k)])) := by
  have s00 := s
  obtain ⟨B, s, hN, hL⟩ := s
  rcases least_or x t k with hz | ⟨j, hj, hl⟩
  · refine (Take_empty x t k hk hz w h).mono ?_
    rintro e w' ⟨rfl, rfl⟩
    exact .inl ⟨rfl, rfl, fun j h1 h2 => (s.head j h2).1 (hz j h1 h2)⟩
  · obtain ⟨p, l, hfr⟩ : ∃ p l, fr j = p :: l := by
      cases e : fr j with
      | nil => exact absurd ((s.head j hj).2 e) (hl.lh hj)
      | cons p l => exact ⟨p, l, rfl⟩
    obtain ⟨c1, c2, c3, c4, c5, c6, fr', B', c7, c8, c9, c10, c11⟩ := s.take hN hl.lk hj hfr
    refine (Take_yes x t k j p hk hl hj c1 c2 c3 c4 c5 c6 w h).mono ?_
    rintro e w' ⟨rfl, h1, h2⟩
    have hfr' : fr' = cutF (frU fr j (M.dropL (fr j) p)) p j k := by
      funext i
      rw [c10]
      unfold cutF frU
      by_cases e : k ≤ i ∧ i < j
      · rw [if_pos e, if_pos e, if_neg (by omega)]
      · rw [if_neg e, if_neg e]
    subst hfr'
    exact .inr ⟨j, p, l, hl.lk, hj, fun i h3 h4 => (s.head i (by omega)).1 (hl.lz i h3 h4), hfr, rfl, _, h1, h2, ⟨B', c7, c8, fun q i => by rw [c9, hL, mem_app]⟩, takeT_n _ _ _ _ _, BK.of h h1 s00 ⟨B', c7, c8, fun q i => by rw [c9, hL, mem_app]⟩ c11⟩
theorem Give_f (x : Bx) (t : Bt) (fr : Nat → List Nat) (ls : List (Nat × Nat)) (s0 : Sf x t fr ls) (p k : Nat) (hl : (p, k) ∈ ls) (hv : x.P p = none) (w : World) (h : BdAt w x t) :
    Calls Tryz.prog 133 #[.pointer (some ⟨x.b, 0, none⟩), .int .u64 ((ad x p : Nat) : Int), .int .i64 (k : Int)] w fun e w' => e = .returned (.int .i64 0) ∧ DF x t w w' ls (giveF x.o fr p k) (dropR ls p) := by
  obtain ⟨n1, n2, n3⟩ := s0.sn.n
  obtain ⟨a1, a2, a3⟩ := s0.sn.al hl
  have hz : 0 < 2 ^ k := Nat.pow_pos (by decide)
  have hlv := (s0.sn.live_iff p k (by omega)).2 ⟨hl, hv⟩
  have hdr := s0.drop_iff hl
  have s00 := s0
  obtain ⟨B, s, hN, hL⟩ := s0
  obtain ⟨pg1, _⟩ := page_ad s p (by omega)
  obtain ⟨t', p', k', c1, c2, B', c3, c4, c5, e1, e2, e3⟩ := s.give hN ((hL p k).2 hl) hv
  refine (Give_yes x t (ad x p) k (by unfold ad; omega) hlv w h).mono ?_
  rintro e w' ⟨tr, pr, kr, hj, rfl, h1, h2⟩
  rw [pg1, c1] at hj
  cases hj
  have hn2 : (enterT x t' p' k').m.n = t.m.n := by
    rw [enterT_n]
    have := joinL_n x (x.o - k) t p k
    rw [c1] at this
    exact this
  subst e1 e2
  exact ⟨by rw [c2]; rfl, _, h1, h2, ⟨B', c3, c4, fun q i => by rw [c5, hL]; exact hdr q i⟩, hn2, BK.of h h1 s00 ⟨B', c3, c4, fun q i => by rw [c5, hL]; exact hdr q i⟩ (e3.mono fun g hg => ⟨hg.1, fun j hb => hg.2 j ((c3.fi g j).1 hb).1 ((c3.fi g j).1 hb).2⟩)⟩
theorem Feed_f (x : Bx) (t : Bt) (fr : Nat → List Nat) (ls : List (Nat × Nat)) (s0 : Sf x t fr ls) (hn : topOk x t) (hl : (topP x, x.o) ∈ ls) (hv : x.P (topP x) = none) (w : World) (h : BdAt w x t) :
    Calls Tryz.prog 200 #[.pointer (some ⟨x.b, 0, none⟩)] w fun e w' => e = .returned (.int .i64 0) ∧ DF x t w w' ls (giveF x.o fr (topP x) x.o) (dropR ls (topP x)) := by
  obtain ⟨t1, t2⟩ := s0.sn.top hn
  have hz : 0 < 2 ^ x.o := Nat.pow_pos (by decide)
  have hlv := (s0.sn.live_iff (topP x) x.o (by omega)).2 ⟨hl, hv⟩
  have hdr := s0.drop_iff hl
  have s00 := s0
  obtain ⟨B, s, hN, hL⟩ := s0
  obtain ⟨pg1, _⟩ := page_ad s (topP x) (by omega)
  obtain ⟨t', p', k', c1, c2, B', c3, c4, c5, e1, e2, e3⟩ := s.give hN ((hL (topP x) x.o).2 hl) hv
  subst e1 e2
  rw [Nat.sub_self, joinL] at c1
  have c1a : t' = t := (congrArg Prod.fst c1).symm
  have c1b : (joinF x.o (x.o - x.o) fr (topP x) x.o).2.1 = topP x := by rw [Nat.sub_self]; rfl
  have c1c : (joinF x.o (x.o - x.o) fr (topP x) x.o).2.2 = x.o := by rw [Nat.sub_self]; rfl
  subst c1a
  rw [c1b, c1c] at c2 e3
  refine (Feed_yes x t' hn hlv (by rw [pg1]; exact c2) w h).mono ?_
  rintro e w' ⟨rfl, h1, h2⟩
  rw [pg1] at h1
  have c3' : Sd x (enterT x t' (topP x) x.o) (giveF x.o fr (topP x) x.o) B' := by
    have := c3
    rw [c1b, c1c] at this
    unfold giveF
    rw [c1b, c1c]
    exact this
  exact ⟨rfl, _, h1, h2, ⟨B', c3', c4, fun q i => by rw [c5, hL]; exact hdr q i⟩, enterT_n _ _ _ _, BK.of h h1 s00 ⟨B', c3', c4, fun q i => by rw [c5, hL]; exact hdr q i⟩ (e3.mono fun g hg => ⟨hg.1, fun j hb => hg.2 j ((c3'.fi g j).1 hb).1 ((c3'.fi g j).1 hb).2⟩)⟩
theorem Pull_f (x : Bx) (t : Bt) (fr : Nat → List Nat) (ls : List (Nat × Nat)) (s0 : Sf x t fr ls) (hn : topOk x t) (hm : topP x ∈ fr x.o) (w : World) (h : BdAt w x t) :
    Calls Tryz.prog 140 #[.pointer (some ⟨x.b, 0, none⟩)] w fun e w' => e = .returned (.int .i64 0) ∧ DF x t w w' ls (frU fr x.o (M.dropL (fr x.o) (topP x))) (ls ++ [(topP x, x.o)]) := by
  obtain ⟨t1, t2⟩ := s0.sn.top hn
  have hz : 0 < 2 ^ x.o := Nat.pow_pos (by decide)
  have s00 := s0
  obtain ⟨B, s, hN, hL⟩ := s0
  have hb := (s.fi _ _).2 ⟨Nat.le_refl _, hm⟩
  have hfb := (s.free_iff hN _ _ (Nat.le_refl _)).2 hb
  obtain ⟨c1, c2⟩ := s.leave (Nat.le_refl _) hm (q := topP x) (by omega) rfl
  have et : turnT (remT x t (topP x) x.o) (topP x : Int) (x.o : Int) = remT x t (topP x) x.o := by
    unfold turnT
    rw [flipM_no _ _ _ (by show ¬ x.o < t.m.o; rw [s.mo]; exact Nat.lt_irrefl _)]
  rw [et] at c2
  have c3 := c2.live (p := topP x) (k := x.o) (.inr ⟨rfl, rfl, rfl⟩)
  refine (Pull_yes x t hn hfb c1 w h).mono ?_
  rintro e w' ⟨rfl, h1, h2⟩
  have hsf : Sf x (runT (remT x t (topP x) x.o) (topP x) x.o 2) (frU fr x.o (M.dropL (fr x.o) (topP x))) (ls ++ [(topP x, x.o)]) := by
    refine ⟨_, c3, ?_, ?_⟩
    · rintro q i (⟨⟨h3, _⟩ | ⟨_, h3, h4⟩, h5⟩ | ⟨h3, _⟩)
      · exact hN q i h3
      · exact h5 ⟨rfl, h3, h4⟩
      · omega
    · intro q i
      show rep (rep B 0 (topP x) x.o 9) 9 (topP x) x.o 2 2 q i ↔ (q, i) ∈ ls ++ [(topP x, x.o)]
      rw [mem_app, ← hL q i]
      constructor
      · rintro (⟨⟨h3, _⟩ | ⟨h3, _⟩, _⟩ | ⟨_, h3⟩)
        · exact .inl h3
        · omega
        · exact .inr h3
      · rintro (h3 | h3)
        · exact .inl ⟨.inl ⟨h3, fun e => by omega⟩, fun e => by omega⟩
        · exact .inr ⟨rfl, h3⟩
  exact ⟨rfl, _, h1, h2, hsf, runM_n _ _ _ _, BK.of h h1 s00 hsf (((s.leaveK (Nat.le_refl _) hm).to (t'' := pullT x t) rfl).mono fun g hg => hg.1 x.o (Nat.le_refl _))⟩
end Go.Proofs.YtgjapopddblpoaaGreatDoor.K
