import Derived.Test.YthomkkboeldgnaaGreatReE
/- RegionExact: what the live blocks hold. -/
namespace Go.Proofs.YthomkkboeldgnaaGreat
open Go.RowKit
set_option linter.unusedVariables false

/-- A live block is written into: which bytes there are then. -/
theorem writeK {w W lw x t fr ls} (h : PO w W lw x t fr ls) (p k : Nat) (hm : (p, k) ∈ ls) (ao : Option Addr) (m cap : Nat) (g : Nat → Nat) (hv : M.Bytes W (.slice ao m cap) m g) (hle : m ≤ 4096 * 2 ^ k) (a : Nat) (hap : a = ad x p) :
    Calls Tryz.prog 13 #[.pointer (some ⟨x.s, 0, none⟩), .int .u64 (a : Int), .slice ao m cap] W fun e w' => e = .returned (.int .i64 0) ∧ (∃ t', PO w w' lw x t' fr ls ∧ t'.m.n = t.m.n ∧ t'.f = M.upd t.f (4096 * p) m g) ∧ Kept (bown x) W w' := by
  rcases Nat.eq_zero_or_pos m with rfl | hm0
  · refine (M.Write_zero x.s (a : Int) ao cap W).mono ?_
    rintro e w' ⟨rfl, hk⟩
    refine ⟨rfl, ⟨t, h.keep (toK hk), rfl, ?_⟩, (toK hk).mono (fun _ _ e => e.elim)⟩
    funext i
    unfold M.upd
    rw [if_neg (by omega)]
  · obtain ⟨z1, _, z3⟩ := h.sf.sn.al hm
    have hst := h.st
    have hz0 : 0 < 2 ^ k := Nat.pow_pos (by decide)
    have hin : 4096 * p + m ≤ x.n := by omega
    obtain ⟨g', hg⟩ := space_some6 h.pl.bd.sp (by omega)
    have hs := h.pl.bd.sp
    rw [hg] at hs
    refine (M.Write_in x.s g' x.base x.R x.lim x.n t.f a m _ g W hs hm0 (by rw [hap]; unfold M.In ad; omega) hv).mono ?_
    rintro e w' ⟨rfl, h1, h2⟩
    rw [show a - x.base = 4096 * p by rw [hap]; unfold ad; omega] at h1
    rw [← hg] at h1 h2
    have kb : Kept (bown x) W w' := (toK h2).mono (fun _ _ e => .inl e)
    refine ⟨rfl, ⟨{ t with f := M.upd t.f (4096 * p) m g }, ⟨h.pl.space0 (toK h2) h1, h.sf.fill hm (fun i hi => ?_), h.st, h.bm⟩, rfl, rfl⟩, kb⟩
    unfold M.upd
    rw [if_neg (by omega)]
/-- The first bytes of a live block are read. -/
theorem readK {w W lw x t fr ls} (h : PO w W lw x t fr ls) (p k : Nat) (hm : (p, k) ∈ ls) (nb : Nat) (hle : nb ≤ 4096 * 2 ^ k) (a : Nat) (hap : a = ad x p) :
    Calls Tryz.prog 14 #[.pointer (some ⟨x.s, 0, none⟩), .int .u64 (a : Int), .int .u64 (nb : Int)] W fun e w' => ∃ g, e = .returned (.tuple #[.slice (some ⟨g, 0, none⟩) nb nb, .int .i64 0]) ∧ M.Bytes w' (.slice (some ⟨g, 0, none⟩) nb nb) nb (fun i => t.f (4096 * p + i)) ∧ Kept none' W w' := by
  rcases Nat.eq_zero_or_pos nb with rfl | h0
  · refine (M.Read_zero x.s (a : Int) W).mono ?_
    rintro e w' ⟨rfl, hk, _⟩
    exact ⟨_, rfl, ⟨fun i hi => by omega, _, _, rfl, .inl rfl⟩, toK hk⟩
  · obtain ⟨z1, _, z3⟩ := h.sf.sn.al hm
    have hst := h.st
    obtain ⟨g, hg⟩ := space_some6 h.pl.bd.sp (by omega)
    have hs := h.pl.bd.sp
    rw [hg] at hs
    refine (M.Read_in x.s g x.base x.R x.lim x.n t.f a nb W hs h0 (by rw [hap]; unfold M.In ad; omega)).mono ?_
    rintro e w' ⟨rfl, hB, hk⟩
    have hB2 := hB.bytes nb
    rw [show a - x.base = 4096 * p by rw [hap]; unfold ad; omega] at hB2
    exact ⟨_, rfl, hB2, toK hk⟩
/-- What a live block holds: the bytes that were written into it last. -/
def D1 (w : World) (f : Nat → Nat) (r : Nat × Nat) (d : Value) : Prop := ∃ ao dm dc g, d = .slice ao dm dc ∧ dm ≤ dc ∧ M.Bytes w (.slice ao dm dc) dm g ∧ dm ≤ 4096 * 2 ^ r.2 ∧ ∀ j, j < dm → f (4096 * r.1 + j) = g j
theorem D1.nil (w : World) (f : Nat → Nat) (r : Nat × Nat) : D1 w f r (.slice none 0 0) :=
  ⟨none, 0, 0, fun _ => 0, rfl, Nat.le_refl _, ⟨fun i hi => by omega, _, _, rfl, .inl rfl⟩, Nat.zero_le _, fun j hj => by omega⟩
theorem D1.congr {w f f' r d} (h : D1 w f r d) (e : ∀ i, 4096 * r.1 ≤ i → i < 4096 * r.1 + 4096 * 2 ^ r.2 → f' i = f i) : D1 w f' r d := by
  obtain ⟨ao, dm, dc, g, h1, h2, h3, h4, h5⟩ := h
  exact ⟨ao, dm, dc, g, h1, h2, h3, h4, fun j hj => by rw [e _ (by omega) (by omega)]; exact h5 j hj⟩
/-- What all live blocks hold. -/
def Dat (w : World) (f : Nat → Nat) (ls : List (Nat × Nat)) (dl : List Value) : Prop := dl.length = ls.length ∧ ∀ (i : Nat) (h : i < ls.length) (h' : i < dl.length), D1 w f ls[i] dl[i]
theorem Dat.nil (w : World) (f : Nat → Nat) : Dat w f [] [] := ⟨rfl, fun i h => absurd h (Nat.not_lt_zero _)⟩
theorem Dat.add {w f ls dl} (h : Dat w f ls dl) (r : Nat × Nat) : Dat w f (ls ++ [r]) (dl ++ [.slice none 0 0]) := by
  refine ⟨by simp [h.1], fun i h1 h2 => ?_⟩
  by_cases e : i < ls.length
  · rw [List.getElem_append_left e, List.getElem_append_left (by rw [h.1]; exact e)]
    exact h.2 i e _
  · have hi : i = ls.length := by simp at h1; omega
    subst hi
    rw [List.getElem_append_right (Nat.le_refl _), List.getElem_append_right (by rw [h.1]; exact Nat.le_refl _)]
    simp only [Nat.sub_self, h.1, List.getElem_singleton]
    exact D1.nil _ _ _
theorem Lv.of {ls : List (Nat × Nat)} {r : Nat × Nat} (hm : r ∈ ls) {i : Nat} (h3 : 4096 * r.1 ≤ i) (h4 : i < 4096 * r.1 + 4096 * 2 ^ r.2) : Lv ls (i / 4096) := ⟨r.1, r.2, hm, by omega, by omega⟩
theorem Dat.kept {w t t' ls ls' dl} (h : Dat w t.f ls dl) (k : BK t t' ls ls') (hs : ∀ r, r ∈ ls → r ∈ ls') : Dat w t'.f ls dl := by
  refine ⟨h.1, fun i h1 h2 => (h.2 i h1 h2).congr fun j h3 h4 => ?_⟩
  have hm : ls[i] ∈ ls := List.getElem_mem _
  exact k j (.of hm h3 h4) (.of (hs _ hm) h3 h4)
/-- A block is given back: of the others the same is true. -/
theorem Dat.drop {w t t' ls ls' dl} (h : Dat w t.f ls dl) (i : Nat) (hi : i < ls.length) (k : BK t t' ls ls') (hs : ls' = ls.eraseIdx i) : Dat w t'.f ls' (dl.eraseIdx i) := by
  subst hs
  refine ⟨by rw [List.length_eraseIdx_of_lt hi, List.length_eraseIdx_of_lt (by rw [h.1]; exact hi), h.1], fun j h1 h2 => ?_⟩
  have hm : (ls.eraseIdx i)[j] ∈ ls.eraseIdx i := List.getElem_mem _
  have hm2 := List.mem_of_mem_eraseIdx hm
  have key : D1 w t.f (ls.eraseIdx i)[j] (dl.eraseIdx i)[j] := by
    rw [List.getElem_eraseIdx, List.getElem_eraseIdx]
    split
    · exact h.2 _ _ _
    · exact h.2 _ _ _
  exact key.congr fun a h3 h4 => k a (.of hm2 h3 h4) (.of hm h3 h4)
end Go.Proofs.YthomkkboeldgnaaGreat
