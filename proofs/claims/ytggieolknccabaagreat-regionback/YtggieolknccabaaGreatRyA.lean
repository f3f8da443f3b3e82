/- RegionBack: a pool of what a pool tells; region.Open of it. -/
import Derived.Test.YtggieolknccabaaGreatRgE
import Derived.Test.YtggieolknccabaaGreatPgx
namespace Go.Proofs.YtggieolknccabaaGreat
open Go.RowKit
set_option linter.unusedVariables false

theorem Sf.opened {x t fr ls} (s0 : Sf x t fr ls) (x' : Bx) (t' : Bt) (ho : x'.o = x.o) (hb : x'.base = x.base) (hn : x'.n = x.n) (mo : t'.m.o = t.m.o) (mn : t'.m.n = t.m.n) (mp : ∀ i, i < t.m.n → t'.m.pg i = t.m.pg i) (wl : ∀ k, k < x.o → (t'.m.wd k).length = (t.m.wd k).length) (wb : ∀ k, k < x.o → ∀ i, i < t.m.n / 2 ^ (k + 1) → bit (t'.m.wd k) i = bit (t.m.wd k) i) (hf : ∀ i, i < x.n → t'.f i = t.f i) (hh : ∀ k, k ≤ x.o → t'.hd k = t.hd k) : Sf x' t' fr ls := by
  obtain ⟨B, s, hN, hL⟩ := s0
  have s1 := s.bytes (f' := t'.f) (fun q j hb i hi => hf _ (by
    obtain ⟨_, _, h3⟩ := s.al _ _ _ hb
    have h4 := s.nb
    have hz : 0 < 2 ^ j := Nat.pow_pos (by decide)
    omega))
  have had : ad x' = ad x := by funext q; unfold ad; rw [hb]
  refine ⟨B, ⟨by rw [mo, ho]; exact s.mo, by rw [ho]; exact s.o8, by rw [mn, ho]; exact s.dv, by rw [mn, hn]; exact s.nb, by rw [mn]; exact s.n1, by rw [hb]; exact s.b1, by rw [hb, hn]; exact s.b2, s.tg, fun p k => by rw [ho]; exact s.fi p k, fun g p k h => by rw [ho, mn]; exact s.al g p k h, s.ds, fun i hi => s.cv i (by rw [← mn]; exact hi), fun g p k h h9 i h1 h2 => ?_, fun k hk => ?_, fun k hk => ?_, fun k hk i hi => ?_, fun k hk => s.nm k (by rw [← ho]; exact hk)⟩, hN, hL⟩
  · obtain ⟨_, _, h3⟩ := s.al g p k h
    rw [mp i (by omega)]
    exact s.pg g p k h h9 i h1 h2
  · rw [ho] at hk
    have := s1.ch k hk
    rw [hb, hn, hh k hk, had]
    exact this
  · rw [ho] at hk
    rw [wl k hk, mn]
    exact s.wl k hk
  · rw [ho] at hk
    rw [mn] at hi
    rw [wb k hk i hi]
    exact s.bt k hk i hi
/-- Pages of a pool without fault are in range. -/
theorem Sf.in_range {x t fr ls} (s0 : Sf x t fr ls) (i : Nat) (hi : i < t.m.n) : clampP t.m (t.m.pg i) = t.m.pg i ∧ PgOk (t.m.pg i) := by
  obtain ⟨B, s, hN, hL⟩ := s0
  obtain ⟨g, p, k, hb, h1, h2⟩ := s.cv i hi
  have h9 : g ≠ 9 := fun e => hN p k (e ▸ hb)
  obtain ⟨a1, _, _⟩ := s.al _ _ _ hb
  have e := s.pg g p k hb h9 i h1 h2
  have ho8 := s.o8
  have hmo := s.mo
  have hg : g = 0 ∨ g = 2 := by
    rcases s.tg _ _ _ hb with e | e | e
    · exact .inl e
    · exact .inr e
    · exact absurd e h9
  rw [e]
  generalize hv : (if i = p then (g : Int) else (g : Int) + 1) = v
  have hv4 : 0 ≤ v ∧ v ≤ 4 := by
    rw [← hv]
    rcases hg with rfl | rfl <;> split <;> decide
  refine ⟨?_, ?_⟩
  · unfold clampP clampI blankP
    simp
    omega
  · constructor <;> simp [blankP] <;> omega
end Go.Proofs.YtggieolknccabaaGreat
