import Derived.Test.YthglogiglimebaaGreatQh
/- BuddyPlays: a region has come, or gone. -/
namespace Go.Proofs.YthglogiglimebaaGreat
open Go.RowKit
set_option linter.unusedVariables false

theorem Sf.grow {w x t fr ls} (s : Sf x t fr ls) (h : BdAt w x t) (x' : Bx) (ho : x'.o = x.o) (hb : x'.base = x.base) (hn : x'.n = x.n + x.R) (h63 : x.base + x'.n ≤ 9223372036854775808) (hg : t.m.n + 2 ^ x.o ≤ 1024) :
    Sf x' ⟨M.more t.f x.n, growM t.m, t.hd⟩ fr (ls ++ [(t.m.n, x.o)]) := by
  obtain ⟨hz, hp⟩ := bd_words h
  have hR := h.hR
  obtain ⟨B, s, hN, hL⟩ := s
  have hnb := s.nb
  refine ⟨plus B 2 t.m.n x.o, s.grow x' ho hb (by rw [hn, hR, Nat.add_mul, Nat.mul_comm (2 ^ x.o)]; exact Nat.add_le_add_right hnb _) h63 hg _ (fun i hi => ?_) hz hp, ?_, ?_⟩
  · unfold M.more
    rw [if_pos (by omega)]
  · rintro q i (h | ⟨e, _⟩)
    · exact hN q i h
    · omega
  · intro q i
    rw [mem_app]
    unfold plus
    rw [hL]
    constructor
    · rintro (h | ⟨_, h⟩)
      · exact .inl h
      · exact .inr h
    · rintro (h | h)
      · exact .inl h
      · exact .inr ⟨rfl, h⟩
theorem Sf.dropT {w x t fr ls} (s0 : Sf x t fr ls) (h : BdAt w x t) (c : Nat) (hc : t.m.n = c + 2 ^ x.o) (hl : (c, x.o) ∈ ls) (x' : Bx) (ho : x'.o = x.o) (hb : x'.base = x.base) (hn : c * 4096 ≤ x'.n) (hn2 : x'.n ≤ x.n) :
    Sf x' ⟨t.f, resizeM t.m c, t.hd⟩ fr (dropR ls c) := by
  obtain ⟨hz, hp⟩ := bd_words h
  obtain ⟨B, s, hN, hL⟩ := s0
  have hb2 := s.b2
  refine ⟨minus B 2 c x.o, s.drop c hc ((hL c x.o).2 hl) x' ho hb hn (by omega) _ (fun i hi => rfl) hz, fun q i h => hN q i h.1, fun q i => ?_⟩
  rw [← Sf.drop_iff ⟨B, s, hN, hL⟩ hl]
  unfold minus
  rw [hL]
  constructor
  · exact fun h => ⟨h.1, fun e => h.2 ⟨rfl, e⟩⟩
  · exact fun h => ⟨h.1, fun e => h.2 e.2⟩
/-- What is written into a live block touches no list. -/
theorem Sf.fill {x t fr ls} (s : Sf x t fr ls) {p k : Nat} (hl : (p, k) ∈ ls) {f' : Nat → Nat} (h : ∀ i, ¬ (4096 * p ≤ i ∧ i < 4096 * (p + 2 ^ k)) → f' i = t.f i) : Sf x { t with f := f' } fr ls := by
  obtain ⟨B, s, hN, hL⟩ := s
  refine ⟨B, s.bytes fun q j hb i hi => h _ fun e => ?_, hN, hL⟩
  have hz : 0 < 2 ^ j := Nat.pow_pos (by decide)
  rcases s.ds _ _ _ _ _ _ hb ((hL p k).2 hl) with ⟨e1, _⟩ | e1 | e1 <;> omega
theorem PW.come {E w W W' lw c x t fr ls fa fc va n vc e} (h : PW E w W lw c x t fr ls fa fc va n vc) (hl : x.n + x.R ≤ x.lim * x.R) (q : ComeX ls w W lw x t t.m.n (.slice fa (x.o + 1) fc) n e W') :
    e = .returned (.bool true) ∧ StP E w W lw (c + 1) e W' := by
  obtain ⟨x', ga, gc, he, h1, h2, h3, hnb, e0, e1, e2, e3, e4, e5, e6, e7, e8⟩ := q
  obtain ⟨n1, n2, n3, n4, ⟨r, n5, n6, n7⟩, n8, n9⟩ := h.nums
  have hc := h.law.bd.sp.cfg
  have hR := h.law.bd.hR
  have hst := h.st
  have hbe := hc.be
  have hz : 0 < 2 ^ x.o := Nat.pow_pos (by decide)
  have hR2 : x.R = 2 ^ x.o * 4096 := by rw [hR, Nat.mul_comm]
  have hlr := hc.lr
  have hg : t.m.n + 2 ^ x.o ≤ 1024 := by
    have : (t.m.n + 2 ^ x.o) * 4096 ≤ 1024 * 4096 := by
      rw [Nat.add_mul, hst, ← hR2]
      omega
    exact Nat.le_of_mul_le_mul_right this (by decide)
  have hn : (growM t.m).n = t.m.n + 2 ^ x.o := growM_n h.law.bd.mo hg
  have hst' : (growM t.m).n * 4096 = x'.n := by rw [hn, Nat.add_mul, hst, ← hR2, e5]
  have hnl := h.nl
  refine ⟨he, x', ⟨M.more t.f x.n, growM t.m, t.hd⟩, fr, ls ++ [(t.m.n, x.o)], fa, fc, ga, n + 1, gc, he, ⟨?_, by rw [hnl, List.length_append]; rfl, ?_, h2, h.sf.grow h.law.bd x' e6 e2 e5 (by rw [e5]; omega) hg, hst', by have := h.nc; omega, by rw [e2]; exact h.bm, fun y hy => ⟨Nat.lt_of_lt_of_le (h.ex y hy).1 h3.size, ?_⟩⟩, h.exk h3⟩
  · show LW w W' lw x' _ (growM t.m).n _ _
    rw [hn, e6]
    exact h1
  · rw [e6]
    exact h.law.fl h.fl h3
  · rintro (hy2 | rfl)
    · rcases hnb y hy2 with hy3 | hy3
      · exact (h.ex y hy).2 (.inl hy3)
      · have := (h.ex y hy).1
        omega
    · exact (h.ex y hy).2 (.inr rfl)
theorem PW.goes {E w W W' lw c x t fr ls fa fc va n vc e} (h : PW E w W lw c x t fr ls fa fc va n vc) (hl : (t.m.n - 2 ^ x.o, x.o) ∈ ls) (hn : 2 ^ x.o ≤ t.m.n) (q : GoesX ls w W lw x t t.m.n (.slice fa (x.o + 1) fc) n e W') :
    e = .returned (.bool true) ∧ StP E w W lw (c + 1) e W' := by
  obtain ⟨x', ga, m, gc, hm, he, h1, h2, h3, hnb, e0, e1, e2, e3, e4, e5, e6, e7, e8⟩ := q
  have hst := h.st
  have hR := h.law.bd.hR
  have hR2 : x.R = 2 ^ x.o * 4096 := by rw [hR, Nat.mul_comm]
  have hst' : (t.m.n - 2 ^ x.o) * 4096 = x'.n := by rw [e5, Nat.mul_sub_right_distrib, hst, ← hR2]
  have hnl := h.nl
  have hnc := h.nc
  have hml := dropR_len ls (t.m.n - 2 ^ x.o)
  refine ⟨he, x', ⟨t.f, resizeM t.m (t.m.n - 2 ^ x.o), t.hd⟩, fr, dropR ls (t.m.n - 2 ^ x.o), fa, fc, ga, m, gc, he, ⟨?_, hm, ?_, h2, h.sf.dropT h.law.bd (t.m.n - 2 ^ x.o) (by omega) hl x' e6 e2 (Nat.le_of_eq hst') (by rw [e5]; exact Nat.sub_le _ _), hst', by omega, by rw [e2]; exact h.bm, fun y hy => ⟨Nat.lt_of_lt_of_le (h.ex y hy).1 h3.size, ?_⟩⟩, h.exk h3⟩
  · rw [e6]
    exact h1
  · rw [e6]
    exact h.law.fl h.fl h3
  · rintro (hy2 | rfl)
    · rcases hnb y hy2 with hy3 | hy3
      · exact (h.ex y hy).2 (.inl hy3)
      · have := (h.ex y hy).1
        omega
    · exact (h.ex y hy).2 (.inr rfl)
theorem PW.limb {E w W lw c x t fr ls fa fc va n vc} (h : PW E w W lw c x t fr ls fa fc va n vc) {r : Nat} (h7 : x.n = r * x.R) (h5 : t.m.n = r * 2 ^ x.o) (hr : r + 1 ≤ x.lim) : t.m.n + 2 ^ x.o ≤ 1024 ∧ x.n + x.R ≤ x.lim * x.R := by
  obtain ⟨n1, n2, n3, n4, _, n8, n9⟩ := h.nums
  have h1 : (r + 1) * 2 ^ x.o ≤ x.lim * 2 ^ x.o := Nat.mul_le_mul_right _ hr
  have h2 : (r + 1) * x.R ≤ x.lim * x.R := Nat.mul_le_mul_right _ hr
  rw [Nat.add_mul, Nat.one_mul] at h1 h2
  omega
theorem StP.kl {E w W V lw c e w'} (h : StP E w V lw c e w') (k : Kept none' W V) (hx : ∀ y, E y → y < W.heap.size) : StP E w W lw c e w' := by
  obtain ⟨x, t, fr, ls, fa, fc, va, n, vc, h1, h2, h3⟩ := h
  exact ⟨x, t, fr, ls, fa, fc, va, n, vc, h1, h2, fun y hy => (h3 y hy).trans (k.block y (hx y hy) (fun e => e))⟩
theorem StP.kr {E w W V lw c e w'} (h : StP E w W lw c e V) (k : Kept none' V w') : StP E w W lw c e w' := by
  obtain ⟨x, t, fr, ls, fa, fc, va, n, vc, h1, h2, h3⟩ := h
  exact ⟨x, t, fr, ls, fa, fc, va, n, vc, h1, h2.keep k, fun y hy => (k.block y (h2.ex y hy).1 (fun e => e)).trans (h3 y hy)⟩
end Go.Proofs.YthglogiglimebaaGreat
