/- RegionGone: what was asked for, in its rows. -/
import Derived.Test.YtggieolknccababGonB
namespace Go.Proofs.Ytggieolknccabab
open Go.RowKit
set_option linter.unusedVariables false

def nI (k : Nat) : Value := .int .i64 (k : Int)
def adG (q : Nat) : Nat := 1048576 + 4096 * q
/-- The rows at and k hold the live blocks. -/
structure G1 (w : World) (lw l o m : Nat) (va vk : Value) (E : Nat → Prop) (x : Bx) (t : Bt) (fr : Nat → List Nat) (ls : List (Nat × Nat)) (W : World) : Prop where
  pe : PE E w W lw x t fr ls
  ea : ∀ y, va.ownBlock = some y → E y ∧ w.heap.size ≤ y
  ek : ∀ y, vk.ownBlock = some y → E y ∧ w.heap.size ≤ y
  ra : GS w W 24 1 va m (ls.map fun r => M.e64 (adG r.1))
  rk : GS w W 3 1 vk m (ls.map fun r => nI r.2)
  ml : m = ls.length
  nd : (ls.map Prod.fst).Nodup
  base : x.base = 1048576
  lim : x.lim = l
  o : x.o = o
theorem G1.keep {w lw l o m va vk E x t fr ls W W'} (h : G1 w lw l o m va vk E x t fr ls W) (k : Kept none' W W') : G1 w lw l o m va vk E x t fr ls W' := ⟨h.pe.keep k, h.ea, h.ek, h.ra.keep k, h.rk.keep k, h.ml, h.nd, h.base, h.lim, h.o⟩
theorem G1.len {w lw l o m va vk E x t fr ls W} (h : G1 w lw l o m va vk E x t fr ls W) : m ≤ 1024 := by
  have h1 := M.nodup_len t.m.n _ h.nd (fun q hq => by
    obtain ⟨⟨q, i⟩, hm, rfl⟩ := List.mem_map.1 hq
    obtain ⟨_, _, h3⟩ := h.pe.po.sf.sn.al hm
    have hz : 0 < 2 ^ i := Nat.pow_pos (by decide)
    show q < t.m.n
    omega)
  rw [List.length_map] at h1
  have := h.pe.po.nums.2.1
  have := h.ml
  omega
theorem adx {w lw l o m va vk E x t fr ls W} (h : G1 w lw l o m va vk E x t fr ls W) (p : Nat) : ad x p = adG p := by
  unfold ad adG
  rw [h.base]
/-- One more: both rows have grown. -/
theorem G1.suc {w lw l o m E x t fr ls W x' t' fr' W2} {ga ka : Option Addr} {gc kc : Nat} (h : G1 w lw l o m (.slice ga m gc) (.slice ka m kc) E x t fr ls W) (p i : Nat) (hp : PO w W2 lw x' t' fr' (ls ++ [(p, i)])) (hs : Sm x x') (k : Kept (bown x) W W2) (nb : Nb W x x') (hnp : ∀ r ∈ ls, r.1 ≠ p) :
    ∃ g cap w3 g2 cap2 w4 E', (∀ ty, (Builtin.append_ #[32, 32] ty #[.slice ga m gc, .slice (some ⟨W2.heap.size, 0, none⟩) 1 1]).run Try.prog (W2.alloc (.cells #[.int .u64 ((adG p : Nat) : Int)] 24)) = .ok (.slice (some ⟨g, 0, none⟩) (m + 1) cap) w3) ∧ (∀ ty, (Builtin.append_ #[22, 22] ty #[.slice ka m kc, .slice (some ⟨w3.heap.size, 0, none⟩) 1 1]).run Try.prog (w3.alloc (.cells #[.int .i64 (i : Int)] 3)) = .ok (.slice (some ⟨g2, 0, none⟩) (m + 1) cap2) w4) ∧ Kept none' w w3 ∧ G1 w lw l o (m + 1) (.slice (some ⟨g, 0, none⟩) (m + 1) cap) (.slice (some ⟨g2, 0, none⟩) (m + 1) cap2) E' x' t' fr' (ls ++ [(p, i)]) w4 := by
  have hm := h.len
  obtain ⟨hpe, hE⟩ := h.pe.call hp hs k nb
  have ra2 := h.ra.keptE hp.pl.kp (fun y e => hE y (h.ea y e).1)
  have rk2 := h.rk.keptE hp.pl.kp (fun y e => hE y (h.ek y e).1)
  have row : ∀ {E0 : Nat → Prop} {V V' : World} {v : Value} {g : Nat}, PE E0 w V lw x' t' fr' (ls ++ [(p, i)]) → (∀ y, v.ownBlock = some y → E0 y ∧ w.heap.size ≤ y) → Kept (fun b => v.ownBlock = some b) V V' → (v.ownBlock = some g ∨ V.heap.size ≤ g) → g < V'.heap.size → PE (fun y => E0 y ∨ y = g) w V' lw x' t' fr' (ls ++ [(p, i)]) := fun {E0 V V' v g} h1 h2 h3 h4 h5 => by
    have h6 := h1.set h3 (fun y e => (h2 y e).1) (fun y e => (h2 y e).2)
    refine h6.re (fun y e => ?_)
    rcases e with e | rfl
    · exact h6.ex y e
    · refine ⟨h5, ?_⟩
      rcases h4 with e | e
      · exact (h1.ex y (h2 y e).1).2
      · intro e2
        have := h1.po.pl.lts y e2
        omega
  obtain ⟨g, cap, w3, r1, g1, n1, s1, k1, o1⟩ := push_uK ra2 ((adG p : Nat) : Int) (by omega)
  have pe3 := row hpe h.ea k1 o1 s1
  have tne : ∀ y, (Value.slice ka m kc).ownBlock = some y → (Value.slice ga m gc).ownBlock ≠ some y := fun y e1 e2 => by
    obtain ⟨c1, h1⟩ := own_ty rk2.own e1
    obtain ⟨c2, h2⟩ := own_ty ra2.own e2
    exact absurd (ty_ne' h1 h2) (by decide)
  have rk3 := rk2.keptE g1.kp (fun y e => k1.block y (by obtain ⟨c1, h1⟩ := own_ty rk2.own e; exact heap_lt h1) (tne y e))
  obtain ⟨g2, cap2, w4, r2, g3, n2, s2, k2, o2⟩ := push_nK rk3 (i : Int) (by omega)
  have pe4 := row pe3 (fun y e => ⟨.inl (h.ek y e).1, (h.ek y e).2⟩) k2 o2 s2
  have tne2 : g ≠ g2 ∧ (Value.slice ka m kc).ownBlock ≠ some g := by
    refine ⟨fun e => ?_, fun e => ?_⟩
    · obtain ⟨c1, h1⟩ := own_ty g1.own (y := g) (by simp [Value.ownBlock])
      rcases o2 with e2 | e2
      · obtain ⟨c2, h2⟩ := own_ty rk3.own e2
        rw [← e] at h2
        exact absurd (ty_ne' h1 h2) (by decide)
      · omega
    · obtain ⟨c1, h1⟩ := own_ty g1.own (y := g) (by simp [Value.ownBlock])
      obtain ⟨c2, h2⟩ := own_ty rk3.own e
      exact absurd (ty_ne' h1 h2) (by decide)
  have g4 := g1.keptE g3.kp (fun y e => by
    have e : g = y := by simpa [Value.ownBlock] using e
    subst e
    exact k2.block g s1 tne2.2)
  refine ⟨g, cap, w3, g2, cap2, w4, _, r1, r2, g1.kp, ⟨pe4, fun y e => ?_, fun y e => ?_, ?_, ?_, by rw [List.length_append, h.ml]; rfl, ?_, hs.base.trans h.base, hs.lim.trans h.lim, hs.o.trans h.o⟩⟩
  · have e : g = y := by simpa [Value.ownBlock] using e
    subst e
    exact ⟨.inl (.inr rfl), n1⟩
  · have e : g2 = y := by simpa [Value.ownBlock] using e
    subst e
    exact ⟨.inr rfl, n2⟩
  · rw [List.map_append]
    exact g4
  · rw [List.map_append]
    exact g3
  · rw [List.map_append, List.nodup_append]
    refine ⟨h.nd, by simp, fun a ha b hb e => ?_⟩
    obtain ⟨r, hr, rfl⟩ := List.mem_map.1 ha
    have hb : b = p := by simpa using hb
    exact hnp r hr (e.trans hb)
end Go.Proofs.Ytggieolknccabab
