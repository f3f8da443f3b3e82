/- RegionExact: the book laid anew without one span, span by span. -/
import Derived.Test.YthomkkboeldgnaaGreatReJ
namespace Go.Proofs.YthomkkboeldgnaaGreat
open Go.RowKit
set_option linter.unusedVariables false

theorem bytes_takeE {w : World} {ao : Option Addr} {m cap : Nat} {g : Nat → Nat} (h : M.Bytes w (.slice ao m cap) m g) (k cap' : Nat) (hk : k ≤ m) : M.Bytes w (.slice ao k cap') k g := by
  obtain ⟨h1, ao', cap2, e, h2⟩ := h
  injection e with e1 e2 e3
  subst e1
  refine ⟨fun i hi => h1 i (by omega), ao, cap', rfl, ?_⟩
  rcases h2 with h2 | ⟨a, e, hb, hc⟩
  · exact Or.inl (by omega)
  · exact Or.inr ⟨a, e, hb, fun j hj => hc j (by omega)⟩
theorem getD_ix {ls : List (Nat × Nat)} {i : Nat} (h : i < ls.length) : ls.getD i (0, 0) = ls[i] := by
  rw [List.getD_eq_getElem?_getD, List.getElem?_eq_getElem h]
  rfl
theorem getD_iv {dl : List Value} {i : Nat} (h : i < dl.length) (v : Value) : dl.getD i v = dl[i] := by
  rw [List.getD_eq_getElem?_getD, List.getElem?_eq_getElem h]
  rfl
/-- A span's four cells, and that they can be written. -/
theorem SB.get {w W b va q vc ls dl} (h : SB w W b (.slice va q vc) ls dl) (hq : q = ls.length) {i : Nat} (hi : i < ls.length) : ∃ g, va = some ⟨g, 0, none⟩ ∧ g < W.heap.size ∧ W.cell? ⟨g, i * 4, none⟩ = some (.int .u64 ((b + 4096 * ls[i].1 : Nat) : Int)) ∧ W.cell? ⟨g, i * 4 + 1, none⟩ = some (.int .u64 ((4096 * 2 ^ ls[i].2 : Nat) : Int)) ∧ W.cell? ⟨g, i * 4 + 2, none⟩ = some (.int .i64 (ls[i].2 : Int)) ∧ W.cell? ⟨g, i * 4 + 3, none⟩ = some (dl[i]'(by rw [h.ln]; exact hi)) ∧ ∀ j, W.frozen? ⟨g, j, none⟩ = false := by
  subst hq
  obtain ⟨g, hg, c0, c1, c2, c3⟩ := h.spr.get hi
  rw [getD_ix hi] at c0 c1 c2
  rw [getD_iv (by rw [h.ln]; exact hi)] at c3
  refine ⟨g, hg, lt_of_cell c0, c0, c1, c2, c3, fun j => ?_⟩
  rcases h.gs.own.2 with ⟨h0, _⟩ | ⟨g', cap, cur, h0, hb, hc, _⟩
  · rw [hg] at h0
    cases h0
  · rw [hg] at h0
    injection h0 with e1 e2 e3
    injection e1 with e1
    injection e1 with e1
    subst e1
    simp [World.frozen?, hc]
/-- The book without one, as far as the loop has come. -/
structure RS (w W0 W : World) (lw : Nat) (x : Bx) (t : Bt) (fr : Nat → List Nat) (l1 : List (Nat × Nat)) (v : Value) (ls : List (Nat × Nat)) (dl : List Value) (u : Value) (k j : Nat) : Prop where
  po : PO w W lw x t fr l1
  sb : SB w W 1048576 v ls dl
  rs : SB w W 1048576 u (butN ls k j) (butN dl k j)
  un : ∀ y, u.ownBlock = some y → W0.heap.size ≤ y
  vl : ∀ y, v.ownBlock = some y → y < W0.heap.size
  sz : W0.heap.size ≤ W.heap.size
theorem RS.start {w W lw x t fr l1 v ls dl} (k : Nat) (hp : PO w W lw x t fr l1) (hs : SB w W 1048576 v ls dl) : RS w W W lw x t fr l1 v ls dl (.slice none 0 0) k 0 := by
  refine ⟨hp, hs, ?_, fun y e => (by cases e), fun y e => ?_, Nat.le_refl _⟩
  · rw [butN_zero, butN_zero]
    exact SB.nil _ _ _ hp.pl.kp
  · obtain ⟨cs, hc⟩ := own_ty hs.gs.own e
    exact heap_lt hc
theorem RS.skip {w W0 W lw x t fr l1 v ls dl u k} (h : RS w W0 W lw x t fr l1 v ls dl u k k) (hk : k < ls.length) : RS w W0 W lw x t fr l1 v ls dl u k (k + 1) := by
  refine ⟨h.po, h.sb, ?_, h.un, h.vl, h.sz⟩
  rw [butN_same ls k hk, butN_same dl k (by rw [h.sb.ln]; exact hk)]
  exact h.rs
theorem RS.add {w W0 W lw x t fr l1 v ls dl u k j} (h : RS w W0 W lw x t fr l1 v ls dl u k j) (hj : j < ls.length) (hne : j ≠ k) (hd : (dl[j]'(by rw [h.sb.ln]; exact hj)).oneCell' = true) (hn : ls.length ≤ 2000) (m : Nat) (hm : m = (butN ls k j).length) :
    ∃ g cap w', (∀ t, (Builtin.append_ #[32, 32] t #[u, .slice (some ⟨W.heap.size, 0, none⟩) 1 1]).run Tryz.prog (W.alloc (.cells (sp1 1048576 ls[j] (dl[j]'(by rw [h.sb.ln]; exact hj))).toArray 50)) = .ok (.slice (some ⟨g, 0, none⟩) (m + 1) cap) w') ∧ RS w W0 w' lw x t fr l1 v ls dl (.slice (some ⟨g, 0, none⟩) (m + 1) cap) k (j + 1) ∧ m + 1 = (butN ls k (j + 1)).length := by
  have hj' : j < dl.length := by rw [h.sb.ln]; exact hj
  have hle : (butN ls k j).length ≤ 2000 := by
    unfold butN
    have := List.length_eraseIdx_le (l := ls.take j) (i := k)
    rw [List.length_take] at this
    omega
  obtain ⟨g, cap, w', h1, h2, h3, h4⟩ := h.rs.add ls[j] dl[j] hd hle
  rw [← hm] at h1 h2
  have hnx := butN_next ls k j hj hne
  have hnd := butN_next dl k j hj' hne
  refine ⟨g, cap, w', h1, ⟨h.po.book h.rs h3, ?_, ?_, ?_, h.vl, Nat.le_trans h.sz h3.size⟩, ?_⟩
  · refine h.sb.move h3 ?_ (fun y e e2 => ?_)
    · exact h.po.pl.kp.trans h3 (fun _ _ e => e) (fun y hy e => absurd (h.rs.nw y e) (by omega))
    · have := h.vl y e
      have := h.un y e2
      omega
  · rw [hnx, hnd]
    exact h2
  · intro y e
    have e : some g = some y := e
    cases e
    rcases h4 with e | e
    · exact h.un _ e
    · exact Nat.le_trans h.sz e
  · rw [hnx, List.length_append, List.length_singleton, ← hm]
end Go.Proofs.YthomkkboeldgnaaGreat
