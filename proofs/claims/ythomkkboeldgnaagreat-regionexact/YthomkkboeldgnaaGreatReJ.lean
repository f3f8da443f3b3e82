import Derived.Test.YthomkkboeldgnaaGreatReI
/- RegionExact: one more span, a span's data, a block read, written, given back and not given back again. -/
namespace Go.Proofs.YthomkkboeldgnaaGreat
open Go.RowKit
set_option linter.unusedVariables false

theorem bytes_congr {w v m g g'} (h : M.Bytes w v m g) (hg : ∀ i, i < m → g i = g' i) : M.Bytes w v m g' := by
  obtain ⟨h1, oa, oc, h2, h3⟩ := h
  refine ⟨fun i hi => by rw [← hg i hi]; exact h1 i hi, oa, oc, h2, ?_⟩
  rcases h3 with h3 | ⟨a, e, hb, hc⟩
  · exact .inl h3
  · exact .inr ⟨a, e, hb, fun j hj => by rw [← hg j hj]; exact hc j hj⟩
/-- One more span. -/
theorem EX.add {w W lw l o rg v x t fr ls dl} (r : Nat × Nat) (h : EX w W lw l o rg v x t fr (ls ++ [r]) ls dl) (hn : ls.length ≤ 2000) :
    ∃ g cap w', (∀ ty, (Builtin.append_ #[32, 32] ty #[v, .slice (some ⟨W.heap.size, 0, none⟩) 1 1]).run Tryz.prog (W.alloc (.cells (sp1 1048576 r (.slice none 0 0)).toArray 50)) = .ok (.slice (some ⟨g, 0, none⟩) (ls.length + 1) cap) w') ∧ EX w w' lw l o rg (.slice (some ⟨g, 0, none⟩) (ls.length + 1) cap) x t fr (ls ++ [r]) (ls ++ [r]) (dl ++ [.slice none 0 0]) := by
  obtain ⟨g, cap, w', h1, h2, h3, _⟩ := h.sb.add r (.slice none 0 0) rfl hn
  exact ⟨g, cap, w', h1, h.po.book h.sb h3, h2, h.da.add r, h.nd, h.nn, h.eb, h.el, h.eo⟩
/-- A live block is written into. -/
theorem write_ex {w W lw l o rg v x t fr ls dl} (h : EX w W lw l o rg v x t fr ls ls dl) (i : Nat) (hi : i < ls.length) (ao : Option Addr) (m c : Nat) (g : Nat → Nat) (hc : m ≤ c) (hv : M.Bytes w (.slice ao m c) m g) (hle : m ≤ 4096 * 2 ^ ls[i].2) (a : Nat) (ha : a = 1048576 + 4096 * ls[i].1) :
    Calls Tryz.prog 13 #[.pointer (some ⟨x.s, 0, none⟩), .int .u64 (a : Int), .slice ao m c] W fun e w' => e = .returned (.int .i64 0) ∧ (∃ t', PO w w' lw x t' fr ls ∧ t'.m.n = t.m.n ∧ Dat w t'.f ls (dl.set i (.slice ao m c))) ∧ SB w w' 1048576 v ls dl ∧ Kept (bown x) W w' := by
  refine (writeK h.po ls[i].1 ls[i].2 (List.getElem_mem hi) ao m c g (hv.keep (ofK h.po.pl.kp)) hle a (by rw [ha]; unfold ad; rw [h.eb])).mono fun e w' ⟨he, ⟨t', hpo, hn', hf⟩, kp⟩ => ?_
  exact ⟨he, ⟨t', hpo, hn', h.da.write (W := W) h.po.sf h.nd i hi ao m c g hc hv hle hf⟩, h.sb.pool h.po kp (h.po.k0 kp), kp⟩
/-- And the book told of it. -/
theorem EX.told {w W lw l o rg x t t' fr ls dl} {va : Option Addr} {vc : Nat} {v0 : Value} {W0 : World} (h : EX w W0 lw l o rg v0 x t fr ls ls dl) (hpo : PO w W lw x t' fr ls) (hn : t'.m.n = t.m.n) (i : Nat) (hi : i < ls.length) (d : Value) (hd : Dat w t'.f ls (dl.set i d)) (hsb : SB w W 1048576 (.slice va ls.length vc) ls dl) {g : Nat} (hg : va = some ⟨g, 0, none⟩) :
    EX w (W.setCell ⟨g, i * 4 + 3, none⟩ d) lw l o rg (.slice va ls.length vc) x t' fr ls ls (dl.set i d) := by
  have kp : Kept (fun y => (Value.slice va ls.length vc).ownBlock = some y) W (W.setCell ⟨g, i * 4 + 3, none⟩ d) := (Kept.refl _ W).setCell (p := ⟨g, i * 4 + 3, none⟩) (by rw [hg]; rfl) d
  exact ⟨hpo.book hsb kp, hsb.set hg hi d, hd, h.nd, by rw [hn, h.nn], h.eb, h.el, h.eo⟩
/-- What is read of a live block is what the book tells. -/
theorem read_ex {w W lw l o rg v x t fr ls dl} (h : EX w W lw l o rg v x t fr ls ls dl) (i : Nat) (hi : i < ls.length) (hi' : i < dl.length) : ∃ ao dm dc g, dl[i] = .slice ao dm dc ∧ dm ≤ dc ∧ dm ≤ 4096 * 2 ^ ls[i].2 ∧ M.Bytes w (.slice ao dm dc) dm g ∧ ∀ a, a = 1048576 + 4096 * ls[i].1 →
    Calls Tryz.prog 14 #[.pointer (some ⟨x.s, 0, none⟩), .int .u64 (a : Int), .int .u64 (dm : Int)] W fun e w' => ∃ b, e = .returned (.tuple #[.slice (some ⟨b, 0, none⟩) dm dm, .int .i64 0]) ∧ M.Bytes w' (.slice (some ⟨b, 0, none⟩) dm dm) dm g ∧ Kept none' W w' := by
  obtain ⟨ao, dm, dc, g, e1, e2, e3, e4, e5⟩ := h.da.2 i hi hi'
  refine ⟨ao, dm, dc, g, e1, e2, e4, e3, fun a ha => ?_⟩
  refine (readK h.po ls[i].1 ls[i].2 (List.getElem_mem hi) dm e4 a (by rw [ha]; unfold ad; rw [h.eb])).mono fun e w' ⟨b, he, hB, kp⟩ => ?_
  exact ⟨b, he, bytes_congr hB (fun j hj => e5 j hj), kp⟩
/-- What is given back is not live any more. -/
theorem again_ex {w W lw x t fr} {ls : List (Nat × Nat)} (i : Nat) (hi : i < ls.length) (hnd : Ndp ls) (hpo : PO w W lw x t fr (ls.eraseIdx i)) (hb : x.base = 1048576) (a : Nat) (ha : a = 1048576 + 4096 * ls[i].1) (ha64 : a < 18446744073709551616) :
    Calls Tryz.prog 16 #[.pointer (some ⟨lw, 0, none⟩), .int .u64 (a : Int), .int .i64 (ls[i].2 : Int)] W fun e w' => e = .returned (.int .i64 1) ∧ Kept none' W w' := by
  refine Give6_no hpo a ha64 _ ?_
  rw [Bool.eq_false_iff]
  intro hl
  obtain ⟨p, k, e1, e2, e3, e4, _⟩ := (hpo.liv a ha64 _).2 hl
  have hpe : p = ls[i].1 := by
    unfold ad at e3
    omega
  rw [← Ndp.drop ls hnd i hi] at e4
  unfold dropR at e4
  have := (List.mem_filter.1 e4).2
  simp [hpe] at this
/-- The book is laid anew, without one. -/
theorem EX.anew {w W lw l o rg x t t' fr fr' ls dl} {v0 v : Value} {W0 : World} (h : EX w W0 lw l o rg v0 x t fr ls ls dl) (i : Nat) (hpo : PO w W lw x t' fr' (ls.eraseIdx i)) (hn : t'.m.n = t.m.n) (hd : Dat w t'.f (ls.eraseIdx i) (dl.eraseIdx i)) (hsb : SB w W 1048576 v (ls.eraseIdx i) (dl.eraseIdx i)) : EX w W lw l o rg v x t' fr' (ls.eraseIdx i) (ls.eraseIdx i) (dl.eraseIdx i) :=
  ⟨hpo, hsb, hd, h.nd.erase i, by rw [hn, h.nn], h.eb, h.el, h.eo⟩
end Go.Proofs.YthomkkboeldgnaaGreat
