/- Configs and lists of blocks that came in. -/
import Derived.Test.YtibljocjdlgfbaaOrG
import Derived.ProofKit
import Derived.OpenShut
import Derived.Deep.Slices
import Derived.Deep.Strs
import Derived.SizedLaws
namespace Go.Proofs.Ytibljocjdlgfbaa
open Go.ChangeShapes Go.WideShapes Go.ChangeAt Go.RowKit Go.Deep
set_option linter.unusedVariables false

theorem cells_u64 : Try.prog.cellsOf 22 = 1 := by kernel_rfl
theorem cells_int : Try.prog.cellsOf 3 = 1 := by kernel_rfl
theorem cells_bool : Try.prog.cellsOf 4 = 1 := by kernel_rfl
theorem cells_blk : Try.prog.cellsOf 60 = 2 := by kernel_rfl
theorem cells_sl : Try.prog.cellsOf 48 = 1 := by kernel_rfl
theorem bytes_blk : Try.prog.bytesOf 60 = 16 := by kernel_rfl
theorem cells_cfg : Try.prog.cellsOf 42 = 3 := by kernel_rfl
set_option maxRecDepth 8000 in
theorem cfg_cells {H : Type} {enc : TypeId × Value → H} {W : World} {fuel : Nat} {l : List Value} {d : DataW H × List MemPlace}
    (hf : DataW.trod enc Try.prog W 0 (fun _ => true) true fuel 42 l = some d) :
    ∃ (b : Nat) (lim ord : Int), l = [.int .u64 (b : Int), .int .i64 lim, .int .i64 ord] ∧ b < 18446744073709551616 ∧ -9223372036854775808 ≤ lim ∧ lim ≤ 9223372036854775807 ∧ -9223372036854775808 ≤ ord ∧ ord ≤ 9223372036854775807 := by
  obtain ⟨y0, y1, y2, nn, _, hlen, g0, g1, g2⟩ := trod_struct3 Try.underlying42 hf
  have hl3 : l.length = 3 := hlen.trans (by kernel_rfl)
  match l, hl3 with
  | [c0, c1, c2], _ =>
    rw [cells_u64] at g0
    rw [cells_int] at g1 g2
    obtain ⟨x, e0, _, w0⟩ := DataW.trod_int Try.underlying22 g0
    obtain ⟨y, e1, _, w1⟩ := DataW.trod_int Try.underlying3 g1
    obtain ⟨z, e2, _, w2⟩ := DataW.trod_int Try.underlying3 g2
    simp at e0 e1 e2
    subst e0 e1 e2
    have b0 := bounds_u64 w0
    have b1 := bounds_i64 w1
    have b2 := bounds_i64 w2
    obtain ⟨b, rfl⟩ := Int.eq_ofNat_of_zero_le b0.1
    exact ⟨b, y, z, rfl, by omega, b1.1, b1.2, b2.1, b2.2⟩
set_option maxRecDepth 8000 in
theorem cfg_of {H : Type} {enc : TypeId × Value → H} {W : World} {base : Nat} {v : Value} {d : DataW H} {p : List MemPlace} (hok : Value.okWide Try.prog W .any base 42 v)
    (h : DataW.Trod enc Try.prog W 0 (fun _ => true) true 42 v d p) :
    ∃ (b : Nat) (lim ord : Int), v = .agg #[.int .u64 (b : Int), .int .i64 lim, .int .i64 ord] ∧ b < 18446744073709551616 ∧ -9223372036854775808 ≤ lim ∧ lim ≤ 9223372036854775807 ∧ -9223372036854775808 ≤ ord ∧ ord ≤ 9223372036854775807 := by
  obtain ⟨cs, rfl, _⟩ := okWide_struct Try.underlying42 hok
  obtain ⟨fuel, hf⟩ := h
  obtain ⟨b, lim, ord, e, h1⟩ := cfg_cells hf
  obtain ⟨l⟩ := cs
  simp only [Value.cells] at e
  subst e
  exact ⟨b, lim, ord, rfl, h1⟩
theorem u64_of {a : Int} (h : (Lit.int .u64 a).wf = true) : ∃ n : Nat, a = (n : Int) ∧ n < 2 ^ 64 := by
  have b0 := bounds_u64 h
  obtain ⟨n, rfl⟩ := Int.eq_ofNat_of_zero_le b0.1
  exact ⟨n, rfl, by omega⟩

theorem cell_spot {w : World} {a : Addr} {v : Value} (h : w.cell? a = some v) : ∃ b o, a = ⟨b, o, none⟩ ∧ b < w.heap.size := by
  obtain ⟨b, o, s⟩ := a
  unfold World.cell? at h
  split at h
  · rename_i hh
    have hb := (Array.getElem?_eq_some_iff.1 hh).1
    cases s with
    | none => exact ⟨b, o, rfl, hb⟩
    | some s => simp at h
  · cases h
set_option maxRecDepth 4000 in
theorem bls_cells {H : Type} {enc : TypeId × Value → H} {W : World} {fuel : Nat} {a : Option Addr} {len cap : Nat} {d : DataW H × List MemPlace}
    (hf : DataW.trod enc Try.prog W 0 (fun _ => true) true fuel 48 [.slice a len cap] = some d) : ∃ l : Bls, BL W (.slice a len cap) l ∧ ((∀ n ∈ d.1.weights Try.prog 48, n ≤ reachBytes) → l.length ≤ 8796093022000) := by
  rcases open_slice Try.underlying48 hf with ⟨hcs, _⟩ | ⟨x, l, c, m, n, D, Pl, hcs, _, hl, hm, hmm, hd, hx⟩
  · simp at hcs
    obtain ⟨rfl, rfl, rfl⟩ := hcs
    exact ⟨[], ⟨by simp, (fun b h => by cases h), none, 0, rfl, Or.inl rfl⟩, fun _ => by simp⟩
  · simp at hcs
    obtain ⟨rfl, rfl, rfl⟩ := hcs
    simp only [if_true] at hmm
    subst hmm
    have hml : m ≤ 9223372036854775807 := by unfold maxLen at hm; omega
    rw [cells_blk] at hx
    have key : ∀ k, k < len → ∃ p s : Nat, p < 2 ^ 64 ∧ s < 2 ^ 64 ∧ W.cell? ((x.add (k * 2)).add 0) = some (.int .u64 (p : Int)) ∧ W.cell? ((x.add (k * 2)).add 1) = some (.int .u64 (s : Int)) := by
      intro k hk
      obtain ⟨cs, h1, h2⟩ := hx k (by omega)
      obtain ⟨_, hlen, hcell⟩ := World.cells?_some h1
      obtain ⟨xs, nn, _, _, _, hxl, hfld⟩ := DataW.trod_struct Try.underlying60 h2
      match cs, hlen, xs, hxl with
      | [c0, c1], _, [y0, y1], _ =>
        have g0 := hfld 0 _ rfl
        have g1 := hfld 1 _ rfl
        obtain ⟨x0, e0, _, w0⟩ := DataW.trod_int Try.underlying22 g0
        obtain ⟨x1, e1, _, w1⟩ := DataW.trod_int Try.underlying22 g1
        simp [cells_u64] at e0 e1
        subst e0 e1
        obtain ⟨p, rfl, hp⟩ := u64_of w0
        obtain ⟨s, rfl, hs⟩ := u64_of w1
        exact ⟨p, s, hp, hs, by have := hcell 0 (by simp); simpa using this, by have := hcell 1 (by simp); simpa using this⟩
    obtain ⟨f, hfk⟩ : ∃ f : Nat → Nat × Nat, ∀ k, k < len → (f k).1 < 2 ^ 64 ∧ (f k).2 < 2 ^ 64 ∧ W.cell? ((x.add (k * 2)).add 0) = some (.int .u64 ((f k).1 : Int)) ∧ W.cell? ((x.add (k * 2)).add 1) = some (.int .u64 ((f k).2 : Int)) := by
      refine ⟨fun k => if h : k < len then (Classical.choose (key k h), Classical.choose (Classical.choose_spec (key k h))) else (0, 0), fun k hk => ?_⟩
      simp only [dif_pos hk]
      exact Classical.choose_spec (Classical.choose_spec (key k hk))
    have hll : ((List.range len).map f).length = len := by simp
    refine ⟨(List.range len).map f, ⟨by rw [hll]; omega, fun b hb => ?_, some x, m, by rw [hll], ?_⟩, fun hwt => ?_⟩
    rotate_left 2
    · rw [hll]
      have := hwt ((len + (m - len)) * 16) (by
        rw [hd]
        simp [DataW.weights, Try.underlying48, bytes_blk])
      simp only [reachBytes] at this
      omega
    · obtain ⟨k, hk, rfl⟩ := List.mem_map.1 hb
      have := hfk k (List.mem_range.1 hk)
      exact ⟨this.1, this.2.1⟩
    · rw [hll]
      by_cases h0 : len = 0
      · exact .inl h0
      · right
        have g0 := (hfk 0 (by omega)).2.2.1
        have e0 : (x.add (0 * 2)).add 0 = x := by simp [Addr.add]
        rw [e0] at g0
        obtain ⟨b, o, rfl, hb⟩ := cell_spot g0
        refine ⟨b, o, rfl, hb, fun k bb hk => ?_⟩
        have hkl : k < len := by
          have := (List.getElem?_eq_some_iff.1 hk).1
          simpa using this
        have hbb : f k = bb := by simpa [List.getElem?_map, List.getElem?_range hkl] using hk
        have := hfk k hkl
        rw [hbb, Addr.add_lit, Addr.add_lit, Addr.add_lit] at this
        exact ⟨by simpa using this.2.2.1, this.2.2.2⟩
theorem bls_of {H : Type} {enc : TypeId × Value → H} {W : World} {a : Option Addr} {len cap : Nat} {d : DataW H} {p : List MemPlace}
    (h : DataW.Trod enc Try.prog W 0 (fun _ => true) true 48 (.slice a len cap) d p) : ∃ l : Bls, BL W (.slice a len cap) l ∧ ((∀ n ∈ d.weights Try.prog 48, n ≤ reachBytes) → l.length ≤ 8796093022000) := by
  obtain ⟨fuel, hf⟩ := h
  exact bls_cells (d := (d, p)) (by simpa [Value.cells] using hf)
set_option maxRecDepth 8000 in
theorem ask_of {H : Type} {enc : TypeId × Value → H} {W : World} {base : Nat} {v : Value} {d : DataW H} {p : List MemPlace} (hok : Value.okWide Try.prog W .any base 54 v)
    (h : DataW.Trod enc Try.prog W 0 (fun _ => true) true 54 v d p) :
    ∃ (b : Nat) (lim ord rg : Int) (sa : Option Addr) (sn sc rr : Nat) (dn : Bool) (l : Bls), v = .agg #[.int .u64 (b : Int), .int .i64 lim, .int .i64 ord, .int .i64 rg, .slice sa sn sc, .int .u64 (rr : Int), .bool dn] ∧ b < 18446744073709551616 ∧ -9223372036854775808 ≤ lim ∧ lim ≤ 9223372036854775807 ∧ -9223372036854775808 ≤ ord ∧ ord ≤ 9223372036854775807 ∧ -9223372036854775808 ≤ rg ∧ rg ≤ 9223372036854775807 ∧ rr < 2 ^ 64 ∧ BL W (.slice sa sn sc) l ∧ ((∀ n ∈ d.weights Try.prog 54, n ≤ reachBytes) → l.length ≤ 8796093022000) := by
  obtain ⟨cs, rfl, _⟩ := okWide_struct Try.underlying54 hok
  obtain ⟨fuel, hf⟩ := h
  obtain ⟨xs, nn, hfu, hd, hp, hxl, hfld⟩ := DataW.trod_struct Try.underlying54 hf
  obtain ⟨l⟩ := cs
  simp only [Value.cells] at hfld hp
  have hl7 : l.length = 7 := hp.trans (by kernel_rfl)
  match l, hl7, xs, hxl with
  | [c0, c1, c2, c3, c4, c5, c6], _, [y0, y1, y2, y3, y4], _ =>
    have g0 : DataW.trod enc Try.prog W 0 (fun _ => true) true nn 42 (List.take (Try.prog.cellsOf 42) [c0, c1, c2, c3, c4, c5, c6]) = some y0 := hfld 0 _ rfl
    have g1 : DataW.trod enc Try.prog W 0 (fun _ => true) true nn 3 (List.take (Try.prog.cellsOf 3) [c3, c4, c5, c6]) = some y1 := hfld 1 _ rfl
    have g2 : DataW.trod enc Try.prog W 0 (fun _ => true) true nn 48 (List.take (Try.prog.cellsOf 48) [c4, c5, c6]) = some y2 := hfld 2 _ rfl
    have g3 : DataW.trod enc Try.prog W 0 (fun _ => true) true nn 22 (List.take (Try.prog.cellsOf 22) [c5, c6]) = some y3 := hfld 3 _ rfl
    have g4 : DataW.trod enc Try.prog W 0 (fun _ => true) true nn 4 (List.take (Try.prog.cellsOf 4) [c6]) = some y4 := hfld 4 _ rfl
    rw [cells_cfg] at g0
    rw [cells_int] at g1
    rw [cells_sl] at g2
    rw [cells_u64] at g3
    rw [cells_bool] at g4
    simp only [List.take_succ_cons, List.take_zero] at g0 g1 g2 g3 g4
    obtain ⟨b, lim, ord, e0, hb⟩ := cfg_cells g0
    obtain ⟨rg, e1, _, w1⟩ := DataW.trod_int Try.underlying3 g1
    obtain ⟨zr, e3, _, w3⟩ := DataW.trod_int Try.underlying22 g3
    obtain ⟨dn, e4, _⟩ := DataW.trod_bool Try.underlying4 g4
    have hsl : ∃ sa sn sc, c4 = .slice sa sn sc := by
      rcases open_slice Try.underlying48 g2 with ⟨hcs, _⟩ | ⟨x, len, cap, m, n, D, Pl, hcs, _⟩
      · exact ⟨none, 0, 0, by simpa using hcs⟩
      · exact ⟨some x, len, cap, by simpa using hcs⟩
    obtain ⟨sa, sn, sc, rfl⟩ := hsl
    obtain ⟨lb, hbl, hwt⟩ := bls_cells g2
    simp at e0 e1 e3 e4
    obtain ⟨rfl, rfl, rfl⟩ := e0
    subst e1 e3 e4
    obtain ⟨rr, rfl, hrr⟩ := u64_of w3
    have b1 := bounds_i64 w1
    refine ⟨b, lim, ord, rg, sa, sn, sc, rr, dn, lb, rfl, hb.1, hb.2.1, hb.2.2.1, hb.2.2.2.1, hb.2.2.2.2, b1.1, b1.2, hrr, hbl, fun hw => hwt fun n hn => hw n ?_⟩
    have hd1 : d = .agg [y0.1, y1.1, y2.1, y3.1, y4.1] := congrArg Prod.fst hd
    rw [hd1]
    simp only [DataW.weights, Try.underlying54]
    exact DataW.weights_mem_each (j := 2) rfl rfl n hn
/-- What came in is within the form's reach. -/
theorem wt_at {H : Type} {ts : List TypeId} {ds : List (DataW H)} (h : (DataW.weightsEach Try.prog ts ds).all (· ≤ reachBytes) = true) (j : Nat) {t : TypeId} {d : DataW H} (ht : ts[j]? = some t) (hd : ds[j]? = some d) : ∀ n ∈ d.weights Try.prog t, n ≤ reachBytes := fun n hn => by
  simpa using List.all_eq_true.1 h _ (DataW.weights_mem_each ht hd n hn)
end Go.Proofs.Ytibljocjdlgfbaa
