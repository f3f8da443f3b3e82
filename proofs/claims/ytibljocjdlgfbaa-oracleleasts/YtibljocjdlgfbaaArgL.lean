/- What is asked of Least, as it came in. -/
import Derived.Test.YtibljocjdlgfbaaArgS
namespace Go.Proofs.Ytibljocjdlgfbaa
open Go.ChangeShapes Go.WideShapes Go.ChangeAt Go.RowKit Go.Deep
set_option linter.unusedVariables false

theorem cells_su : Try.prog.cellsOf 41 = 1 := by kernel_rfl
set_option maxRecDepth 8000 in
theorem laid_of {H : Type} {enc : TypeId × Value → H} {W : World} {base : Nat} {v : Value} {d : DataW H} {p : List MemPlace} (hok : Value.okWide Try.prog W .any base 62 v)
    (h : DataW.Trod enc Try.prog W 0 (fun _ => true) true 62 v d p) (hwt : ∀ n ∈ d.weights Try.prog 62, n ≤ reachBytes) :
    ∃ (b : Nat) (lim ord : Int) (sa : Option Addr) (sn sc : Nat) (l : Bls) (ta : Option Addr) (tn tc : Nat) (sz : List Nat), v = .agg #[.int .u64 (b : Int), .int .i64 lim, .int .i64 ord, .slice sa sn sc, .slice ta tn tc] ∧ b < 18446744073709551616 ∧ -9223372036854775808 ≤ lim ∧ lim ≤ 9223372036854775807 ∧ -9223372036854775808 ≤ ord ∧ ord ≤ 9223372036854775807 ∧ BL W (.slice sa sn sc) l ∧ l.length ≤ 8796093022000 ∧ SL W (.slice ta tn tc) sz ∧ sz.length ≤ 17592186044400 := by
  obtain ⟨cs, rfl, _⟩ := okWide_struct Try.underlying62 hok
  obtain ⟨fuel, hf⟩ := h
  obtain ⟨xs, nn, hfu, hd, hp, hxl, hfld⟩ := DataW.trod_struct Try.underlying62 hf
  obtain ⟨l⟩ := cs
  simp only [Value.cells] at hfld hp
  have hl5 : l.length = 5 := hp.trans (by kernel_rfl)
  match l, hl5, xs, hxl with
  | [c0, c1, c2, c3, c4], _, [y0, y1, y2], _ =>
    have g0 : DataW.trod enc Try.prog W 0 (fun _ => true) true nn 42 (List.take (Try.prog.cellsOf 42) [c0, c1, c2, c3, c4]) = some y0 := hfld 0 _ rfl
    have g1 : DataW.trod enc Try.prog W 0 (fun _ => true) true nn 48 (List.take (Try.prog.cellsOf 48) [c3, c4]) = some y1 := hfld 1 _ rfl
    have g2 : DataW.trod enc Try.prog W 0 (fun _ => true) true nn 41 (List.take (Try.prog.cellsOf 41) [c4]) = some y2 := hfld 2 _ rfl
    rw [cells_cfg] at g0
    rw [cells_sl] at g1
    rw [cells_su] at g2
    simp only [List.take_succ_cons, List.take_zero] at g0 g1 g2
    obtain ⟨b, lim, ord, e0, hb⟩ := cfg_cells g0
    have hsl : ∃ sa sn sc, c3 = .slice sa sn sc := by
      rcases open_slice Try.underlying48 g1 with ⟨hcs, _⟩ | ⟨x, len, cap, m, n, D, Pl, hcs, _⟩
      · exact ⟨none, 0, 0, by simpa using hcs⟩
      · exact ⟨some x, len, cap, by simpa using hcs⟩
    obtain ⟨sa, sn, sc, rfl⟩ := hsl
    have htl : ∃ ta tn tc, c4 = .slice ta tn tc := by
      rcases open_slice Try.underlying41 g2 with ⟨hcs, _⟩ | ⟨x, len, cap, m, n, D, Pl, hcs, _⟩
      · exact ⟨none, 0, 0, by simpa using hcs⟩
      · exact ⟨some x, len, cap, by simpa using hcs⟩
    obtain ⟨ta, tn, tc, rfl⟩ := htl
    have hd1 : d = .agg [y0.1, y1.1, y2.1] := congrArg Prod.fst hd
    have w1 : ∀ n ∈ y1.1.weights Try.prog 48, n ≤ reachBytes := fun n hn => hwt n (by
      rw [hd1]
      simp only [DataW.weights, Try.underlying62]
      exact DataW.weights_mem_each (j := 1) rfl rfl n hn)
    have w2 : ∀ n ∈ y2.1.weights Try.prog 41, n ≤ reachBytes := fun n hn => hwt n (by
      rw [hd1]
      simp only [DataW.weights, Try.underlying62]
      exact DataW.weights_mem_each (j := 2) rfl rfl n hn)
    obtain ⟨lb, hbl, hz⟩ := bls_cells g1
    obtain ⟨sz, hsz, hzl⟩ := szs_of (d := y2.1) (p := y2.2) (a := ta) (len := tn) (cap := tc) ⟨nn, by simpa [Value.cells] using g2⟩ w2
    simp at e0
    obtain ⟨rfl, rfl, rfl⟩ := e0
    exact ⟨b, lim, ord, sa, sn, sc, lb, ta, tn, tc, sz, rfl, hb.1, hb.2.1, hb.2.2.1, hb.2.2.2.1, hb.2.2.2.2, hbl, hz w1, hsz, hzl⟩
end Go.Proofs.Ytibljocjdlgfbaa
