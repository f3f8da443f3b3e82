/- Lists of sizes that came in. -/
import Derived.Test.YtibljocjdlgfbaaArg
import Derived.Test.YtibljocjdlgfbaaOrM
namespace Go.Proofs.Ytibljocjdlgfbaa
open Go.ChangeShapes Go.WideShapes Go.ChangeAt Go.RowKit Go.Deep
set_option linter.unusedVariables false

theorem bytes_u64 : Try.prog.bytesOf 22 = 8 := by kernel_rfl
set_option maxRecDepth 4000 in
theorem szs_of {H : Type} {enc : TypeId × Value → H} {W : World} {a : Option Addr} {len cap : Nat} {d : DataW H} {p : List MemPlace}
    (h : DataW.Trod enc Try.prog W 0 (fun _ => true) true 41 (.slice a len cap) d p) (hwt : ∀ n ∈ d.weights Try.prog 41, n ≤ reachBytes) : ∃ l : List Nat, SL W (.slice a len cap) l ∧ l.length ≤ 17592186044400 := by
  obtain ⟨fuel, hf0⟩ := h
  have hf : DataW.trod enc Try.prog W 0 (fun _ => true) true fuel 41 [.slice a len cap] = some (d, p) := by simpa [Value.cells] using hf0
  rcases open_slice Try.underlying41 hf with ⟨hcs, _⟩ | ⟨x, l, c, m, n, D, Pl, hcs, _, hl, hm, hmm, hd, hx⟩
  · simp at hcs
    obtain ⟨rfl, rfl, rfl⟩ := hcs
    exact ⟨[], ⟨by simp, (fun b h => by cases h), none, 0, rfl, Or.inl rfl⟩, by simp⟩
  · simp at hcs
    obtain ⟨rfl, rfl, rfl⟩ := hcs
    simp only [if_true] at hmm
    subst hmm
    rw [cells_u64] at hx
    have hlen : len ≤ 17592186044400 := by
      have hd1 := congrArg Prod.fst hd
      have := hwt ((len + (m - len)) * 8) (by
        rw [show d = _ from hd1]
        simp [DataW.weights, Try.underlying41, bytes_u64])
      simp only [reachBytes] at this
      omega
    have key : ∀ k, k < len → ∃ p : Nat, p < 2 ^ 64 ∧ W.cell? ((x.add (k * 1)).add 0) = some (.int .u64 (p : Int)) := by
      intro k hk
      obtain ⟨cs, h1, h2⟩ := hx k (by omega)
      obtain ⟨_, hlen, hcell⟩ := World.cells?_some h1
      match cs, hlen with
      | [c0], _ =>
        obtain ⟨x0, e0, _, w0⟩ := DataW.trod_int Try.underlying22 h2
        simp at e0
        subst e0
        obtain ⟨p, rfl, hp⟩ := u64_of w0
        exact ⟨p, hp, by have := hcell 0 (by simp); simpa using this⟩
    obtain ⟨f, hfk⟩ : ∃ f : Nat → Nat, ∀ k, k < len → f k < 2 ^ 64 ∧ W.cell? ((x.add (k * 1)).add 0) = some (.int .u64 (f k : Int)) := by
      refine ⟨fun k => if h : k < len then Classical.choose (key k h) else 0, fun k hk => ?_⟩
      simp only [dif_pos hk]
      exact Classical.choose_spec (key k hk)
    have hll : ((List.range len).map f).length = len := by simp
    refine ⟨(List.range len).map f, ⟨by rw [hll]; omega, fun b hb => ?_, some x, m, by rw [hll], ?_⟩, by rw [hll]; exact hlen⟩
    · obtain ⟨k, hk, rfl⟩ := List.mem_map.1 hb
      exact (hfk k (List.mem_range.1 hk)).1
    · rw [hll]
      by_cases h0 : len = 0
      · exact .inl h0
      · right
        have g0 := (hfk 0 (by omega)).2
        have e0 : (x.add (0 * 1)).add 0 = x := by simp [Addr.add]
        rw [e0] at g0
        obtain ⟨b, o, rfl, hb⟩ := cell_spot g0
        refine ⟨b, o, rfl, hb, fun k bb hk => ?_⟩
        have hkl : k < len := by
          have := (List.getElem?_eq_some_iff.1 hk).1
          simpa using this
        have hbb : f k = bb := by simpa [List.getElem?_map, List.getElem?_range hkl] using hk
        have := (hfk k hkl).2
        rw [hbb, Addr.add_lit, Addr.add_lit] at this
        simpa using this
end Go.Proofs.Ytibljocjdlgfbaa
