import Derived.Test.YthomkkboeldgnaaGreatRgE
import Derived.ProofKit
import Derived.OpenShut
import Derived.Deep.Slices
import Derived.Deep.Strs
/- RegionPlays: the calls that came in. -/
namespace Go.Proofs.YthomkkboeldgnaaGreat
open Go.ChangeShapes Go.WideShapes Go.ChangeAt Go.RowKit Go.Deep
set_option linter.unusedVariables false

/-- A call that came in, at place k of its row. -/
def OpAt (w : World) (bl o k : Nat) : Prop :=
  ∃ (kd od wh mo : Int) (dn : Bool) (a : Nat) (ao : Option Addr) (dm dc : Nat) (g : Nat → Nat), a < 18446744073709551616 ∧ dm ≤ 9223372036854775807 ∧ dm ≤ dc ∧ M.Bytes w (.slice ao dm dc) dm g ∧
    w.cell? ⟨bl, o + k * 7 + 0, none⟩ = some (.int .i64 kd) ∧ w.cell? ⟨bl, o + k * 7 + 1, none⟩ = some (.int .i64 od) ∧ w.cell? ⟨bl, o + k * 7 + 2, none⟩ = some (.int .i64 wh) ∧ w.cell? ⟨bl, o + k * 7 + 3, none⟩ = some (.int .i64 mo) ∧
    w.cell? ⟨bl, o + k * 7 + 4, none⟩ = some (.bool dn) ∧ w.cell? ⟨bl, o + k * 7 + 5, none⟩ = some (.int .u64 (a : Int)) ∧ w.cell? ⟨bl, o + k * 7 + 6, none⟩ = some (.slice ao dm dc)
/-- The calls that came in. -/
def Ops (w : World) (v : Value) (m : Nat) : Prop :=
  m ≤ 9223372036854775807 ∧ ∃ oa oc, v = .slice oa m oc ∧ (m = 0 ∨ ∃ bl o, oa = some ⟨bl, o, none⟩ ∧ bl < w.heap.size ∧ ∀ k, k < m → OpAt w bl o k)
theorem OpAt.keep {w W : World} {bl o k : Nat} (h : OpAt w bl o k) (kp : Kept none' w W) : OpAt W bl o k := by
  obtain ⟨kd, od, wh, mo, dn, a, ao, dm, dc, g, h1, h2, h3, h4, c0, c1, c2, c3, c4, c5, c6⟩ := h
  exact ⟨kd, od, wh, mo, dn, a, ao, dm, dc, g, h1, h2, h3, h4.keep (ofK kp), kp.cell (fun e => e) c0, kp.cell (fun e => e) c1, kp.cell (fun e => e) c2, kp.cell (fun e => e) c3, kp.cell (fun e => e) c4, kp.cell (fun e => e) c5, kp.cell (fun e => e) c6⟩
theorem cells_op : Tryz.prog.cellsOf 35 = 7 := by kernel_rfl
theorem cells1_u64 : Tryz.prog.cellsOf 24 = 1 := by kernel_rfl
theorem cells1_int : Tryz.prog.cellsOf 3 = 1 := by kernel_rfl
theorem cells1_bool : Tryz.prog.cellsOf 4 = 1 := by kernel_rfl
theorem cells1_bytes : Tryz.prog.cellsOf 33 = 1 := by kernel_rfl
theorem cell_spot {w : World} {a : Addr} {v : Value} (h : w.cell? a = some v) : ∃ b o, a = ⟨b, o, none⟩ ∧ b < w.heap.size := by
  obtain ⟨b, o, s⟩ := a
  unfold World.cell? at h
  split at h
  · rename_i hh
    have hb := (Array.getElem?_eq_some_iff.1 hh).1
    cases s with
    | none => exact ⟨b, o, rfl, hb⟩
    | some s => simp at h
  · cases h
theorem wf_u64 {x : Int} (h : (Lit.int .u64 x).wf = true) : 0 ≤ x ∧ x < 18446744073709551616 := by
  simp [Lit.wf, show IntKind.u64.min = 0 from rfl, show IntKind.u64.max = 18446744073709551615 from rfl] at h
  omega
theorem wf_u8 {x : Int} (h : (Lit.int .u8 x).wf = true) : 0 ≤ x ∧ x < 256 := by
  simp [Lit.wf, show IntKind.u8.min = 0 from rfl, show IntKind.u8.max = 255 from rfl] at h
  omega
theorem bytes_in {w : World} {x : Addr} {l c : Nat} {zs : List Int} (hl : l ≤ c) (hz : zs.length = c) (hcell : ∀ i, i < zs.length → w.cell? (x.add i) = some (.int .u8 (zs.getD i 0))) (hwz : ∀ n ∈ zs, (Lit.int .u8 n).wf = true) : ∃ g, M.Bytes w (.slice (some x) l c) l g := by
  have hb : ∀ i, i < zs.length → 0 ≤ zs.getD i 0 ∧ zs.getD i 0 < 256 := fun i hi => by
    rw [List.getD_eq_getElem?_getD, List.getElem?_eq_getElem hi]
    exact wf_u8 (hwz _ (List.getElem_mem hi))
  refine ⟨fun i => (zs.getD i 0).toNat, fun i hi => ?_, some x, c, rfl, ?_⟩
  · have := hb i (by omega)
    show (zs.getD i 0).toNat < 256
    omega
  · rcases Nat.eq_zero_or_pos l with h0 | h0
    · exact .inl h0
    · have c0 := hcell 0 (by omega)
      obtain ⟨b, o, e, hlt⟩ := cell_spot c0
      have hxb : x.block = b := by
        have := congrArg Addr.block e
        rw [M.addr_add_block] at this
        exact this
      refine .inr ⟨x, rfl, by rw [hxb]; exact hlt, fun j hj => ?_⟩
      have := hb j (by omega)
      rw [hcell j (by omega), Int.toNat_of_nonneg this.1]
set_option maxRecDepth 4000 in
theorem ops_of {H : Type} {enc : TypeId × Value → H} {W : World} {a : Option Addr} {len cap : Nat} {d : DataW H} {p : List MemPlace}
    (h : DataW.Trod enc Tryz.prog W 0 (fun _ => true) true 22 (.slice a len cap) d p) : Ops W (.slice a len cap) len := by
  obtain ⟨fuel, hf⟩ := h
  rcases open_slice Tryz.underlying22 hf with ⟨hcs, _⟩ | ⟨x, l, c, m, n, D, Pl, hcs, _, hl, hm, hmm, _, hx⟩
  · simp [Value.cells] at hcs
    obtain ⟨rfl, rfl, rfl⟩ := hcs
    exact ⟨by omega, none, 0, rfl, Or.inl rfl⟩
  · simp [Value.cells] at hcs
    obtain ⟨rfl, rfl, rfl⟩ := hcs
    simp only [if_true] at hmm
    subst hmm
    have hml : m ≤ 9223372036854775807 := by unfold maxLen at hm; omega
    refine ⟨by omega, some x, m, rfl, ?_⟩
    by_cases h0 : len = 0
    · exact Or.inl h0
    · right
      rw [cells_op] at hx
      have key : ∀ k, k < len → ∃ (kd od wh mo : Int) (dn : Bool) (a : Nat) (ao : Option Addr) (dm dc : Nat) (g : Nat → Nat), a < 18446744073709551616 ∧ dm ≤ 9223372036854775807 ∧ dm ≤ dc ∧ M.Bytes W (.slice ao dm dc) dm g ∧
          W.cell? ((x.add (k * 7)).add 0) = some (.int .i64 kd) ∧ W.cell? ((x.add (k * 7)).add 1) = some (.int .i64 od) ∧ W.cell? ((x.add (k * 7)).add 2) = some (.int .i64 wh) ∧ W.cell? ((x.add (k * 7)).add 3) = some (.int .i64 mo) ∧ W.cell? ((x.add (k * 7)).add 4) = some (.bool dn) ∧
          W.cell? ((x.add (k * 7)).add 5) = some (.int .u64 (a : Int)) ∧ W.cell? ((x.add (k * 7)).add 6) = some (.slice ao dm dc) := by
        intro k hk
        obtain ⟨cs, h1, h2⟩ := hx k (by omega)
        obtain ⟨_, hlen, hcell⟩ := World.cells?_some h1
        obtain ⟨xs, nn, _, _, _, hxl, hfld⟩ := DataW.trod_struct Tryz.underlying35 h2
        match cs, hlen, xs, hxl with
        | [c0, c1, c2, c3, c4, c5, c6], _, [y0, y1, y2, y3, y4, y5, y6], _ =>
          have g0 := hfld 0 _ rfl
          have g1 := hfld 1 _ rfl
          have g2 := hfld 2 _ rfl
          have g3 := hfld 3 _ rfl
          have g4 := hfld 4 _ rfl
          have g5 := hfld 5 _ rfl
          have g6 := hfld 6 _ rfl
          obtain ⟨x0, e0, _, _⟩ := DataW.trod_int Tryz.underlying3 g0
          obtain ⟨x1, e1, _, _⟩ := DataW.trod_int Tryz.underlying3 g1
          obtain ⟨x2, e2, _, _⟩ := DataW.trod_int Tryz.underlying3 g2
          obtain ⟨x3, e3, _, _⟩ := DataW.trod_int Tryz.underlying3 g3
          obtain ⟨x4, e4, _⟩ := DataW.trod_bool Tryz.underlying4 g4
          obtain ⟨x5, e5, _, w5⟩ := DataW.trod_int Tryz.underlying24 g5
          simp [cells1_u64, cells1_int, cells1_bool] at e0 e1 e2 e3 e4 e5
          subst e0 e1 e2 e3 e4 e5
          have b5 := wf_u64 w5
          obtain ⟨P, rfl⟩ := Int.eq_ofNat_of_zero_le b5.1
          have hrow : ∃ da dm dc gg, c6 = .slice da dm dc ∧ dm ≤ dc ∧ dc ≤ maxLen ∧ M.Bytes W (.slice da dm dc) dm gg := by
            rcases open_ints Tryz.underlying33 Tryz.underlying5 (by kernel_rfl) g6 with ⟨hcs, _⟩ | ⟨x, l, c, zs, hcs, _, hl, hm, hz, _, hcell, hwz⟩
            · simp [cells1_bytes] at hcs
              exact ⟨none, 0, 0, fun _ => 0, hcs, Nat.le_refl _, Nat.zero_le _, fun i hi => by omega, none, 0, rfl, .inl rfl⟩
            · simp [cells1_bytes] at hcs
              obtain ⟨gg, h3⟩ := bytes_in (w := W) (x := x) (l := l) (c := c) (zs := zs) hl (by simpa using hz) hcell hwz
              exact ⟨some x, l, c, gg, hcs, hl, hm, h3⟩
          obtain ⟨da, dm, dc, gg, rfl, hdm, hdc, hbt⟩ := hrow
          unfold maxLen at hdc
          exact ⟨x0, x1, x2, x3, x4, P, da, dm, dc, gg, by omega, by omega, hdm, hbt, hcell 0 (by simp), hcell 1 (by simp), hcell 2 (by simp), hcell 3 (by simp), hcell 4 (by simp), hcell 5 (by simp), hcell 6 (by simp)⟩
      obtain ⟨kd, od, wh, mo, dn, a, ao, dm, dc, g, _, _, _, _, g0, _⟩ := key 0 (by omega)
      have e0 : (x.add (0 * 7)).add 0 = x := by simp [Addr.add]
      rw [e0] at g0
      obtain ⟨b, o, rfl, hb⟩ := cell_spot g0
      refine ⟨b, o, rfl, hb, fun k hk => ?_⟩
      obtain ⟨kd, od, wh, mo, dn, a, ao, dm, dc, g, h1, h2, h3, h4, g0, g1, g2, g3, g4, g5, g6⟩ := key k hk
      rw [Addr.add_lit, Addr.add_lit] at g0 g1 g2 g3 g4 g5 g6
      exact ⟨kd, od, wh, mo, dn, a, ao, dm, dc, g, h1, h2, h3, h4, g0, g1, g2, g3, g4, g5, g6⟩
end Go.Proofs.YthomkkboeldgnaaGreat
