/- Read; Commit, Decommit. -/
import Derived.Test.YthglogiglimebaaMemE
namespace Go.Proofs.Ythglogiglimebaa.M
open Go.RowKit
set_option linter.unusedVariables false

theorem Blk.new (w : World) (m : Nat) : Blk (w.alloc (.cells (bcells (told m fun _ => 0)) 5)) w.heap.size m fun _ => 0 := ⟨fun _ _ => Nat.zero_lt_succ 255, heap_new _ _⟩
theorem Blk.lay {w h m g} (H : Blk w h m g) (gg : Nat → Nat) (h256 : ∀ i, i < m → gg i < 256) :
    Blk (w.setRow h ((bcells (told m g)).toList.take 0 ++ byteVs m gg ++ (bcells (told m g)).toList.drop (0 + (byteVs m gg).length)).toArray) h m gg := by
  refine ⟨h256, ?_⟩
  rw [setRow_heap w h _ _ _ _ H.2, lay_cells (told m g) 0 m gg (byteVs m gg) rfl]
  have : Go.Proofs.Ythglogiglimebaa.M.lay (told m g) 0 m gg = told m gg := by
    simp [Go.Proofs.Ythglogiglimebaa.M.lay, told]
  rw [this]

/-- append(s, make([]byte, R)...) where there is room. -/
theorem append_room (w : World) (g n cap R : Nat) (cur : Array Value) (hg : w.heap[g]? = some (.cells cur 5 (0, 0))) (hcur : cur.size = cap) (hR0 : 0 < R) (hR : R ≤ 1048576) (hfit : n + R ≤ cap) (ty : TypeId) :
    (Builtin.append_ #[96, 24] ty #[.slice (some ⟨g, 0, none⟩) n cap, .int .u64 (R : Int)]).run Try.prog w = .ok (.slice (some ⟨g, 0, none⟩) (n + R) cap) (w.setRow g (cur.toList.take n ++ byteVs R (fun _ => 0) ++ cur.toList.drop (n + (byteVs R fun _ => 0).length)).toArray) := by
  obtain ⟨i, hi, hz0, hz1, hz2⟩ := info_parts info_u8
  have hw : IntKind.i64.wrap (R : Int) = R := by rw [IntKind.wrap_i64]; omega
  have hneg : ¬ ((R : Int) < 0) := by omega
  have h48i : ¬ (281474976710656 < (R : Int) * (i.bytes : Int)) := by rw [hz2]; omega
  have hzc : (Builtin.zeroCells (Value.int .u8 0).cells R).toList = byteVs R fun _ => 0 := by
    simp only [Builtin.zeroCells, byteVs]
    apply List.ext_getElem
    · simp [Value.cells]
    · intro j h1 h2
      have : j % 1 = 0 := Nat.mod_one j
      simp [Value.cells, this]
  have hst := run_storeCells_at Try.prog g n 5 (byteVs R fun _ => 0) 0 cur w hg (by rw [byteVs_len]; omega) (by
    intro v hv
    obtain ⟨_, _, rfl⟩ := List.mem_map.1 hv
    rfl)
  simp only [Nat.add_zero] at hst
  simp [Builtin.append_, run_underlying Try.underlying96, run_underlying Try.underlying24, sizeOf, typeInfo, zeroValue, hi, hz0, hz1, asInt, asIntOf, hw, hneg, h48i, hfit, Addr.add_lit, hzc, hst]
  intro h
  omega

/-- What is told behind a region that came: it is 0. -/
def more (f : Nat → Nat) (n : Nat) : Nat → Nat := fun i => if i < n then f i else 0

/-- Behind the append, ahead of its store. -/
structure After (w w' : World) (b : Nat) (ao : Option Nat) (g' cap' base R lim n : Nat) (f : Nat → Nat) : Prop where
  sp : SpaceAt (w'.setCell ⟨b, 3, none⟩ (.slice (some ⟨g', 0, none⟩) (n + R) cap')) b (some g') base R lim (n + R) (more f n)
  k : Kept (own b ao) w w'
  g : ao = some g' ∨ w.heap.size ≤ g'

theorem after_mk {w w' : World} {b ao g' cap' base R lim n f cap} (hc : Cfg base R lim) (hkn : ∃ k, n = k * R ∧ k + 1 ≤ lim)
    (hb : w'.heap[b]? = some (.cells #[.int .u64 (base : Int), .int .u64 (R : Int), .int .i64 (lim : Int), .slice (adr ao) n cap] 98 (0, 0)))
    (hne : g' ≠ b) (rs : List Nat) (hrl : rs.length = cap') (hg : w'.heap[g']? = some (.cells (bcells rs) 5 (0, 0))) (hn : n + R ≤ cap') (hf : ∀ i, i < n + R → rs.getD i 0 = more f n i) (h256 : ∀ i, rs.getD i 0 < 256)
    (k : Kept (own b ao) w w') (hG : ao = some g' ∨ w.heap.size ≤ g') : After w w' b ao g' cap' base R lim n f := by
  refine ⟨⟨hc, ?_, cap', ?_, hne, rs, hrl, ?_, hn, hf, h256⟩, k, hG⟩
  · obtain ⟨k, rfl, hk⟩ := hkn
    exact ⟨k + 1, by rw [Nat.add_mul, Nat.one_mul], hk⟩
  · simp only [World.setCell]
    rw [Array.getElem?_modify, if_pos rfl, hb]
    simp [adr]
  · rw [Below.heap_setCell _ _ _ _ hne]; exact hg

theorem zero_cells (m : Nat) : (Builtin.zeroCells (Value.int .u8 0).cells m) = bcells (List.replicate m 0) := by
  simp only [Builtin.zeroCells, bcells]
  apply Array.ext
  · simp [Value.cells]
  · intro j h1 h2
    have : j % 1 = 0 := Nat.mod_one j
    simp [Value.cells, this]
theorem rep_get (m i : Nat) : (List.replicate m 0).getD i 0 = 0 := by
  simp [List.getD, List.getElem?_replicate]; split <;> rfl

theorem append_zeros (w : World) (b ao base R lim n f cap) (hc : Cfg base R lim) (hkn : ∃ k, n = k * R ∧ k + 1 ≤ lim)
    (hb : w.heap[b]? = some (.cells #[.int .u64 (base : Int), .int .u64 (R : Int), .int .i64 (lim : Int), .slice (adr ao) n cap] 98 (0, 0))) (hr : RowAt w b ao n cap f) :
    ∃ g' cap' w', (∀ ty, (Builtin.append_ #[96, 24] ty #[.slice (adr ao) n cap, .int .u64 (R : Int)]).run Try.prog w = .ok (.slice (some ⟨g', 0, none⟩) (n + R) cap') w') ∧ After w w' b ao g' cap' base R lim n f ∧
      w'.heap[b]? = some (.cells #[.int .u64 (base : Int), .int .u64 (R : Int), .int .i64 (lim : Int), .slice (adr ao) n cap] 98 (0, 0)) := by
  obtain ⟨i, hi, hz0, hz1, hz2⟩ := info_parts info_u8
  have r1 := hc.r1
  have r2 := hc.r2
  have hnl : n + R ≤ 4194304 := by
    obtain ⟨k, rfl, hk⟩ := hkn
    have h1 := hc.lr
    have h2 : (k + 1) * R ≤ lim * R := Nat.mul_le_mul_right _ hk
    rw [Nat.add_mul, Nat.one_mul] at h2
    omega
  have hblt : b < w.heap.size := (Array.getElem?_eq_some_iff.1 hb).1
  -- a new row
  have grow : ∀ (olds : List Nat), (Builtin.firstCells i.size n (.slice (adr ao) n cap)).run Try.prog w.drew = .ok (bcells olds) w.drew → olds.length = n → (∀ j, j < n → olds.getD j 0 = f j) → (∀ j, olds.getD j 0 < 256) → cap < n + R →
      ∃ g' cap' w', (∀ ty, (Builtin.append_ #[96, 24] ty #[.slice (adr ao) n cap, .int .u64 (R : Int)]).run Try.prog w = .ok (.slice (some ⟨g', 0, none⟩) (n + R) cap') w') ∧ After w w' b ao g' cap' base R lim n f ∧
      w'.heap[b]? = some (.cells #[.int .u64 (base : Int), .int .u64 (R : Int), .int .i64 (lim : Int), .slice (adr ao) n cap] 98 (0, 0)) := by
    intro olds hold hlen hof ho256 hcap
    have hge := grownCap_ge w (n + R) cap 5
    have hrow : (bcells olds) ++ Builtin.zeroCells (Value.int .u8 0).cells R ++ Builtin.zeroCells (Value.int .u8 0).cells (grownCap w (n + R) cap 5 - (n + R)) = bcells (olds ++ (List.replicate R 0 ++ List.replicate (grownCap w (n + R) cap 5 - (n + R)) 0)) := by
      rw [zero_cells, zero_cells]
      simp [bcells]
    have hget : ∀ j, (olds ++ (List.replicate R 0 ++ List.replicate (grownCap w (n + R) cap 5 - (n + R)) 0)).getD j 0 = if j < n then olds.getD j 0 else 0 := by
      intro j
      rw [List.replicate_append_replicate]
      simp only [List.getD, List.getElem?_append, hlen]
      split
      · rfl
      · exact rep_get _ _
    refine ⟨w.heap.size, grownCap w (n + R) cap 5, w.drew.alloc (.cells (bcells (olds ++ (List.replicate R 0 ++ List.replicate (grownCap w (n + R) cap 5 - (n + R)) 0))) 5), fun ty => ?_, ?_, ?_⟩
    · have := Lib.run_append_grow_zeros (P := Try.prog) w 96 24 ty 5 i (.int .u8 0) .u64 .u64 Try.underlying96 Try.underlying24 hi hz0 (adr ao) n cap (bcells olds).toList (by rw [hold]) R (by omega) (by omega) hcap (by omega) (by rw [hz2]; omega) (growslice_fits hcap (by rw [hz2]; omega))
      rw [this, ← hrow]
    · refine after_mk (cap := cap) hc hkn ?_ (by omega) _ ?_ (heap_new w.drew _) hge ?_ ?_ (((Kept.refl _ w).drew).alloc _) (Or.inr (Nat.le_refl _))
      · rw [Below.heap_alloc w.drew _ b hblt]; exact hb
      · simp [hlen]; omega
      · intro j hj
        rw [hget j]
        unfold more
        split
        · rename_i h; exact hof j h
        · rfl
      · intro j
        rw [hget j]
        split
        · exact ho256 j
        · decide
    · rw [Below.heap_alloc w.drew _ b hblt]; exact hb
  cases ao with
  | none =>
    obtain ⟨rfl, rfl⟩ := hr
    exact grow [] (by simp [adr, run_firstCells_none, bcells]) rfl (fun j hj => by omega) (fun j => by simp) (by omega)
  | some g =>
    obtain ⟨hne, rs, hrl, hg, hnc, hf, h256⟩ := hr
    by_cases hroom : n + R ≤ cap
    · have hap := append_room w g n cap R (bcells rs) hg (by rw [bcells_size]; exact hrl) (by omega) (by omega) hroom
      have hw : (bcells rs).toList.take n ++ byteVs R (fun _ => 0) ++ (bcells rs).toList.drop (n + (byteVs R fun _ => 0).length) = (bcells (Go.Proofs.Ythglogiglimebaa.M.lay rs n R fun _ => 0)).toList := by
        rw [← lay_cells rs n R (fun _ => 0) (byteVs R fun _ => 0) rfl]
      refine ⟨g, cap, _, hap, ?_, ?_⟩
      · refine after_mk (cap := cap) hc hkn ?_ hne (Go.Proofs.Ythglogiglimebaa.M.lay rs n R fun _ => 0) ?_ ?_ hroom ?_ ?_ ((Kept.refl _ w).setRow (fun _ => Or.inr rfl) _) (Or.inl rfl)
        · rw [setRow_other _ _ _ _ (fun e => hne e.symm)]; exact hb
        · rw [lay_len _ _ _ _ (by omega)]; exact hrl
        · rw [setRow_heap w g _ _ _ _ hg, hw]
        · intro j hj
          rw [lay_get _ _ _ _ (by omega)]
          unfold more
          by_cases h1 : j < n
          · rw [if_neg (by omega), if_pos h1]; exact hf j h1
          · rw [if_pos (by omega), if_neg h1]
        · intro j
          rw [lay_get _ _ _ _ (by omega)]
          split
          · decide
          · exact h256 j
      · rw [setRow_other _ _ _ _ (fun e => hne e.symm)]; exact hb
    · have hlt : (rs.take n).length = n := by simp; omega
      have hgt : ∀ j, (rs.take n).getD j 0 = if j < n then rs.getD j 0 else 0 := by
        intro j
        simp only [List.getD, List.getElem?_take]
        split <;> rfl
      refine grow (rs.take n) ?_ hlt ?_ ?_ (by omega)
      · have := run_firstCells_some (P := Try.prog) w.drew i.size n ⟨g, 0, none⟩ n cap (bcells (rs.take n)).toList (by rw [hz1]; simp [bcells]; omega) ?_
        · simpa [adr] using this
        · intro j v hj
          rw [Addr.add_lit]
          simp [bcells, List.getElem?_take] at hj
          obtain ⟨hjn, x, hx, rfl⟩ := hj
          have : w.cell? ⟨g, 0 + j, none⟩ = some (.int .u8 (x : Int)) := by simp [World.cell?, hg, bcells, hx]
          exact this
      · intro j hj
        rw [hgt j, if_pos hj]; exact hf j hj
      · intro j
        rw [hgt j]
        split
        · exact h256 j
        · decide

/-- The same as one step of a region that draws. -/
theorem step_append_zeros {ops : Array Oper} {o : Oper} {a : Act} {w : World} {K : Act → World → Prop} {Q : Exit → Act → World → Prop} {E : Prop} (hgd : o.guard = none) (s x : Operand)
    (hop : o.op = Op.call { callee := Callee.builtin Builtin.append, args := #[s, x], argTypes := #[96, 24] }) (b ao base R lim n f cap) (hc : Cfg base R lim) (hkn : ∃ k, n = k * R ∧ k + 1 ≤ lim)
    (hb : w.heap[b]? = some (.cells #[.int .u64 (base : Int), .int .u64 (R : Int), .int .i64 (lim : Int), .slice (adr ao) n cap] 98 (0, 0))) (hr : RowAt w b ao n cap f)
    (hs : a.eval s = .slice (adr ao) n cap) (hx : a.eval x = .int .u64 (R : Int))
    (hK : ∀ g' cap' w', Hid (After w w' b ao g' cap' base R lim n f) → w'.cell? ⟨b, 3, none⟩ = some (.slice (adr ao) n cap) → w'.frozen? ⟨b, 3, none⟩ = false → K (a.put o.dst (.slice (some ⟨g', 0, none⟩) (n + R) cap')) w') :
    if Region.wanted o (yielded ops a.tmps) = true then Oper.wp Try.prog o a w K Q else E := by
  have hw : Region.wanted o (yielded ops a.tmps) = true := by simp [Region.wanted, hgd]
  rw [if_pos hw]
  obtain ⟨g', cap', w', hrun, hA, hb'⟩ := append_zeros w b ao base R lim n f cap hc hkn hb hr
  have hrun := hrun o.type
  unfold Oper.wp
  simp [execOp, hop, resolve, invoke, builtin, hs, hx, hrun, Result.andThen]
  exact hK g' cap' w' hA (by simp [World.cell?, hb']) (by simp [World.frozen?, hb'])
end Go.Proofs.Ythglogiglimebaa.M
