/- Read; Commit, Decommit. -/
import Derived.Test.YtnkoheanjaapjaaMemE
namespace Go.Proofs.Ytnkoheanjaapjaa
open Go.RowKit
set_option linter.unusedVariables false

theorem Blk.new (w : World) (m : Nat) : Blk (w.alloc (.cells (bcells (told m fun _ => 0)) 5)) w.heap.size m fun _ => 0 := ⟨fun _ _ => Nat.zero_lt_succ 255, heap_new _ _⟩
theorem Blk.lay {w h m g} (H : Blk w h m g) (gg : Nat → Nat) (h256 : ∀ i, i < m → gg i < 256) :
    Blk (w.setRow h ((bcells (told m g)).toList.take 0 ++ byteVs m gg ++ (bcells (told m g)).toList.drop (0 + (byteVs m gg).length)).toArray) h m gg := by
  refine ⟨h256, ?_⟩
  rw [setRow_heap w h _ _ _ _ H.2, lay_cells (told m g) 0 m gg (byteVs m gg) rfl]
  have : Go.Proofs.Ytnkoheanjaapjaa.lay (told m g) 0 m gg = told m gg := by
    simp [Go.Proofs.Ytnkoheanjaapjaa.lay, told]
  rw [this]

theorem Read_in (b g base R lim n f) (p k : Nat) (w : World) (h : SpaceAt w b (some g) base R lim n f) (hk0 : 0 < k) (hin : In base n p k) :
    Calls Try.prog 23 #[.pointer (some ⟨b, 0, none⟩), .int .u64 (p : Int), .int .u64 (k : Int)] w fun e w' => e = .returned (.tuple #[.slice (some ⟨w.heap.size + 1, 0, none⟩) k k, .int .i64 0]) ∧ Blk w' (w.heap.size + 1) k (fun i => f (p - base + i)) ∧ Kept none' w w' := by
  have hmf := mkf
  obtain ⟨o, ho⟩ : ∃ o, o = p - base := ⟨_, rfl⟩
  have hol : o + k ≤ n := by obtain ⟨h1, h2⟩ := hin; omega
  have hn := h.nle
  have lr := h.cfg.lr
  have hkm : k ≤ 4194304 := by omega
  rw [← ho]
  have HO := hid ho
  have HH := hid h
  have HI := hid hin
  clear h ho hin hn lr
  go_enter_defers Try.func23, Try.ntmps23
  go_wp2_with fail
  refine (at_in b g base R lim n f p k _ (HH.out.keep (Err.mk' none' w).k) hk0 HI.out).mono ?_
  rintro e w2 ⟨⟨c, rfl⟩, m, hw⟩
  have hE : Err none' w w2 := by rw [hw]; exact (Err.mk' none' w).drewN m
  rw [← HO.out]
  have hsz := hE.sz
  have hmk := make_bytes k (by omega) w2
  have hB := Blk.new w2 k
  have hk3 := (Kept.refl none' w2).alloc (.cells (bcells (told k fun _ => 0)) 5)
  obtain ⟨w3, hw3⟩ : ∃ w3, w3 = w2.alloc (.cells (bcells (told k fun _ => 0)) 5) := ⟨_, rfl⟩
  rw [← hw3] at hmk hB hk3
  rw [hsz] at hmk hB
  have hS := HH.out.keep ((hE.k.trans (U := none') hk3 (fun _ _ x => x) (fun _ _ x => x)))
  have hcp := copy_run w3 (w.heap.size + 1) 0 k k ⟨g, o, none⟩ c _ (fun i => f (o + i)) hB.2 (by rw [bcells_size, told_len]; omega) (fun j hj => by rw [Addr.add_lit]; exact hS.cg _ (by omega))
  have hB4 := hB.lay (fun i => f (o + i)) (fun i hi => hS.f256 _ (by omega))
  have hk4 := (Kept.refl (fun x => x = w.heap.size + 1) w3).setRow (fun _ => rfl) ((bcells (told k fun _ => 0)).toList.take 0 ++ byteVs k (fun i => f (o + i)) ++ (bcells (told k fun _ => 0)).toList.drop (0 + (byteVs k fun i => f (o + i)).length)).toArray
  obtain ⟨w4, hw4⟩ : ∃ w4, w4 = w3.setRow (w.heap.size + 1) ((bcells (told k fun _ => 0)).toList.take 0 ++ byteVs k (fun i => f (o + i)) ++ (bcells (told k fun _ => 0)).toList.drop (0 + (byteVs k fun i => f (o + i)).length)).toArray := ⟨_, rfl⟩
  rw [← hw4] at hcp hB4 hk4
  have hE3 : w3.heap[w.heap.size]? = some (.cells #[.int .i64 0] 28 (0, 0)) := (hk3.block _ (by omega) (fun x => x)).trans hE.he
  have hE4 : w4.heap[w.heap.size]? = some (.cells #[.int .i64 0] 28 (0, 0)) := (hk4.block _ (Array.getElem?_eq_some_iff.1 hE3).1 (by omega)).trans hE3
  have hec : w4.cell? ⟨w.heap.size, 0, none⟩ = some (.int .i64 0) := by simp [World.cell?, hE4]
  have hef : w4.frozen? ⟨w.heap.size, 0, none⟩ = false := by simp [World.frozen?, hE4]
  have HK := hid ((hE.k.trans (U := none') hk3 (fun _ _ x => x) (fun _ _ x => x)).trans (U := none') hk4 (fun _ _ x => x) (fun x hx e => by omega))
  have HB := hid hB4
  clear hE hS hw3 hw4 hw hB hk3 hk4 hE3 hE4 hB4 hsz
  go_wp2
  refine leaves_cons (f := 54) (args := #[.pointer (some ⟨w.heap.size, 0, none⟩)]) (by simp) (by simp [go_sem]) ?_
  refine (ciRead ⟨w.heap.size, 0, none⟩ 0 _ ?_ ?_).mono ?_
  · simp [go_sem, hec]
  · simp [go_sem, hef]
  rintro e u' w'' ⟨rfl, rfl, rfl⟩
  refine ⟨.tuple #[.slice (some ⟨w.heap.size + 1, 0, none⟩) k k, .int .i64 0], ?_, rfl, ?_, ?_⟩
  · simp [results, Try.results23, go_sem, hec]
  · exact HB.out.kept (((Kept.refl (fun x => x = w.heap.size) w4).setCell (fun _ => rfl) _).setCell (fun _ => rfl) _) (by omega)
  · exact (HK.out.setCell (fun h => absurd h (Nat.lt_irrefl _)) _).setCell (fun h => absurd h (Nat.lt_irrefl _)) _

theorem Read_zero (b : Nat) (p : Int) (w : World) :
    Calls Try.prog 23 #[.pointer (some ⟨b, 0, none⟩), .int .u64 p, .int .u64 0] w fun e w' => e = .returned (.tuple #[.slice (some ⟨w.heap.size + 1, 0, none⟩) 0 0, .int .i64 0]) ∧ Kept none' w w' ∧ w.heap.size + 1 < w'.heap.size := by
  have hmf := mkf
  go_enter_defers Try.func23, Try.ntmps23
  go_wp2_with fail
  refine (at_zero b p _).mono ?_
  rintro e w2 ⟨rfl, hw⟩
  have hE : Err none' w w2 := by rw [hw]; exact Err.mk' none' w
  have hsz := hE.sz
  have hmk : (Instr.makeSlice 42 (.int .i64 0) (.int .i64 0)).run Try.prog w2 = .ok (.slice (some ⟨w2.heap.size, 0, none⟩) 0 0) (w2.alloc (.cells (bcells (told 0 fun _ => 0)) 5)) := make_bytes 0 (by omega) w2
  have hk3 := (Kept.refl none' w2).alloc (.cells (bcells (told 0 fun _ => 0)) 5)
  have hs3 : (w2.alloc (.cells (bcells (told 0 fun _ => 0)) 5)).heap.size = w.heap.size + 2 := by simp; omega
  obtain ⟨w4, hw4⟩ : ∃ w4, w4 = w2.alloc (.cells (bcells (told 0 fun _ => 0)) 5) := ⟨_, rfl⟩
  rw [← hw4] at hmk hk3 hs3
  rw [hsz] at hmk
  have hcp := copy_nil w4 0 0 (some ⟨w.heap.size + 1, 0, none⟩) none 0 rfl
  have hE4 : w4.heap[w.heap.size]? = some (.cells #[.int .i64 0] 28 (0, 0)) := (hk3.block _ (by omega) (fun x => x)).trans hE.he
  have hec : w4.cell? ⟨w.heap.size, 0, none⟩ = some (.int .i64 0) := by simp [World.cell?, hE4]
  have hef : w4.frozen? ⟨w.heap.size, 0, none⟩ = false := by simp [World.frozen?, hE4]
  have HK := hid (hE.k.trans (U := none') hk3 (fun _ _ x => x) (fun _ _ x => x))
  have HZ := hid hs3
  clear hE hw4 hw hk3 hE4 hsz hs3
  go_wp2
  refine leaves_cons (f := 54) (args := #[.pointer (some ⟨w.heap.size, 0, none⟩)]) (by simp) (by simp [go_sem]) ?_
  refine (ciRead ⟨w.heap.size, 0, none⟩ 0 _ ?_ ?_).mono ?_
  · simp [go_sem, hec]
  · simp [go_sem, hef]
  rintro e u' w'' ⟨rfl, rfl, rfl⟩
  refine ⟨.tuple #[.slice (some ⟨w.heap.size + 1, 0, none⟩) 0 0, .int .i64 0], ?_, rfl, ?_, ?_⟩
  · simp [results, Try.results23, go_sem, hec]
  · exact (HK.out.setCell (fun h => absurd h (Nat.lt_irrefl _)) _).setCell (fun h => absurd h (Nat.lt_irrefl _)) _
  · simp
    have := HZ.out
    omega

/-- append(s, make([]byte, R)...) where there is room. -/
theorem append_room (w : World) (g n cap R : Nat) (cur : Array Value) (hg : w.heap[g]? = some (.cells cur 5 (0, 0))) (hcur : cur.size = cap) (hR0 : 0 < R) (hR : R ≤ 1048576) (hfit : n + R ≤ cap) (ty : TypeId) :
    (Builtin.append_ #[42, 27] ty #[.slice (some ⟨g, 0, none⟩) n cap, .int .u64 (R : Int)]).run Try.prog w = .ok (.slice (some ⟨g, 0, none⟩) (n + R) cap) (w.setRow g (cur.toList.take n ++ byteVs R (fun _ => 0) ++ cur.toList.drop (n + (byteVs R fun _ => 0).length)).toArray) := by
  obtain ⟨i, hi, hz0, hz1, hz2⟩ := info_parts info_u8
  have hw : IntKind.i64.wrap (R : Int) = R := by rw [IntKind.wrap_i64]; omega
  have hneg : ¬ ((R : Int) < 0) := by omega
  have h48i : ¬ (281474976710656 < (R : Int) * (i.bytes : Int)) := by rw [hz2]; omega
  have hzc : (Builtin.zeroCells (Value.int .u8 0).cells R).toList = byteVs R fun _ => 0 := by
    simp only [Builtin.zeroCells, byteVs]
    apply List.ext_getElem
    · simp [Value.cells]
    · intro j h1 h2
      have : j % 1 = 0 := Nat.mod_one j
      simp [Value.cells, this]
  have hst := run_storeCells_at Try.prog g n 5 (byteVs R fun _ => 0) 0 cur w hg (by rw [byteVs_len]; omega) (by
    intro v hv
    obtain ⟨_, _, rfl⟩ := List.mem_map.1 hv
    rfl)
  simp only [Nat.add_zero] at hst
  simp [Builtin.append_, run_underlying Try.underlying42, run_underlying Try.underlying27, sizeOf, typeInfo, zeroValue, hi, hz0, hz1, asInt, asIntOf, hw, hneg, h48i, hfit, Addr.add_lit, hzc, hst]
  intro h
  omega

/-- What is told behind a region that came: it is 0. -/
def more (f : Nat → Nat) (n : Nat) : Nat → Nat := fun i => if i < n then f i else 0

/-- Behind the append, ahead of its store. -/
structure After (w w' : World) (b : Nat) (ao : Option Nat) (g' cap' base R lim n : Nat) (f : Nat → Nat) : Prop where
  sp : SpaceAt (w'.setCell ⟨b, 3, none⟩ (.slice (some ⟨g', 0, none⟩) (n + R) cap')) b (some g') base R lim (n + R) (more f n)
  k : Kept (own b ao) w w'
  g : ao = some g' ∨ w.heap.size ≤ g'

theorem after_mk {w w' : World} {b ao g' cap' base R lim n f cap} (hc : Cfg base R lim) (hkn : ∃ k, n = k * R ∧ k + 1 ≤ lim)
    (hb : w'.heap[b]? = some (.cells #[.int .u64 (base : Int), .int .u64 (R : Int), .int .i64 (lim : Int), .slice (adr ao) n cap] 88 (0, 0)))
    (hne : g' ≠ b) (rs : List Nat) (hrl : rs.length = cap') (hg : w'.heap[g']? = some (.cells (bcells rs) 5 (0, 0))) (hn : n + R ≤ cap') (hf : ∀ i, i < n + R → rs.getD i 0 = more f n i) (h256 : ∀ i, rs.getD i 0 < 256)
    (k : Kept (own b ao) w w') (hG : ao = some g' ∨ w.heap.size ≤ g') : After w w' b ao g' cap' base R lim n f := by
  refine ⟨⟨hc, ?_, cap', ?_, hne, rs, hrl, ?_, hn, hf, h256⟩, k, hG⟩
  · obtain ⟨k, rfl, hk⟩ := hkn
    exact ⟨k + 1, by rw [Nat.add_mul, Nat.one_mul], hk⟩
  · simp only [World.setCell]
    rw [Array.getElem?_modify, if_pos rfl, hb]
    simp [adr]
  · rw [Below.heap_setCell _ _ _ _ hne]; exact hg

theorem zero_cells (m : Nat) : (Builtin.zeroCells (Value.int .u8 0).cells m) = bcells (List.replicate m 0) := by
  simp only [Builtin.zeroCells, bcells]
  apply Array.ext
  · simp [Value.cells]
  · intro j h1 h2
    have : j % 1 = 0 := Nat.mod_one j
    simp [Value.cells, this]
theorem rep_get (m i : Nat) : (List.replicate m 0).getD i 0 = 0 := by
  simp [List.getD, List.getElem?_replicate]; split <;> rfl

theorem append_zeros (w : World) (b ao base R lim n f cap) (hc : Cfg base R lim) (hkn : ∃ k, n = k * R ∧ k + 1 ≤ lim)
    (hb : w.heap[b]? = some (.cells #[.int .u64 (base : Int), .int .u64 (R : Int), .int .i64 (lim : Int), .slice (adr ao) n cap] 88 (0, 0))) (hr : RowAt w b ao n cap f) :
    ∃ g' cap' w', (∀ ty, (Builtin.append_ #[42, 27] ty #[.slice (adr ao) n cap, .int .u64 (R : Int)]).run Try.prog w = .ok (.slice (some ⟨g', 0, none⟩) (n + R) cap') w') ∧ After w w' b ao g' cap' base R lim n f ∧
      w'.heap[b]? = some (.cells #[.int .u64 (base : Int), .int .u64 (R : Int), .int .i64 (lim : Int), .slice (adr ao) n cap] 88 (0, 0)) := by
  obtain ⟨i, hi, hz0, hz1, hz2⟩ := info_parts info_u8
  have r1 := hc.r1
  have r2 := hc.r2
  have hnl : n + R ≤ 4194304 := by
    obtain ⟨k, rfl, hk⟩ := hkn
    have h1 := hc.lr
    have h2 : (k + 1) * R ≤ lim * R := Nat.mul_le_mul_right _ hk
    rw [Nat.add_mul, Nat.one_mul] at h2
    omega
  have hblt : b < w.heap.size := (Array.getElem?_eq_some_iff.1 hb).1
  -- a new row
  have grow : ∀ (olds : List Nat), (Builtin.firstCells i.size n (.slice (adr ao) n cap)).run Try.prog w.drew = .ok (bcells olds) w.drew → olds.length = n → (∀ j, j < n → olds.getD j 0 = f j) → (∀ j, olds.getD j 0 < 256) → cap < n + R →
      ∃ g' cap' w', (∀ ty, (Builtin.append_ #[42, 27] ty #[.slice (adr ao) n cap, .int .u64 (R : Int)]).run Try.prog w = .ok (.slice (some ⟨g', 0, none⟩) (n + R) cap') w') ∧ After w w' b ao g' cap' base R lim n f ∧
      w'.heap[b]? = some (.cells #[.int .u64 (base : Int), .int .u64 (R : Int), .int .i64 (lim : Int), .slice (adr ao) n cap] 88 (0, 0)) := by
    intro olds hold hlen hof ho256 hcap
    have hge := grownCap_ge w (n + R) cap 5
    have hrow : (bcells olds) ++ Builtin.zeroCells (Value.int .u8 0).cells R ++ Builtin.zeroCells (Value.int .u8 0).cells (grownCap w (n + R) cap 5 - (n + R)) = bcells (olds ++ (List.replicate R 0 ++ List.replicate (grownCap w (n + R) cap 5 - (n + R)) 0)) := by
      rw [zero_cells, zero_cells]
      simp [bcells]
    have hget : ∀ j, (olds ++ (List.replicate R 0 ++ List.replicate (grownCap w (n + R) cap 5 - (n + R)) 0)).getD j 0 = if j < n then olds.getD j 0 else 0 := by
      intro j
      rw [List.replicate_append_replicate]
      simp only [List.getD, List.getElem?_append, hlen]
      split
      · rfl
      · exact rep_get _ _
    refine ⟨w.heap.size, grownCap w (n + R) cap 5, w.drew.alloc (.cells (bcells (olds ++ (List.replicate R 0 ++ List.replicate (grownCap w (n + R) cap 5 - (n + R)) 0))) 5), fun ty => ?_, ?_, ?_⟩
    · have := Lib.run_append_grow_zeros (P := Try.prog) w 42 27 ty 5 i (.int .u8 0) .u64 .u64 Try.underlying42 Try.underlying27 hi hz0 (adr ao) n cap (bcells olds).toList (by rw [hold]) R (by omega) (by omega) hcap (by omega) (by rw [hz2]; omega) (growslice_fits hcap (by rw [hz2]; omega))
      rw [this, ← hrow]
    · refine after_mk (cap := cap) hc hkn ?_ (by omega) _ ?_ (heap_new w.drew _) hge ?_ ?_ (((Kept.refl _ w).drew).alloc _) (Or.inr (Nat.le_refl _))
      · rw [Below.heap_alloc w.drew _ b hblt]; exact hb
      · simp [hlen]; omega
      · intro j hj
        rw [hget j]
        unfold more
        split
        · rename_i h; exact hof j h
        · rfl
      · intro j
        rw [hget j]
        split
        · exact ho256 j
        · decide
    · rw [Below.heap_alloc w.drew _ b hblt]; exact hb
  cases ao with
  | none =>
    obtain ⟨rfl, rfl⟩ := hr
    exact grow [] (by simp [adr, run_firstCells_none, bcells]) rfl (fun j hj => by omega) (fun j => by simp) (by omega)
  | some g =>
    obtain ⟨hne, rs, hrl, hg, hnc, hf, h256⟩ := hr
    by_cases hroom : n + R ≤ cap
    · have hap := append_room w g n cap R (bcells rs) hg (by rw [bcells_size]; exact hrl) (by omega) (by omega) hroom
      have hw : (bcells rs).toList.take n ++ byteVs R (fun _ => 0) ++ (bcells rs).toList.drop (n + (byteVs R fun _ => 0).length) = (bcells (Go.Proofs.Ytnkoheanjaapjaa.lay rs n R fun _ => 0)).toList := by
        rw [← lay_cells rs n R (fun _ => 0) (byteVs R fun _ => 0) rfl]
      refine ⟨g, cap, _, hap, ?_, ?_⟩
      · refine after_mk (cap := cap) hc hkn ?_ hne (Go.Proofs.Ytnkoheanjaapjaa.lay rs n R fun _ => 0) ?_ ?_ hroom ?_ ?_ ((Kept.refl _ w).setRow (fun _ => Or.inr rfl) _) (Or.inl rfl)
        · rw [setRow_other _ _ _ _ (fun e => hne e.symm)]; exact hb
        · rw [lay_len _ _ _ _ (by omega)]; exact hrl
        · rw [setRow_heap w g _ _ _ _ hg, hw]
        · intro j hj
          rw [lay_get _ _ _ _ (by omega)]
          unfold more
          by_cases h1 : j < n
          · rw [if_neg (by omega), if_pos h1]; exact hf j h1
          · rw [if_pos (by omega), if_neg h1]
        · intro j
          rw [lay_get _ _ _ _ (by omega)]
          split
          · decide
          · exact h256 j
      · rw [setRow_other _ _ _ _ (fun e => hne e.symm)]; exact hb
    · have hlt : (rs.take n).length = n := by simp; omega
      have hgt : ∀ j, (rs.take n).getD j 0 = if j < n then rs.getD j 0 else 0 := by
        intro j
        simp only [List.getD, List.getElem?_take]
        split <;> rfl
      refine grow (rs.take n) ?_ hlt ?_ ?_ (by omega)
      · have := run_firstCells_some (P := Try.prog) w.drew i.size n ⟨g, 0, none⟩ n cap (bcells (rs.take n)).toList (by rw [hz1]; simp [bcells]; omega) ?_
        · simpa [adr] using this
        · intro j v hj
          rw [Addr.add_lit]
          simp [bcells, List.getElem?_take] at hj
          obtain ⟨hjn, x, hx, rfl⟩ := hj
          have : w.cell? ⟨g, 0 + j, none⟩ = some (.int .u8 (x : Int)) := by simp [World.cell?, hg, bcells, hx]
          exact this
      · intro j hj
        rw [hgt j, if_pos hj]; exact hf j hj
      · intro j
        rw [hgt j]
        split
        · exact h256 j
        · decide

/-- The same as one step of a region that draws. -/
theorem step_append_zeros {ops : Array Oper} {o : Oper} {a : Act} {w : World} {K : Act → World → Prop} {Q : Exit → Act → World → Prop} {E : Prop} (hgd : o.guard = none) (s x : Operand)
    (hop : o.op = Op.call { callee := Callee.builtin Builtin.append, args := #[s, x], argTypes := #[42, 27] }) (b ao base R lim n f cap) (hc : Cfg base R lim) (hkn : ∃ k, n = k * R ∧ k + 1 ≤ lim)
    (hb : w.heap[b]? = some (.cells #[.int .u64 (base : Int), .int .u64 (R : Int), .int .i64 (lim : Int), .slice (adr ao) n cap] 88 (0, 0))) (hr : RowAt w b ao n cap f)
    (hs : a.eval s = .slice (adr ao) n cap) (hx : a.eval x = .int .u64 (R : Int))
    (hK : ∀ g' cap' w', Hid (After w w' b ao g' cap' base R lim n f) → w'.cell? ⟨b, 3, none⟩ = some (.slice (adr ao) n cap) → w'.frozen? ⟨b, 3, none⟩ = false → K (a.put o.dst (.slice (some ⟨g', 0, none⟩) (n + R) cap')) w') :
    if Region.wanted o (yielded ops a.tmps) = true then Oper.wp Try.prog o a w K Q else E := by
  have hw : Region.wanted o (yielded ops a.tmps) = true := by simp [Region.wanted, hgd]
  rw [if_pos hw]
  obtain ⟨g', cap', w', hrun, hA, hb'⟩ := append_zeros w b ao base R lim n f cap hc hkn hb hr
  have hrun := hrun o.type
  unfold Oper.wp
  simp [execOp, hop, resolve, invoke, builtin, hs, hx, hrun, Result.andThen]
  exact hK g' cap' w' hA (by simp [World.cell?, hb']) (by simp [World.frozen?, hb'])
end Go.Proofs.Ytnkoheanjaapjaa
