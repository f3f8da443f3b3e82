import Derived.Test.YtcgbefmjnhkdgaaXw
import Derived.ArgAppend
import Derived.Laws.OwnMore
import Derived.Maps.AppendAt
import Derived.Lib.AppendZeros
import Derived.Deep.Upon
set_option maxRecDepth 1000000
set_option maxHeartbeats 80000000
/- Rows of blocks that grow. (Written by mk9z.py off stages 4, 5, 8.) -/
namespace Go.Proofs.Ytcgbefmjnhkdgaa
open Go.RowKit
set_option linter.unusedVariables false

/-- A row that grows, since w0: it is newer than w0. -/
structure GS (w0 W : World) (e : TypeId) (size : Nat) (v : Value) (n : Nat) (xs : List Value) : Prop where
  own : W.ownsRow 0 e size v n xs
  new : ∀ g cap, v = .slice (some ⟨g, 0, none⟩) n cap → w0.heap.size ≤ g
  kp : Kept none' w0 W
theorem grown_kept' {w w' : World} {row : Option Nat} (h : w.grownBy w' row) : Kept (fun b => row = some b) w w' := ⟨h.os, h.tape, h.output, h.size, fun k hk hn => h.block k hk (fun e => hn e.symm)⟩
theorem GS.nil (w0 W : World) (e : TypeId) (size : Nat) (k : Kept none' w0 W) : GS w0 W e size (.slice none 0 0) 0 [] :=
  ⟨World.ownsRow_nil _ _ _ _, fun g cap h => by simp at h, k⟩
theorem GS.keep {w0 W W' e size v n xs} (h : GS w0 W e size v n xs) (k : Kept none' W W') : GS w0 W' e size v n xs := by
  refine ⟨⟨h.own.1, ?_⟩, h.new, none_trans h.kp k⟩
  rcases h.own.2 with h0 | ⟨g, cap, cur, rfl, hb, hg, h3⟩
  · exact .inl h0
  · exact .inr ⟨g, cap, cur, rfl, hb, (k.block g (heap_lt hg) (fun x => x)).trans hg, h3⟩
theorem cells_new {w : World} {cs : Array Value} {t : TypeId} (j : Nat) (u : Value) (h : cs.toList[j]? = some u) : (w.alloc (.cells cs t)).cell? (Addr.add ⟨w.heap.size, 0, none⟩ j) = some u := by
  rw [Addr.add_lit, Nat.zero_add]
  have := heap_new w (.cells cs t)
  simp only [World.cell?, this]
  rw [← Array.getElem?_toList, h]
  rfl
theorem own_val {W : World} {b : Nat} {e : TypeId} {size : Nat} {v : Value} {n : Nat} {xs : List Value} (h : W.ownsRow b e size v n xs) : ∃ va vc, v = .slice va n vc := by
  rcases h.2 with ⟨h0, h1⟩ | ⟨g, cap, cur, h0, _⟩
  · exact ⟨none, 0, by rw [h0, h1]⟩
  · exact ⟨_, _, h0⟩
abbrev bkO (a s : Nat) : Obj := .cells #[.int .u64 (a : Int), .int .u64 (s : Int)] 42
theorem GS.pushM {w0 W : World} {e : TypeId} {size : Nat} {v : Value} {n : Nat} {xs : List Value} (h : GS w0 W e size v n xs) (t : TypeId) (i : TypeInfo) (z : Value) (bytes : Nat)
    (ht : Try.prog.underlying t = some (.slice e)) (hi : Try.prog.info? e = some i) (hz : i.zero = some z) (hs : i.size = size) (hby : i.bytes = bytes) (hzs : z.cells.size = size) (hsz : 0 < size)
    (a : Addr) (c m : Nat) (hm : 0 < m) (news : List Value) (hl' : news.length = m * size) (hnews : ∀ j u, news[j]? = some u → W.cell? (a.add j) = some u) (h1 : ∀ u ∈ news, u.oneCell' = true) (h63 : n + m ≤ maxLen) (hbb : (n + m) * bytes ≤ 140737488355328) :
    ∃ g cap w', (∀ ty, (Builtin.append_ #[t, t] ty #[v, .slice (some a) m c]).run Try.prog W = .ok (.slice (some ⟨g, 0, none⟩) (n + m) cap) w') ∧ GS w0 w' e size (.slice (some ⟨g, 0, none⟩) (n + m) cap) (n + m) (xs ++ news) ∧ w0.heap.size ≤ g ∧ Kept (fun b => v.ownBlock = some b) W w' ∧ (v.ownBlock = some g ∨ W.heap.size ≤ g) := by
  have ho := h.own
  by_cases hr : ∃ g cap, v = .slice (some ⟨g, 0, none⟩) n cap ∧ n + m ≤ cap
  · obtain ⟨g, cap, rfl, hroom⟩ := hr
    obtain ⟨w', hrun, hown, hgr⟩ := run_append_fits (P := Try.prog) W 0 t 0 e i size ht hi hs g n cap xs ho a m c news hl' hnews h1 hroom
    have hg := h.new g cap rfl
    have hk := grown_kept' hgr
    refine ⟨g, cap, w', fun ty => ?_, ⟨hown, fun g' cap' e => ?_, h.kp.trans hk (fun _ _ x => x) (fun x hx e => ?_)⟩, hg, hk, .inl (by simp [Value.ownBlock])⟩
    · rw [← hrun]; simp [Builtin.append_]
    · simp at e; omega
    · cases e; omega
  · have key : ∃ v' w', (Builtin.append_ #[t, t] 0 #[v, .slice (some a) m c]).run Try.prog W = .ok v' w' ∧ w'.ownsRow W.heap.size e size v' (n + m) (xs ++ news) ∧ Kept none' W w' := by
      rcases ho.2 with ⟨rfl, h0⟩ | ⟨g, cap, cur, rfl, hb, hg, hnc, hcm, hcs, htake⟩
      · subst h0
        have : xs = [] := List.eq_nil_of_length_eq_zero (by rw [ho.1, Nat.zero_mul])
        subst this
        obtain ⟨v', w', hrun, hown, hgr, _⟩ := run_append_own (P := Try.prog) W W.heap.size t 0 e i z size bytes ht hi hz hs hby hzs hsz (.slice none 0 0) 0 [] (World.ownsRow_nil _ _ _ _) a m c news hl' hnews h1 h63 hbb (Nat.le_refl _)
        exact ⟨v', w', hrun, hown, (grown_kept' hgr).mono (fun _ _ e => by cases e)⟩
      · obtain ⟨v', w', hrun, hown, hgr⟩ := run_append_arg_grows (P := Try.prog) W t 0 e i z size bytes ht hi hz hs hby hzs hsz ⟨g, 0, none⟩ n cap xs ho.1 (fun j u hj => by
          rw [Addr.add_lit, Nat.zero_add]
          rw [← htake, List.getElem?_take] at hj
          split at hj
          · simp only [World.cell?, hg]
            rw [← Array.getElem?_toList, hj]
            rfl
          · cases hj) a m c news hl' hnews (Nat.lt_of_not_le fun hle => hr ⟨g, cap, rfl, hle⟩) h63 hbb
        exact ⟨v', w', hrun, hown, (grown_kept' hgr).mono (fun _ _ e => by cases e)⟩
    obtain ⟨v', w', hrun, hown, hk⟩ := key
    rcases hown.2 with ⟨_, h0⟩ | ⟨g, cap, cur, rfl, hb, hg, h3⟩
    · omega
    · refine ⟨g, cap, w', fun ty => ?_, ⟨⟨hown.1, .inr ⟨g, cap, cur, rfl, Nat.zero_le _, hg, h3⟩⟩, fun g' cap' e => ?_, none_trans h.kp hk⟩, Nat.le_trans h.kp.size hb, hk.mono (fun _ _ e => e.elim), .inr hb⟩
      · rw [← hrun]; simp [Builtin.append_]
      · simp at e
        have := h.kp.size
        omega
/-- Blocks as the cells of a row. -/
def blV : List (Nat × Nat) → List Value
  | [] => []
  | b :: l => .int .u64 (b.1 : Int) :: .int .u64 (b.2 : Int) :: blV l
theorem blV_app : ∀ l m : List (Nat × Nat), blV (l ++ m) = blV l ++ blV m
  | [], _ => rfl
  | b :: l, m => by
    show _ :: _ :: blV (l ++ m) = _
    rw [blV_app l m]
    rfl
theorem blV_len : ∀ l : List (Nat × Nat), (blV l).length = l.length * 2
  | [] => rfl
  | b :: l => by
    show (blV l).length + 1 + 1 = (l.length + 1) * 2
    rw [blV_len l]
    omega
theorem blV_one : ∀ (l : List (Nat × Nat)) (u : Value), u ∈ blV l → u.oneCell' = true
  | b :: l, u, h => by
    rcases List.mem_cons.1 h with rfl | h
    · rfl
    · rcases List.mem_cons.1 h with rfl | h
      · rfl
      · exact blV_one l u h
theorem info_blk : (Try.prog.info? 42).map (fun i => (i.zero, i.size, i.bytes)) = some (some (.agg #[.int .u64 0, .int .u64 0]), 2, 16) := by kernel_rfl
/-- A row of blocks. -/
abbrev GB (w0 W : World) (v : Value) (l : List (Nat × Nat)) : Prop := GS w0 W 42 2 v l.length (blV l)
theorem GB.push {w0 W : World} {v : Value} {l : List (Nat × Nat)} (h : GB w0 W v l) (a s : Nat) (hn : l.length ≤ 4000000) :
    ∃ g cap w', (∀ t, (Builtin.append_ #[34, 34] t #[v, .slice (some ⟨W.heap.size, 0, none⟩) 1 1]).run Try.prog (W.alloc (bkO a s)) = .ok (.slice (some ⟨g, 0, none⟩) (l.length + 1) cap) w') ∧ GB w0 w' (.slice (some ⟨g, 0, none⟩) (l.length + 1) cap) (l ++ [(a, s)]) ∧ Kept (fun b => v.ownBlock = some b) W w' := by
  obtain ⟨i, hi, hzz⟩ := Option.map_eq_some_iff.1 info_blk
  simp only [Prod.mk.injEq] at hzz
  have ka := (Kept.refl none' W).alloc (bkO a s)
  obtain ⟨g, cap, w', h1, h2, h5, h6, h7⟩ := (GS.keep h ka).pushM 34 i (.agg #[.int .u64 0, .int .u64 0]) 16 Try.underlying34 hi hzz.1 hzz.2.1 hzz.2.2 rfl (by decide) ⟨W.heap.size, 0, none⟩ 1 1 (by decide) [.int .u64 (a : Int), .int .u64 (s : Int)] rfl (fun j u hj => cells_new (cs := #[.int .u64 (a : Int), .int .u64 (s : Int)]) j u hj) (by simp [Value.oneCell']) (by simp only [maxLen]; omega) (by omega)
  refine ⟨g, cap, w', h1, ?_, ka.trans h6 (fun _ _ e => e.elim) (fun _ _ e => e)⟩
  show GS _ _ _ _ _ (l ++ [(a, s)]).length (blV (l ++ [(a, s)]))
  rw [blV_app, List.length_append]
  exact h2
theorem GB.pushL {w0 W : World} {v u : Value} {l m : List (Nat × Nat)} (h : GB w0 W v l) (hu : W.ownsRow 0 42 2 u m.length (blV m)) (hn : l.length ≤ 4000000) (hm : m.length ≤ 4000000) :
    ∃ v' w', (∀ t, (Builtin.append_ #[34, 34] t #[v, u]).run Try.prog W = .ok v' w') ∧ GB w0 w' v' (l ++ m) ∧ Kept (fun b => v.ownBlock = some b) W w' := by
  obtain ⟨i, hi, hzz⟩ := Option.map_eq_some_iff.1 info_blk
  simp only [Prod.mk.injEq] at hzz
  rcases hu.2 with ⟨rfl, h0⟩ | ⟨g, cap, cur, rfl, hb, hg, hnc, hcm, hcs, htake⟩
  · obtain rfl := List.eq_nil_of_length_eq_zero h0
    refine ⟨v, W, fun t => ?_, by rw [List.append_nil]; exact h, Kept.refl _ _⟩
    exact run_append_owned_none W 0 34 t 42 i 2 Try.underlying34 hi v _ _ h.own
  · rcases Nat.eq_zero_or_pos m.length with h0 | h0
    · obtain rfl := List.eq_nil_of_length_eq_zero h0
      refine ⟨v, W, fun t => ?_, by rw [List.append_nil]; exact h, Kept.refl _ _⟩
      obtain ⟨va, vc, rfl⟩ := own_val h.own
      have hle : l.length ≤ vc := by
        rcases h.own.2 with ⟨e, _⟩ | ⟨g', cap', cur', e, _, hg', hnc', _⟩
        · simp at e
          omega
        · simp at e
          omega
      exact run_append_nothing W 34 34 t 42 i Try.underlying34 hi va l.length vc hle _ (Src.ofSlice W Try.underlying34 ⟨g, 0, none⟩ 0 cap [] (by simp) (fun j u hj => by simp at hj) (fun u hu => by simp at hu))
    · obtain ⟨g2, cap2, w', h1, h2, h5, h6, h7⟩ := GS.pushM h 34 i (.agg #[.int .u64 0, .int .u64 0]) 16 Try.underlying34 hi hzz.1 hzz.2.1 hzz.2.2 rfl (by decide) ⟨g, 0, none⟩ cap m.length h0 (blV m) (blV_len m) (fun j u hj => by
          rw [Addr.add_lit, Nat.zero_add]
          rw [← htake, List.getElem?_take] at hj
          split at hj
          · simp only [World.cell?, hg]
            rw [← Array.getElem?_toList, hj]
            rfl
          · cases hj) (blV_one m) (by simp only [maxLen]; omega) (by omega)
      refine ⟨_, w', h1, ?_, h6⟩
      show GS _ _ _ _ _ (l ++ m).length (blV (l ++ m))
      rw [blV_app, List.length_append]
      exact h2
theorem step_pushB {ops : Array Oper} {o : Oper} {a : Act} {K : Act → World → Prop} {Q : Exit → Act → World → Prop} {E : Prop} {W w' : World} {v u v' : Value}
    (hgd : o.guard = none) (s x : Operand) (hop : o.op = .call { callee := .builtin .append, args := #[s, x], argTypes := #[34, 34] })
    (hs : a.eval s = v) (hx : a.eval x = u) (hrun : ∀ t, (Builtin.append_ #[34, 34] t #[v, u]).run Try.prog W = .ok v' w') (h : K (a.put o.dst v') w') :
    if Region.wanted o (yielded ops a.tmps) = true then Oper.wp Try.prog o a W K Q else E := by
  have hw : Region.wanted o (yielded ops a.tmps) = true := by simp [Region.wanted, hgd]
  rw [if_pos hw]
  exact Lib.wp_append_run W s x _ _ hop _ _ hs hx _ _ (hrun _) h
end Go.Proofs.Ytcgbefmjnhkdgaa
/- walk.liveCells. -/
namespace Go.Proofs.Ytcgbefmjnhkdgaa
open Go.RowKit
set_option linter.unusedVariables false

/-- The live cells of a page whose number is below j. -/
def ceB (base g sz : Nat) (ws : List Nat) : Nat → List (Nat × Nat)
  | 0 => []
  | j + 1 => if bit ws j = true then ceB base g sz ws j ++ [(base + g * 4096 + j * sz, sz)] else ceB base g sz ws j
theorem ceB_len (base g sz : Nat) (ws : List Nat) : ∀ j, (ceB base g sz ws j).length ≤ j
  | 0 => Nat.le_refl _
  | j + 1 => by
    have := ceB_len base g sz ws j
    unfold ceB
    split
    · rw [List.length_append]; exact Nat.succ_le_succ this
    · omega
theorem ceB_none (base g sz : Nat) (ws : List Nat) (k : Nat) : ∀ d, (∀ j, k ≤ j → j < k + d → bit ws j = false) → ceB base g sz ws (k + d) = ceB base g sz ws k
  | 0, _ => rfl
  | d + 1, h => by
    have e := ceB_none base g sz ws k d (fun j h1 h2 => h j h1 (by omega))
    show ceB base g sz ws (k + d + 1) = _
    rw [ceB, if_neg (by rw [h (k + d) (by omega) (by omega)]; decide), e]
theorem ceB_congr (base g sz : Nat) {ws zs : List Nat} : ∀ n, (∀ j, j < n → bit ws j = bit zs j) → ceB base g sz ws n = ceB base g sz zs n
  | 0, _ => rfl
  | n + 1, h => by
    have e := ceB_congr base g sz n (fun j hj => h j (by omega))
    unfold ceB
    rw [h n (by omega), e]
theorem nxtN_of {n : Nat} {ws : List Nat} {k : Nat} : (nxtN n ws k = -1 ∧ ∀ j, k ≤ j → j < n → bit ws j = false) ∨ ∃ j : Nat, nxtN n ws k = (j : Int) ∧ k ≤ j ∧ j < n ∧ bit ws j = true ∧ ∀ i, k ≤ i → i < j → bit ws i = false := by
  cases h : (List.range n).find? (fun j => decide (k ≤ j) && bit ws j) with
  | none =>
    refine .inl ⟨by unfold nxtN; rw [h], fun j h1 h2 => ?_⟩
    have := List.find?_eq_none.1 h j (List.mem_range.2 h2)
    cases hb : bit ws j with
    | false => rfl
    | true => exact absurd (by simp [h1, hb]) this
  | some j =>
    have h' := h
    rw [List.find?_range_eq_some] at h'
    obtain ⟨g1, g2, g3⟩ := h'
    simp only [Bool.and_eq_true, decide_eq_true_eq] at g1
    refine .inr ⟨j, by unfold nxtN; rw [h], g1.1, List.mem_range.1 g2, g1.2, fun i h1 h2 => ?_⟩
    have := g3 i h2
    simp only [Bool.not_eq_true', Bool.and_eq_false_iff, decide_eq_false_iff_not] at this
    rcases this with h | h
    · omega
    · exact h
theorem nxtN_less {n : Nat} {ws : List Nat} {j : Nat} : (if nxtN n ws (j + 1) = -1 then 0 else 4097 - (nxtN n ws (j + 1)).toNat) < 4097 - j ∨ 4096 < j ∨ 4096 < n := by
  rcases nxtN_of (n := n) (ws := ws) (k := j + 1) with ⟨h1, -⟩ | ⟨i, h1, h2, h3, -⟩
  · rw [h1, if_pos rfl]; omega
  · rw [h1, if_neg (by omega), Int.toNat_natCast]; omega

set_option maxRecDepth 6000 in
set_option maxHeartbeats 8000000 in
theorem liveCells_any (b : Nat) (I : Img) (V : ImV) (k r : Nat) (hS : Sn9 I k r) (g c : Nat) (hg : g < I.np) (hc : (I.pg g).cl = (c : Int)) (h7 : c ≤ 7) (w : World) (hI : ImAt w b I V) :
    Calls Try.prog 20 #[.pointer (some ⟨b, 0, none⟩), .int .i64 (g : Int)] w fun e w' => ∃ v, e = .returned v ∧ GB w w' v (ceB I.base g (16 * 2 ^ c) (wsP (I.pg g)) (celN9 c)) := by
  obtain ⟨-, ⟨pa, pc, hp⟩, -, -, -, -, bp, -, -⟩ := hI.d.sl
  obtain ⟨c0, c1, c2, c3, c4, c5, c6, c7, c8⟩ := hI.cells
  rw [hp] at c5
  obtain ⟨bl, o, oc', hv', hpi, hpc⟩ := hI.page g hg
  rw [hp] at hv'
  injection hv' with e1 e2 e3
  subst e1
  obtain ⟨hca, hs1, hs2⟩ := cel_all c h7
  have hcb := celN9_b c h7
  have hnm := hS.nm
  have hbe := hS.be
  have hnp := hS.np1
  have HLS := hid (fun W => liveSet_any (I.pg g) c hc h7 hpi W)
  have HAD := hid (fun W (hW : Kept none' w W) => address_any b I V g W (hI.keep hW) (by omega))
  have HSZ := hid (fun W => cellSize_any (I.pg g) c hc h7 W)
  obtain ⟨sz, hsz⟩ : ∃ sz, sz = 16 * 2 ^ c := ⟨_, rfl⟩
  obtain ⟨a0, ha0⟩ : ∃ a0, a0 = I.base + g * 4096 := ⟨_, rfl⟩
  rw [← hsz] at hca hs1 hs2 HSZ ⊢
  rw [← ha0] at HAD
  have hab : a0 + 4096 ≤ 9223372036854775808 := by omega
  obtain ⟨cn, hcn⟩ : ∃ cn, cn = celN9 c := ⟨_, rfl⟩
  rw [← hcn] at hca hcb HLS ⊢
  have CE := hid (show ∀ j, ceB I.base g sz (wsP (I.pg g)) (j + 1) = if bit (wsP (I.pg g)) j = true then ceB I.base g sz (wsP (I.pg g)) j ++ [(a0 + j * sz, sz)] else ceB I.base g sz (wsP (I.pg g)) j from fun j => by rw [ha0]; rfl)
  have CL := hid (fun j => ceB_len I.base g sz (wsP (I.pg g)) j)
  have CN := hid (fun k d => ceB_none I.base g sz (wsP (I.pg g)) k d)
  have hf0 : ceB I.base g sz (wsP (I.pg g)) 0 = [] := rfl
  generalize hff : ceB I.base g sz (wsP (I.pg g)) = f at *
  have HM := hid (show ∀ j, j < cn → j * sz + sz ≤ 4096 from fun j hj => by
    have : (j + 1) * sz ≤ cn * sz := Nat.mul_le_mul_right _ hj
    rw [Nat.add_mul, Nat.one_mul, hca] at this
    exact this)
  have PB := hid (PbI.mk' (w := w) hI (Kept.refl _ w) (I.pg g))
  obtain ⟨d0, d1, d2, d3, d4, d5, d6, d7, d8, d9, d10⟩ := hpc.c
  obtain ⟨n, hn⟩ : ∃ n, n = I.np := ⟨_, rfl⟩
  rw [← hn] at c5
  have hgn : (g : Int) < (n : Int) := by omega
  have hgl : g ≤ 1024 := by omega
  generalize hpp : I.pg g = p at *
  clear hI hp hpi hpc e2 e3 hn hc bp hpp hff hsz ha0 hcn hS hnm hbe hca
  go_enter Try.func20, Try.ntmps20
  go_wp2_with fail
  generalize w.alloc (pgO p) = W1 at *
  generalize w.heap.size = gb at *
  clear d0 d1 d2 d3 d4 d5 d6 d7 d8 d9 d10 c0 c1 c2 c3 c4 c5 c6 c7 c8
  refine (HLS.out W1).mono ?_
  rintro e w2 ⟨sb, sc, ws, rfl, hst, hg1, hg2, hbt, hk2⟩
  have PB2 := hid (PB.out.keep hk2)
  have ST := hid hst
  have BT := hid hbt
  have HNX := hid (fun (x : Nat) (hx : x ≤ 4096) (W : World) (hW : Kept none' w2 W) => next_any sb sc cn ws (x : Int) (by omega) W (hst.kept hW (fun x => x) (fun x => x)))
  have HNB := hid (show ∀ x : Nat, nxt cn ws (x : Int) = nxtN cn ws x from fun x => by unfold nxt; rw [Int.toNat_natCast])
  clear hst hg1 hg2 hbt hk2
  have NX0 := hid (HNX.out 0 (by decide) w2 (Kept.refl _ _))
  rw [HNB.out 0] at NX0
  go_wp2_with fail
  refine NX0.out.mono ?_
  rintro e w3 ⟨rfl, rfl⟩
  clear NX0
  go_wp2_with fail
  go_loopw [5, 8] (fun lv xv W => ∃ (x : Int) (q : Nat), xv = .int .i64 x ∧ Hid (q ≤ cn ∧ x = nxtN cn ws q ∧ GB w3 W lv (f q))) (fun _ xv _ => if (intOf xv) = -1 then 0 else 4097 - (intOf xv).toNat)
  case atStart => exact ⟨_, 0, rfl, hid ⟨Nat.zero_le _, rfl, by rw [hf0]; exact GS.nil _ _ _ _ (Kept.refl _ _)⟩⟩
  case round =>
    obtain ⟨x, q, rfl, hG⟩ := hrel
    obtain ⟨hq, hx, hgb⟩ := hG.out
    obtain ⟨va, vc, hva⟩ := own_val hgb.own
    rcases nxtN_of (n := cn) (ws := ws) (k := q) with ⟨h1, h2⟩ | ⟨j, h1, h2, h3, h4, h5⟩
    · have hx1 : (x != -1) = false := by rw [hx, h1]; rfl
      have FIN := hid (show f cn = f q by
        obtain ⟨d, rfl⟩ : ∃ d, cn = q + d := ⟨cn - q, by omega⟩
        exact CN.out q d (fun j hj1 hj2 => by rw [← BT.out j hj2]; exact h2 j hj1 hj2))
      have G9 := hid hgb
      clear hx h1 h2 hgb
      subst hva
      go_wp2_with fail
      go_ret
      refine ⟨_, rfl, ?_⟩
      rw [FIN.out]
      refine ⟨G9.out.own, fun g' cap' e => ?_, none_trans PB2.out.k G9.out.kp⟩
      exact Nat.le_trans PB2.out.k.size (G9.out.new g' cap' e)
    · have hxj : x = (j : Int) := by rw [hx, h1]
      subst hxj
      have hx1 : ((j : Int) != -1) = true := by rw [bne_iff_ne]; omega
      have ce : f (j + 1) = f q ++ [(a0 + j * sz, sz)] := by
        rw [CE.out j, if_pos (by rw [← BT.out j h3]; exact h4)]
        obtain ⟨d, rfl⟩ : ∃ d, j = q + d := ⟨j - q, by omega⟩
        rw [CN.out q d (fun i hi1 hi2 => by rw [← BT.out i (by omega)]; exact h5 i hi1 hi2)]
      have hm := HM.out j h3
      obtain ⟨m, hm2⟩ : ∃ m, m = j * sz := ⟨_, rfl⟩
      rw [← hm2] at ce hm
      have hmi : (j : Int) * (sz : Int) = (m : Int) := by rw [hm2]; simp
      have hj256 : j < 256 := by omega
      have LEN := hid (show (f q).length ≤ 4000000 by have := CL.out q; omega)
      have PB3 := hid (PB2.out.keep hgb.kp)
      have GQ := hid hgb
      have CEE := hid ce
      have J3 := hid h3
      have HADx := hid (fun (y : KW wr) => HAD.out y.v (none_trans PB3.out.k y.k))
      obtain ⟨p0, p1, p2, p3, p4, p5, p6, p7, p8, p9, p10⟩ := PB3.out.all
      clear hx h1 h2 h3 h4 h5 hgb ce hm2
      subst hva
      go_wp2_with fail
      refine wp_region_kept (by kernel_rfl) (by kernel_rfl) ?_
      repeat (go_big_quiet_step (first | (go_at_call 19; exact Calls.kept_of ((HADx.out _).mono fun _ _ ⟨h1, h2⟩ => ⟨h1, h2 ▸ Kept.refl _ _⟩)) | (go_at_call 32; exact Calls.kept_of (HSZ.out _))))
      refine wpQuiet_nil ?_
      intro y
      go_wp2_with fail
      refine (HSZ.out _).mono ?_
      rintro e w4 ⟨rfl, hk4⟩
      have K4 := hid (none_trans y.k hk4)
      clear hk4 p0 p1 p2 p3 p4 p5 p6 p7 p8 p9 p10
      obtain ⟨ad, had⟩ : ∃ ad, ad = a0 + m := ⟨_, rfl⟩
      have hadi : (a0 : Int) + (m : Int) = (ad : Int) := by omega
      have G4 := hid (GS.keep GQ.out K4.out)
      obtain ⟨gg, cap, w5, PU, G5, -⟩ := GB.push G4.out ad sz LEN.out
      rw [had, ← CEE.out] at G5
      have G5 := hid G5
      have HAP := hid PU
      obtain ⟨j1, hj1⟩ : ∃ j1, j1 = j + 1 := ⟨_, rfl⟩
      have hji : (j : Int) + 1 = (j1 : Int) := by omega
      rw [← hj1] at G5
      have NX1 := hid (HNX.out j1 (by omega) w5 G5.out.kp)
      rw [HNB.out j1] at NX1
      have J1 := hid (show j1 = j + 1 ∧ j1 ≤ cn from ⟨hj1, by have := J3.out; omega⟩)
      clear PU had hj1
      rw [hadi]
      go_wp2_with (at_builtin; refine Lib.wpList_append_run _ rfl _ _ _ _ rfl _ (.slice (some ⟨w4.heap.size, 0, none⟩) 1 1) rfl rfl _ _ (HAP.out _) ?_)
      refine NX1.out.mono ?_
      rintro e w6 ⟨rfl, rfl⟩
      have MS := hid (show (if nxtN cn ws j1 = -1 then 0 else 4097 - (nxtN cn ws j1).toNat) < 4097 - j by
        have h := nxtN_less (n := cn) (ws := ws) (j := j)
        rw [← J1.out.1] at h
        omega)
      clear NX1
      go_wp2_with fail
      go_round
      case rel => exact ⟨_, j1, rfl, hid ⟨J1.out.2, rfl, G5.out⟩⟩
      case measure =>
        have h1 : ¬ (j : Int) = -1 := by omega
        have := MS.out
        by_cases e : nxtN cn ws j1 = -1
        · simp only [e, if_true] at this
          simp [intOf, h1, e]; omega
        · simp only [e, if_false] at this
          simp [intOf, h1, e]; omega
end Go.Proofs.Ytcgbefmjnhkdgaa
