import Derived.Test.YthjokkihlodapaaGreatXn
import Derived.ArgAppend
import Derived.Laws.OwnMore
import Derived.Maps.AppendAt
import Derived.Lib.AppendZeros
import Derived.Deep.Upon
set_option maxRecDepth 1000000
set_option maxHeartbeats 80000000
/- Rows of blocks that grow. (Written by mk9z.py off stages 4, 5, 8.) -/
namespace Go.Proofs.YthjokkihlodapaaGreat
open Go.RowKit
set_option linter.unusedVariables false

/-- A row that grows, since w0: it is newer than w0. -/
structure GS (w0 W : World) (e : TypeId) (size : Nat) (v : Value) (n : Nat) (xs : List Value) : Prop where
  own : W.ownsRow 0 e size v n xs
  new : ∀ g cap, v = .slice (some ⟨g, 0, none⟩) n cap → w0.heap.size ≤ g
  kp : Kept none' w0 W
theorem grown_kept' {w w' : World} {row : Option Nat} (h : w.grownBy w' row) : Kept (fun b => row = some b) w w' := ⟨h.os, h.tape, h.output, h.size, fun k hk hn => h.block k hk (fun e => hn e.symm)⟩
theorem GS.nil (w0 W : World) (e : TypeId) (size : Nat) (k : Kept none' w0 W) : GS w0 W e size (.slice none 0 0) 0 [] :=
  ⟨World.ownsRow_nil _ _ _ _, fun g cap h => by simp at h, k⟩
theorem GS.keep {w0 W W' e size v n xs} (h : GS w0 W e size v n xs) (k : Kept none' W W') : GS w0 W' e size v n xs := by
  refine ⟨⟨h.own.1, ?_⟩, h.new, none_trans h.kp k⟩
  rcases h.own.2 with h0 | ⟨g, cap, cur, rfl, hb, hg, h3⟩
  · exact .inl h0
  · exact .inr ⟨g, cap, cur, rfl, hb, (k.block g (heap_lt hg) (fun x => x)).trans hg, h3⟩
theorem cells_new {w : World} {cs : Array Value} {t : TypeId} (j : Nat) (u : Value) (h : cs.toList[j]? = some u) : (w.alloc (.cells cs t)).cell? (Addr.add ⟨w.heap.size, 0, none⟩ j) = some u := by
  rw [Addr.add_lit, Nat.zero_add]
  have := heap_new w (.cells cs t)
  simp only [World.cell?, this]
  rw [← Array.getElem?_toList, h]
  rfl
theorem own_val {W : World} {b : Nat} {e : TypeId} {size : Nat} {v : Value} {n : Nat} {xs : List Value} (h : W.ownsRow b e size v n xs) : ∃ va vc, v = .slice va n vc := by
  rcases h.2 with ⟨h0, h1⟩ | ⟨g, cap, cur, h0, _⟩
  · exact ⟨none, 0, by rw [h0, h1]⟩
  · exact ⟨_, _, h0⟩
abbrev bkO (a s : Nat) : Obj := .cells #[.int .u64 (a : Int), .int .u64 (s : Int)] 49
theorem GS.pushM {w0 W : World} {e : TypeId} {size : Nat} {v : Value} {n : Nat} {xs : List Value} (h : GS w0 W e size v n xs) (t : TypeId) (i : TypeInfo) (z : Value) (bytes : Nat)
    (ht : Tryz.prog.underlying t = some (.slice e)) (hi : Tryz.prog.info? e = some i) (hz : i.zero = some z) (hs : i.size = size) (hby : i.bytes = bytes) (hzs : z.cells.size = size) (hsz : 0 < size)
    (a : Addr) (c m : Nat) (hm : 0 < m) (news : List Value) (hl' : news.length = m * size) (hnews : ∀ j u, news[j]? = some u → W.cell? (a.add j) = some u) (h1 : ∀ u ∈ news, u.oneCell' = true) (h63 : n + m ≤ maxLen) (hbb : (n + m) * bytes ≤ 140737488355328) :
    ∃ g cap w', (∀ ty, (Builtin.append_ #[t, t] ty #[v, .slice (some a) m c]).run Tryz.prog W = .ok (.slice (some ⟨g, 0, none⟩) (n + m) cap) w') ∧ GS w0 w' e size (.slice (some ⟨g, 0, none⟩) (n + m) cap) (n + m) (xs ++ news) ∧ w0.heap.size ≤ g ∧ Kept (fun b => v.ownBlock = some b) W w' ∧ (v.ownBlock = some g ∨ W.heap.size ≤ g) := by
  have ho := h.own
  by_cases hr : ∃ g cap, v = .slice (some ⟨g, 0, none⟩) n cap ∧ n + m ≤ cap
  · obtain ⟨g, cap, rfl, hroom⟩ := hr
    obtain ⟨w', hrun, hown, hgr⟩ := run_append_fits (P := Tryz.prog) W 0 t 0 e i size ht hi hs g n cap xs ho a m c news hl' hnews h1 hroom
    have hg := h.new g cap rfl
    have hk := grown_kept' hgr
    refine ⟨g, cap, w', fun ty => ?_, ⟨hown, fun g' cap' e => ?_, h.kp.trans hk (fun _ _ x => x) (fun x hx e => ?_)⟩, hg, hk, .inl (by simp [Value.ownBlock])⟩
    · rw [← hrun]; simp [Builtin.append_]
    · simp at e; omega
    · cases e; omega
  · have key : ∃ v' w', (Builtin.append_ #[t, t] 0 #[v, .slice (some a) m c]).run Tryz.prog W = .ok v' w' ∧ w'.ownsRow W.heap.size e size v' (n + m) (xs ++ news) ∧ Kept none' W w' := by
      rcases ho.2 with ⟨rfl, h0⟩ | ⟨g, cap, cur, rfl, hb, hg, hnc, hcm, hcs, htake⟩
      · subst h0
        have : xs = [] := List.eq_nil_of_length_eq_zero (by rw [ho.1, Nat.zero_mul])
        subst this
        obtain ⟨v', w', hrun, hown, hgr, _⟩ := run_append_own (P := Tryz.prog) W W.heap.size t 0 e i z size bytes ht hi hz hs hby hzs hsz (.slice none 0 0) 0 [] (World.ownsRow_nil _ _ _ _) a m c news hl' hnews h1 h63 hbb (Nat.le_refl _)
        exact ⟨v', w', hrun, hown, (grown_kept' hgr).mono (fun _ _ e => by cases e)⟩
      · obtain ⟨v', w', hrun, hown, hgr⟩ := run_append_arg_grows (P := Tryz.prog) W t 0 e i z size bytes ht hi hz hs hby hzs hsz ⟨g, 0, none⟩ n cap xs ho.1 (fun j u hj => by
          rw [Addr.add_lit, Nat.zero_add]
          rw [← htake, List.getElem?_take] at hj
          split at hj
          · simp only [World.cell?, hg]
            rw [← Array.getElem?_toList, hj]
            rfl
          · cases hj) a m c news hl' hnews (Nat.lt_of_not_le fun hle => hr ⟨g, cap, rfl, hle⟩) h63 hbb
        exact ⟨v', w', hrun, hown, (grown_kept' hgr).mono (fun _ _ e => by cases e)⟩
    obtain ⟨v', w', hrun, hown, hk⟩ := key
    rcases hown.2 with ⟨_, h0⟩ | ⟨g, cap, cur, rfl, hb, hg, h3⟩
    · omega
    · refine ⟨g, cap, w', fun ty => ?_, ⟨⟨hown.1, .inr ⟨g, cap, cur, rfl, Nat.zero_le _, hg, h3⟩⟩, fun g' cap' e => ?_, none_trans h.kp hk⟩, Nat.le_trans h.kp.size hb, hk.mono (fun _ _ e => e.elim), .inr hb⟩
      · rw [← hrun]; simp [Builtin.append_]
      · simp at e
        have := h.kp.size
        omega
/-- Blocks as the cells of a row. -/
def blV : List (Nat × Nat) → List Value
  | [] => []
  | b :: l => .int .u64 (b.1 : Int) :: .int .u64 (b.2 : Int) :: blV l
theorem blV_app : ∀ l m : List (Nat × Nat), blV (l ++ m) = blV l ++ blV m
  | [], _ => rfl
  | b :: l, m => by
    show _ :: _ :: blV (l ++ m) = _
    rw [blV_app l m]
    rfl
theorem blV_len : ∀ l : List (Nat × Nat), (blV l).length = l.length * 2
  | [] => rfl
  | b :: l => by
    show (blV l).length + 1 + 1 = (l.length + 1) * 2
    rw [blV_len l]
    omega
theorem blV_one : ∀ (l : List (Nat × Nat)) (u : Value), u ∈ blV l → u.oneCell' = true
  | b :: l, u, h => by
    rcases List.mem_cons.1 h with rfl | h
    · rfl
    · rcases List.mem_cons.1 h with rfl | h
      · rfl
      · exact blV_one l u h
theorem info_blk : (Tryz.prog.info? 49).map (fun i => (i.zero, i.size, i.bytes)) = some (some (.agg #[.int .u64 0, .int .u64 0]), 2, 16) := by kernel_rfl
/-- A row of blocks. -/
abbrev GB (w0 W : World) (v : Value) (l : List (Nat × Nat)) : Prop := GS w0 W 49 2 v l.length (blV l)
theorem GB.push {w0 W : World} {v : Value} {l : List (Nat × Nat)} (h : GB w0 W v l) (a s : Nat) (hn : l.length ≤ 4000000) :
    ∃ g cap w', (∀ t, (Builtin.append_ #[38, 38] t #[v, .slice (some ⟨W.heap.size, 0, none⟩) 1 1]).run Tryz.prog (W.alloc (bkO a s)) = .ok (.slice (some ⟨g, 0, none⟩) (l.length + 1) cap) w') ∧ GB w0 w' (.slice (some ⟨g, 0, none⟩) (l.length + 1) cap) (l ++ [(a, s)]) ∧ Kept (fun b => v.ownBlock = some b) W w' := by
  obtain ⟨i, hi, hzz⟩ := Option.map_eq_some_iff.1 info_blk
  simp only [Prod.mk.injEq] at hzz
  have ka := (Kept.refl none' W).alloc (bkO a s)
  obtain ⟨g, cap, w', h1, h2, h5, h6, h7⟩ := (GS.keep h ka).pushM 38 i (.agg #[.int .u64 0, .int .u64 0]) 16 Tryz.underlying38 hi hzz.1 hzz.2.1 hzz.2.2 rfl (by decide) ⟨W.heap.size, 0, none⟩ 1 1 (by decide) [.int .u64 (a : Int), .int .u64 (s : Int)] rfl (fun j u hj => cells_new (cs := #[.int .u64 (a : Int), .int .u64 (s : Int)]) j u hj) (by simp [Value.oneCell']) (by simp only [maxLen]; omega) (by omega)
  refine ⟨g, cap, w', h1, ?_, ka.trans h6 (fun _ _ e => e.elim) (fun _ _ e => e)⟩
  show GS _ _ _ _ _ (l ++ [(a, s)]).length (blV (l ++ [(a, s)]))
  rw [blV_app, List.length_append]
  exact h2
theorem GB.pushL {w0 W : World} {v u : Value} {l m : List (Nat × Nat)} (h : GB w0 W v l) (hu : W.ownsRow 0 49 2 u m.length (blV m)) (hn : l.length ≤ 4000000) (hm : m.length ≤ 4000000) :
    ∃ v' w', (∀ t, (Builtin.append_ #[38, 38] t #[v, u]).run Tryz.prog W = .ok v' w') ∧ GB w0 w' v' (l ++ m) ∧ Kept (fun b => v.ownBlock = some b) W w' := by
  obtain ⟨i, hi, hzz⟩ := Option.map_eq_some_iff.1 info_blk
  simp only [Prod.mk.injEq] at hzz
  rcases hu.2 with ⟨rfl, h0⟩ | ⟨g, cap, cur, rfl, hb, hg, hnc, hcm, hcs, htake⟩
  · obtain rfl := List.eq_nil_of_length_eq_zero h0
    refine ⟨v, W, fun t => ?_, by rw [List.append_nil]; exact h, Kept.refl _ _⟩
    exact run_append_owned_none W 0 38 t 49 i 2 Tryz.underlying38 hi v _ _ h.own
  · rcases Nat.eq_zero_or_pos m.length with h0 | h0
    · obtain rfl := List.eq_nil_of_length_eq_zero h0
      refine ⟨v, W, fun t => ?_, by rw [List.append_nil]; exact h, Kept.refl _ _⟩
      obtain ⟨va, vc, rfl⟩ := own_val h.own
      have hle : l.length ≤ vc := by
        rcases h.own.2 with ⟨e, _⟩ | ⟨g', cap', cur', e, _, hg', hnc', _⟩
        · simp at e
          omega
        · simp at e
          omega
      exact run_append_nothing W 38 38 t 49 i Tryz.underlying38 hi va l.length vc hle _ (Src.ofSlice W Tryz.underlying38 ⟨g, 0, none⟩ 0 cap [] (by simp) (fun j u hj => by simp at hj) (fun u hu => by simp at hu))
    · obtain ⟨g2, cap2, w', h1, h2, h5, h6, h7⟩ := GS.pushM h 38 i (.agg #[.int .u64 0, .int .u64 0]) 16 Tryz.underlying38 hi hzz.1 hzz.2.1 hzz.2.2 rfl (by decide) ⟨g, 0, none⟩ cap m.length h0 (blV m) (blV_len m) (fun j u hj => by
          rw [Addr.add_lit, Nat.zero_add]
          rw [← htake, List.getElem?_take] at hj
          split at hj
          · simp only [World.cell?, hg]
            rw [← Array.getElem?_toList, hj]
            rfl
          · cases hj) (blV_one m) (by simp only [maxLen]; omega) (by omega)
      refine ⟨_, w', h1, ?_, h6⟩
      show GS _ _ _ _ _ (l ++ m).length (blV (l ++ m))
      rw [blV_app, List.length_append]
      exact h2
theorem step_pushB {ops : Array Oper} {o : Oper} {a : Act} {K : Act → World → Prop} {Q : Exit → Act → World → Prop} {E : Prop} {W w' : World} {v u v' : Value}
    (hgd : o.guard = none) (s x : Operand) (hop : o.op = .call { callee := .builtin .append, args := #[s, x], argTypes := #[38, 38] })
    (hs : a.eval s = v) (hx : a.eval x = u) (hrun : ∀ t, (Builtin.append_ #[38, 38] t #[v, u]).run Tryz.prog W = .ok v' w') (h : K (a.put o.dst v') w') :
    if Region.wanted o (yielded ops a.tmps) = true then Oper.wp Tryz.prog o a W K Q else E := by
  have hw : Region.wanted o (yielded ops a.tmps) = true := by simp [Region.wanted, hgd]
  rw [if_pos hw]
  exact Lib.wp_append_run W s x _ _ hop _ _ hs hx _ _ (hrun _) h
end Go.Proofs.YthjokkihlodapaaGreat
/- walk.liveCells. -/
namespace Go.Proofs.YthjokkihlodapaaGreat
open Go.RowKit
set_option linter.unusedVariables false

/-- The live cells of a page whose number is below j. -/
def ceB (base g sz : Nat) (ws : List Nat) : Nat → List (Nat × Nat)
  | 0 => []
  | j + 1 => if bit ws j = true then ceB base g sz ws j ++ [(base + g * 4096 + j * sz, sz)] else ceB base g sz ws j
theorem ceB_len (base g sz : Nat) (ws : List Nat) : ∀ j, (ceB base g sz ws j).length ≤ j
  | 0 => Nat.le_refl _
  | j + 1 => by
    have := ceB_len base g sz ws j
    unfold ceB
    split
    · rw [List.length_append]; exact Nat.succ_le_succ this
    · omega
theorem ceB_none (base g sz : Nat) (ws : List Nat) (k : Nat) : ∀ d, (∀ j, k ≤ j → j < k + d → bit ws j = false) → ceB base g sz ws (k + d) = ceB base g sz ws k
  | 0, _ => rfl
  | d + 1, h => by
    have e := ceB_none base g sz ws k d (fun j h1 h2 => h j h1 (by omega))
    show ceB base g sz ws (k + d + 1) = _
    rw [ceB, if_neg (by rw [h (k + d) (by omega) (by omega)]; decide), e]
theorem ceB_congr (base g sz : Nat) {ws zs : List Nat} : ∀ n, (∀ j, j < n → bit ws j = bit zs j) → ceB base g sz ws n = ceB base g sz zs n
  | 0, _ => rfl
  | n + 1, h => by
    have e := ceB_congr base g sz n (fun j hj => h j (by omega))
    unfold ceB
    rw [h n (by omega), e]
theorem nxtN_of {n : Nat} {ws : List Nat} {k : Nat} : (nxtN n ws k = -1 ∧ ∀ j, k ≤ j → j < n → bit ws j = false) ∨ ∃ j : Nat, nxtN n ws k = (j : Int) ∧ k ≤ j ∧ j < n ∧ bit ws j = true ∧ ∀ i, k ≤ i → i < j → bit ws i = false := by
  cases h : (List.range n).find? (fun j => decide (k ≤ j) && bit ws j) with
  | none =>
    refine .inl ⟨by unfold nxtN; rw [h], fun j h1 h2 => ?_⟩
    have := List.find?_eq_none.1 h j (List.mem_range.2 h2)
    cases hb : bit ws j with
    | false => rfl
    | true => exact absurd (by simp [h1, hb]) this
  | some j =>
    have h' := h
    rw [List.find?_range_eq_some] at h'
    obtain ⟨g1, g2, g3⟩ := h'
    simp only [Bool.and_eq_true, decide_eq_true_eq] at g1
    refine .inr ⟨j, by unfold nxtN; rw [h], g1.1, List.mem_range.1 g2, g1.2, fun i h1 h2 => ?_⟩
    have := g3 i h2
    simp only [Bool.not_eq_true', Bool.and_eq_false_iff, decide_eq_false_iff_not] at this
    rcases this with h | h
    · omega
    · exact h
theorem nxtN_less {n : Nat} {ws : List Nat} {j : Nat} : (if nxtN n ws (j + 1) = -1 then 0 else 4097 - (nxtN n ws (j + 1)).toNat) < 4097 - j ∨ 4096 < j ∨ 4096 < n := by
  rcases nxtN_of (n := n) (ws := ws) (k := j + 1) with ⟨h1, -⟩ | ⟨i, h1, h2, h3, -⟩
  · rw [h1, if_pos rfl]; omega
  · rw [h1, if_neg (by omega), Int.toNat_natCast]; omega

set_option maxRecDepth 6000 in
set_option maxHeartbeats 8000000 in
theorem liveCells_any (b : Nat) (I : Img) (V : ImV) (k r : Nat) (hS : Sn9 I k r) (g c : Nat) (hg : g < I.np) (hc : (I.pg g).cl = (c : Int)) (h7 : c ≤ 7) (w : World) (hI : ImAt w b I V) :
    Calls Tryz.prog 19 #[.pointer (some ⟨b, 0, none⟩), .int .i64 (g : Int)] w fun e w' => ∃ v, e = .returned v ∧ GB w w' v (ceB I.base g (16 * 2 ^ c) (wsP (I.pg g)) (celN9 c)) := by
  obtain ⟨-, ⟨pa, pc, hp⟩, -, -, -, -, bp, -, -⟩ := hI.d.sl
  obtain ⟨c0, c1, c2, c3, c4, c5, c6, c7, c8⟩ := hI.cells
  rw [hp] at c5
  obtain ⟨bl, o, oc', hv', hpi, hpc⟩ := hI.page g hg
  rw [hp] at hv'
  injection hv' with e1 e2 e3
  subst e1
  obtain ⟨hca, hs1, hs2⟩ := cel_all c h7
  have hcb := celN9_b c h7
  have hnm := hS.nm
  have hbe := hS.be
  have hnp := hS.np1
  have HLS := hid (fun W => liveSet_any (I.pg g) c hc h7 hpi W)
  have HAD := hid (fun W (hW : Kept none' w W) => address_any b I V g W (hI.keep hW) (by omega))
  have HSZ := hid (fun W => cellSize_any (I.pg g) c hc h7 W)
  obtain ⟨sz, hsz⟩ : ∃ sz, sz = 16 * 2 ^ c := ⟨_, rfl⟩
  obtain ⟨a0, ha0⟩ : ∃ a0, a0 = I.base + g * 4096 := ⟨_, rfl⟩
  rw [← hsz] at hca hs1 hs2 HSZ ⊢
  rw [← ha0] at HAD
  have hab : a0 + 4096 ≤ 9223372036854775808 := by omega
  obtain ⟨cn, hcn⟩ : ∃ cn, cn = celN9 c := ⟨_, rfl⟩
  rw [← hcn] at hca hcb HLS ⊢
  have CE := hid (show ∀ j, ceB I.base g sz (wsP (I.pg g)) (j + 1) = if bit (wsP (I.pg g)) j = true then ceB I.base g sz (wsP (I.pg g)) j ++ [(a0 + j * sz, sz)] else ceB I.base g sz (wsP (I.pg g)) j from fun j => by rw [ha0]; rfl)
  have CL := hid (fun j => ceB_len I.base g sz (wsP (I.pg g)) j)
  have CN := hid (fun k d => ceB_none I.base g sz (wsP (I.pg g)) k d)
  have hf0 : ceB I.base g sz (wsP (I.pg g)) 0 = [] := rfl
  generalize hff : ceB I.base g sz (wsP (I.pg g)) = f at *
  have HM := hid (show ∀ j, j < cn → j * sz + sz ≤ 4096 from fun j hj => by
    have : (j + 1) * sz ≤ cn * sz := Nat.mul_le_mul_right _ hj
    rw [Nat.add_mul, Nat.one_mul, hca] at this
    exact this)
  have PB := hid (PbI.mk' (w := w) hI (Kept.refl _ w) (I.pg g))
  obtain ⟨d0, d1, d2, d3, d4, d5, d6, d7, d8, d9, d10⟩ := hpc.c
  obtain ⟨n, hn⟩ : ∃ n, n = I.np := ⟨_, rfl⟩
  rw [← hn] at c5
  have hgn : (g : Int) < (n : Int) := by omega
  have hgl : g ≤ 1024 := by omega
  generalize hpp : I.pg g = p at *
  clear hI hp hpi hpc e2 e3 hn hc bp hpp hff hsz ha0 hcn hS hnm hbe hca
  go_enter Tryz.func19, Tryz.ntmps19
  go_wp2_with fail
  generalize w.alloc (pgO p) = W1 at *
  generalize w.heap.size = gb at *
  clear d0 d1 d2 d3 d4 d5 d6 d7 d8 d9 d10 c0 c1 c2 c3 c4 c5 c6 c7 c8
  refine (HLS.out W1).mono ?_
  rintro e w2 ⟨sb, sc, ws, rfl, hst, hg1, hg2, hbt, hk2⟩
  have PB2 := hid (PB.out.keep hk2)
  have ST := hid hst
  have BT := hid hbt
  have HNX := hid (fun (x : Nat) (hx : x ≤ 4096) (W : World) (hW : Kept none' w2 W) => next_any sb sc cn ws (x : Int) (by omega) W (hst.kept hW (fun x => x) (fun x => x)))
  have HNB := hid (show ∀ x : Nat, nxt cn ws (x : Int) = nxtN cn ws x from fun x => by unfold nxt; rw [Int.toNat_natCast])
  clear hst hg1 hg2 hbt hk2
  have NX0 := hid (HNX.out 0 (by decide) w2 (Kept.refl _ _))
  rw [HNB.out 0] at NX0
  go_wp2_with fail
  refine NX0.out.mono ?_
  rintro e w3 ⟨rfl, rfl⟩
  clear NX0
  go_wp2_with fail
  go_loopw [5, 8] (fun lv xv W => ∃ (x : Int) (q : Nat), xv = .int .i64 x ∧ Hid (q ≤ cn ∧ x = nxtN cn ws q ∧ GB w3 W lv (f q))) (fun _ xv _ => if (intOf xv) = -1 then 0 else 4097 - (intOf xv).toNat)
  case atStart => exact ⟨_, 0, rfl, hid ⟨Nat.zero_le _, rfl, by rw [hf0]; exact GS.nil _ _ _ _ (Kept.refl _ _)⟩⟩
  case round =>
    obtain ⟨x, q, rfl, hG⟩ := hrel
    obtain ⟨hq, hx, hgb⟩ := hG.out
    obtain ⟨va, vc, hva⟩ := own_val hgb.own
    rcases nxtN_of (n := cn) (ws := ws) (k := q) with ⟨h1, h2⟩ | ⟨j, h1, h2, h3, h4, h5⟩
    · have hx1 : (x != -1) = false := by rw [hx, h1]; rfl
      have FIN := hid (show f cn = f q by
        obtain ⟨d, rfl⟩ : ∃ d, cn = q + d := ⟨cn - q, by omega⟩
        exact CN.out q d (fun j hj1 hj2 => by rw [← BT.out j hj2]; exact h2 j hj1 hj2))
      have G9 := hid hgb
      clear hx h1 h2 hgb
      subst hva
      go_wp2_with fail
      go_ret
      refine ⟨_, rfl, ?_⟩
      rw [FIN.out]
      refine ⟨G9.out.own, fun g' cap' e => ?_, none_trans PB2.out.k G9.out.kp⟩
      exact Nat.le_trans PB2.out.k.size (G9.out.new g' cap' e)
    · have hxj : x = (j : Int) := by rw [hx, h1]
      subst hxj
      have hx1 : ((j : Int) != -1) = true := by rw [bne_iff_ne]; omega
      have ce : f (j + 1) = f q ++ [(a0 + j * sz, sz)] := by
        rw [CE.out j, if_pos (by rw [← BT.out j h3]; exact h4)]
        obtain ⟨d, rfl⟩ : ∃ d, j = q + d := ⟨j - q, by omega⟩
        rw [CN.out q d (fun i hi1 hi2 => by rw [← BT.out i (by omega)]; exact h5 i hi1 hi2)]
      have hm := HM.out j h3
      obtain ⟨m, hm2⟩ : ∃ m, m = j * sz := ⟨_, rfl⟩
      rw [← hm2] at ce hm
      have hmi : (j : Int) * (sz : Int) = (m : Int) := by rw [hm2]; simp
      have hj256 : j < 256 := by omega
      have LEN := hid (show (f q).length ≤ 4000000 by have := CL.out q; omega)
      have PB3 := hid (PB2.out.keep hgb.kp)
      have GQ := hid hgb
      have CEE := hid ce
      have J3 := hid h3
      have HADx := hid (fun (y : KW wr) => HAD.out y.v (none_trans PB3.out.k y.k))
      obtain ⟨p0, p1, p2, p3, p4, p5, p6, p7, p8, p9, p10⟩ := PB3.out.all
      clear hx h1 h2 h3 h4 h5 hgb ce hm2
      subst hva
      go_wp2_with fail
      refine wp_region_kept (by kernel_rfl) (by kernel_rfl) ?_
      repeat (go_big_quiet_step (first | (go_at_call 18; exact Calls.kept_of ((HADx.out _).mono fun _ _ ⟨h1, h2⟩ => ⟨h1, h2 ▸ Kept.refl _ _⟩)) | (go_at_call 42; exact Calls.kept_of (HSZ.out _))))
      refine wpQuiet_nil ?_
      intro y
      go_wp2_with fail
      refine (HSZ.out _).mono ?_
      rintro e w4 ⟨rfl, hk4⟩
      have K4 := hid (none_trans y.k hk4)
      clear hk4 p0 p1 p2 p3 p4 p5 p6 p7 p8 p9 p10
      obtain ⟨ad, had⟩ : ∃ ad, ad = a0 + m := ⟨_, rfl⟩
      have hadi : (a0 : Int) + (m : Int) = (ad : Int) := by omega
      have G4 := hid (GS.keep GQ.out K4.out)
      obtain ⟨gg, cap, w5, PU, G5, -⟩ := GB.push G4.out ad sz LEN.out
      rw [had, ← CEE.out] at G5
      have G5 := hid G5
      have HAP := hid PU
      obtain ⟨j1, hj1⟩ : ∃ j1, j1 = j + 1 := ⟨_, rfl⟩
      have hji : (j : Int) + 1 = (j1 : Int) := by omega
      rw [← hj1] at G5
      have NX1 := hid (HNX.out j1 (by omega) w5 G5.out.kp)
      rw [HNB.out j1] at NX1
      have J1 := hid (show j1 = j + 1 ∧ j1 ≤ cn from ⟨hj1, by have := J3.out; omega⟩)
      clear PU had hj1
      rw [hadi]
      go_wp2_with (at_builtin; refine Lib.wpList_append_run _ rfl _ _ _ _ rfl _ (.slice (some ⟨w4.heap.size, 0, none⟩) 1 1) rfl rfl _ _ (HAP.out _) ?_)
      refine NX1.out.mono ?_
      rintro e w6 ⟨rfl, rfl⟩
      have MS := hid (show (if nxtN cn ws j1 = -1 then 0 else 4097 - (nxtN cn ws j1).toNat) < 4097 - j by
        have h := nxtN_less (n := cn) (ws := ws) (j := j)
        rw [← J1.out.1] at h
        omega)
      clear NX1
      go_wp2_with fail
      go_round
      case rel => exact ⟨_, j1, rfl, hid ⟨J1.out.2, rfl, G5.out⟩⟩
      case measure =>
        have h1 : ¬ (j : Int) = -1 := by omega
        have := MS.out
        by_cases e : nxtN cn ws j1 = -1
        · simp only [e, if_true] at this
          simp [intOf, h1, e]; omega
        · simp only [e, if_false] at this
          simp [intOf, h1, e]; omega
end Go.Proofs.YthjokkihlodapaaGreat
/- walk.Blocks. -/
namespace Go.Proofs.YthjokkihlodapaaGreat
open Go.RowKit
set_option linter.unusedVariables false

/-- The live blocks that begin at a page. -/
def pgB (I : Img) (g : Nat) : List (Nat × Nat) :=
  if (I.pg g).kd = 2 then [(I.base + g * 4096, 4096 * 2 ^ (I.pg g).od.toNat)]
  else if (I.pg g).kd = 4 then ceB I.base g (16 * 2 ^ (I.pg g).cl.toNat) (wsP (I.pg g)) (celN9 (I.pg g).cl.toNat) else []
def bkL (I : Img) : Nat → List (Nat × Nat)
  | 0 => []
  | j + 1 => bkL I j ++ pgB I j
/-- The live blocks of an image. -/
def blks (I : Img) : List (Nat × Nat) := if (chk I).1 = 0 then bkL I I.np else []
theorem chk_zero {I : Img} (h : (chk I).1 = 0) (a : Nat) (ha : a < 11) : rl I a = none := by
  cases e : (List.range 11).findSome? (fun j => (rl I j).map fun p => (j + 1, p)) with
  | none =>
    have := List.findSome?_eq_none_iff.1 e a (List.mem_range.2 ha)
    simpa using this
  | some x =>
    exfalso
    have : chk I = x := by unfold chk; rw [e]
    rw [this] at h
    obtain ⟨j, -, hj⟩ := List.exists_of_findSome?_eq_some e
    simp only [Option.map_eq_some_iff] at hj
    obtain ⟨p, -, hp⟩ := hj
    rw [← hp] at h
    simp at h
theorem sn9_chk {I : Img} (h : (chk I).1 = 0) : ∃ r, Sn9 I I.ord.toNat r := sn9_of (chk_zero h 0 (by decide)) (chk_zero h 1 (by decide)) (chk_zero h 2 (by decide))
theorem pgB_len {I : Img} {k r : Nat} (hS : Sn9 I k r) (g : Nat) (hg : g < I.np) : (pgB I g).length ≤ 256 := by
  obtain ⟨_, _, c, _, -, -, -, -, y5, y6, -⟩ := hS.pg g hg
  unfold pgB
  split
  · simp
  · split
    · rw [y5, Int.toNat_natCast]
      exact Nat.le_trans (ceB_len _ _ _ _ _) (celN9_b c y6).2
    · simp
theorem bkL_len {I : Img} {k r : Nat} (hS : Sn9 I k r) : ∀ j, j ≤ I.np → (bkL I j).length ≤ 256 * j
  | 0, _ => Nat.le_refl _
  | j + 1, h => by
    have h1 := bkL_len hS j (by omega)
    have h2 := pgB_len hS j (by omega)
    show (bkL I j ++ pgB I j).length ≤ _
    rw [List.length_append]
    omega
theorem shl_4096 {o : Nat} (h : o ≤ 8) : IntKind.u64.wrap ((4096 : Int) * 2 ^ o) = ((4096 * 2 ^ o : Nat) : Int) := by
  have h1 := M.pow8 o h
  have e : ((2 : Int) ^ o) = ((2 ^ o : Nat) : Int) := by simp
  rw [wrap_u64, e]
  generalize 2 ^ o = P at *
  omega

theorem gb_ty {w W : World} {v : Value} {l : List (Nat × Nat)} {x : Nat} (h : GB w W v l) (hx : v.ownBlock = some x) : ∃ cs, W.heap[x]? = some (.cells cs 49 (0, 0)) := by
  rcases h.own.2 with ⟨rfl, _⟩ | ⟨g, cap, cur, rfl, hb, hg, h3⟩
  · simp [Value.ownBlock] at hx
  · simp [Value.ownBlock] at hx
    rw [← hx]
    exact ⟨cur, hg⟩

set_option maxRecDepth 6000 in
set_option maxHeartbeats 16000000 in
theorem Blocks_any (I : Img) (V : ImV) (w : World) (hI : ImD w I V) :
    Calls Tryz.prog 9 #[.agg #[.int .u64 (I.base : Int), .int .i64 I.lim, .int .i64 I.ord, .int .i64 I.reg, V.m, V.p, V.r, V.h, V.t]] w fun e w' => ∃ v, e = .returned v ∧ GB w w' v (blks I) := by
  obtain ⟨⟨ma, mc, hm⟩, ⟨pa, pc, hp⟩, ⟨ra, rc, hr⟩, ⟨ha, hc, hh⟩, ⟨ta, tc, ht⟩, -⟩ := hI.sl
  have IM0 := hid (show ImAt (w.alloc (imO I V)) w.heap.size I V from ⟨heap_new _ _, hI.keep ((Kept.refl _ w).alloc _)⟩)
  have K0 := hid (show Kept none' w (w.alloc (imO I V)) from (Kept.refl _ w).alloc _)
  have HCK := hid (Check_any I V (w.alloc (imO I V)) IM0.out.d)
  have SP := hid hp
  obtain ⟨bL, hbL⟩ : ∃ bL, bL = blks I := ⟨_, rfl⟩
  rw [← hbL]
  have BAD := hid (show (chk I).1 ≠ 0 → bL = [] from fun h => by rw [hbL, blks, if_neg h])
  have GOOD := hid (show (chk I).1 = 0 → bL = bkL I I.np from fun h => by rw [hbL, blks, if_pos h])
  obtain ⟨ru, hru⟩ : ∃ ru, ru = (chk I).1 := ⟨_, rfl⟩
  obtain ⟨pl, hpl⟩ : ∃ pl, pl = (chk I).2 := ⟨_, rfl⟩
  rw [← hru, ← hpl] at HCK
  rw [hm, hp, hr, hh, ht] at HCK
  rw [hm, hp, hr, hh, ht]
  have HRU := hid hru
  clear hbL hru hpl
  have EW := hid (show (w.alloc (.cells #[.int .u64 (I.base : Int), .int .i64 I.lim, .int .i64 I.ord, .int .i64 I.reg, .slice ma I.nm mc, .slice pa I.np pc, .slice ra I.no rc, .slice ha I.hd.length hc, .slice ta I.pt.length tc] 31 (0, 0))) = w.alloc (imO I V) by rw [← hm, ← hp, ← hr, ← hh, ← ht])
  clear hm hp hr hh ht hI
  go_enter Tryz.func9, Tryz.ntmps9
  go_wp2_with fail
  rw [EW.out]
  refine HCK.out.mono ?_
  rintro e w1 ⟨rfl, hk1⟩
  have IM1 := hid (IM0.out.keep hk1)
  have K1 := hid (none_trans K0.out hk1)
  clear hk1 EW
  generalize w.alloc (imO I V) = W0 at *
  generalize w.heap.size = ib at *
  by_cases h0 : ru = 0
  case neg =>
    have f0 : ((ru : Int) != 0) = true := by rw [bne_iff_ne]; omega
    have E := hid (BAD.out (by rw [← HRU.out]; exact h0))
    clear h0
    go_wp2_with fail
    go_ret
    exact ⟨_, rfl, by rw [E.out]; exact GS.nil _ _ _ _ K1.out⟩
  have f0 : ((ru : Int) != 0) = false := by rw [bne_eq_false_iff_eq]; omega
  have hz : (chk I).1 = 0 := by rw [← HRU.out]; exact h0
  have E := hid (GOOD.out hz)
  obtain ⟨r, hS⟩ := sn9_chk hz
  have HS := hid hS
  have hnp := hS.np1
  obtain ⟨n, hn⟩ : ∃ n, n = I.np := ⟨_, rfl⟩
  rw [← hn] at hnp
  have HN := hid hn
  obtain ⟨c0, c1, c2, c3, c4, c5, c6, c7, c8⟩ := IM1.out.cells
  rw [SP.out, ← hn] at c5
  have F0 : bkL I 0 = [] := rfl
  have FS := hid (show ∀ j, bkL I (j + 1) = bkL I j ++ pgB I j from fun j => rfl)
  have FL := hid (show ∀ j, j ≤ n → (bkL I j).length ≤ 300000 from fun j hj => by
    have := bkL_len hS j (by omega)
    omega)
  generalize bkL I = f at *
  clear h0 hz hS hn
  go_wp2_with fail
  clear c0 c1 c2 c3 c4 c5 c6 c7 c8
  go_loopw [5, 18] (fun lv iv W => ∃ a : Nat, a ≤ n ∧ iv = .int .i64 a ∧ Hid (GB w1 W lv (f a))) (fun _ iv _ => n - (intOf iv).toNat)
  case atStart => exact ⟨0, Nat.zero_le _, rfl, hid (by rw [F0]; exact GS.nil _ _ _ _ (Kept.refl _ _))⟩
  case round =>
    obtain ⟨a, ha', rfl, hG⟩ := hrel
    have IMa := hid (IM1.out.keep hG.out.kp)
    obtain ⟨va, vc, hva⟩ := own_val hG.out.own
    by_cases hlt : a < n
    · have hai : (a : Int) < (n : Int) := by omega
      have hlt' : a < I.np := by rw [← HN.out]; exact hlt
      obtain ⟨bl, o, oc', hv', hpi, hpc⟩ := IMa.out.page a hlt'
      rw [SP.out] at hv'
      injection hv' with e1 e2 e3
      subst e1
      obtain ⟨kd, od, cc, ll, y1, y2, y3, y4, y5, y6, -⟩ := HS.out.pg a hlt'
      have hk8 := HS.out.k8
      have hod8 : od ≤ 8 := by omega
      have PB := hid (PbI.mk' (w := w1) IMa.out hG.out.kp (I.pg a))
      have GA := hid (GS.keep hG.out (show Kept none' wr (wr.alloc (pgO (I.pg a))) from (Kept.refl _ _).alloc _))
      have fa : f (a + 1) = f a ++ pgB I a := FS.out a
      have hab : I.base + a * 4096 < 18446744073709551616 := by have := HS.out.be; have := HS.out.nm; omega
      have HAD := hid (fun W (hW : Kept none' (wr.alloc (pgO (I.pg a))) W) => address_any ib I V a W (PB.out.im.keep hW) hab)
      have HLC := hid (fun W (hW : Kept none' (wr.alloc (pgO (I.pg a))) W) => liveCells_any ib I V I.ord.toNat r HS.out a cc hlt' y5 y6 W (PB.out.im.keep hW))
      have PGE := hid (show pgB I a = if (I.pg a).kd = 2 then [(I.base + a * 4096, 4096 * 2 ^ od)] else if (I.pg a).kd = 4 then ceB I.base a (16 * 2 ^ cc) (wsP (I.pg a)) (celN9 cc) else [] by unfold pgB; rw [y3, y5, Int.toNat_natCast, Int.toNat_natCast])
      have PGL := hid (pgB_len HS.out a hlt')
      have FLA := hid (FL.out a ha')
      have SH := hid (shl_4096 (o := od) (by omega))
      obtain ⟨m, hm⟩ : ∃ m, m = I.base + a * 4096 := ⟨_, rfl⟩
      rw [← hm] at HAD PGE
      obtain ⟨z, hz⟩ : ∃ z, z = 4096 * 2 ^ od := ⟨_, rfl⟩
      rw [← hz] at SH PGE
      generalize pgB I a = pB at *
      obtain ⟨d0, d1, d2, d3, d4, d5, d6, d7, d8, d9, d10⟩ := hpc.c
      generalize ceB I.base a (16 * 2 ^ cc) (wsP (I.pg a)) (celN9 cc) = cB at *
      generalize I.pg a = p at *
      clear hpi hpc e2 e3 y1 y2 y4 y5 y6 hm hz
      subst hva
      by_cases hk2 : p.kd = 2
      · have q2 : (p.kd == 2) = true := by rw [beq_iff_eq]; exact hk2
        have hpB : pB = [(m, z)] := by rw [PGE.out, if_pos hk2]
        rw [hpB] at fa
        have FA := hid fa
        clear hk2 hpB fa
        obtain ⟨pkd, pod, pcl, plv, pnx, ppv, pfs, pb0, pb1, pb2, pb3⟩ := p
        dsimp only at y3 q2 d0 d1 d2 d3 d4 d5 d6 d7 d8 d9 d10
        subst y3
        go_wp2_with fail
        generalize wr.alloc (pgO ⟨pkd, (od : Int), pcl, plv, pnx, ppv, pfs, pb0, pb1, pb2, pb3⟩) = W6 at *
        generalize wr.heap.size = y at *
        have KD := hid (show Kept none' W6 W6.drew from (Kept.refl none' W6).drew)
        have XC := hid (show ∀ W, Kept none' W6 W → W.cell? ⟨y, 1, none⟩ = some (.int .i64 (od : Int)) from fun W hW => (pgO_c (PB.out.keep hW).pb).2.1)
        have XE := hid (show ∀ W7 W8 vv ll, Kept none' W6 W7 → GB w1 W7 vv ll → Kept (fun b => vv.ownBlock = some b) W7 W8 → W8.cell? ⟨y, 1, none⟩ = some (.int .i64 (od : Int)) from fun W7 W8 vv ll k7 h7 k8 => k8.cell (fun e => by
          obtain ⟨cs, hcs⟩ := gb_ty h7 e
          rw [(PB.out.keep k7).pb] at hcs
          simp at hcs) (XC.out W7 k7))
        have A6 := hid (show Calls Tryz.prog 18 #[.pointer (some ⟨ib, 0, none⟩), .int .i64 (a : Int)] W6.drew fun e w' => e = .returned (.int .u64 (m : Int)) ∧ Kept none' W6 w' from (HAD.out W6.drew KD.out).mono fun _ _ ⟨h1, h2⟩ => ⟨h1, by rw [h2]; exact KD.out⟩)
        have x1 := XC.out _ KD.out
        have sh := SH.out
        have sh2 : IntKind.u64.wrap ((4096 : Int) * 2 ^ (min od 64)) = (z : Int) := by rw [Nat.min_eq_left (Nat.le_trans hod8 (by decide))]; exact SH.out
        have LEN := hid (show (f a).length ≤ 4000000 by have := FLA.out; omega)
        clear d0 d1 d2 d3 d4 d5 d6 d7 d8 d9 d10
        go_region_held3 (fun w' => w'.cell? ⟨y, 1, none⟩ = some (.int .i64 (od : Int))) (with_reducible assumption) (first
          | (go_at_call 18; (with_reducible refine A6.out.mono ?_); rintro e w7 ⟨rfl, hk7⟩; have K7 := hid hk7; have v1 := XC.out _ K7.out; have b1 := XC.out _ (K7.out.alloc (bkO m z)); obtain ⟨gg, cap, w8, HAP, G8, K8⟩ := GB.push (GS.keep GA.out K7.out) m z (LEN.out); have e1 := XE.out _ _ _ _ K7.out (GS.keep GA.out K7.out) K8; clear hk7 K8; have G8 := hid G8; replace HAP := hid HAP)
          | (refine step_pushB rfl (.tmp 27) (.tmp 34) rfl rfl rfl HAP.out ?_)
          | fail)
        all_goals
          have R3 := hid (show GB w1 w8 (.slice (some ⟨gg, 0, none⟩) ((f a).length + 1) cap) (f (a + 1)) by rw [FA.out]; exact G8.out)
          go_wp2_with fail
          go_round
          case rel => exact ⟨a + 1, by omega, by go_num, R3⟩
          case measure => simp [intOf]; omega
      · have q2 : (p.kd == 2) = false := by rw [beq_eq_false_iff_ne]; exact hk2
        have PGE2 := hid (show pB = if p.kd = 4 then cB else [] by rw [PGE.out, if_neg hk2])
        clear hk2 y3
        by_cases hk4 : p.kd = 4
        · have q4 : (p.kd == 4) = true := by rw [beq_iff_eq]; exact hk4
          have hpB : pB = cB := by rw [PGE2.out, if_pos hk4]
          rw [hpB] at fa PGL
          have FA := hid fa
          clear hk4 hpB fa
          go_wp2_with fail
          generalize wr.alloc (pgO p) = W6 at *
          generalize wr.heap.size = y at *
          refine (HLC.out W6 (Kept.refl _ _)).mono ?_
          rintro e w7 ⟨u, rfl, hu⟩
          have G7 := hid (GS.keep GA.out hu.kp)
          obtain ⟨v8, w8, HAP, G8, -⟩ := GB.pushL G7.out hu.own (by have := FLA.out; omega) (by have := PGL.out; omega)
          rw [← FA.out] at G8
          have HAP := hid HAP
          have G8 := hid G8
          obtain ⟨ua, uc, hua⟩ := own_val hu.own
          subst hua
          obtain ⟨va8, vc8, hv8⟩ := own_val G8.out.own
          subst hv8
          clear hu d0 d1 d2 d3 d4 d5 d6 d7 d8 d9 d10
          go_wp2_with (at_builtin; refine Lib.wpList_append_run _ rfl _ _ _ _ rfl _ _ rfl rfl _ _ (HAP.out _) ?_)
          go_round
          case rel => exact ⟨a + 1, by omega, by go_num, G8⟩
          case measure => simp [intOf]; omega
        · have q4 : (p.kd == 4) = false := by rw [beq_eq_false_iff_ne]; exact hk4
          have hpB : pB = [] := by rw [PGE2.out, if_neg hk4]
          rw [hpB, List.append_nil] at fa
          have FA := hid fa
          have R3 := hid (show GB w1 (wr.alloc (pgO p)) (.slice va (f a).length vc) (f (a + 1)) by rw [FA.out]; exact GA.out)
          clear hk4 hpB fa
          go_wp2_with fail
          go_round
          case rel => exact ⟨a + 1, by omega, by go_num, R3⟩
          case measure => simp [intOf]; omega
    · obtain rfl : a = n := by omega
      have hai : ¬ (a : Int) < (a : Int) := by omega
      subst hva
      go_wp2_with fail
      go_ret
      refine ⟨_, rfl, ?_⟩
      rw [E.out, ← HN.out]
      refine ⟨hG.out.own, fun g' cap' e => ?_, none_trans K1.out hG.out.kp⟩
      exact Nat.le_trans K1.out.size (hG.out.new g' cap' e)
end Go.Proofs.YthjokkihlodapaaGreat
/- croftlaw9: void. -/
namespace Go.Proofs.YthjokkihlodapaaGreat
open Go.RowKit
set_option linter.unusedVariables false
set_option maxHeartbeats 16000000
set_option maxRecDepth 6000

theorem info_u8 : (Tryz.prog.info? 5).map (fun i => (i.zero, i.size, i.bytes)) = some (some (.int .u8 0), 1, 1) := by kernel_rfl
/-- n bytes of 0. -/
def zb (n : Nat) : Array Value := madeCells (Value.int .u8 0).cells (n * 1)
theorem make_bytes (w : World) : (Instr.makeSlice 25 (.int .i64 8192) (.int .i64 8192)).run Tryz.prog w = .ok (.slice (some ⟨w.heap.size, 0, none⟩) 8192 8192) (w.alloc (.cells (zb 8192) 5)) := by
  obtain ⟨i, hi, hz0, hz1, hz2⟩ := info_parts info_u8
  have := run_make (P := Tryz.prog) w 25 5 i (.int .u8 0) Tryz.underlying25 hi hz0 .i64 .i64 8192 8192 (by omega) (by omega) (by rw [hz2]; omega) (by omega)
  rw [hz1] at this
  exact this
theorem zb_get (n i : Nat) (h : i < n) : (zb n)[i]? = some (.int .u8 0) := by
  unfold zb madeCells
  simp [Value.cells, h, Nat.mod_one]
end Go.Proofs.YthjokkihlodapaaGreat
/- A region that draws its order, by an invariant over what is done. -/
namespace Go.Proofs.YthjokkihlodapaaGreat
open Go.RowKit
set_option linter.unusedVariables false
section
variable {P : Program} {ops : Array Oper} {md : Region.Mode} {Q : Exit → Act → World → Prop}
/-- One op of such a region, walked alone. -/
theorem wpOp_of_list {i : Nat} {o : Oper} {K : Act → World → Prop} {a : Act} {w : World} (ho : ops[i]? = some o) (h : wpList P ops (Exit.then K Q) [o] a w) : wpOp P ops Q i K a w := by
  unfold wpOp
  simp only [ho]
  unfold wpList at h
  split
  · rename_i hw
    simp only [hw, if_true] at h
    rcases h with h | ⟨h1, b, w1, h2⟩
    · refine .inl ?_
      unfold Oper.wp at *
      generalize (execOp a.eval o).run P w = r at *
      cases r with
      | ok n w' => cases n <;> simp only [Oper.upon] at h ⊢ <;> exact h
      | halt x w' => cases x <;> simp only [Oper.upon] at h ⊢ <;> exact h
    · exact .inr ⟨h1, b, w1, h2⟩
  · rename_i hw
    simp only [hw] at h
    exact h
/-- How many are not done. -/
def left9 (ls : Array Bool) : Nat := ls.toList.countP (fun b => !b)
theorem left9_set {ls : Array Bool} {i : Nat} (h : ls.getD i true = false) : left9 (ls.setIfInBounds i true) + 1 = left9 ls := by
  unfold left9
  rcases Nat.lt_or_ge i ls.size with hl | hl
  · have h1 : ls[i] = false := by simpa [hl] using h
    obtain ⟨l⟩ := ls
    simp only [List.setIfInBounds_toArray, List.getElem_toArray] at *
    clear h
    induction l generalizing i with
    | nil => simp at hl
    | cons x l ih =>
      cases i with
      | zero =>
        simp only [List.getElem_cons_zero] at h1
        subst h1
        simp
      | succ i =>
        simp only [List.set_cons_succ, List.countP_cons]
        have := ih (i := i) (by simpa using hl) (by simpa using h1)
        omega
  · simp [Array.getElem?_eq_none hl] at h
theorem ready_none {ls : Array Bool} (h : left9 ls = 0) : Region.ready md ops ls = [] := by
  rw [List.eq_nil_iff_forall_not_mem]
  intro i hi
  have h1 := left9_set (mem_ready.1 hi).1
  omega
theorem wpAny_inv {I : Array Bool → Act → World → Prop} (hs : ∀ ls a w i, I ls a w → i ∈ Region.ready md ops ls → wpOp P ops Q i (I (ls.setIfInBounds i true)) a w)
    (he : ∀ ls a w, I ls a w → Region.ready md ops ls = [] → Q .normal a w) : ∀ (n : Nat) (ls : Array Bool) (a : Act) (w : World), left9 ls ≤ n → I ls a w → wpAny P md ops Q n ls a w
  | 0, ls, a, w, hn, h => ⟨ready_none (by omega), he _ _ _ h (ready_none (by omega))⟩
  | n + 1, ls, a, w, hn, h => ⟨he _ _ _ h, fun i hi => wpOp_mono (fun a' w' h' => wpAny_inv hs he n _ a' w' (by have := left9_set (mem_ready.1 hi).1; omega) h') (hs _ _ _ _ h hi)⟩
end
/-- A region that draws its order: what holds of those that are done holds at the end. -/
theorem wp_region_inv {P : Program} {id : Nat} {Q : Exit → Act → World → Prop} {a : Act} {w : World} {ops : Array Oper} (hm : P.follows .mixedOrders = true) (I : Array Bool → Act → World → Prop)
    (h0 : I (Array.replicate ops.size false) a w.drew)
    (hs : ∀ ls a w i, I ls a w → i ∈ Region.ready .any ops ls → wpOp P ops Q i (I (ls.setIfInBounds i true)) a w)
    (he : ∀ ls a w, I ls a w → Region.ready .any ops ls = [] → Q .normal a w) : (Code.region id ops true).wp P Q a w :=
  wp_region_any hm (wpAny_inv hs he _ _ _ _ (by unfold left9; refine Nat.le_trans List.countP_le_length ?_; simp) h0)
end Go.Proofs.YthjokkihlodapaaGreat
