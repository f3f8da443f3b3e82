/- Lists of blocks that grow by append; croftlaw11.blocks. -/
import Derived.Test.YtibljocjdlgfbaaOrG
import Derived.ArgAppend
import Derived.Laws.OwnMore
import Derived.Maps.AppendAt
import Derived.Lib.AppendZeros
import Derived.Deep.AppendLies
namespace Go.Proofs.Ytibljocjdlgfbaa
open Go.RowKit
set_option linter.unusedVariables false

/-- A row that grows, since w0: it is full, or newer than w0. -/
structure GS (w0 W : World) (e : TypeId) (size : Nat) (v : Value) (n : Nat) (xs : List Value) : Prop where
  own : W.ownsRow 0 e size v n xs
  new : ∀ g cap, v = .slice (some ⟨g, 0, none⟩) n cap → cap ≤ n ∨ w0.heap.size ≤ g
  kp : Kept none' w0 W
theorem grown_kept' {w w' : World} {row : Option Nat} (h : w.grownBy w' row) : Kept (fun b => row = some b) w w' := ⟨h.os, h.tape, h.output, h.size, fun k hk hn => h.block k hk (fun e => hn e.symm)⟩
theorem GS.nil (w0 W : World) (e : TypeId) (size : Nat) (k : Kept none' w0 W) : GS w0 W e size (.slice none 0 0) 0 [] :=
  ⟨World.ownsRow_nil _ _ _ _, fun g cap h => by simp at h, k⟩
theorem GS.keep {w0 W W' e size v n xs} (h : GS w0 W e size v n xs) (k : Kept none' W W') : GS w0 W' e size v n xs := by
  refine ⟨⟨h.own.1, ?_⟩, h.new, none_trans h.kp k⟩
  rcases h.own.2 with h0 | ⟨g, cap, cur, rfl, hb, hg, h3⟩
  · exact .inl h0
  · exact .inr ⟨g, cap, cur, rfl, hb, (k.block g (heap_lt hg) (fun x => x)).trans hg, h3⟩
theorem GS.push {w0 W : World} {e : TypeId} {size : Nat} {v : Value} {n : Nat} {xs : List Value} (h : GS w0 W e size v n xs) (t : TypeId) (i : TypeInfo) (z : Value) (bytes : Nat)
    (ht : Try.prog.underlying t = some (.slice e)) (hi : Try.prog.info? e = some i) (hz : i.zero = some z) (hs : i.size = size) (hby : i.bytes = bytes) (hzs : z.cells.size = size) (hsz : 0 < size)
    (a : Addr) (c : Nat) (news : List Value) (hl : news.length = size) (hnews : ∀ j u, news[j]? = some u → W.cell? (a.add j) = some u) (h1 : ∀ u ∈ news, u.oneCell' = true) (h63 : n + 1 ≤ maxLen) (hbb : (n + 1) * bytes ≤ 140737488355328) :
    ∃ g cap w', (∀ ty, (Builtin.append_ #[t, t] ty #[v, .slice (some a) 1 c]).run Try.prog W = .ok (.slice (some ⟨g, 0, none⟩) (n + 1) cap) w') ∧ GS w0 w' e size (.slice (some ⟨g, 0, none⟩) (n + 1) cap) (n + 1) (xs ++ news) ∧ w0.heap.size ≤ g ∧ (∀ x, v.ownBlock ≠ some x → ∀ o, W.heap[x]? = some o → w'.heap[x]? = some o) := by
  have hl' : news.length = 1 * size := by rw [hl, Nat.one_mul]
  have ho := h.own
  by_cases hr : ∃ g cap, v = .slice (some ⟨g, 0, none⟩) n cap ∧ n + 1 ≤ cap
  · obtain ⟨g, cap, rfl, hroom⟩ := hr
    obtain ⟨w', hrun, hown, hgr⟩ := run_append_fits (P := Try.prog) W 0 t 0 e i size ht hi hs g n cap xs ho a 1 c news hl' hnews h1 hroom
    have hg := (h.new g cap rfl).resolve_left (by omega)
    have hk := grown_kept' hgr
    refine ⟨g, cap, w', fun ty => ?_, ⟨hown, fun g' cap' e => ?_, h.kp.trans hk (fun _ _ x => x) (fun x hx e => ?_)⟩, hg, fun x hx o hxo => (hk.block x (heap_lt hxo) hx).trans hxo⟩
    · rw [← hrun]; simp [Builtin.append_]
    · simp at e; exact .inr (by omega)
    · cases e; omega
  · have key : ∃ v' w', (Builtin.append_ #[t, t] 0 #[v, .slice (some a) 1 c]).run Try.prog W = .ok v' w' ∧ w'.ownsRow W.heap.size e size v' (n + 1) (xs ++ news) ∧ Kept none' W w' := by
      rcases ho.2 with ⟨rfl, h0⟩ | ⟨g, cap, cur, rfl, hb, hg, hnc, hcm, hcs, htake⟩
      · subst h0
        have : xs = [] := List.eq_nil_of_length_eq_zero (by rw [ho.1, Nat.zero_mul])
        subst this
        obtain ⟨v', w', hrun, hown, hgr, _⟩ := run_append_own (P := Try.prog) W W.heap.size t 0 e i z size bytes ht hi hz hs hby hzs hsz (.slice none 0 0) 0 [] (World.ownsRow_nil _ _ _ _) a 1 c news hl' hnews h1 h63 hbb (Nat.le_refl _)
        exact ⟨v', w', hrun, hown, (grown_kept' hgr).mono (fun _ _ e => by cases e)⟩
      · obtain ⟨v', w', hrun, hown, hgr⟩ := run_append_arg_grows (P := Try.prog) W t 0 e i z size bytes ht hi hz hs hby hzs hsz ⟨g, 0, none⟩ n cap xs ho.1 (fun j u hj => by
          rw [Addr.add_lit, Nat.zero_add]
          rw [← htake, List.getElem?_take] at hj
          split at hj
          · simp only [World.cell?, hg]
            rw [← Array.getElem?_toList, hj]
            rfl
          · cases hj) a 1 c news hl' hnews (Nat.lt_of_not_le fun hle => hr ⟨g, cap, rfl, hle⟩) h63 hbb
        exact ⟨v', w', hrun, hown, (grown_kept' hgr).mono (fun _ _ e => by cases e)⟩
    obtain ⟨v', w', hrun, hown, hk⟩ := key
    rcases hown.2 with ⟨_, h0⟩ | ⟨g, cap, cur, rfl, hb, hg, h3⟩
    · omega
    · refine ⟨g, cap, w', fun ty => ?_, ⟨⟨hown.1, .inr ⟨g, cap, cur, rfl, Nat.zero_le _, hg, h3⟩⟩, fun g' cap' e => ?_, none_trans h.kp hk⟩, Nat.le_trans h.kp.size hb, fun x hx o hxo => (hk.block x (heap_lt hxo) (fun x => x)).trans hxo⟩
      · rw [← hrun]; simp [Builtin.append_]
      · simp at e
        exact .inr (by have := h.kp.size; omega)
theorem cells_new {w : World} {cs : Array Value} {t : TypeId} (j : Nat) (u : Value) (h : cs.toList[j]? = some u) : (w.alloc (.cells cs t)).cell? (Addr.add ⟨w.heap.size, 0, none⟩ j) = some u := by
  rw [Addr.add_lit, Nat.zero_add]
  have := heap_new w (.cells cs t)
  simp only [World.cell?, this]
  rw [← Array.getElem?_toList, h]
  rfl

theorem info_blk : (Try.prog.info? 33).map (fun i => (i.zero, i.size, i.bytes)) = some (some (.agg #[.int .u64 0, .int .u64 0]), 2, 16) := by kernel_rfl
/-- The cells of blocks. -/
def bcl (l : Bls) : List Value := l.flatMap fun b => [.int .u64 (b.1 : Int), .int .u64 (b.2 : Int)]
theorem bcl_app (l : Bls) (b : Nat × Nat) : bcl (l ++ [b]) = bcl l ++ [.int .u64 (b.1 : Int), .int .u64 (b.2 : Int)] := by simp [bcl]
theorem bcl_at : ∀ (l : Bls) (k : Nat) (b : Nat × Nat), l[k]? = some b → (bcl l)[k * 2]? = some (.int .u64 (b.1 : Int)) ∧ (bcl l)[k * 2 + 1]? = some (.int .u64 (b.2 : Int))
  | [], k, b, h => by simp at h
  | c :: r, 0, b, h => by
    have e : c = b := by simpa using h
    subst e
    exact ⟨rfl, rfl⟩
  | c :: r, k + 1, b, h => by
    have := bcl_at r k b (by simpa using h)
    have e1 : (k + 1) * 2 = (k * 2) + 1 + 1 := by omega
    rw [e1]
    exact this
theorem push_blk {w0 W : World} {v : Value} {n : Nat} {xs : List Value} (h : GS w0 W 33 2 v n xs) (p z : Nat) (hn : n ≤ 8796093022207) :
    ∃ g cap w', (∀ ty, (Builtin.append_ #[34, 34] ty #[v, .slice (some ⟨W.heap.size, 0, none⟩) 1 1]).run Try.prog (W.alloc (.cells #[.int .u64 (p : Int), .int .u64 (z : Int)] 33)) = .ok (.slice (some ⟨g, 0, none⟩) (n + 1) cap) w') ∧ GS w0 w' 33 2 (.slice (some ⟨g, 0, none⟩) (n + 1) cap) (n + 1) (xs ++ [.int .u64 (p : Int), .int .u64 (z : Int)]) ∧ w0.heap.size ≤ g := by
  obtain ⟨i, hi, hzz⟩ := Option.map_eq_some_iff.1 info_blk
  simp only [Prod.mk.injEq] at hzz
  obtain ⟨g, cap, w', h1, h2, h3, _⟩ := (h.keep ((Kept.refl none' W).alloc (.cells #[.int .u64 (p : Int), .int .u64 (z : Int)] 33))).push 34 i _ 16 Try.underlying34 hi hzz.1 hzz.2.1 hzz.2.2 rfl (by decide) ⟨W.heap.size, 0, none⟩ 1 [.int .u64 (p : Int), .int .u64 (z : Int)] rfl (fun j u hj => cells_new (cs := #[.int .u64 (p : Int), .int .u64 (z : Int)]) j u hj) (by simp [Value.oneCell']) (by simp only [maxLen]; omega) (by omega)
  exact ⟨g, cap, w', h1, h2, h3⟩
theorem step_blk {ops : Array Oper} {o : Oper} {a : Act} {K : Act → World → Prop} {Q : Exit → Act → World → Prop} {E : Prop} {w0 w : World} {v : Value} {n : Nat} {xs : List Value} (hG : GS w0 w 33 2 v n xs) (hn : n ≤ 8796093022207)
    (hgd : o.guard = none) (s x : Operand) (hop : o.op = .call { callee := .builtin .append, args := #[s, x], argTypes := #[34, 34] })
    (hs : a.eval s = v) (b c2 p z : Nat) (hx : a.eval x = .slice (some ⟨b, 0, none⟩) 1 c2) (hb : w.heap[b]? = some (.cells #[.int .u64 (p : Int), .int .u64 (z : Int)] 33))
    (h : ∀ g2 cap2 w2, GS w0 w2 33 2 (.slice (some ⟨g2, 0, none⟩) (n + 1) cap2) (n + 1) (xs ++ [.int .u64 (p : Int), .int .u64 (z : Int)]) → w0.heap.size ≤ g2 → K (a.put o.dst (.slice (some ⟨g2, 0, none⟩) (n + 1) cap2)) w2) :
    if Region.wanted o (yielded ops a.tmps) = true then Oper.wp Try.prog o a w K Q else E := by
  have hw : Region.wanted o (yielded ops a.tmps) = true := by simp [Region.wanted, hgd]
  rw [if_pos hw]
  obtain ⟨i, hi, hzz⟩ := Option.map_eq_some_iff.1 info_blk
  simp only [Prod.mk.injEq] at hzz
  obtain ⟨g2, cap2, w2, h1, h2, h5, h4⟩ := hG.push 34 i _ 16 Try.underlying34 hi hzz.1 hzz.2.1 hzz.2.2 rfl (by decide) ⟨b, 0, none⟩ c2 [.int .u64 (p : Int), .int .u64 (z : Int)] rfl (World.news_of_block (cs := #[.int .u64 (p : Int), .int .u64 (z : Int)]) hb) (by simp [Value.oneCell']) (by simp only [maxLen]; omega) (by omega)
  exact Lib.wp_append_run w s x _ _ hop _ _ hs hx _ _ (h1 _) (h g2 cap2 w2 h2 h5)

theorem wpl_app {P : Program} (w : World) {ops : Array Oper} {rest : List Oper} {o : Oper} {a : Act} {Q : Exit → Act → World → Prop} (hg : o.guard = none) (s x : Operand) (t : TypeId) (hop : o.op = Op.call { callee := Callee.builtin Builtin.append, args := #[s, x], argTypes := #[t, t] })
    (v vx : Value) (hs : a.eval s = v) (hx : a.eval x = vx) (v' : Value) (w' : World) (hrun : ∀ ty, (Builtin.append_ #[t, t] ty #[v, vx]).run P w = .ok v' w') (hK : wpList P ops Q rest (a.put o.dst v') w') : wpList P ops Q (o :: rest) a w := by
  refine wpList_plain hg fun K' hK' => ?_
  unfold Oper.wp
  simp [execOp, hop, resolve, invoke, builtin, hs, hx, hrun o.type, Result.andThen]
  exact hK' _ _ hK

/-- Eight marks. -/
def marks (k : Nat) : Bls := List.replicate k (77, 78)
theorem marks_succ (k : Nat) : marks (k + 1) = marks k ++ [(77, 78)] := by simp [marks, List.replicate_succ']
theorem GS.bl {w0 W : World} {oa : Option Addr} {cap : Nat} {l : Bls} (h : GS w0 W 33 2 (.slice oa l.length cap) l.length (bcl l)) (hl : l.length ≤ 9223372036854775807) (hb : ∀ b ∈ l, b.1 < 2 ^ 64 ∧ b.2 < 2 ^ 64) : BL W (.slice oa l.length cap) l := by
  refine ⟨hl, hb, oa, cap, rfl, ?_⟩
  rcases h.own.2 with ⟨_, h0⟩ | ⟨g, cap', cur, e, _, hg, _⟩
  · exact .inl h0
  · injection e with e1 e2 e3
    subst e1
    refine .inr ⟨g, 0, rfl, heap_lt hg, fun k b hk => ?_⟩
    obtain ⟨c1, c2⟩ := bcl_at l k b hk
    have d1 := World.ownsRow.cells h.own rfl _ _ c1
    have d2 := World.ownsRow.cells h.own rfl _ _ c2
    rw [Addr.add_lit] at d1 d2
    exact ⟨d1, by rw [Nat.add_assoc]; exact d2⟩

/-- What blocks leaves. -/
def BkP (w : World) (l : Bls) (e : Ending) (w' : World) : Prop := ∃ g cap, e = .returned (.slice (some ⟨g, 0, none⟩) (l.length + 8) cap) ∧ l.length + 8 ≤ cap ∧ BL w' (.slice (some ⟨g, 0, none⟩) (l.length + 8) cap) (l ++ marks 8) ∧ Kept none' w w'

/-- Likewise, and that it is new. -/
def BkN (w : World) (l : Bls) (e : Ending) (w' : World) : Prop := ∃ g cap, e = .returned (.slice (some ⟨g, 0, none⟩) (l.length + 8) cap) ∧ l.length + 8 ≤ cap ∧ BL w' (.slice (some ⟨g, 0, none⟩) (l.length + 8) cap) (l ++ marks 8) ∧ Kept none' w w' ∧ w.heap.size ≤ g ∧ ∃ cs, w'.heap[g]? = some (.cells cs 33)

set_option maxRecDepth 4000 in
set_option maxHeartbeats 2000000 in
theorem blocks_wide (v : Value) (l : Bls) (w : World) (hbl : BL w v l) (hlen : l.length ≤ 8796093022100) :
    Calls Try.prog 21 #[v] w fun e w' => BkN w l e w' := by
  obtain ⟨oa, oc, rfl⟩ : ∃ oa oc, v = .slice oa l.length oc := by
    obtain ⟨_, _, oa, oc, hv, _⟩ := hbl
    exact ⟨oa, oc, hv⟩
  have BL0 := hid hbl
  have I0 := hid (GS.nil w w 33 2 (Kept.refl _ _))
  clear hbl
  go_enter Try.func21, Try.ntmps21
  go_wp2_with fail
  go_loopw [3, 4] (fun x i W => ∃ (a : Nat) (va : Option Addr) (vc : Nat), a ≤ l.length ∧ i = .int .i64 a ∧ x = .slice va a vc ∧ Hid (GS w W 33 2 (.slice va a vc) a (bcl (l.take a)))) (fun _ i _ => l.length - (intOf i).toNat)
  case atStart => exact ⟨0, none, 0, Nat.zero_le _, rfl, rfl, I0⟩
  case round =>
    clear I0
    obtain ⟨a, va, vc, ha, rfl, rfl, HG⟩ := hrel
    by_cases hlt : a < l.length
    · have hai : (a : Int) < (l.length : Int) := by omega
      obtain ⟨bl, o, p, s, rfl, hla, hp, hs, q0, q1⟩ := (BL0.out.keep HG.out.kp).at a hlt
      have TK := hid (show bcl (l.take (a + 1)) = bcl (l.take a) ++ [.int .u64 (p : Int), .int .u64 (s : Int)] by rw [List.take_add_one, hla]; exact bcl_app _ _)
      have GK := hid (show GS w ((wr.alloc (.cells #[.int .u64 (p : Int), .int .u64 (s : Int)] 33)).drew) 33 2 (.slice va a vc) a (bcl (l.take a)) from HG.out.keep (((Kept.refl none' wr).alloc _).drew))
      have HB := hid (show ((wr.alloc (.cells #[.int .u64 (p : Int), .int .u64 (s : Int)] 33)).drew).heap[wr.heap.size]? = some (.cells #[.int .u64 (p : Int), .int .u64 (s : Int)] 33) from heap_new wr _)
      clear hla
      go_wp2_with fail
      go_region_law (refine step_blk GK.out (by omega) rfl (.tmp 12) (.tmp 24) rfl rfl wr.heap.size 1 p s rfl HB.out ?_; intro g2 cap2 w2 hg2 hw2)
      all_goals
        have NX := hid (show GS w w2 33 2 (.slice (some ⟨g2, 0, none⟩) (a + 1) cap2) (a + 1) (bcl (l.take (a + 1))) from by rw [TK.out]; exact hg2)
        clear hg2 hw2
        go_frame
        go_wp2_with fail
        go_round
        case rel => exact ⟨a + 1, _, _, by omega, by go_num, rfl, NX⟩
        case measure => simp [intOf]; omega
    · obtain rfl : a = l.length := by omega
      have hai : ¬ (l.length : Int) < (l.length : Int) := by omega
      have J0 := hid (show GS w wr 33 2 (.slice va (l.length + 0) vc) (l.length + 0) (bcl (l ++ marks 0)) from by
        have := HG.out
        rw [List.take_length] at this
        simpa [marks] using this)
      clear HG
      go_wp2_with fail
      go_loopw [3, 5] (fun x i W => ∃ (a : Nat) (va : Option Addr) (vc : Nat), a ≤ 8 ∧ i = .int .i64 a ∧ x = .slice va (l.length + a) vc ∧ Hid (GS w W 33 2 (.slice va (l.length + a) vc) (l.length + a) (bcl (l ++ marks a)) ∧ (a = 0 ∨ ∃ g, va = some ⟨g, 0, none⟩ ∧ w.heap.size ≤ g))) (fun _ i _ => 8 - (intOf i).toNat)
      case atStart => exact ⟨0, va, vc, by omega, rfl, rfl, hid ⟨J0.out, .inl rfl⟩⟩
      case round =>
        clear J0
        obtain ⟨a, va, vc, ha, rfl, rfl, HG⟩ := hrel
        by_cases hlt : a < 8
        · have hai : (a : Int) < 8 := by omega
          obtain ⟨g2, cap2, w2, hrun, hg2, hw2⟩ := push_blk HG.out.1 77 78 (by omega)
          have NX := hid (show GS w w2 33 2 (.slice (some ⟨g2, 0, none⟩) (l.length + (a + 1)) cap2) (l.length + (a + 1)) (bcl (l ++ marks (a + 1))) ∧ (a + 1 = 0 ∨ ∃ g, some (⟨g2, 0, none⟩ : Addr) = some ⟨g, 0, none⟩ ∧ w.heap.size ≤ g) from by
            rw [marks_succ, ← List.append_assoc, bcl_app]
            exact ⟨hg2, .inr ⟨g2, rfl, hw2⟩⟩)
          have hrun2 := hid (show ∀ ty, (Builtin.append_ #[34, 34] ty #[.slice va (l.length + a) vc, .slice (some ⟨wr.heap.size, 0, none⟩) 1 1]).run Try.prog (wr.alloc (.cells #[.int .u64 77, .int .u64 78] 33)) = .ok (.slice (some ⟨g2, 0, none⟩) (l.length + (a + 1)) cap2) w2 from hrun)
          clear hrun hg2 hw2
          go_wp2_with (first | (at_builtin; refine wpl_app _ rfl _ _ 34 rfl _ _ rfl rfl _ _ hrun2.out ?_))
          go_round
          case rel => exact ⟨a + 1, _, _, by omega, by go_num, rfl, NX⟩
          case measure => simp [intOf]; omega
        · obtain rfl : a = 8 := by omega
          have FIN := hid (show BkN w l (.returned (.slice va (l.length + 8) vc)) wr from by
            have hG := HG.out.1
            have hN := HG.out.2
            have hlen8 : (l ++ marks 8).length = l.length + 8 := by simp [marks]
            have hG2 := hG
            rw [← hlen8] at hG2
            have hb := GS.bl hG2 (by rw [hlen8]; omega) (fun b hb => by
              rcases List.mem_append.1 hb with hb | hb
              · exact BL0.out.2.1 b hb
              · rw [List.eq_of_mem_replicate hb]; exact ⟨by decide, by decide⟩)
            rw [hlen8] at hb
            rcases hG.own.2 with ⟨_, h0⟩ | ⟨g, cap', cur, e, _, hg, hcap, _⟩
            · omega
            · injection e with e1 e2 e3
              subst e1 e3
              refine ⟨g, vc, rfl, hcap, hb, hG.kp, ?_, _, hg⟩
              rcases hN with h | ⟨g', h, hw⟩
              · omega
              · injection h with h; injection h with h; omega)
          clear HG
          go_wp2_with fail
          go_ret
          exact FIN.out
theorem blocks_new (v : Value) (l : Bls) (w : World) (hbl : BL w v l) (hlen : l.length ≤ 8796093022000) :
    Calls Try.prog 21 #[v] w fun e w' => BkN w l e w' := blocks_wide v l w hbl (by omega)
theorem blocks_any (v : Value) (l : Bls) (w : World) (hbl : BL w v l) (hlen : l.length ≤ 8796093022000) :
    Calls Try.prog 21 #[v] w fun e w' => BkP w l e w' :=
  (blocks_new v l w hbl hlen).mono fun e w' ⟨g, cap, h1, h2, h3, h4, _⟩ => ⟨g, cap, h1, h2, h3, h4⟩
end Go.Proofs.Ytibljocjdlgfbaa
