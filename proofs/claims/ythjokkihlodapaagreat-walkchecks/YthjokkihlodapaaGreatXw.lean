import Derived.Test.YthjokkihlodapaaGreatXu
import Derived.Test.YthjokkihlodapaaGreatXv
set_option maxRecDepth 1000000
set_option maxHeartbeats 80000000
/- links.New; buddy: over, New, Open. (Written by mk9b.py off stage 5.) -/
set_option maxHeartbeats 8000000
set_option maxRecDepth 4000
namespace Go.Proofs.YthjokkihlodapaaGreat.M
open Go.RowKit
set_option linter.unusedVariables false

/-- A list: its struct in block c. -/
structure ListAt (w : World) (c b hd : Nat) : Prop where
  hc : w.heap[c]? = some (.cells #[.pointer (some ⟨b, 0, none⟩), .int .u64 (hd : Int)] 157 (0, 0))
  h64 : hd < 18446744073709551616
theorem ListAt.lt {w c b hd} (h : ListAt w c b hd) : c < w.heap.size := (Array.getElem?_eq_some_iff.1 h.hc).1
theorem ListAt.c0 {w c b hd} (h : ListAt w c b hd) : w.cell? ⟨c, 0, none⟩ = some (.pointer (some ⟨b, 0, none⟩)) := by simp [World.cell?, h.hc]
theorem ListAt.c1 {w c b hd} (h : ListAt w c b hd) : w.cell? ⟨c, 1, none⟩ = some (.int .u64 (hd : Int)) := by simp [World.cell?, h.hc]
theorem ListAt.fz {w c b hd} (h : ListAt w c b hd) (i : Nat) : w.frozen? ⟨c, i, none⟩ = false := by simp [World.frozen?, h.hc]
theorem ListAt.kept {w w' c b hd} {S : Nat → Prop} (h : ListAt w c b hd) (k : Kept S w w') (hS : ¬ S c) : ListAt w' c b hd := ⟨(k.block c h.lt hS).trans h.hc, h.h64⟩
theorem ListAt.keep {w w' c b hd} (h : ListAt w c b hd) (k : Kept none' w w') : ListAt w' c b hd := h.kept k (fun x => x)
theorem newList_any (b hd : Nat) (h64 : hd < 18446744073709551616) (w : World) :
    Calls Tryz.prog 108 #[.pointer (some ⟨b, 0, none⟩), .int .u64 (hd : Int)] w fun e w' => ∃ c, e = .returned (.pointer (some ⟨c, 0, none⟩)) ∧ ListAt w' c b hd ∧ Kept none' w w' ∧ w.heap.size ≤ c := by
  go_enter Tryz.func108, Tryz.ntmps108
  go_wp2
  go_ret
  exact ⟨_, rfl, ⟨heap_new _ _, h64⟩, (Kept.refl _ _).alloc _, Nat.le_refl _⟩
end Go.Proofs.YthjokkihlodapaaGreat.M
namespace Go.Proofs.YthjokkihlodapaaGreat.H
open Go.RowKit
set_option linter.unusedVariables false

theorem toK {S : Nat → Prop} {w w' : World} (h : M.Kept S w w') : Kept S w w' := ⟨h.os, h.tape, h.output, h.size, h.block⟩
theorem ofK {S : Nat → Prop} {w w' : World} (h : Kept S w w') : M.Kept S w w' := ⟨h.os, h.tape, h.output, h.size, h.block⟩
/-- A row of lists, with its spare room. -/
def PLL (w : World) (v : Value) (xs : List Nat) : Prop := w.ownsRow 0 149 1 v xs.length (xs.map ptr)
theorem info_lptr : (Tryz.prog.info? 149).map (fun i => (i.zero, i.size, i.bytes)) = some (some (.pointer none), 1, 8) := by kernel_rfl
theorem info_lptr_parts : ∃ i, Tryz.prog.info? 149 = some i ∧ i.zero = some (.pointer none) ∧ i.size = 1 ∧ i.bytes = 8 := by
  obtain ⟨i, hi, hzz⟩ := Option.map_eq_some_iff.1 info_lptr
  simp only [Prod.mk.injEq] at hzz
  exact ⟨i, hi, hzz.1, hzz.2.1, hzz.2.2⟩
theorem PLL.blk {w v xs r} (h : PLL w v xs) (hr : v.ownBlock = some r) : ∃ cs, w.heap[r]? = some (.cells cs 149 (0, 0)) := by
  rcases h.2 with ⟨rfl, _⟩ | ⟨g, cap, cur, rfl, hb, hg, h3⟩
  · simp [Value.ownBlock] at hr
  · simp [Value.ownBlock] at hr
    subst hr
    exact ⟨_, hg⟩
theorem PLL.kept {w w' v xs} {S : Nat → Prop} (h : PLL w v xs) (k : Kept S w w') (hS : ∀ r, v.ownBlock = some r → ¬ S r) : PLL w' v xs := by
  refine ⟨h.1, ?_⟩
  rcases h.2 with h0 | ⟨g, cap, cur, rfl, hb, hg, h3⟩
  · exact .inl h0
  · exact .inr ⟨g, cap, cur, rfl, hb, (k.block g (heap_lt hg) (hS g rfl)).trans hg, h3⟩
theorem PLL.push (w : World) (v : Value) (xs : List Nat) (x : Nat) (h : PLL w v xs) (hlen : xs.length + 1 ≤ 9) (a : Addr) (c : Nat) (ha : w.cell? (a.add 0) = some (ptr x)) :
    ∃ v' w', (∀ ty, (Builtin.append_ #[146, 146] ty #[v, .slice (some a) 1 c]).run Tryz.prog w = .ok v' w') ∧ PLL w' v' (xs ++ [x]) ∧ Kept (fun b => v.ownBlock = some b) w w' ∧
      (v'.ownBlock = v.ownBlock ∨ ∃ r, v'.ownBlock = some r ∧ w.heap.size ≤ r) ∧ ∃ g cap, v' = .slice (some ⟨g, 0, none⟩) (xs.length + 1) cap := by
  obtain ⟨i, hi, hz0, hz1, hz2⟩ := info_lptr_parts
  have hmax : xs.length + 1 ≤ maxLen := by simp only [maxLen]; omega
  have hnews : ∀ j u, [ptr x][j]? = some u → w.cell? (a.add j) = some u := by
    intro j u hj
    match j, hj with
    | 0, hj => simp at hj; subst hj; exact ha
    | j + 1, hj => simp at hj
  have hmap : (xs ++ [x]).map ptr = xs.map ptr ++ [ptr x] := by simp
  have hl1 : (xs ++ [x]).length = xs.length + 1 := by simp
  by_cases hr : ∃ g cap, v = .slice (some ⟨g, 0, none⟩) xs.length cap ∧ xs.length + 1 ≤ cap
  · obtain ⟨g, cap, rfl, hroom⟩ := hr
    obtain ⟨w', hrun, hown, hgr⟩ := run_append_fits (P := Tryz.prog) w 0 146 0 149 i 1 Tryz.underlying146 hi hz1 g xs.length cap (xs.map ptr) h a 1 c [ptr x] rfl hnews (by simp [Value.oneCell', ptr]) hroom
    refine ⟨.slice (some ⟨g, 0, none⟩) (xs.length + 1) cap, w', fun ty => ?_, ?_, grown_kept hgr, .inl rfl, g, cap, rfl⟩
    · rw [← hrun]; simp [Builtin.append_]
    · unfold PLL; rw [hmap, hl1]; exact hown
  · have key : ∃ v' w', (Builtin.append_ #[146, 146] 0 #[v, .slice (some a) 1 c]).run Tryz.prog w = .ok v' w' ∧ w'.ownsRow w.heap.size 149 1 v' (xs.length + 1) (xs.map ptr ++ [ptr x]) ∧ Kept (fun b => v.ownBlock = some b) w w' := by
      have ho := h
      rcases ho.2 with ⟨rfl, h0⟩ | ⟨g, cap, cur, rfl, hb, hg, hnc, hcm, hcs, htake⟩
      · have : xs = [] := List.eq_nil_of_length_eq_zero h0
        subst this
        obtain ⟨v', w', hrun, hown, hgr, _⟩ := run_append_own (P := Tryz.prog) w w.heap.size 146 0 149 i (.pointer none) 1 8 Tryz.underlying146 hi hz0 hz1 hz2 rfl (by decide) (.slice none 0 0) 0 [] (World.ownsRow_nil _ _ _ _) a 1 c [ptr x] rfl hnews (by simp [Value.oneCell', ptr]) hmax (by simp) (Nat.le_refl _)
        exact ⟨v', w', hrun, hown, grown_kept hgr⟩
      · obtain ⟨v', w', hrun, hown, hgr⟩ := run_append_arg_grows (P := Tryz.prog) w 146 0 149 i (.pointer none) 1 8 Tryz.underlying146 hi hz0 hz1 hz2 rfl (by decide) ⟨g, 0, none⟩ xs.length cap (xs.map ptr) (by simp) (fun j u hj => by
          rw [Addr.add_lit, Nat.zero_add]
          rw [← htake, List.getElem?_take] at hj
          split at hj
          · simp only [World.cell?, hg]
            rw [← Array.getElem?_toList, hj]
            rfl
          · cases hj) a 1 c [ptr x] rfl hnews (Nat.lt_of_not_le fun hle => hr ⟨g, cap, rfl, hle⟩) hmax (by omega)
        exact ⟨v', w', hrun, hown, (grown_kept hgr).mono (fun _ _ e => by cases e)⟩
    obtain ⟨v', w', hrun, hown, hk⟩ := key
    rcases hown.2 with ⟨_, h0⟩ | ⟨g, cap, cur, rfl, hb, hg, h3⟩
    · omega
    · refine ⟨_, w', fun ty => ?_, ?_, hk, .inr ⟨g, rfl, hb⟩, g, cap, rfl⟩
      · rw [← hrun]; simp [Builtin.append_]
      · unfold PLL
        rw [hmap, hl1]
        exact ⟨hown.1, .inr ⟨g, cap, cur, rfl, Nat.zero_le _, hg, h3⟩⟩
/-- Behind the append. -/
structure PushedL (w w' : World) (v v' : Value) (xs : List Nat) (x : Nat) : Prop where
  pl : PLL w' v' (xs ++ [x])
  kp : Kept (fun b => v.ownBlock = some b) w w'
  ob : v'.ownBlock = v.ownBlock ∨ ∃ r, v'.ownBlock = some r ∧ w.heap.size ≤ r
  sl : ∃ g cap, v' = .slice (some ⟨g, 0, none⟩) (xs.length + 1) cap
abbrev bdO (base s m : Nat) (v : Value) : Obj := .cells #[.int .u64 (base : Int), .pointer (some ⟨s, 0, none⟩), .pointer (some ⟨m, 0, none⟩), v] 148 (0, 0)
theorem step_pushL {ops : Array Oper} {o : Oper} {a : Act} {w : World} {K : Act → World → Prop} {Q : Exit → Act → World → Prop} {E : Prop} (hgd : o.guard = none) (s x : Operand)
    (hop : o.op = Op.call { callee := Callee.builtin Builtin.append, args := #[s, x], argTypes := #[146, 146] }) (v : Value) (xs : List Nat) (n y b : Nat) (c0 c1 c2 : Value) (h : PLL w v xs) (hn : xs.length = n) (hl : n + 1 ≤ 9)
    (hb : w.heap[b]? = some (.cells #[c0, c1, c2, v] 148 (0, 0))) (ad : Addr) (c : Nat)
    (hs : a.eval s = v) (hx : a.eval x = .slice (some ad) 1 c) (ha : w.cell? (ad.add 0) = some (ptr y))
    (hK : ∀ g' cap' w', Hid (PushedL w w' v (.slice (some ⟨g', 0, none⟩) (n + 1) cap') xs y) → w'.cell? ⟨b, 3, none⟩ = some v → w'.frozen? ⟨b, 3, none⟩ = false → K (a.put o.dst (.slice (some ⟨g', 0, none⟩) (n + 1) cap')) w') :
    if Region.wanted o (yielded ops a.tmps) = true then Oper.wp Tryz.prog o a w K Q else E := by
  have hw : Region.wanted o (yielded ops a.tmps) = true := by simp [Region.wanted, hgd]
  rw [if_pos hw]
  obtain ⟨v', w', hrun, h1, h2, h3, g', cap', rfl⟩ := h.push w v xs y (by omega) ad c ha
  rw [hn] at hrun h1 h3
  have hrun := hrun o.type
  have hb' : w'.heap[b]? = some (.cells #[c0, c1, c2, v] 148 (0, 0)) := (h2.block b (heap_lt hb) (fun e => by
    obtain ⟨cs, hcs⟩ := h.blk e
    exact ty_ne hb hcs (by decide) rfl)).trans hb
  unfold Oper.wp
  simp [execOp, hop, resolve, invoke, builtin, hs, hx, hrun, Result.andThen]
  exact hK g' cap' w' ⟨h1, h2, h3, g', cap', by rw [hn]⟩ (by simp [World.cell?, hb']) (by simp [World.frozen?, hb'])
theorem step_newlist {ops : Array Oper} {o : Oper} {a : Act} {w : World} {K : Act → World → Prop} {Q : Exit → Act → World → Prop} {E : Prop} (hgd : o.guard = none) (x1 x2 : Nat)
    (hop : o.op = Op.call { callee := Callee.value (Operand.func 108), args := #[.tmp x1, .tmp x2], argTypes := #[87, 22] }) (b s hd : Nat) (h64 : hd < 18446744073709551616) (v : Value) (hc : w.cell? ⟨b, 3, none⟩ = some v)
    (h1 : a.eval (.tmp x1) = .pointer (some ⟨s, 0, none⟩)) (h2 : a.eval (.tmp x2) = .int .u64 (hd : Int))
    (hK : ∀ W2 c, Hid (M.ListAt W2 c s hd ∧ w.heap.size ≤ c) → Hid (Kept none' w W2) → W2.cell? ⟨b, 3, none⟩ = some v → K (a.put o.dst (.pointer (some ⟨c, 0, none⟩))) W2) :
    if Region.wanted o (yielded ops a.tmps) = true then Oper.wp Tryz.prog o a w K Q else E := by
  have hw : Region.wanted o (yielded ops a.tmps) = true := by simp [Region.wanted, hgd]
  rw [if_pos hw]
  unfold Oper.wp
  simp [Act.eval] at h1 h2
  simp [execOp, hop, resolve, invoke, Deferred.ofValue, Act.eval, h1, h2, callFunc, Result.andThen, go_sem]
  rw [if_neg (by decide +kernel), if_neg (by decide +kernel)]
  show Calls Tryz.prog 108 _ _ _
  refine (M.newList_any s hd h64 w).mono ?_
  rintro e W2 ⟨c, rfl, hL, hk, hc2⟩
  exact hK W2 c ⟨hL, hc2⟩ (show Kept none' w W2 from toK hk) ((toK hk).cell (fun x => x) hc)
/-- While the lists are made. -/
structure Ov (w W : World) (b base s m k : Nat) (v : Value) (L hd : Nat → Nat) : Prop where
  hb : W.heap[b]? = some (bdO base s m v)
  pl : PLL W v ((List.range k).map L)
  vs : v = .slice none 0 0 ∧ k = 0 ∨ ∃ g cap, v = .slice (some ⟨g, 0, none⟩) k cap ∧ w.heap.size ≤ g
  ls : ∀ j, j < k → M.ListAt W (L j) s (hd j)
  iL : ∀ i j, i < k → j < k → L i = L j → i = j
  hL : ∀ j, j < k → w.heap.size ≤ L j
  hw : w.heap.size ≤ b
  kp : Kept none' w W
theorem Ov.next {w W W2 W3 b base s m k v v' L hd c} (h : Ov w W b base s m k v L hd) (hS : M.ListAt W2 c s (hd k)) (hc : W.heap.size ≤ c) (k2 : Kept none' W W2) (hp : PushedL W2 W3 v v' ((List.range k).map L) c) :
    Ov w (W3.setCell ⟨b, 3, none⟩ v') b base s m (k + 1) v' (fun j => if j = k then c else L j) hd := by
  have hvb : ∀ r, v.ownBlock = some r → ∃ cs, W.heap[r]? = some (.cells cs 149 (0, 0)) := fun r hr => h.pl.blk hr
  have kv : Kept (fun x => v.ownBlock = some x) W W3 := k2.trans hp.kp (fun _ _ x => x.elim) (fun _ _ x => x)
  have hb3 : W3.heap[b]? = some (bdO base s m v) := (kv.block b (heap_lt h.hb) (fun e => by
    obtain ⟨cs, hcs⟩ := hvb _ e
    exact ty_ne h.hb hcs (by decide) rfl)).trans h.hb
  have ks : Kept (fun x => x = b) W3 (W3.setCell ⟨b, 3, none⟩ v') := (Kept.refl (fun x => x = b) W3).setCell (p := ⟨b, 3, none⟩) rfl _
  have set3 : ∀ {c' hd'}, M.ListAt W2 c' s hd' → M.ListAt (W3.setCell ⟨b, 3, none⟩ v') c' s hd' := fun {c' hd'} hs => by
    have h3 := hs.kept (ofK hp.kp) (fun e => by
      obtain ⟨cs, hcs⟩ := hvb _ e
      have := (k2.block _ (heap_lt hcs) (fun x => x)).trans hcs
      exact ty_ne hs.hc this (by decide) rfl)
    exact h3.kept (ofK ks) (ty_ne h3.hc hb3 (by decide))
  have hmap : (List.range (k + 1)).map (fun j => if j = k then c else L j) = (List.range k).map L ++ [c] := by
    rw [List.range_succ, List.map_append]
    congr 1
    · exact List.map_congr_left (fun j hj => by rw [if_neg (by have := List.mem_range.1 hj; omega)])
    · simp
  obtain ⟨g, cap, hv'⟩ := hp.sl
  rw [List.length_map, List.length_range] at hv'
  have ltL : ∀ j, j < k → L j < W.heap.size := fun j hj => (h.ls j hj).lt
  refine ⟨(heap_set hb3 3 _).trans (by simp), ?_, .inr ⟨g, cap, hv', ?_⟩, fun j hj => ?_, fun i j hi hj e => ?_, fun j hj => ?_, h.hw, ?_⟩
  · rw [hmap]
    exact hp.pl.kept ks (fun r hr e => by obtain ⟨cs, hcs⟩ := hp.pl.blk hr; exact ty_ne hcs hb3 (by decide) e)
  · rcases hp.ob with e | ⟨r, e, hr⟩
    · rw [hv'] at e
      rcases h.vs with ⟨h0, _⟩ | ⟨g2, cap2, h0, hg2⟩
      · rw [h0] at e; simp [Value.ownBlock] at e
      · rw [h0] at e; simp [Value.ownBlock] at e; omega
    · rw [hv'] at e
      simp [Value.ownBlock] at e
      have := h.kp.size
      have := k2.size
      omega
  · by_cases e : j = k
    · subst e
      simp only [if_true]
      exact set3 hS
    · simp only [e, if_false]
      exact set3 ((h.ls j (by omega)).keep (ofK k2))
  · by_cases e1 : i = k <;> by_cases e2 : j = k <;> simp only [e1, e2, if_true, if_false] at e
    · omega
    · have := ltL j (by omega); omega
    · have := ltL i (by omega); omega
    · exact h.iL i j (by omega) (by omega) e
  · have hz := h.kp.size
    by_cases e : j = k
    · simp only [e, if_true]; omega
    · simp only [e, if_false]; exact h.hL j (by omega)
  · refine (h.kp.trans (U := none') kv (fun _ _ x => x) (fun x hx e => ?_)).setNew (p := ⟨b, 3, none⟩) (fun e => absurd e (Nat.not_lt.2 h.hw)) _
    rcases h.vs with ⟨h0, _⟩ | ⟨g2, cap2, h0, hg2⟩
    · rw [h0] at e; simp [Value.ownBlock] at e
    · rw [h0] at e; simp [Value.ownBlock] at e; omega
abbrev cfgV (base : Nat) (lim o : Int) : Value := .agg #[.int .u64 (base : Int), .int .i64 lim, .int .i64 o]
abbrev cfgO (base : Nat) (lim o : Int) : Obj := .cells #[.int .u64 (base : Int), .int .i64 lim, .int .i64 o] 24
/-- What over leaves. -/
def OvP (w W : World) (b base s m N : Nat) (hd : Nat → Nat) : Prop := ∃ g cap L, Ov w W b base s m N (.slice (some ⟨g, 0, none⟩) N cap) L hd ∧ w.heap.size ≤ g
theorem over_any (base s m N : Nat) (lim o : Int) (hN : 1 ≤ N) (hN9 : N ≤ 9) (hs : List Nat) (hl : hs.length = N) (h64 : ∀ i, hs.getD i 0 < 18446744073709551616) (g0 cp0 : Nat) (w : World) (hh : w.heap[g0]? = some (.cells (wcells hs) 22 (0, 0))) :
    Calls Tryz.prog 77 #[cfgV base lim o, .pointer (some ⟨s, 0, none⟩), .pointer (some ⟨m, 0, none⟩), .slice (some ⟨g0, 0, none⟩) N cp0] w fun e w' => ∃ b, e = .returned (.pointer (some ⟨b, 0, none⟩)) ∧ OvP w w' b base s m N (fun i => hs.getD i 0) := by
  have HH := hid hh
  have HL := hid hl
  have H64 := hid h64
  have B0 := hid (show Ov w ((w.alloc (cfgO base lim o)).alloc (bdO base s m (.slice none 0 0))) (w.heap.size + 1) base s m 0 (.slice none 0 0) (fun _ => 0) (fun i => hs.getD i 0) from
    ⟨heap_new2 w _ _, World.ownsRow_nil _ _ _ _, .inl ⟨rfl, rfl⟩, fun j hj => absurd hj (by omega), fun i j hi => absurd hi (by omega), fun j hj => absurd hj (by omega), by omega, ((Kept.refl none' w).alloc _).alloc _⟩)
  clear hh hl h64
  go_enter Tryz.func77, Tryz.ntmps77
  go_wp2_with fail
  go_loopw [20] (fun i W => ∃ k : Nat, k ≤ N ∧ i = .int .i64 k ∧ Hid (∃ v L, Ov w W (w.heap.size + 1) base s m k v L (fun i => hs.getD i 0))) (fun i _ => N - (intOf i).toNat)
  case atStart => exact ⟨0, by omega, rfl, ⟨_, _, B0.out⟩⟩
  case round =>
    clear B0
    obtain ⟨k, hk, rfl, hR⟩ := hrel
    obtain ⟨v, L, hR⟩ := hR.out
    have HR := hid hR
    have c3 : wr.cell? ⟨w.heap.size + 1, 3, none⟩ = some v := by simp [World.cell?, hR.hb]
    have kp := hR.kp
    clear hR
    by_cases hlt : k < N
    · have hki : (k : Int) < (N : Int) := by omega
      obtain ⟨hd, hhd⟩ : ∃ hd, hd = hs.getD k 0 := ⟨_, rfl⟩
      have hck : wr.cell? ⟨g0, k, none⟩ = some (.int .u64 (hd : Int)) := by
        rw [hhd]
        refine kp.cell (fun x => x) ?_
        have := HL.out
        simp [World.cell?, HH.out, wcells, show k < hs.length by omega]
      have h64k : hd < 18446744073709551616 := by rw [hhd]; exact H64.out k
      have HHD := hid hhd
      clear hhd kp
      go_wp2_with fail
      go_region_law (first | (refine step_newlist rfl 29 30 rfl (w.heap.size + 1) s hd h64k v c3 rfl rfl ?_; intro W2 c HS K2 c3; have K2 := hid (none_trans (Kept.refl none' wr).drew K2.out); have c32 := ((Kept.refl none' W2).alloc (.cells #[.pointer (some ⟨c, 0, none⟩)] 149)).cell (fun x => x) c3) | (refine step_pushL rfl (.tmp 28) (.tmp 32) rfl v _ k c (w.heap.size + 1) _ _ _ ((HR.out.pl.kept K2.out (fun _ _ x => x)).kept ((Kept.refl none' W2).alloc _) (fun _ _ x => x)) (by simp) (by omega) (((K2.out.alloc _).block (w.heap.size + 1) (heap_lt HR.out.hb) (fun x => x)).trans HR.out.hb) ⟨W2.heap.size, 0, none⟩ 1 rfl rfl (by rw [Addr.add_lit]; exact cell_new _ _ _) ?_; intro g' cap' W3 HPU e2 z2))
      all_goals
        have HN2 := hid (HR.out.next (HHD.out ▸ (HS.out.1.keep (ofK ((Kept.refl none' W2).alloc _)))) HS.out.2 (K2.out.alloc _) HPU.out)
        generalize hW : W3.setCell ⟨w.heap.size + 1, 3, none⟩ (.slice (some ⟨g', 0, none⟩) (k + 1) cap') = W4 at HN2
        clear hW HPU e2 z2 c32 c3
        go_wp2_with fail
        exact ⟨⟨k + 1, by omega, by simp, ⟨_, _, HN2.out⟩⟩, by simp [intOf]; omega⟩
    · have hki : ¬ (k : Int) < (N : Int) := by omega
      have D := hid (show OvP w wr (w.heap.size + 1) base s m N (fun i => hs.getD i 0) from by
        have e : k = N := by omega
        have h := HR.out
        rw [e] at h
        rcases h.vs with ⟨_, h0⟩ | ⟨g, cap, h0, hg⟩
        · omega
        · rw [h0] at h
          exact ⟨g, cap, L, h, hg⟩)
      clear HR kp
      go_wp2_with fail
      go_ret
      exact ⟨_, rfl, D.out⟩
theorem orders_any (base : Nat) (lim : Int) (o : Nat) (ho : o ≤ 8) (w : World) :
    Calls Tryz.prog 78 #[cfgV base lim (o : Int)] w fun e w' => e = .returned (.int .i64 ((o : Int) + 1)) ∧ Kept none' w w' := by
  have h1 : ¬ (o : Int) < 0 := by omega
  have h2 : ¬ (8 : Int) < (o : Int) := by omega
  have h3 : max (o : Int) 0 = (o : Int) := by omega
  have h4 : min (o : Int) 8 = (o : Int) := by omega
  have K := hid ((Kept.refl none' w).alloc (cfgO base lim (o : Int)))
  go_enter Tryz.func78, Tryz.ntmps78
  go_wp2_with fail
  go_ret
  exact ⟨rfl, K.out⟩
theorem OvP.base {w0 w W : World} {b base s m N : Nat} {hd : Nat → Nat} (h : OvP w W b base s m N hd) (k : Kept none' w0 w) : OvP w0 W b base s m N hd := by
  obtain ⟨g, cap, L, h, hg⟩ := h
  have hz := k.size
  refine ⟨g, cap, L, ⟨h.hb, h.pl, ?_, h.ls, h.iL, fun j hj => Nat.le_trans hz (h.hL j hj), Nat.le_trans hz h.hw, none_trans k h.kp⟩, by omega⟩
  rcases h.vs with e | ⟨g', c', e1, e2⟩
  · exact .inl e
  · exact .inr ⟨g', c', e1, by omega⟩
theorem OpenB_yes (base s m o : Nat) (lim : Int) (ho : o ≤ 8) (hs : List Nat) (hl : hs.length = o + 1) (h64 : ∀ i, hs.getD i 0 < 18446744073709551616) (g0 cp0 : Nat) (w : World) (hh : w.heap[g0]? = some (.cells (wcells hs) 22 (0, 0))) :
    Calls Tryz.prog 49 #[cfgV base lim (o : Int), .pointer (some ⟨s, 0, none⟩), .pointer (some ⟨m, 0, none⟩), .slice (some ⟨g0, 0, none⟩) (o + 1) cp0] w fun e w' => ∃ b, e = .returned (.tuple #[.pointer (some ⟨b, 0, none⟩), .int .i64 0]) ∧ OvP w w' b base s m (o + 1) (fun i => hs.getD i 0) := by
  have K0 := hid ((Kept.refl none' w).alloc (cfgO base lim (o : Int)))
  have X0 := hid (heap_new w (cfgO base lim (o : Int)))
  have H0 := hid ((K0.out.block _ (heap_lt hh) (fun x => x)).trans hh)
  have HL := hid hl
  have H64 := hid h64
  clear hh hl h64
  obtain ⟨N, hN⟩ : ∃ N, N = o + 1 := ⟨_, rfl⟩
  have hNi : (o : Int) + 1 = (N : Int) := by omega
  rw [← hN] at HL ⊢
  have OR := hid (fun W => orders_any base lim o ho W)
  rw [hNi] at OR
  have hN9 : N ≤ 9 := by omega
  have hN1 : 1 ≤ N := by omega
  clear hNi hN
  go_enter Tryz.func49, Tryz.ntmps49
  go_wp2_with fail
  generalize w.alloc (cfgO base lim (o : Int)) = W1 at *
  refine (OR.out _).mono ?_
  rintro e w2 ⟨rfl, hk⟩
  have K2 := hid (none_trans K0.out hk)
  have X2 := hid ((hk.block _ (heap_lt X0.out) (fun x => x)).trans X0.out)
  have H2 := hid ((hk.block _ (heap_lt H0.out) (fun x => x)).trans H0.out)
  clear hk X0 H0 K0
  have x0 : w2.cell? ⟨w.heap.size, 0, none⟩ = some (.int .u64 (base : Int)) := by simp [World.cell?, X2.out]
  have x1 : w2.cell? ⟨w.heap.size, 1, none⟩ = some (.int .i64 lim) := by simp [World.cell?, X2.out]
  have x2 : w2.cell? ⟨w.heap.size, 2, none⟩ = some (.int .i64 (o : Int)) := by simp [World.cell?, X2.out]
  go_wp2_with fail
  refine (over_any base s m N lim (o : Int) hN1 hN9 hs HL.out H64.out g0 cp0 _ H2.out).mono ?_
  rintro e w3 ⟨b, rfl, hO⟩
  have O3 := hid (hO.base K2.out)
  clear hO
  go_wp2_with fail
  exact ⟨rfl, .tuple #[.pointer (some ⟨b, 0, none⟩), .int .i64 0], by simp [results, Tryz.results49, go_sem], b, rfl, O3.out⟩
theorem cfg3 {w : World} {x base : Nat} {lim o : Int} (h : w.heap[x]? = some (cfgO base lim o)) : w.cell? ⟨x, 0, none⟩ = some (.int .u64 (base : Int)) ∧ w.cell? ⟨x, 1, none⟩ = some (.int .i64 lim) ∧ w.cell? ⟨x, 2, none⟩ = some (.int .i64 o) := by
  refine ⟨?_, ?_, ?_⟩ <;> simp [World.cell?, h]
theorem NewB_any (base s m o : Nat) (lim : Int) (ho : o ≤ 8) (w : World) :
    Calls Tryz.prog 46 #[cfgV base lim (o : Int), .pointer (some ⟨s, 0, none⟩), .pointer (some ⟨m, 0, none⟩)] w fun e w' => ∃ b, e = .returned (.pointer (some ⟨b, 0, none⟩)) ∧ OvP w w' b base s m (o + 1) (fun _ => 0) := by
  have K0 := hid ((Kept.refl none' w).alloc (cfgO base lim (o : Int)))
  have X0 := hid (heap_new w (cfgO base lim (o : Int)))
  obtain ⟨N, hN⟩ : ∃ N, N = o + 1 := ⟨_, rfl⟩
  have hNi : (o : Int) + 1 = (N : Int) := by omega
  rw [← hN]
  have OR := hid (fun W => orders_any base lim o ho W)
  rw [hNi] at OR
  have hN9 : N ≤ 9 := by omega
  have hN1 : 1 ≤ N := by omega
  clear hNi hN
  go_enter Tryz.func46, Tryz.ntmps46
  go_wp2_with fail
  generalize w.alloc (cfgO base lim (o : Int)) = W1 at *
  have X1 := hid (show W1.drew.heap[w.heap.size]? = some (cfgO base lim (o : Int)) from X0.out)
  obtain ⟨x0, x1, x2⟩ := cfg3 X1.out
  have K1 := hid (none_trans K0.out (Kept.refl none' W1).drew)
  go_region_held3 (fun w' => w'.cell? ⟨w.heap.size, 0, none⟩ = some (.int .u64 (base : Int)) ∧ w'.cell? ⟨w.heap.size, 1, none⟩ = some (.int .i64 lim) ∧ w'.cell? ⟨w.heap.size, 2, none⟩ = some (.int .i64 (o : Int))) (first | with_reducible exact ⟨x0, x1, x2⟩ | with_reducible exact ⟨y0, y1, y2⟩ | with_reducible exact ⟨z0, z1, z2⟩ | with_reducible exact ⟨t0, t1, t2⟩) (first | (go_at_call 78; refine (OR.out _).mono ?_; rintro e w2 ⟨rfl, hk⟩; obtain ⟨w3, hmk, hg3, hk3, hs3⟩ := make_own N (by omega) w2; have K3 := hid (none_trans (none_trans K1.out hk) hk3); have X2 := hid ((hk.block _ (heap_lt X1.out) (fun x => x)).trans X1.out); have X3 := hid ((hk3.block _ (heap_lt X2.out) (fun x => x)).trans X2.out); have G3 := hid hg3; obtain ⟨y0, y1, y2⟩ := cfg3 X2.out; obtain ⟨z0, z1, z2⟩ := cfg3 X3.out; clear hk hg3 hk3 hs3) | (go_at_call 77; refine (over_any base s m N lim (o : Int) hN1 hN9 (zeros N) (zeros_len N) (fun i => by rw [zeros_get]; decide) w2.heap.size N _ G3.out).mono ?_; rintro e w4 ⟨b, rfl, hO⟩; have O4 := hid (hO.base K3.out); have X4 := hid ((show Kept none' w3 w4 from by obtain ⟨_, _, _, h, _⟩ := hO; exact h.kp).block _ (heap_lt X3.out) (fun x => x) |>.trans X3.out); obtain ⟨t0, t1, t2⟩ := cfg3 X4.out; clear hO))
  all_goals
    clear x0 x1 x2 y0 y1 y2 z0 z1 z2 t0 t1 t2 hmk
    go_wp2_with fail
    go_ret
    refine ⟨b, rfl, ?_⟩
    have h := O4.out
    rw [show (fun i => (zeros N).getD i 0) = fun _ => 0 from funext fun i => zeros_get N i] at h
    exact h
theorem map_ty {w : World} {b : Nat} {B : Bs} {m : Mp} (h : MapAt w b B m) {x : Nat} (hx : mown b B m.o x) : ∃ cs t z, w.heap[x]? = some (.cells cs t z) ∧ (t = 125 ∨ t = 52 ∨ t = 83 ∨ t = 119 ∨ t = 22) := by
  rcases hx with rfl | hx | hx | ⟨k, hk, rfl | rfl⟩
  · obtain ⟨cq, hb, _⟩ := h.hb
    exact ⟨_, _, _, hb, .inl rfl⟩
  · have hr := h.row
    rw [hx] at hr
    obtain ⟨cs, hg, _⟩ := hr
    exact ⟨_, _, _, hg, .inr (.inl rfl)⟩
  · obtain ⟨cq, _, hp⟩ := h.hb
    rw [hx] at hp
    obtain ⟨cs, hg, _⟩ := hp
    exact ⟨_, _, _, hg, .inr (.inr (.inl rfl))⟩
  · exact ⟨_, _, _, (h.set k hk).hb, .inr (.inr (.inr (.inl rfl)))⟩
  · exact ⟨_, _, _, (h.set k hk).hc, .inr (.inr (.inr (.inr rfl)))⟩
theorem space_ty {w : World} {s : Nat} {a : Option Nat} {base R lim n : Nat} {f : Nat → Nat} (h : M.SpaceAt w s a base R lim n f) {x : Nat} (hx : M.own s a x) : ∃ cs t z, w.heap[x]? = some (.cells cs t z) ∧ (t = 122 ∨ t = 5) := by
  obtain ⟨cap, hb, hr⟩ := h.ex
  rcases hx with rfl | hx
  · exact ⟨_, _, _, hb, .inl rfl⟩
  · rw [hx] at hr
    obtain ⟨_, rs, _, hg, _⟩ := hr
    exact ⟨_, _, _, hg, .inr rfl⟩
theorem map_space {w : World} {b : Nat} {B : Bs} {m : Mp} {s : Nat} {a : Option Nat} {base R lim n : Nat} {f : Nat → Nat} (h : MapAt w b B m) (k : M.SpaceAt w s a base R lim n f) {x : Nat} (hx : mown b B m.o x) (hy : M.own s a x) : False := by
  obtain ⟨cs, t, z, h1, h2⟩ := map_ty h hx
  obtain ⟨cs', t', z', k1, k2⟩ := space_ty k hy
  rw [h1] at k1
  cases k1
  rcases h2 with e | e | e | e | e <;> rcases k2 with e' | e' <;> rw [e] at e' <;> exact absurd e' (by decide)
theorem space_someY {w s a base R lim n f} (h : M.SpaceAt w s a base R lim n f) (hn : 0 < n) : ∃ g, a = some g := by
  obtain ⟨cap, hb, hr⟩ := h.ex
  cases a with
  | none => exact absurd hr.1 (by omega)
  | some g => exact ⟨g, rfl⟩
theorem ownY {w W W' : World} {s : Nat} {a : Option Nat} (hk : Kept none' w W) (hs : w.heap.size ≤ s) (ha : ∀ g, a = some g → w.heap.size ≤ g) (k : Kept (M.own s a) W W') : Kept none' w W' :=
  hk.trans k (fun _ _ e => e) (fun y hy e => by
    rcases e with rfl | e
    · omega
    · have := ha y e
      omega)
end Go.Proofs.YthjokkihlodapaaGreat.H
