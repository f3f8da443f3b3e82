/- croftref4: paired. -/
import Derived.Test.YtbhheimedbfmeaaRfB
import Derived.Test.YtbhheimedbfmeaaPgV
import Derived.Lib.AppendZeros
namespace Go.Proofs.Ytbhheimedbfmeaa
open Go.RowKit
set_option linter.unusedVariables false

theorem power_int (i : Int) (n : Nat) (hi : i = (n : Int)) (hn : n ≤ 9) (w : World) :
    Calls Try.prog 49 #[.int .i64 i] w fun e w' => e = .returned (.int .i64 ((2 ^ n : Nat) : Int)) ∧ w' = w := by
  rw [hi]
  exact power_any n hn w
/-- What paired makes: the rows of truths, so far. -/
structure Prd (w W : World) (n k : Nat) (v : Value) (R : Nat → Nat) (F : Nat → Nat → Bool) : Prop where
  gs : GS w W 65 1 v k (bsls R (ln n) k)
  bs : ∀ j, j < k → InB W (R j) (ln n j) (F j)
  fr : ∀ j, j < k → w.heap.size ≤ R j
  iR : ∀ i j, i < k → j < k → R i = R j → i = j
  nw : ∀ x, v.ownBlock = some x → w.heap.size ≤ x
theorem make_truths (n : Nat) (hn : n ≤ 1024) (w : World) : ∃ w1, (Instr.makeSlice 65 (.int .i64 (n : Int)) (.int .i64 (n : Int))).run Try.prog w = .ok (.slice (some ⟨w.heap.size, 0, none⟩) n n) w1 ∧ InB w1 w.heap.size n (fun _ => false) ∧ Kept none' w w1 ∧ w1.heap.size = w.heap.size + 1 := by
  have hr := run_make_row' (P := Try.prog) 65 4 (.bool false) 1 Try.underlying65 info_bool rfl .i64 .i64 n (by omega) (by omega) w
  refine ⟨_, hr, ⟨_, heap_new _ _, size_madeCells _ _, fun j hj => ?_⟩, (Kept.refl none' w).alloc _, by simp⟩
  simp [madeCells, hj, Nat.mod_one]
theorem info_bsl : (Try.prog.info? 65).map (fun i => (i.zero, i.size, i.bytes)) = some (some (.slice none 0 0), 1, 24) := by kernel_rfl
theorem push_bsl {w0 W : World} {v : Value} {n : Nat} {xs : List Value} (h : GS w0 W 65 1 v n xs) (a : Option Addr) (l c : Nat) (hn : n ≤ 2000) :
    ∃ g cap w', (∀ ty, (Builtin.append_ #[49, 49] ty #[v, .slice (some ⟨W.heap.size, 0, none⟩) 1 1]).run Try.prog (W.alloc (.cells #[.slice a l c] 65)) = .ok (.slice (some ⟨g, 0, none⟩) (n + 1) cap) w') ∧ GS w0 w' 65 1 (.slice (some ⟨g, 0, none⟩) (n + 1) cap) (n + 1) (xs ++ [.slice a l c]) ∧ w0.heap.size ≤ g ∧ (∀ x, v.ownBlock ≠ some x → ∀ o, W.heap[x]? = some o → w'.heap[x]? = some o) := by
  obtain ⟨i, hi, hzz⟩ := Option.map_eq_some_iff.1 info_bsl
  simp only [Prod.mk.injEq] at hzz
  have ka := (Kept.refl none' W).alloc (.cells #[.slice a l c] 65)
  obtain ⟨g, cap, w', h1, h2, h5, h4⟩ := (h.keep ka).push 49 i (.slice none 0 0) 24 Try.underlying49 hi hzz.1 hzz.2.1 hzz.2.2 rfl (by decide) ⟨W.heap.size, 0, none⟩ 1 [.slice a l c] rfl (fun j u hj => cells_new (cs := #[.slice a l c]) j u hj) (by simp [Value.oneCell']) (by simp only [maxLen]; omega) (by omega)
  exact ⟨g, cap, w', h1, h2, h5, fun x hx o ho => h4 x hx o ((ka.block x (heap_lt ho) (fun x => x)).trans ho)⟩
theorem bsls_succ (R L : Nat → Nat) (k S : Nat) : bsls R L k ++ [.slice (some ⟨S, 0, none⟩) (L k) (L k)] = bsls (upn R k S) L (k + 1) := by
  unfold bsls
  rw [List.range_succ, List.map_append]
  congr 1
  · apply List.map_congr_left
    intro j hj
    have := List.mem_range.1 hj
    simp [bsl, upn, show ¬ j = k by omega]
  · simp [bsl, upn]
theorem Prd.next {w W W' : World} {n k : Nat} {v : Value} {R : Nat → Nat} {F : Nat → Nat → Bool} (h : Prd w W n k v R F) (hk : k ≤ 8) (kp : Kept none' W W') (S : Nat) (hS : W.heap.size ≤ S) (hb : InB W' S (ln n k) (F k)) :
    ∃ g cap w', (∀ ty, (Builtin.append_ #[49, 49] ty #[v, .slice (some ⟨W'.heap.size, 0, none⟩) 1 1]).run Try.prog (W'.alloc (.cells #[.slice (some ⟨S, 0, none⟩) (ln n k) (ln n k)] 65)) = .ok (.slice (some ⟨g, 0, none⟩) (k + 1) cap) w') ∧ Prd w w' n (k + 1) (.slice (some ⟨g, 0, none⟩) (k + 1) cap) (upn R k S) F ∧ (∀ (x : Nat) (cs : Array Value) (t : TypeId) (z : Nat × Nat), t ≠ 65 → W.heap[x]? = some (.cells cs t z) → w'.heap[x]? = some (.cells cs t z)) := by
  have hg := h.gs.keep kp
  obtain ⟨g, cap, w', h1, h2, h5, h3⟩ := push_bsl hg (some ⟨S, 0, none⟩) (ln n k) (ln n k) (by omega)
  rw [bsls_succ] at h2
  have key : ∀ (x : Nat) (cs : Array Value) (t : TypeId) (z : Nat × Nat), t ≠ 65 → W'.heap[x]? = some (.cells cs t z) → w'.heap[x]? = some (.cells cs t z) := fun x cs t z ht hx => h3 x (fun e => by
    rcases hg.own.2 with ⟨rfl, h0⟩ | ⟨g', cap', cur, rfl, hb', hg', hh⟩
    · simp [Value.ownBlock] at e
    · simp [Value.ownBlock] at e
      subst e
      rw [hg'] at hx
      cases hx
      exact ht rfl) _ hx
  have kb : ∀ I l f, InB W' I l f → InB w' I l f := fun I l f hI => by
    obtain ⟨cs, q1, q2⟩ := hI
    exact ⟨cs, key _ _ _ _ (by decide) q1, q2⟩
  refine ⟨g, cap, w', h1, ⟨h2, fun j hj => ?_, fun j hj => ?_, fun i j hi hj e => ?_, fun x hx => by simp [Value.ownBlock] at hx; omega⟩, fun x cs t z ht hx => key x cs t z ht ((kp.block x (heap_lt hx) (fun x => x)).trans hx)⟩
  · unfold upn
    by_cases e : j = k
    · subst e; rw [if_pos rfl]; exact kb _ _ _ hb
    · rw [if_neg e]; exact kb _ _ _ ((h.bs j (by omega)).kept kp (fun x => x))
  · unfold upn
    by_cases e : j = k
    · rw [if_pos e]; exact Nat.le_trans h.gs.kp.size hS
    · rw [if_neg e]; exact h.fr j (by omega)
  · have lt : ∀ j, j < k → R j < W.heap.size := fun j hj => (h.bs j hj).lt
    unfold upn at e
    by_cases e1 : i = k <;> by_cases e2 : j = k <;> simp only [e1, e2, if_true, if_false] at e
    · omega
    · have := lt j (by omega); omega
    · have := lt i (by omega); omega
    · exact h.iR i j (by omega) (by omega) e
theorem GS.kept {w0 W W' : World} {e : TypeId} {size : Nat} {v : Value} {n : Nat} {xs : List Value} {S : Nat → Prop} (h : GS w0 W e size v n xs) (k : Kept S W W') (hS : ∀ x, v.ownBlock = some x → ¬ S x) (h0 : ∀ x, S x → w0.heap.size ≤ x) : GS w0 W' e size v n xs :=
  ⟨own_kept h.own k hS, h.new, h.kp.trans k (fun _ _ x => x) (fun x hx e => absurd (h0 x e) (by omega))⟩
theorem own_ty {w : World} {e t : TypeId} {size : Nat} {v : Value} {n : Nat} {xs : List Value} (h : w.ownsRow 0 e size v n xs) (x : Nat) (hx : v.ownBlock = some x) {cs : Array Value} {z : Nat × Nat} (hc : w.heap[x]? = some (.cells cs t z)) : t = e := by
  rcases h.2 with ⟨rfl, h0⟩ | ⟨g, cap, cur, rfl, hb, hg, h3⟩
  · simp [Value.ownBlock] at hx
  · simp [Value.ownBlock] at hx
    subst hx
    rw [hg] at hc
    cases hc
    rfl
/-- A box of the struct is written. -/
theorem Prd.box {w W : World} {n k : Nat} {v : Value} {R : Nat → Nat} {F : Nat → Nat → Bool} (h : Prd w W n k v R F) {x : Nat} {cs : Array Value} {z : Nat × Nat} (hx : W.heap[x]? = some (.cells cs 51 z)) (hl : w.heap.size ≤ x) (i : Nat) (u : Value) : Prd w (W.setCell ⟨x, i, none⟩ u) n k v R F := by
  have ks : Kept (fun y => y = x) W (W.setCell ⟨x, i, none⟩ u) := (Kept.refl (fun y => y = x) W).setCell (p := ⟨x, i, none⟩) rfl _
  refine ⟨h.gs.kept ks (fun y hy e => ?_) (fun y e => by omega), fun j hj => (h.bs j hj).kept ks (fun e => ?_), h.fr, h.iR, h.nw⟩
  · have e : y = x := e
    subst e
    exact absurd (own_ty h.gs.own y hy hx) (by decide)
  · obtain ⟨c2, h2, _⟩ := h.bs j hj
    exact absurd e (ty_ne h2 hx (by decide))
theorem InB.congr {w I n f f'} (h : InB w I n f) (he : ∀ i, i < n → f i = f' i) : InB w I n f' := by
  obtain ⟨cs, hg, hs, hc⟩ := h
  exact ⟨cs, hg, hs, fun i hi => (hc i hi).trans (congrArg (fun z => some (Value.bool z)) (he i hi))⟩
set_option maxRecDepth 4000 in
set_option maxHeartbeats 1000000 in
theorem paired_any (o n cp p : Nat) (ho : o ≤ 8) (hn : n ≤ 1024) (g : Option Nat) (q : Value) (R L : Nat → Nat) (f : Nat → Nat → Bool) (w : World) (hq : w.ownsRow 0 65 1 q p (bsls R L p)) (hp : p ≤ 8) (hL : ∀ k, k < p → L k ≤ 1024) (hf : ∀ k, k < p → InB w (R k) (L k) (f k)) :
    Calls Try.prog 48 #[rv o g n cp q] w fun e w' => ∃ q', e = .returned (rv o g n cp q') ∧ ∃ R', Prd w w' n o q' R' (fun k i => decide (k < p) && (decide (i < L k) && f k i)) := by
  obtain ⟨qa, qc, rfl⟩ : ∃ qa qc, q = .slice qa p qc := by
    rcases hq.2 with ⟨rfl, rfl⟩ | ⟨g', cap, cur, rfl, _⟩
    · exact ⟨none, 0, rfl⟩
    · exact ⟨_, cap, rfl⟩
  have HQ := hid hq
  have HL := hid hL
  have HF := hid hf
  clear hq hL hf
  go_enter Try.func48, Try.ntmps48
  go_wp2_with fail
  have hk0 : Kept none' w ((w.alloc (ro o g n cp (.slice qa p qc))).alloc (ro 0 none 0 0 (.slice none 0 0))) := ((Kept.refl none' w).alloc _).alloc _
  have P0 := hid (show Prd w _ n 0 (.slice none 0 0) (fun _ => 0) (fun k i => decide (k < p) && (decide (i < L k) && f k i)) from ⟨GS.nil w _ _ _ hk0, fun j hj => absurd hj (Nat.not_lt_zero j), fun j hj => absurd hj (Nat.not_lt_zero j), fun i j hi => absurd hi (Nat.not_lt_zero i), fun x hx => by simp [Value.ownBlock] at hx⟩)
  have X0 := hid (show ((w.alloc (ro o g n cp (.slice qa p qc))).alloc (ro 0 none 0 0 (.slice none 0 0))).heap[w.heap.size]? = some (ro o g n cp (.slice qa p qc)) ∧ ((w.alloc (ro o g n cp (.slice qa p qc))).alloc (ro 0 none 0 0 (.slice none 0 0))).heap[w.heap.size + 1]? = some (ro 0 none 0 0 (.slice none 0 0)) from ⟨(((Kept.refl none' (w.alloc (ro o g n cp (.slice qa p qc)))).alloc (ro 0 none 0 0 (.slice none 0 0))).block _ (heap_lt (heap_new w _)) (fun x => x)).trans (heap_new w _), heap_new2 w _ _⟩)
  clear hk0
  go_loopw [3, 4] (fun v i W => ∃ k : Nat, k ≤ o ∧ i = .int .i64 k ∧ (∃ va vc, v = .slice va k vc) ∧ Hid (∃ R', Prd w W n k v R' (fun k i => decide (k < p) && (decide (i < L k) && f k i))) ∧ Hid (W.heap[w.heap.size]? = some (ro o g n cp (.slice qa p qc)) ∧ W.heap[w.heap.size + 1]? = some (ro 0 none 0 0 (.slice none 0 0)))) (fun _ i _ => o - (intOf i).toNat)
  case atStart => exact ⟨0, by omega, rfl, ⟨none, 0, rfl⟩, ⟨_, P0.out⟩, X0⟩
  case round =>
    clear P0 X0
    obtain ⟨k, hk, rfl, ⟨va, vc, rfl⟩, hP, hX⟩ := hrel
    obtain ⟨R', hP⟩ := hP.out
    have HP := hid hP
    clear hP
    have c0 : wr.cell? ⟨w.heap.size, 0, none⟩ = some (.int .i64 (o : Int)) := by simp [World.cell?, hX.out.1]
    have c1 : wr.cell? ⟨w.heap.size, 1, none⟩ = some (.slice (adr g) n cp) := by simp [World.cell?, hX.out.1]
    by_cases hlt : k < o
    · have hki : (k : Int) < (o : Int) := by omega
      obtain ⟨l, hl⟩ : ∃ l, l = ln n k := ⟨_, rfl⟩
      have hl1 : l ≤ 1024 := by rw [hl]; exact Nat.le_trans (Nat.div_le_self _ _) hn
      have hdv : (n : Int).tdiv ((2 ^ (k + 1) : Nat) : Int) = (l : Int) := by rw [hl]; rfl
      have hd0 : ¬ ((2 ^ (k + 1) : Nat) : Int) = 0 := by have : 0 < 2 ^ (k + 1) := Nat.pow_pos (by decide); omega
      obtain ⟨w5, hmk, hI5, hk5, hs5⟩ := make_truths l hl1 wr.drew
      have I5 := hid hI5
      have K5 := hid hk5
      have LL := hid hl
      clear hI5 hk5 hs5 hl
      go_wp2_with fail
      have hkw : IntKind.i64.wrap ((k : Int) + 1) = ((k + 1 : Nat) : Int) := by rw [IntKind.wrap_i64]; omega
      have hlw : IntKind.i64.wrap (l : Int) = (l : Int) := by rw [IntKind.wrap_i64]; omega
      have hpc : ((2 ^ (k + 1) : Nat) : Int) = 2 ^ (k + 1) := by simp
      rw [hpc] at hdv hd0
      go_region_with (go_at_call 49; refine (power_int _ (k + 1) (by omega) (by omega) _).mono ?_; rintro e w2 ⟨rfl, rfl⟩; rw [hpc])
      all_goals
        go_wp2_with fail
        obtain ⟨W0, hW0⟩ : ∃ W0, W0 = wr := ⟨_, rfl⟩
        subst hW0
        have hk5 : Kept none' W0 w5 := none_trans (Kept.refl none' W0).drew K5.out
        go_loopw [6] (fun i W => ∃ a : Nat, a ≤ l ∧ Hid (a ≤ (if k < p then L k else 0)) ∧ i = .int .i64 a ∧ Hid (Kept none' W0 W) ∧ Hid (InB W W0.heap.size l (fun i => decide (i < a) && (decide (k < p) && (decide (i < L k) && f k i))))) (fun i _ => l - (intOf i).toNat)
        case atStart => exact ⟨0, by omega, Nat.zero_le _, rfl, hk5, I5.out.congr (fun i hi => by simp)⟩
        case round =>
          clear hk5 hmk I5 K5 c0 c1 hdv hd0
          obtain ⟨a, ha, hal, rfl, hK, hI⟩ := hrel
          have x1 := (hK.out.block _ (heap_lt hX.out.1) (fun x => x)).trans hX.out.1
          have c2 : wr.cell? ⟨w.heap.size, 2, none⟩ = some (.slice qa p qc) := by simp [World.cell?, x1]
          clear x1
          have fin : (a = l ∨ ¬ k < p ∨ (k < p ∧ ¬ a < L k)) → ∃ g2 cap w', (∀ ty, (Builtin.append_ #[49, 49] ty #[.slice va k vc, .slice (some ⟨wr.heap.size, 0, none⟩) 1 1]).run Try.prog (wr.alloc (.cells #[.slice (some ⟨W0.heap.size, 0, none⟩) l l] 65)) = .ok (.slice (some ⟨g2, 0, none⟩) (k + 1) cap) w') ∧ Hid (∃ R', Prd w w' n (k + 1) (.slice (some ⟨g2, 0, none⟩) (k + 1) cap) R' (fun k i => decide (k < p) && (decide (i < L k) && f k i))) ∧ Hid (w'.heap[w.heap.size]? = some (ro o g n cp (.slice qa p qc)) ∧ w'.heap[w.heap.size + 1]? = some (ro 0 none 0 0 (.slice none 0 0))) := fun hz => by
            have hI2 : InB wr W0.heap.size (ln n k) (fun i => decide (k < p) && (decide (i < L k) && f k i)) := by
              rw [← LL.out]
              refine hI.out.congr (fun i hi => ?_)
              rcases hz with rfl | h2 | ⟨h2, h3⟩
              · simp [hi]
              · simp [h2]
              · by_cases q : i < a
                · simp [q]
                · have : ¬ i < L k := by omega
                  simp [this]
            obtain ⟨g2, cap, w', r1, r2, r3⟩ := HP.out.next (by omega) hK.out W0.heap.size (Nat.le_refl _) hI2
            rw [← LL.out] at r1
            exact ⟨g2, cap, w', r1, hid ⟨_, r2⟩, hid ⟨r3 _ _ _ _ (by decide) hX.out.1, r3 _ _ _ _ (by decide) hX.out.2⟩⟩
          by_cases hlt2 : a < l
          · have hai : (a : Int) < (l : Int) := by omega
            by_cases hkp : k < p
            · have hkpi : (k : Int) < (p : Int) := by omega
              have dk : decide ((k : Int) < (p : Int)) = true := decide_eq_true hkpi
              obtain ⟨g', cap', u, e1, e2, e3⟩ := own_cell HQ.out k hkp
              obtain ⟨rfl, rfl⟩ : qa = some ⟨g', 0, none⟩ ∧ qc = cap' := by simpa using e1
              have kw := none_trans HP.out.gs.kp hK.out
              have hu : u = bsl R L k := by simp [bsls, hkp] at e2; exact e2.symm
              rw [hu] at e3
              have e4 := kw.cell (fun x => x) e3
              have hLk := HL.out k hkp
              by_cases hkl : a < L k
              · have hkli : (a : Int) < (L k : Int) := by omega
                have c5 := ((HF.out k hkp).kept kw (fun x => x)).cell a hkl
                have f5 := hI.out.froz a
                have c6 := hI.out.cell a hlt2
                have H2 := hid (show Kept none' W0 (wr.setCell ⟨W0.heap.size, a, none⟩ (.bool (f k a))) ∧ InB (wr.setCell ⟨W0.heap.size, a, none⟩ (.bool (f k a))) W0.heap.size l (fun i => decide (i < a + 1) && (decide (k < p) && (decide (i < L k) && f k i))) from ⟨hK.out.setNew (p := ⟨W0.heap.size, a, none⟩) (fun e => absurd e (Nat.lt_irrefl _)) _, hI.out.set a hlt2 (f k a) (fun i hi => by
                  by_cases e : i = a
                  · subst e; simp [hkp, hkl]
                  · rw [if_neg e, show decide (i < a + 1) = decide (i < a) from decide_eq_decide.2 (by omega)])⟩)
                have H3 := hid (show a + 1 ≤ (if k < p then L k else 0) by rw [if_pos hkp]; omega)
                clear e1 e2 e3 kw hu hK hI fin hal
                go_wp2_with fail
                exact ⟨⟨a + 1, by omega, H3, by simp, H2.out.1, H2.out.2⟩, by simp [intOf]; omega⟩
              · have hkli : ¬ (a : Int) < (L k : Int) := by omega
                obtain ⟨g2, cap, w', hap, r2, r3⟩ := fin (.inr (.inr ⟨hkp, hkl⟩))
                clear e1 e2 e3 kw hu hK hI fin hal
                have HAP := hid hap
                clear hap
                go_wp2_with (at_builtin; refine Lib.wpList_append_run _ rfl _ _ _ _ rfl (.slice va k vc) (.slice (some ⟨wr.heap.size, 0, none⟩) 1 1) rfl rfl _ _ (HAP.out _) ?_)
                exact ⟨⟨k + 1, by omega, by simp, ⟨_, _, rfl⟩, r2, r3⟩, by simp [intOf]; omega⟩
            · have hkpi : ¬ (k : Int) < (p : Int) := by omega
              have dk : decide ((k : Int) < (p : Int)) = false := decide_eq_false hkpi
              obtain ⟨g2, cap, w', hap, r2, r3⟩ := fin (.inr (.inl hkp))
              clear hK hI fin hal
              have HAP := hid hap
              clear hap
              go_wp2_with (at_builtin; refine Lib.wpList_append_run _ rfl _ _ _ _ rfl (.slice va k vc) (.slice (some ⟨wr.heap.size, 0, none⟩) 1 1) rfl rfl _ _ (HAP.out _) ?_)
              exact ⟨⟨k + 1, by omega, by simp, ⟨_, _, rfl⟩, r2, r3⟩, by simp [intOf]; omega⟩
          · have hai : ¬ (a : Int) < (l : Int) := by omega
            obtain ⟨g2, cap, w', hap, r2, r3⟩ := fin (.inl (by omega))
            clear hK hI fin hal
            have HAP := hid hap
            clear hap
            go_wp2_with (at_builtin; refine Lib.wpList_append_run _ rfl _ _ _ _ rfl (.slice va k vc) (.slice (some ⟨wr.heap.size, 0, none⟩) 1 1) rfl rfl _ _ (HAP.out _) ?_)
            exact ⟨⟨k + 1, by omega, by simp, ⟨_, _, rfl⟩, r2, r3⟩, by simp [intOf]; omega⟩
    · have hki : ¬ (k : Int) < (o : Int) := by omega
      have hko : k = o := by omega
      subst hko
      have f1 : wr.frozen? ⟨w.heap.size, 2, none⟩ = false := by simp [World.frozen?, hX.out.1]
      have f2 : ∀ i, wr.frozen? ⟨w.heap.size + 1, i, none⟩ = false := fun i => by simp [World.frozen?, hX.out.2]
      have c2 : wr.cell? ⟨w.heap.size, 2, none⟩ = some (.slice qa p qc) := by simp [World.cell?, hX.out.1]
      have d0 : wr.cell? ⟨w.heap.size + 1, 0, none⟩ = some (.int .i64 0) := by simp [World.cell?, hX.out.2]
      have d1 : wr.cell? ⟨w.heap.size + 1, 1, none⟩ = some (.slice none 0 0) := by simp [World.cell?, hX.out.2]; rfl
      have d2 : wr.cell? ⟨w.heap.size + 1, 2, none⟩ = some (.slice none 0 0) := by simp [World.cell?, hX.out.2]
      have P1 := HP.out.box hX.out.1 (Nat.le_refl _) 2 (.slice va k vc)
      have x2 : (wr.setCell ⟨w.heap.size, 2, none⟩ (.slice va k vc)).heap[w.heap.size + 1]? = some (ro 0 none 0 0 (.slice none 0 0)) := (((Kept.refl (fun y => y = w.heap.size) wr).setCell (p := ⟨w.heap.size, 2, none⟩) rfl _).block _ (heap_lt hX.out.2) (by omega)).trans hX.out.2
      have P2 := P1.box x2 (by omega) 0 (.int .i64 (k : Int))
      have P3 := P2.box (heap_set x2 0 _) (by omega) 1 (.slice (adr g) n cp)
      have P4 := hid (P3.box (heap_set (heap_set x2 0 _) 1 _) (by omega) 2 (.slice va k vc))
      clear P1 P2 P3 x2
      go_wp2_with fail
      exact ⟨rfl, rv k g n cp (.slice va k vc), by simp [results, Try.results48, go_sem, d0, d1, d2], _, rfl, _, P4.out⟩
end Go.Proofs.Ytbhheimedbfmeaa
