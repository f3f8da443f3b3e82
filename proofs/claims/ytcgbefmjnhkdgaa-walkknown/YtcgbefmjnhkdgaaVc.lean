import Derived.Test.YtcgbefmjnhkdgaaVb
import Derived.Test.YtcgbefmjnhkdgaaVa
set_option maxRecDepth 1000000
set_option maxHeartbeats 80000000
/- WalkBytes: bytes that turn nothing. -/
namespace Go.Proofs.Ytcgbefmjnhkdgaa
open Go.RowKit
set_option linter.unusedVariables false
/-- An image with another byte at a place. -/
def setM (I : Img) (a v : Nat) : Img := { I with mem := fun j => if j = a then v else I.mem j }
section
variable {α : Type} [DecidableEq α] {dec : α → Option Nat} {nil : α} {nxt bk nxt' bk' : Nat → α}
theorem prgL_congr : ∀ (n : Nat) (l : List Nat) (p b : α), (∀ i, i ∈ l → nxt i = nxt' i ∧ bk i = bk' i) → prgL dec nil nxt bk n l p b = prgL dec nil nxt' bk' n l p b
  | 0, l, p, b, _ => rfl
  | n + 1, l, p, b, h => by
    unfold prgL
    by_cases hp : p = nil
    · rw [if_pos hp, if_pos hp]
    · rw [if_neg hp, if_neg hp]
      cases hd : dec p with
      | none => rfl
      | some i =>
        show (decide (i ∈ l) && _) = (decide (i ∈ l) && _)
        by_cases hi : i ∈ l
        · rw [(h i hi).1, (h i hi).2, prgL_congr n (l.erase i) (nxt' i) p fun j hj => h j (List.mem_of_mem_erase hj)]
        · rw [decide_eq_false hi]; rfl
end
theorem prg9_congr {nx nx' : Nat → Option Int} : ∀ (n : Nat) (l : List Nat) (p : Int), (∀ i, i ∈ l → nx i = nx' i) → prg9 nx n l p = prg9 nx' n l p
  | 0, l, p, _ => rfl
  | n + 1, l, p, h => by
    unfold prg9
    by_cases hp : p = -1
    · rw [if_pos hp, if_pos hp]
    · rw [if_neg hp, if_neg hp]
      by_cases hi : 0 ≤ p ∧ p.toNat ∈ l
      · rw [if_pos hi, if_pos hi, h _ hi.2]
        cases nx' p.toNat with
        | none => rfl
        | some q => exact prg9_congr n _ q fun j hj => h j (List.mem_of_mem_erase hj)
      · rw [if_neg hi, if_neg hi]
theorem word_setM {f : Nat → Nat} {a v o : Nat} (h : ¬ (o ≤ a ∧ a < o + 8)) : M.word (fun j => if j = a then v else f j) o = M.word f o := by
  unfold M.word
  have e : ∀ i, i < 8 → (fun i => if o + i = a then v else f (o + i)) i = (fun i => f (o + i)) i := fun i hi => if_neg (by omega)
  revert e
  generalize (fun i => if o + i = a then v else f (o + i)) = F
  generalize (fun i => f (o + i)) = G
  intro e
  simp only [M.wordTo, e 0 (by omega), e 1 (by omega), e 2 (by omega), e 3 (by omega), e 4 (by omega), e 5 (by omega), e 6 (by omega), e 7 (by omega)]
/-- No link lies there. -/
structure NoL (I : Img) (a : Nat) : Prop where
  fr : ∀ i, i < I.np → (I.pg i).kd = 0 → ¬ (4096 * i ≤ a ∧ a < 4096 * i + 16)
  ce : ∀ g i, g < I.np → (I.pg g).kd = 4 → i ∈ frL (I.pg g) (celN9 (I.pg g).cl.toNat) → ¬ (4096 * g + i * (16 * 2 ^ (I.pg g).cl.toNat) ≤ a ∧ a < 4096 * g + i * (16 * 2 ^ (I.pg g).cl.toNat) + 8)
theorem ok8_set {I : Img} {a v j : Nat} (h : NoL I a) : ok8 (setM I a v) j = ok8 I j := by
  unfold ok8
  show prgL (decP I) 0 (fun i => M.word (fun j => if j = a then v else I.mem j) (4096 * i)) (fun i => M.word (fun j => if j = a then v else I.mem j) (4096 * i + 8)) ((pgL I fun p => isF p (j : Int)).length + 1) (pgL I fun p => isF p (j : Int)) (I.hd.getD j 0) 0 = _
  refine prgL_congr _ _ _ _ fun i hi => ?_
  obtain ⟨h1, h2⟩ := pgL_mem.1 hi
  have h3 : (I.pg i).kd = 0 := by
    simp only [isF, Bool.and_eq_true, decide_eq_true_eq] at h2
    exact h2.1
  have := h.fr i h1 h3
  exact ⟨word_setM (by omega), word_setM (by omega)⟩
theorem nx9_congr {I J : Img} {g c i : Nat} (hb : J.base = I.base) (hw : M.word J.mem (4096 * g + i * (16 * 2 ^ c)) = M.word I.mem (4096 * g + i * (16 * 2 ^ c))) : nx9 J g c i = nx9 I g c i := by
  unfold nx9
  simp only [hb, hw]
theorem ok9_set {I : Img} {a v g : Nat} (h : NoL I a) (hg : g < I.np) : ok9 (setM I a v) g = ok9 I g := by
  by_cases h4 : (I.pg g).kd = 4
  · have hw : ∀ i, i ∈ frL (I.pg g) (celN9 (I.pg g).cl.toNat) → nx9 (setM I a v) g (I.pg g).cl.toNat i = nx9 I g (I.pg g).cl.toNat i := fun i hi => by
      have e := word_setM (f := I.mem) (v := v) (h.ce g i hg h4 hi)
      generalize (I.pg g).cl.toNat = c at e ⊢
      exact nx9_congr rfl e
    have e2 : ok9c (setM I a v) g (I.pg g).cl.toNat = ok9c I g (I.pg g).cl.toNat := by
      generalize (I.pg g).cl.toNat = c at hw ⊢
      unfold ok9c
      exact prg9_congr _ _ _ hw
    unfold ok9
    rw [show (setM I a v).pg = I.pg from rfl, e2]
  · unfold ok9
    rw [show (setM I a v).pg = I.pg from rfl, decide_eq_false h4, Bool.not_false, Bool.true_or, Bool.true_or]
theorem r4_set {I : Img} {a v : Nat} : ∀ n b, r4F (setM I a v) n b = r4F I n b
  | 0, b => rfl
  | n + 1, b => by
    unfold r4F
    rw [show (setM I a v).pg = I.pg from rfl, show (setM I a v).np = I.np from rfl]
    simp only [r4_set n]
theorem rl_0 (I : Img) : rl I 0 = if M.mayB I.base I.lim I.ord = true then none else some 0 := by rw [rl]
theorem rl_1 (I : Img) : rl I 1 = r2 I I.ord.toNat := by rw [rl]
theorem rl_2 (I : Img) : rl I 2 = fst1 I.np fun i => rngB I.ord I.np (I.pg i) := by rw [rl]
theorem rl_3 (I : Img) : rl I 3 = r4F I (I.np + 1) 0 := by rw [rl, r4]
theorem rl_4 (I : Img) : rl I 4 = fst1 I.np fun i => ok5 (I.pg i) := by rw [rl]
theorem rl_5 (I : Img) : rl I 5 = fst1 I.np (ok6 I I.ord.toNat) := by rw [rl]
theorem rl_6 (I : Img) : rl I 6 = fstO I.no (r7k I) := by rw [rl, r7]
theorem rl_7 (I : Img) : rl I 7 = fst1 (I.ord.toNat + 1) (ok8 I) := by rw [rl]
theorem rl_8 (I : Img) : rl I 8 = fst1 I.np (ok9 I) := by rw [rl]
theorem rl_9 (I : Img) : rl I 9 = fst1 8 (ok10 I) := by rw [rl]
theorem rl_10 (I : Img) : rl I 10 = fst1 I.np (ok11 I) := by rw [rl]
theorem s_r2 (I : Img) (a v k : Nat) : r2 (setM I a v) k = r2 I k := by unfold r2; rfl
theorem s_6 (I : Img) (a v k : Nat) : ok6 (setM I a v) k = ok6 I k := by funext i; unfold ok6; rfl
theorem s_7 (I : Img) (a v : Nat) : r7k (setM I a v) = r7k I := by funext i; unfold r7k onF; rfl
theorem s_10 (I : Img) (a v : Nat) : ok10 (setM I a v) = ok10 I := by funext i; unfold ok10 pgL dec10; rfl
theorem s_11 (I : Img) (a v : Nat) : ok11 (setM I a v) = ok11 I := by funext i; unfold ok11; rfl
theorem ruS0 (I : Img) (a v : Nat) : rl (setM I a v) 0 = rl I 0 := by rw [rl_0, rl_0]; rfl
theorem ruS1 (I : Img) (a v : Nat) : rl (setM I a v) 1 = rl I 1 := by rw [rl_1, rl_1, s_r2]; rfl
theorem ruS2 (I : Img) (a v : Nat) : rl (setM I a v) 2 = rl I 2 := by rw [rl_2, rl_2]; rfl
theorem ruS4 (I : Img) (a v : Nat) : rl (setM I a v) 4 = rl I 4 := by rw [rl_4, rl_4]; rfl
theorem ruS5 (I : Img) (a v : Nat) : rl (setM I a v) 5 = rl I 5 := by rw [rl_5, rl_5, s_6]; rfl
theorem ruS6 (I : Img) (a v : Nat) : rl (setM I a v) 6 = rl I 6 := by rw [rl_6, rl_6, s_7]; rfl
theorem ruS9 (I : Img) (a v : Nat) : rl (setM I a v) 9 = rl I 9 := by rw [rl_9, rl_9, s_10]
theorem ruS10 (I : Img) (a v : Nat) : rl (setM I a v) 10 = rl I 10 := by rw [rl_10, rl_10, s_11]; rfl
theorem rl_11 (I : Img) (n : Nat) : rl I (n + 11) = none := by rw [rl] <;> intros <;> omega
theorem rl_set {I : Img} {a v : Nat} (h : NoL I a) (j : Nat) : rl (setM I a v) j = rl I j :=
  match j with
  | 0 => ruS0 I a v
  | 1 => ruS1 I a v
  | 2 => ruS2 I a v
  | 3 => by rw [rl_3, rl_3, r4_set]; rfl
  | 4 => ruS4 I a v
  | 5 => ruS5 I a v
  | 6 => ruS6 I a v
  | 7 => by
    rw [rl_7, rl_7, show (setM I a v).ord = I.ord from rfl]
    exact fst1_congr fun i hi => ok8_set h
  | 8 => by
    rw [rl_8, rl_8, show (setM I a v).np = I.np from rfl]
    exact fst1_congr fun i hi => ok9_set h hi
  | 9 => ruS9 I a v
  | 10 => ruS10 I a v
  | n + 11 => (rl_11 _ n).trans (rl_11 _ n).symm
theorem chk_set {I : Img} {a v : Nat} (h : NoL I a) : chk (setM I a v) = chk I := by
  unfold chk
  have : (fun j => (rl (setM I a v) j).map fun p => (j + 1, p)) = fun j => (rl I j).map fun p => (j + 1, p) := funext fun j => by rw [rl_set h]
  rw [this]
theorem blks_set {I : Img} {a v : Nat} (h : NoL I a) : blks (setM I a v) = blks I := by
  have : ∀ j, bkL (setM I a v) j = bkL I j := by
    intro j
    induction j with
    | zero => rfl
    | succ j ih => unfold bkL; rw [ih]; rfl
  unfold blks
  rw [chk_set h, this]
  rfl
theorem ceB_bit {base g sz : Nat} {ws : List Nat} {x : Nat × Nat} : ∀ {j : Nat}, x ∈ ceB base g sz ws j → ∃ i, i < j ∧ bit ws i = true ∧ x = (base + g * 4096 + i * sz, sz)
  | 0, h => by simp [ceB] at h
  | j + 1, h => by
    unfold ceB at h
    split at h
    · rename_i hb
      rcases List.mem_append.1 h with h | h
      · obtain ⟨i, h1, h2⟩ := ceB_bit h
        exact ⟨i, by omega, h2⟩
      · exact ⟨j, by omega, hb, by simpa using h⟩
    · obtain ⟨i, h1, h2⟩ := ceB_bit h
      exact ⟨i, by omega, h2⟩
/-- A byte of a live block, of a free block's other pages, beyond the first 16 of a free block or beyond the first 8 of a cell. -/
def Hm (I : Img) (a : Nat) : Prop := (∃ x, x ∈ blks I ∧ x.1 ≤ I.base + a ∧ I.base + a - x.1 < x.2) ∨ (I.pg (a / 4096)).kd = 1 ∨ ((I.pg (a / 4096)).kd = 0 ∧ 16 ≤ a % 4096) ∨ ((I.pg (a / 4096)).kd = 4 ∧ 8 ≤ a % (16 * 2 ^ (I.pg (a / 4096)).cl.toNat))
theorem cel_in {c i t : Nat} (hc : c ≤ 7) (hi : i < celN9 c) (ht : t < 16 * 2 ^ c) (b g : Nat) (hb : b = 4096 * g + i * (16 * 2 ^ c) + t) : b / 4096 = g ∧ b % (16 * 2 ^ c) = t ∧ b % 4096 / (16 * 2 ^ c) = i := by
  subst hb
  unfold celN9 at hi
  have : c = 0 ∨ c = 1 ∨ c = 2 ∨ c = 3 ∨ c = 4 ∨ c = 5 ∨ c = 6 ∨ c = 7 := by omega
  rcases this with rfl | rfl | rfl | rfl | rfl | rfl | rfl | rfl <;> simp at hi ht ⊢ <;> omega
theorem NoL.of {I : Img} (h : (chk I).1 = 0) {a : Nat} (hm : Hm I a) : NoL I a := by
  obtain ⟨r, hS⟩ := sn9_chk h
  have h4 := chk_zero h 3 (by decide)
  have FR : ∀ g i, g < I.np → (I.pg g).kd = 4 → i ∈ frL (I.pg g) (celN9 (I.pg g).cl.toNat) → (4096 * g + i * (16 * 2 ^ (I.pg g).cl.toNat) ≤ a ∧ a < 4096 * g + i * (16 * 2 ^ (I.pg g).cl.toNat) + 8) → a / 4096 = g ∧ a % (16 * 2 ^ (I.pg g).cl.toNat) < 8 ∧ bit (wsP (I.pg g)) (a % 4096 / (16 * 2 ^ (I.pg g).cl.toNat)) = false := by
    intro g i hg hk hi ⟨h1, h2⟩
    obtain ⟨_, _, c, _, -, -, -, -, e5, e6, -⟩ := hS.pg g hg
    rw [e5, Int.toNat_natCast] at hi h1 h2 ⊢
    simp only [frL, List.mem_filter, List.mem_range, Bool.not_eq_true'] at hi
    have h16 := (cel_all c e6).2.1
    obtain ⟨q1, q2, q3⟩ := cel_in e6 hi.1 (t := a - (4096 * g + i * (16 * 2 ^ c))) (by omega) a g (by omega)
    exact ⟨q1, by omega, by rw [q3]; exact hi.2⟩
  rcases hm with ⟨x, hx, x1, x2⟩ | k1 | ⟨k0, hge⟩ | ⟨k4, hge⟩
  · unfold blks at hx
    rw [if_pos h] at hx
    obtain ⟨g0, hg0, hx⟩ := bkL_mem hx
    obtain ⟨_, _, c, _, -, -, e3, e4, e5, e6, -⟩ := hS.pg g0 hg0
    unfold pgB at hx
    split at hx
    · rename_i kd2
      obtain rfl : x = (I.base + g0 * 4096, 4096 * 2 ^ (I.pg g0).od.toNat) := by simpa using hx
      dsimp only at x1 x2
      have key : (I.pg (a / 4096)).kd = 2 ∨ (I.pg (a / 4096)).kd = 3 := by
        by_cases e : a / 4096 = g0
        · rw [e]; exact .inl kd2
        · rcases r4_good _ _ h4 (by omega) g0 (by omega) hg0 with h' | ⟨hh, hr⟩
          · omega
          · have := rs_kd (hr (a / 4096 - (g0 + 1)) (by omega))
            rw [show g0 + 1 + (a / 4096 - (g0 + 1)) = a / 4096 by omega] at this
            right; omega
      refine ⟨fun i hi k0 hc => ?_, fun g i hg hk hi hc => ?_⟩
      · have : a / 4096 = i := by omega
        rw [this] at key
        omega
      · have := (FR g i hg hk hi hc).1
        rw [this] at key
        omega
    · split at hx
      · rename_i kd4
        have hx' := hx
        rw [e5, Int.toNat_natCast] at hx
        obtain ⟨i0, hi0, hb, rfl⟩ := ceB_bit hx
        dsimp only at x1 x2
        obtain ⟨q1, q2, q3⟩ := cel_in e6 hi0 (t := a - (4096 * g0 + i0 * (16 * 2 ^ c))) (by omega) a g0 (by omega)
        refine ⟨fun i hi k0 hc => ?_, fun g i hg hk hi hc => ?_⟩
        · have : i = g0 := by omega
          subst this
          omega
        · obtain ⟨f1, f2, f3⟩ := FR g i hg hk hi hc
          obtain rfl : g = g0 := by omega
          rw [e5, Int.toNat_natCast, q3, hb] at f3
          cases f3
      · simp at hx
  · refine ⟨fun i hi k0 hc => ?_, fun g i hg hk hi hc => ?_⟩
    · have : a / 4096 = i := by omega
      rw [this] at k1
      omega
    · have := (FR g i hg hk hi hc).1
      rw [this] at k1
      omega
  · refine ⟨fun i hi k0 hc => by omega, fun g i hg hk hi hc => ?_⟩
    have := (FR g i hg hk hi hc).1
    rw [this] at k0
    omega
  · refine ⟨fun i hi k0 hc => ?_, fun g i hg hk hi hc => ?_⟩
    · have : a / 4096 = i := by omega
      rw [this] at k4
      omega
    · obtain ⟨f1, f2, -⟩ := FR g i hg hk hi hc
      rw [f1] at hge
      omega
end Go.Proofs.Ytcgbefmjnhkdgaa
/- WalkBytes: the copy with one byte changed. -/
namespace Go.Proofs.Ytcgbefmjnhkdgaa
open Go.RowKit
set_option linter.unusedVariables false
/-- A sound image can be copied. -/
theorem ImZ.sound {I : Img} (h : (chk I).1 = 0) : ImZ I := by
  obtain ⟨r, hS⟩ := sn9_chk h
  have h1 := hS.np1
  have h2 := hS.nm
  have h3 := hS.no
  have h4 := hS.k8
  have h5 := hS.hl
  have h6 := hS.tl
  refine ⟨by omega, by omega, by omega, fun i hi => ?_, by omega, by omega⟩
  rw [hS.pl i (by omega)]
  unfold pwN
  have : I.np / 2 ^ (i + 1) ≤ I.np := Nat.div_le_self _ _
  generalize I.np / 2 ^ (i + 1) = q at *
  omega
theorem CpD.put {s : Nat} {w0 w : World} {I : Img} {V : ImV} {xs : List Value} (h : CpD s w0 w I V xs) {bm n c : Nat} (hm : V.m = .slice (some ⟨bm, 0, none⟩) n c) {a v : Nat} (ha : a < I.nm) (hv : v < 256) (hs : w0.heap.size ≤ s) :
    CpD s w0 (w.setCell ⟨bm, a, none⟩ (.int .u8 (v : Int))) (setM I a v) V xs := by
  have kS : Kept (fun y => y = bm) w (w.setCell ⟨bm, a, none⟩ (.int .u8 (v : Int))) := (Kept.refl (fun y => y = bm) w).setCell (p := ⟨bm, a, none⟩) rfl _
  have hx := h.m
  have hob : V.m.ownBlock = some bm := by rw [hm]; rfl
  have hgt := h.m.own hob
  have ok := h.ok
  refine ⟨⟨ok.b64, ok.lim, ok.ord, ok.reg, ok.nm, ok.np, ok.no, ok.nh, ok.nt, fun i hi => ?_, ok.pg, ok.pr, ok.hd, ok.pt⟩, ?_, h.p.keepS kS fun b hb e => (h.p.apart h.m (by decide) hob b hb) e, ?_, fun i hi => (h.u i hi).keepS kS fun b hb e => ((h.u i hi).apart h.m (by decide) hob b hb) e, h.h.keepS kS fun b hb e => (h.h.apart h.m (by decide) hob b hb) e, h.t.keepS kS fun b hb e => (h.t.apart h.m (by decide) hob b hb) e⟩
  · show (if i = a then v else I.mem i) < 256
    split
    · exact hv
    · exact ok.mem i hi
  · rw [hm] at hx ⊢
    refine (hx.put (k := a) ha (.int .u8 (v : Int))).congr fun j hj => ?_
    show _ = Value.int .u8 (((if j = a then v else I.mem j) : Nat) : Int)
    by_cases e : j = a
    · rw [if_pos e, if_pos e]
    · rw [if_neg e, if_neg e]
  · refine GS.moved h.r kS (fun b hb e => ?_) (Nat.le_refl _) (h.r.kp.trans kS (fun _ _ y => y) (fun y hy e => by omega))
    obtain ⟨c1, e1⟩ := gs_ty h.r hb
    obtain ⟨c2, e2⟩ := h.m.ty hob
    rw [e, e2] at e1
    cases e1
/-- A byte of a live block. -/
theorem Hm.blk {I : Img} {a : Nat} {x : Nat × Nat} (hx : x ∈ blks I) (h1 : x.1 ≤ I.base + a) (h2 : I.base + a - x.1 < x.2) : Hm I a := .inl ⟨x, hx, h1, h2⟩
end Go.Proofs.Ytcgbefmjnhkdgaa
