import Derived.Test.YtcgbefmjnhkdgaaXc
set_option maxRecDepth 1000000
set_option maxHeartbeats 80000000
/- A region that draws its order and whose last call never comes back. -/
namespace Go.Proofs.Ytcgbefmjnhkdgaa
open Go.RowKit
set_option linter.unusedVariables false
section
variable {P : Program} {ops : Array Oper} {md : Region.Mode} {C : World → Prop} {Q : Exit → Act → World → Prop}

/-- It goes out of the function, whatever the frame is. -/
def EndsAt (P : Program) (Q : Exit → Act → World → Prop) (o : Oper) (a : Act) (w : World) : Prop := o.wp P a w (fun _ _ => False) (fun e _ w' => ∀ a', a'.defers = a.defers → Q e a' w')
theorem EndsAt.other {o : Oper} {a b : Act} {w : World} (h : EndsAt P Q o a w) (he : execOp b.eval o = execOp a.eval o) (hd : b.defers = a.defers) : EndsAt P Q o b w := by
  unfold EndsAt Oper.wp at *
  rw [he, hd]
  generalize (execOp a.eval o).run P w = r at *
  cases r with
  | ok n w' => cases n <;> exact h
  | halt x w' => cases x <;> exact h
theorem EndsAt.wp {o : Oper} {a : Act} {w : World} {K : Act → World → Prop} (h : EndsAt P Q o a w) : o.wp P a w K Q := by
  unfold EndsAt Oper.wp at *
  generalize (execOp a.eval o).run P w = r at *
  cases r with
  | ok n w' =>
    cases n <;> simp only [Oper.upon] at * <;> try exact h.elim
    case enter f args =>
      refine h.mono ?_
      intro e w'' h2
      cases e with
      | returned v => exact h2.elim
      | panicked c => exact h2 a rfl
      | outgrown =>
        have h3 : LetsOut (fun (e : Exit) (_ : Act) (w' : World) => ∀ a', a'.defers = a.defers → Q e a' w') := h2
        obtain ⟨b, w1, h4⟩ := h3
        exact ⟨a, w1, h4 a rfl⟩
    case row r args => exact h.mono fun v w'' h2 => h2.elim
  | halt x w' =>
    cases x <;> simp only [Oper.upon] at * <;> first | exact h.elim | exact h a rfl
/-- It yields a value, or goes out. -/
def opD (P : Program) (ops : Array Oper) (C : World → Prop) (Q : Exit → Act → World → Prop) (i : Nat) (K : Act → Prop) (a : Act) : Prop :=
  qOp P ops C i K a ∨ ∃ o, ops[i]? = some o ∧ Region.wanted o (yielded ops a.tmps) = true ∧ ∀ w, C w → EndsAt P Q o a w
def anyD (P : Program) (md : Region.Mode) (ops : Array Oper) (C : World → Prop) (Q : Exit → Act → World → Prop) : Nat → Array Bool → Act → Prop
  | 0, ls, a => Region.ready md ops ls = [] ∧ ∀ w, C w → Q .normal a w
  | n + 1, ls, a => (Region.ready md ops ls = [] → ∀ w, C w → Q .normal a w) ∧ ∀ i ∈ Region.ready md ops ls, opD P ops C Q i (anyD P md ops C Q n (ls.setIfInBounds i true)) a
theorem opD_mono {i : Nat} {a : Act} {K K' : Act → Prop} (h : ∀ a, K a → K' a) (hh : opD P ops C Q i K a) : opD P ops C Q i K' a := hh.imp (qOp_mono h) id
theorem any_of_D : ∀ (n : Nat) (ls : Array Bool) (a : Act) (w : World), C w → anyD P md ops C Q n ls a → wpAny P md ops Q n ls a w
  | 0, _, _, _, hw, h => ⟨h.1, h.2 _ hw⟩
  | n + 1, _, _, _, hw, h => ⟨fun h0 => h.1 h0 _ hw, fun i hi => by
      rcases h.2 i hi with h1 | ⟨o, ho, hwt, hd⟩
      · exact wpOp_of_qOp hw (fun a' w' hw' => any_of_D n _ a' w' hw') h1
      · unfold wpOp
        simp only [ho, hwt, if_true]
        exact .inl (hd _ hw).wp⟩
theorem opD_put {j : Nat} {oi oj : Oper} {v : Value} (hj : ops[j]? = some oj) (hap : oi.apart ops oj = true) (hsi : ∀ cs b, oi.op ≠ .select cs b) (hsj : ∀ cs b, oj.op ≠ .select cs b) {K : Act → Prop} {a : Act}
    (hy : YieldsIn P ops C oi v a) (h : opD P ops C Q j K (a.put oi.dst v)) : opD P ops C Q j (fun a' => YieldsIn P ops C oi v a' ∧ K (a'.put oi.dst v)) a := by
  rcases h with h | ⟨o, ho, hwt, hd⟩
  · exact .inl (qOp_put hj hap hsi hsj hy h)
  · obtain rfl : oj = o := Option.some.inj (hj.symm.trans ho)
    obtain ⟨h1, h2, h3⟩ := Oper.apart_spec hap
    refine .inr ⟨oj, ho, by rw [← wanted_put oj a oi.dst v h1]; exact hwt, fun w hw => (hd w hw).other (execOp_put oj hsj a oi.dst v h1).symm (by cases oi.dst <;> rfl)⟩
theorem anyD_first {i : Nat} {oi : Oper} {v : Value} (hi : ops[i]? = some oi) (hsel : ∀ (j : Nat) (o : Oper) cs b, ops[j]? = some o → o.op ≠ .select cs b) : ∀ (n : Nat) (ls : Array Bool) (a : Act),
    (∀ j oj, ops[j]? = some oj → j ≠ i → ls.getD j true = false → (∀ e ∈ oj.after, Region.binds md e = true → e.on ≠ i) → oi.apart ops oj = true) → i ∈ Region.ready md ops ls → YieldsIn P ops C oi v a →
    anyD P md ops C Q n (ls.setIfInBounds i true) (a.put oi.dst v) → anyD P md ops C Q (n + 1) ls a := by
  intro n
  induction n with
  | zero =>
    intro ls a _ hr hy H
    refine ⟨fun h0 => (by rw [h0] at hr; cases hr), fun j hj => ?_⟩
    by_cases e : j = i
    · rw [e]; exact .inl (hy.qOp hi H)
    · have := ready_mono hj e
      rw [H.1] at this
      cases this
  | succ n ih =>
    intro ls a hf hr hy H
    refine ⟨fun h0 => (by rw [h0] at hr; cases hr), fun j hj => ?_⟩
    by_cases e : j = i
    · rw [e]; exact .inl (hy.qOp hi H)
    · obtain ⟨hun, oj, hoj, hall⟩ := mem_ready.1 hj
      have hno : ∀ e ∈ oj.after, Region.binds md e = true → e.on ≠ i := fun d hd hb hq => by
        have g1 := hall d hd hb
        have g0 := (mem_ready.1 hr).1
        rw [hq] at g1
        rcases Nat.lt_or_ge i ls.size with hl | hl
        · simp [hl] at g0 g1; rw [g0] at g1; cases g1
        · simp [Array.getElem?_eq_none hl] at g1
      have g2 := opD_put hoj (hf j oj hoj e hun hno) (fun cs b => hsel i oi cs b hi) (fun cs b => hsel j oj cs b hoj) hy (H.2 j (ready_mono hj e))
      refine opD_mono (fun a' g3 => ih (ls.setIfInBounds j true) a' (fun k ok hk hki hu hn => ?_) (ready_mono hr (Ne.symm e)) g3.1 ?_) g2
      · refine hf k ok hk hki ?_ hn
        by_cases e2 : j = k
        · rw [← e2]; exact hun
        · rwa [Go.getD_set_ne true e2] at hu
      · rw [Array.setIfInBounds_comm _ _ e]
        exact g3.2
/-- The lexical walk, up to the last. -/
theorem anyD_lex {o : Oper} (hs : Region.noSelect ops = true) : ∀ (l : List Oper) (k : Nat) (ls : Array Bool) (a : Act), (∀ j, (l ++ [o])[j]? = ops[k + j]?) → Region.lexFrom md ops (l ++ [o]).length k ls = true →
    wpQuiet P ops C (fun a' => Region.wanted o (yielded ops a'.tmps) = true ∧ ∀ w, C w → EndsAt P Q o a' w) l a → anyD P md ops C Q (l ++ [o]).length ls a
  | [], k, ls, a, hl, hB, h => by
    have h0 : ops[k]? = some o := by simpa using (hl 0).symm
    simp only [List.nil_append, List.length_cons, List.length_nil, Region.lexFrom, Bool.and_eq_true] at hB
    obtain ⟨⟨hr, hf⟩, hB'⟩ := hB
    have hr' : k ∈ Region.ready md ops ls := by simpa using hr
    refine ⟨fun h0 => (by rw [h0] at hr'; cases hr'), fun j hj => ?_⟩
    by_cases e : j = k
    · rw [e]; exact .inr ⟨o, h0, h.1, h.2⟩
    · have := ready_mono hj e
      rw [List.isEmpty_iff.1 hB'] at this
      cases this
  | x :: l, k, ls, a, hl, hB, h => by
    have h0 : ops[k]? = some x := by simpa using (hl 0).symm
    simp only [List.cons_append, List.length_cons, Region.lexFrom, Bool.and_eq_true] at hB
    obtain ⟨⟨hr, hf⟩, hB'⟩ := hB
    have hst : qOp P ops C k (wpQuiet P ops C (fun a' => Region.wanted o (yielded ops a'.tmps) = true ∧ ∀ w, C w → EndsAt P Q o a' w) l) a := by unfold qOp; simp only [h0]; exact h
    obtain ⟨v, hy, hK⟩ := yieldsIn_of_qOp h0 hst
    exact anyD_first h0 (Region.noSelect_spec hs) _ ls a (Region.free_spec h0 hf) (by simpa using hr) hy
      (anyD_lex hs l (k + 1) _ _ (fun j => by have := hl (j + 1); simpa [Nat.add_assoc, Nat.add_comm 1 j] using this) hB' hK)
end
theorem wp_region_ends {P : Program} {id : Nat} {Q : Exit → Act → World → Prop} {a : Act} {w : World} {l : List Oper} {C : World → Prop} (hm : P.follows .mixedOrders = true) (hB : Region.lexB .any l.toArray = true)
    (hl : l ≠ []) (hC : C w.drew) (h : wpQuiet P l.toArray C (fun a' => Region.wanted (l.getLast hl) (yielded l.toArray a'.tmps) = true ∧ ∀ w, C w → EndsAt P Q (l.getLast hl) a' w) l.dropLast a) : (Code.region id l.toArray true).wp P Q a w := by
  have e := List.dropLast_concat_getLast hl
  generalize l.dropLast = l' at *
  generalize l.getLast hl = o at *
  subst e
  simp only [Region.lexB, Bool.and_eq_true] at hB
  refine wp_region_any hm (any_of_D _ _ _ _ hC ?_)
  have := anyD_lex (P := P) (Q := Q) (C := C) (md := .any) hB.1 l' 0 (Array.replicate (l' ++ [o]).toArray.size false) a (by simp) (by simpa using hB.2) h
  simpa using this
/-- The last one is a call that throws. -/
theorem ends_call {P : Program} {Q : Exit → Act → World → Prop} {o : Oper} {a : Act} {w : World} {f : FuncId} {args : Array Operand} {ts : Array TypeId} (hc : ∀ xs w, Sem.run P (callFunc f xs) w = .ok (.enter f xs) w) (ho : o.op = .call { callee := .value (.func f), args := args, argTypes := ts })
    (h : Calls P f (args.map a.eval) w fun e w' => ∃ ch, e = .panicked ch ∧ ∀ a', a'.defers = a.defers → Q (.panic ch) a' w') : EndsAt P Q o a w := by
  have hr : (execOp a.eval o).run P w = .ok (.enter f (args.map a.eval)) w := by
    unfold execOp
    rw [ho]
    simp [go_sem, hc]
  unfold EndsAt Oper.wp
  rw [hr]
  refine h.mono ?_
  rintro e w' ⟨ch, rfl, h2⟩
  exact h2
theorem wp_region_ends_lit {P : Program} {id : Nat} {Q : Exit → Act → World → Prop} {a : Act} {w : World} {l : List Oper} (hm : P.follows .mixedOrders = true) (hB : Region.lexB .any l.toArray = true)
    (hl : l ≠ []) (h : wpQuiet P l.toArray (fun w' => ∃ n, w' = w.drewN n) (fun a' => Region.wanted (l.getLast hl) (yielded l.toArray a'.tmps) = true ∧ ∀ w', (∃ n, w' = w.drewN n) → EndsAt P Q (l.getLast hl) a' w') l.dropLast a) : (Code.region id l.toArray true).wp P Q a w :=
  wp_region_ends (C := fun w' => ∃ n, w' = w.drewN n) hm hB hl ⟨1, rfl⟩ h
end Go.Proofs.Ytcgbefmjnhkdgaa
