import Derived.Test.YtcgbefmjnhkdgaaXy
set_option maxRecDepth 1000000
set_option maxHeartbeats 80000000
/- croftlaw9: void. -/
namespace Go.Proofs.Ytcgbefmjnhkdgaa
open Go.RowKit
set_option linter.unusedVariables false
set_option maxHeartbeats 16000000
set_option maxRecDepth 6000

theorem info_u8 : (Try.prog.info? 5).map (fun i => (i.zero, i.size, i.bytes)) = some (some (.int .u8 0), 1, 1) := by kernel_rfl
/-- n bytes of 0. -/
def zb (n : Nat) : Array Value := madeCells (Value.int .u8 0).cells (n * 1)
theorem make_bytes (w : World) : (Instr.makeSlice 25 (.int .i64 8192) (.int .i64 8192)).run Try.prog w = .ok (.slice (some ⟨w.heap.size, 0, none⟩) 8192 8192) (w.alloc (.cells (zb 8192) 5)) := by
  obtain ⟨i, hi, hz0, hz1, hz2⟩ := info_parts info_u8
  have := run_make (P := Try.prog) w 25 5 i (.int .u8 0) Try.underlying25 hi hz0 .i64 .i64 8192 8192 (by omega) (by omega) (by rw [hz2]; omega) (by omega)
  rw [hz1] at this
  exact this
theorem zb_get (n i : Nat) (h : i < n) : (zb n)[i]? = some (.int .u8 0) := by
  unfold zb madeCells
  simp [Value.cells, h, Nat.mod_one]
end Go.Proofs.Ytcgbefmjnhkdgaa
/- A region that draws its order, by an invariant over what is done. -/
namespace Go.Proofs.Ytcgbefmjnhkdgaa
open Go.RowKit
set_option linter.unusedVariables false
section
variable {P : Program} {ops : Array Oper} {md : Region.Mode} {Q : Exit → Act → World → Prop}
/-- One op of such a region, walked alone. -/
theorem wpOp_of_list {i : Nat} {o : Oper} {K : Act → World → Prop} {a : Act} {w : World} (ho : ops[i]? = some o) (h : wpList P ops (Exit.then K Q) [o] a w) : wpOp P ops Q i K a w := by
  unfold wpOp
  simp only [ho]
  unfold wpList at h
  split
  · rename_i hw
    simp only [hw, if_true] at h
    rcases h with h | ⟨h1, b, w1, h2⟩
    · refine .inl ?_
      unfold Oper.wp at *
      generalize (execOp a.eval o).run P w = r at *
      cases r with
      | ok n w' => cases n <;> simp only [Oper.upon] at h ⊢ <;> exact h
      | halt x w' => cases x <;> simp only [Oper.upon] at h ⊢ <;> exact h
    · exact .inr ⟨h1, b, w1, h2⟩
  · rename_i hw
    simp only [hw] at h
    exact h
/-- How many are not done. -/
def left9 (ls : Array Bool) : Nat := ls.toList.countP (fun b => !b)
theorem left9_set {ls : Array Bool} {i : Nat} (h : ls.getD i true = false) : left9 (ls.setIfInBounds i true) + 1 = left9 ls := by
  unfold left9
  rcases Nat.lt_or_ge i ls.size with hl | hl
  · have h1 : ls[i] = false := by simpa [hl] using h
    obtain ⟨l⟩ := ls
    simp only [List.setIfInBounds_toArray, List.getElem_toArray] at *
    clear h
    induction l generalizing i with
    | nil => simp at hl
    | cons x l ih =>
      cases i with
      | zero =>
        simp only [List.getElem_cons_zero] at h1
        subst h1
        simp
      | succ i =>
        simp only [List.set_cons_succ, List.countP_cons]
        have := ih (i := i) (by simpa using hl) (by simpa using h1)
        omega
  · simp [Array.getElem?_eq_none hl] at h
theorem ready_none {ls : Array Bool} (h : left9 ls = 0) : Region.ready md ops ls = [] := by
  rw [List.eq_nil_iff_forall_not_mem]
  intro i hi
  have h1 := left9_set (mem_ready.1 hi).1
  omega
theorem wpAny_inv {I : Array Bool → Act → World → Prop} (hs : ∀ ls a w i, I ls a w → i ∈ Region.ready md ops ls → wpOp P ops Q i (I (ls.setIfInBounds i true)) a w)
    (he : ∀ ls a w, I ls a w → Region.ready md ops ls = [] → Q .normal a w) : ∀ (n : Nat) (ls : Array Bool) (a : Act) (w : World), left9 ls ≤ n → I ls a w → wpAny P md ops Q n ls a w
  | 0, ls, a, w, hn, h => ⟨ready_none (by omega), he _ _ _ h (ready_none (by omega))⟩
  | n + 1, ls, a, w, hn, h => ⟨he _ _ _ h, fun i hi => wpOp_mono (fun a' w' h' => wpAny_inv hs he n _ a' w' (by have := left9_set (mem_ready.1 hi).1; omega) h') (hs _ _ _ _ h hi)⟩
end
/-- A region that draws its order: what holds of those that are done holds at the end. -/
theorem wp_region_inv {P : Program} {id : Nat} {Q : Exit → Act → World → Prop} {a : Act} {w : World} {ops : Array Oper} (hm : P.follows .mixedOrders = true) (I : Array Bool → Act → World → Prop)
    (h0 : I (Array.replicate ops.size false) a w.drew)
    (hs : ∀ ls a w i, I ls a w → i ∈ Region.ready .any ops ls → wpOp P ops Q i (I (ls.setIfInBounds i true)) a w)
    (he : ∀ ls a w, I ls a w → Region.ready .any ops ls = [] → Q .normal a w) : (Code.region id ops true).wp P Q a w :=
  wp_region_any hm (wpAny_inv hs he _ _ _ _ (by unfold left9; refine Nat.le_trans List.countP_le_length ?_; simp) h0)
end Go.Proofs.Ytcgbefmjnhkdgaa
