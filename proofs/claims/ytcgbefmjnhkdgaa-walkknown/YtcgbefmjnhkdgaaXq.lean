import Derived.Test.YtcgbefmjnhkdgaaXp
set_option maxRecDepth 1000000
set_option maxHeartbeats 80000000
/- Rule 8. -/
namespace Go.Proofs.Ytcgbefmjnhkdgaa
open Go.RowKit
set_option linter.unusedVariables false

theorem cntB_pos (f : Nat → Bool) : ∀ (M j : Nat), j < M → f j = true → 0 < cntB f M
  | 0, j, h, _ => by omega
  | M + 1, j, h, hf => by
    by_cases e : j = M
    · rw [e] at hf
      rw [cntB_true f M hf]; omega
    · have := cntB_pos f M j (by omega) hf
      cases h2 : f M with
      | true => rw [cntB_true f M h2]; omega
      | false => rw [cntB_false f M h2]; exact this
theorem cntS_zero {w : World} {b c n : Nat} {ws : List Nat} (h : SetAt w b c n ws) : cntS ws = 0 ↔ ∀ j, j < n → bit ws j = false := by
  have e : cntS ws = cntB (bit ws) (64 * ws.length) := cntTo_cntB ws h.lt64 ws.length
  rw [e]
  have hl := h.len
  constructor
  · intro h0 j hj
    cases hb : bit ws j with
    | false => rfl
    | true =>
      have := cntB_pos (bit ws) (64 * ws.length) j (by omega) hb
      omega
  · intro h0
    exact cntB_none _ _ fun j _ => by
      by_cases hj : j < n
      · exact h0 j hj
      · exact h.bit_past j (by omega)
/-- Where a set's words are. -/
def wsOf (W : World) (sc : Nat) : List Nat := match W.heap[sc]? with
  | some (.cells cs _ _) => cs.toList.map fun v => (intOf v).toNat
  | _ => []
theorem wsOf_set {W : World} {b c n : Nat} {ws : List Nat} (h : SetAt W b c n ws) : wsOf W c = ws := by
  unfold wsOf
  rw [h.hc]
  simp [wcells, intOf]
  conv => rhs; rw [← List.map_id ws]
  rfl
/-- A set from which one is taken has one less. -/
theorem cnt_meet {w w' : World} {b c n : Nat} {ws : List Nat} {i : Nat} (h : SetAt w b c n ws) (h' : SetAt w' b c n (putI n ws (i : Int) false)) (hi : i < n) (hb : bit ws i = true) : cntS (putI n ws (i : Int) false) + 1 = cntS ws := by
  have hr : inR n (i : Int) = true := by unfold inR; exact decide_eq_true (by omega)
  have hs : inS n ws (i : Int) = true := by unfold inS; rw [hr, Int.toNat_natCast, Bool.true_and, hb]
  have e : putI n ws (i : Int) false = flipW ws i := by
    unfold putI flipI
    rw [hs, if_neg (by decide), if_pos hr, Int.toNat_natCast]
  rw [e] at h' ⊢
  have hl := h.len
  exact cntS_flip ws i h.lt64 h'.lt64 (by omega) hb
/-- The pages of a kind. -/
def pgL (I : Img) (S : Pg → Bool) : List Nat := (List.range I.np).filter fun i => S (I.pg i)
theorem pgL_nodup (I : Img) (S : Pg → Bool) : (pgL I S).Nodup := List.nodup_range.filter _
theorem pgL_mem {I : Img} {S : Pg → Bool} {i : Nat} : i ∈ pgL I S ↔ i < I.np ∧ S (I.pg i) = true := by simp [pgL]
/-- Rule 8 of an order. -/
def ok8 (I : Img) (j : Nat) : Bool := prgL (decP I) 0 (fun i => M.word I.mem (4096 * i)) (fun i => M.word I.mem (4096 * i + 8)) ((pgL I fun p => isF p (j : Int)).length + 1) (pgL I fun p => isF p (j : Int)) (I.hd.getD j 0) 0

section
variable {α : Type} [DecidableEq α] {dec : α → Option Nat} {nil : α} {nxt bk : Nat → α}
theorem prgL_end {l : List Nat} {b : α} : prgL dec nil nxt bk (l.length + 1) l nil b = l.isEmpty := by rw [prgL, if_pos rfl]
theorem prgL_no {l : List Nat} {p b : α} (hp : p ≠ nil) (h : ∀ i, dec p = some i → i ∉ l ∨ bk i ≠ b) : prgL dec nil nxt bk (l.length + 1) l p b = false := by
  rw [prgL, if_neg hp]
  cases hd : dec p with
  | none => rfl
  | some i =>
    show (decide (i ∈ l) && _) = false
    rcases h i hd with h1 | h1
    · rw [decide_eq_false h1]; rfl
    · rw [decide_eq_false h1]; simp
theorem prgL_yes {l : List Nat} {p b : α} {i : Nat} (hp : p ≠ nil) (hd : dec p = some i) (hi : i ∈ l) (hb : bk i = b) : prgL dec nil nxt bk (l.length + 1) l p b = prgL dec nil nxt bk ((l.erase i).length + 1) (l.erase i) (nxt i) p := by
  rw [prgL, if_neg hp, hd]
  show (decide (i ∈ l) && (decide (bk i = b) && _)) = _
  rw [decide_eq_true hi, decide_eq_true hb, List.length_erase_of_mem hi]
  have : l.length - 1 + 1 = l.length := by
    have := List.length_pos_of_mem hi
    omega
  rw [this]; rfl
end

/-- A list is followed: what is left. -/
structure L8 (w W : World) (cb sb sc n a : Nat) (ws : List Nat) (l : List Nat) : Prop where
  bx : W.heap[cb]? = some (.cells #[.int .i64 (a : Int)] 3 (0, 0))
  st : SetAt W sb sc n ws
  ge : w.heap.size ≤ sc
  ne : cb ≠ sc
  k : Kept none' w W
  nd : l.Nodup
  mem : ∀ i, i < n → bit ws i = decide (i ∈ l)
  lt : ∀ i, i ∈ l → i < n
theorem L8.keep {w W W' : World} {cb sb sc n a : Nat} {ws l : List Nat} (h : L8 w W cb sb sc n a ws l) (hk : Kept none' W W') : L8 w W' cb sb sc n a ws l :=
  ⟨(hk.block _ (heap_lt h.bx) (fun x => x)).trans h.bx, h.st.kept hk (fun x => x) (fun x => x), h.ge, h.ne, none_trans h.k hk, h.nd, h.mem, h.lt⟩
theorem L8.met {w W W' : World} {cb sb sc n a i : Nat} {ws l : List Nat} (h : L8 w W cb sb sc n a ws l) (hk : Kept (fun x => x = sc) W W') (hi : i ∈ l) (hs : SetAt W' sb sc n (putI n ws (i : Int) false)) : L8 w W' cb sb sc n a (putI n ws (i : Int) false) (l.erase i) := by
  refine ⟨(hk.block _ (heap_lt h.bx) h.ne).trans h.bx, hs, h.ge, h.ne, h.k.trans hk (fun _ _ x => x) (fun x hx e => by have := h.ge; omega), h.nd.erase i, fun j hj => ?_, fun j hj => h.lt j (List.mem_of_mem_erase hj)⟩
  rw [bit_putI h.st.len i (h.lt i hi) false j]
  by_cases e : j = i
  · rw [if_pos e, e]
    exact (decide_eq_false (fun hm => ((h.nd.mem_erase_iff).1 hm).1 rfl)).symm
  · rw [if_neg e, h.mem j hj, decide_eq_decide, h.nd.mem_erase_iff]
    exact ⟨fun hm => ⟨e, hm⟩, fun hm => hm.2⟩
/-- Is it there, and in the list? -/
def memO (l : List Nat) (x : Option Nat) : Bool := match x with | some i => decide (i ∈ l) | none => false
theorem L8.ins {w W : World} {cb sb sc n a : Nat} {ws l : List Nat} (h : L8 w W cb sb sc n a ws l) (x : Option Nat) (hx : ∀ i, x = some i → i < n) : inS n ws (decI x) = memO l x := by
  cases x with
  | none => simp [decI, inS, inR, memO]
  | some i =>
    have := hx i rfl
    show inS n ws (i : Int) = decide (i ∈ l)
    unfold inS inR
    rw [decide_eq_true (by omega), Int.toNat_natCast, Bool.true_and, h.mem i this]
theorem L8.empty {w W : World} {cb sb sc n a : Nat} {ws l : List Nat} (h : L8 w W cb sb sc n a ws l) : l.isEmpty = decide (cntS ws = 0) := by
  rw [Bool.eq_iff_iff, List.isEmpty_iff, decide_eq_true_eq, cntS_zero h.st]
  constructor
  · intro e j hj
    rw [h.mem j hj, e]; rfl
  · intro hz
    cases l with
    | nil => rfl
    | cons x t =>
      exfalso
      have hx := h.lt x List.mem_cons_self
      have := hz x hx
      rw [h.mem x hx, decide_eq_true List.mem_cons_self] at this
      cases this
theorem decP_lt {I : Img} {k r p i : Nat} (hS : Sn9 I k r) (h : decP I p = some i) : i < I.np ∧ p = I.base + 4096 * i ∧ p ≠ 0 := by
  unfold decP at h
  split at h
  · rename_i hc
    injection h with h
    have := hS.nm
    have hb := hS.b0
    omega
  · cases h

theorem word_lt {w : World} {I : Img} {V : ImV} (h : ImD w I V) (q : Nat) (hq : q + 8 ≤ I.nm) : M.word I.mem q < 18446744073709551616 := by
  obtain ⟨⟨ma, mc, hm⟩, -⟩ := h.sl
  have hM := h.mem
  rw [hm] at hM
  obtain ⟨bl, o, -, -, hc⟩ := hM.at q (by omega)
  exact M.wordTo_lt (fun i => I.mem (q + i)) 8 fun i hi => (hc (q + i) (by omega)).1
theorem freeC (cb a : Nat) (p : Pg) (w : World) (h : w.heap[cb]? = some (.cells #[.int .i64 (a : Int)] 3 (0, 0))) :
    Calls Try.prog 65 #[pgV p, .pointer (some ⟨cb, 0, none⟩)] w fun e w' => e = .returned (.bool (isF p (a : Int))) ∧ Kept none' w w' := by
  have c0 : w.cell? ⟨cb, 0, none⟩ = some (.int .i64 (a : Int)) := by simp [World.cell?, h]
  have HF := hid (fun W => isFree_any p (a : Int) W)
  have HB := hid h
  have c1 : (w.alloc (pgO p)).cell? ⟨cb, 0, none⟩ = some (.int .i64 (a : Int)) := (show Kept none' w (w.alloc (pgO p)) from (Kept.refl _ _).alloc _).cell (fun x => x) c0
  have HN := hid (heap_new w (pgO p))
  have HK := hid (show Kept none' w (w.alloc (pgO p)) from (Kept.refl _ _).alloc _)
  generalize isF p (a : Int) = fv at *
  clear h
  go_enter Try.func65, Try.ntmps65
  go_wp2_with fail
  refine (HF.out _).mono ?_
  rintro e w1 ⟨rfl, hk⟩
  have K1 := hid (none_trans HK.out hk)
  clear hk c0 c1
  go_wp2_with fail
  go_ret
  exact ⟨rfl, K1.out⟩
theorem meet_enter (xs : Array Value) (w : World) : Sem.run Try.prog (callFunc 66 xs) w = .ok (.enter 66 xs) w := by
  simp [callFunc, go_sem, Try.func66]
  rfl
/-- The last call of a region is meet, and what it asks for is not there. -/
theorem ends_meet {Q : Exit → Act → World → Prop} {o : Oper} {a : Act} {w : World} {x y z : Operand} {ts : Array TypeId} {sb sc n : Nat} {ws : List Nat} {i p : Int} (ho : o.op = .call { callee := .value (.func 66), args := #[x, y, z], argTypes := ts })
    (hx : a.eval x = .pointer (some ⟨sb, 0, none⟩)) (hy : a.eval y = .int .i64 i) (hz : a.eval z = .int .i64 p) (hs : SetAt w sb sc n ws) (hb : inS n ws i = false) (h : ∀ a', a'.defers = a.defers → Q (.panic [{ v := .iface 87 (.int .i64 p), recovered := false }]) a' w) : EndsAt Try.prog Q o a w := by
  refine ends_call meet_enter ho ?_
  have e : (#[x, y, z] : Array Operand).map a.eval = #[.pointer (some ⟨sb, 0, none⟩), .int .i64 i, .int .i64 p] := by simp [hx, hy, hz]
  rw [e]
  refine (meet_no sb sc n ws i p w hs hb).mono ?_
  rintro e w1 ⟨rfl, rfl⟩
  exact ⟨_, rfl, h⟩
end Go.Proofs.Ytcgbefmjnhkdgaa
