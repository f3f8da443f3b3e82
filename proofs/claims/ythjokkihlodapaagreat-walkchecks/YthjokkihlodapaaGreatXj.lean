import Derived.Test.YthjokkihlodapaaGreatXi
import Derived.Deep.DeepCutAuto
set_option maxRecDepth 1000000
set_option maxHeartbeats 80000000
/- Rule 8. -/
namespace Go.Proofs.YthjokkihlodapaaGreat
open Go.RowKit
set_option linter.unusedVariables false

theorem cntB_pos (f : Nat → Bool) : ∀ (M j : Nat), j < M → f j = true → 0 < cntB f M
  | 0, j, h, _ => by omega
  | M + 1, j, h, hf => by
    by_cases e : j = M
    · rw [e] at hf
      rw [cntB_true f M hf]; omega
    · have := cntB_pos f M j (by omega) hf
      cases h2 : f M with
      | true => rw [cntB_true f M h2]; omega
      | false => rw [cntB_false f M h2]; exact this
theorem cntS_zero {w : World} {b c n : Nat} {ws : List Nat} (h : SetAt w b c n ws) : cntS ws = 0 ↔ ∀ j, j < n → bit ws j = false := by
  have e : cntS ws = cntB (bit ws) (64 * ws.length) := cntTo_cntB ws h.lt64 ws.length
  rw [e]
  have hl := h.len
  constructor
  · intro h0 j hj
    cases hb : bit ws j with
    | false => rfl
    | true =>
      have := cntB_pos (bit ws) (64 * ws.length) j (by omega) hb
      omega
  · intro h0
    exact cntB_none _ _ fun j _ => by
      by_cases hj : j < n
      · exact h0 j hj
      · exact h.bit_past j (by omega)
/-- Where a set's words are. -/
def wsOf (W : World) (sc : Nat) : List Nat := match W.heap[sc]? with
  | some (.cells cs _ _) => cs.toList.map fun v => (intOf v).toNat
  | _ => []
theorem wsOf_set {W : World} {b c n : Nat} {ws : List Nat} (h : SetAt W b c n ws) : wsOf W c = ws := by
  unfold wsOf
  rw [h.hc]
  simp [wcells, intOf]
  conv => rhs; rw [← List.map_id ws]
  rfl
/-- A set from which one is taken has one less. -/
theorem cnt_meet {w w' : World} {b c n : Nat} {ws : List Nat} {i : Nat} (h : SetAt w b c n ws) (h' : SetAt w' b c n (putI n ws (i : Int) false)) (hi : i < n) (hb : bit ws i = true) : cntS (putI n ws (i : Int) false) + 1 = cntS ws := by
  have hr : inR n (i : Int) = true := by unfold inR; exact decide_eq_true (by omega)
  have hs : inS n ws (i : Int) = true := by unfold inS; rw [hr, Int.toNat_natCast, Bool.true_and, hb]
  have e : putI n ws (i : Int) false = flipW ws i := by
    unfold putI flipI
    rw [hs, if_neg (by decide), if_pos hr, Int.toNat_natCast]
  rw [e] at h' ⊢
  have hl := h.len
  exact cntS_flip ws i h.lt64 h'.lt64 (by omega) hb
/-- The pages of a kind. -/
def pgL (I : Img) (S : Pg → Bool) : List Nat := (List.range I.np).filter fun i => S (I.pg i)
theorem pgL_nodup (I : Img) (S : Pg → Bool) : (pgL I S).Nodup := List.nodup_range.filter _
theorem pgL_mem {I : Img} {S : Pg → Bool} {i : Nat} : i ∈ pgL I S ↔ i < I.np ∧ S (I.pg i) = true := by simp [pgL]
/-- Rule 8 of an order. -/
def ok8 (I : Img) (j : Nat) : Bool := prgL (decP I) 0 (fun i => M.word I.mem (4096 * i)) (fun i => M.word I.mem (4096 * i + 8)) ((pgL I fun p => isF p (j : Int)).length + 1) (pgL I fun p => isF p (j : Int)) (I.hd.getD j 0) 0

section
variable {α : Type} [DecidableEq α] {dec : α → Option Nat} {nil : α} {nxt bk : Nat → α}
theorem prgL_end {l : List Nat} {b : α} : prgL dec nil nxt bk (l.length + 1) l nil b = l.isEmpty := by rw [prgL, if_pos rfl]
theorem prgL_no {l : List Nat} {p b : α} (hp : p ≠ nil) (h : ∀ i, dec p = some i → i ∉ l ∨ bk i ≠ b) : prgL dec nil nxt bk (l.length + 1) l p b = false := by
  rw [prgL, if_neg hp]
  cases hd : dec p with
  | none => rfl
  | some i =>
    show (decide (i ∈ l) && _) = false
    rcases h i hd with h1 | h1
    · rw [decide_eq_false h1]; rfl
    · rw [decide_eq_false h1]; simp
theorem prgL_yes {l : List Nat} {p b : α} {i : Nat} (hp : p ≠ nil) (hd : dec p = some i) (hi : i ∈ l) (hb : bk i = b) : prgL dec nil nxt bk (l.length + 1) l p b = prgL dec nil nxt bk ((l.erase i).length + 1) (l.erase i) (nxt i) p := by
  rw [prgL, if_neg hp, hd]
  show (decide (i ∈ l) && (decide (bk i = b) && _)) = _
  rw [decide_eq_true hi, decide_eq_true hb, List.length_erase_of_mem hi]
  have : l.length - 1 + 1 = l.length := by
    have := List.length_pos_of_mem hi
    omega
  rw [this]; rfl
end

/-- A list is followed: what is left. -/
structure L8 (w W : World) (cb sb sc n a : Nat) (ws : List Nat) (l : List Nat) : Prop where
  bx : W.heap[cb]? = some (.cells #[.int .i64 (a : Int)] 3 (0, 0))
  st : SetAt W sb sc n ws
  ge : w.heap.size ≤ sc
  ne : cb ≠ sc
  k : Kept none' w W
  nd : l.Nodup
  mem : ∀ i, i < n → bit ws i = decide (i ∈ l)
  lt : ∀ i, i ∈ l → i < n
theorem L8.keep {w W W' : World} {cb sb sc n a : Nat} {ws l : List Nat} (h : L8 w W cb sb sc n a ws l) (hk : Kept none' W W') : L8 w W' cb sb sc n a ws l :=
  ⟨(hk.block _ (heap_lt h.bx) (fun x => x)).trans h.bx, h.st.kept hk (fun x => x) (fun x => x), h.ge, h.ne, none_trans h.k hk, h.nd, h.mem, h.lt⟩
theorem L8.met {w W W' : World} {cb sb sc n a i : Nat} {ws l : List Nat} (h : L8 w W cb sb sc n a ws l) (hk : Kept (fun x => x = sc) W W') (hi : i ∈ l) (hs : SetAt W' sb sc n (putI n ws (i : Int) false)) : L8 w W' cb sb sc n a (putI n ws (i : Int) false) (l.erase i) := by
  refine ⟨(hk.block _ (heap_lt h.bx) h.ne).trans h.bx, hs, h.ge, h.ne, h.k.trans hk (fun _ _ x => x) (fun x hx e => by have := h.ge; omega), h.nd.erase i, fun j hj => ?_, fun j hj => h.lt j (List.mem_of_mem_erase hj)⟩
  rw [bit_putI h.st.len i (h.lt i hi) false j]
  by_cases e : j = i
  · rw [if_pos e, e]
    exact (decide_eq_false (fun hm => ((h.nd.mem_erase_iff).1 hm).1 rfl)).symm
  · rw [if_neg e, h.mem j hj, decide_eq_decide, h.nd.mem_erase_iff]
    exact ⟨fun hm => ⟨e, hm⟩, fun hm => hm.2⟩
/-- Is it there, and in the list? -/
def memO (l : List Nat) (x : Option Nat) : Bool := match x with | some i => decide (i ∈ l) | none => false
theorem L8.ins {w W : World} {cb sb sc n a : Nat} {ws l : List Nat} (h : L8 w W cb sb sc n a ws l) (x : Option Nat) (hx : ∀ i, x = some i → i < n) : inS n ws (decI x) = memO l x := by
  cases x with
  | none => simp [decI, inS, inR, memO]
  | some i =>
    have := hx i rfl
    show inS n ws (i : Int) = decide (i ∈ l)
    unfold inS inR
    rw [decide_eq_true (by omega), Int.toNat_natCast, Bool.true_and, h.mem i this]
theorem L8.empty {w W : World} {cb sb sc n a : Nat} {ws l : List Nat} (h : L8 w W cb sb sc n a ws l) : l.isEmpty = decide (cntS ws = 0) := by
  rw [Bool.eq_iff_iff, List.isEmpty_iff, decide_eq_true_eq, cntS_zero h.st]
  constructor
  · intro e j hj
    rw [h.mem j hj, e]; rfl
  · intro hz
    cases l with
    | nil => rfl
    | cons x t =>
      exfalso
      have hx := h.lt x List.mem_cons_self
      have := hz x hx
      rw [h.mem x hx, decide_eq_true List.mem_cons_self] at this
      cases this
theorem decP_lt {I : Img} {k r p i : Nat} (hS : Sn9 I k r) (h : decP I p = some i) : i < I.np ∧ p = I.base + 4096 * i ∧ p ≠ 0 := by
  unfold decP at h
  split at h
  · rename_i hc
    injection h with h
    have := hS.nm
    have hb := hS.b0
    omega
  · cases h

theorem word_lt {w : World} {I : Img} {V : ImV} (h : ImD w I V) (q : Nat) (hq : q + 8 ≤ I.nm) : M.word I.mem q < 18446744073709551616 := by
  obtain ⟨⟨ma, mc, hm⟩, -⟩ := h.sl
  have hM := h.mem
  rw [hm] at hM
  obtain ⟨bl, o, -, -, hc⟩ := hM.at q (by omega)
  exact M.wordTo_lt (fun i => I.mem (q + i)) 8 fun i hi => (hc (q + i) (by omega)).1
theorem freeC (cb a : Nat) (p : Pg) (w : World) (h : w.heap[cb]? = some (.cells #[.int .i64 (a : Int)] 3 (0, 0))) :
    Calls Tryz.prog 100 #[pgV p, .pointer (some ⟨cb, 0, none⟩)] w fun e w' => e = .returned (.bool (isF p (a : Int))) ∧ Kept none' w w' := by
  have c0 : w.cell? ⟨cb, 0, none⟩ = some (.int .i64 (a : Int)) := by simp [World.cell?, h]
  have HF := hid (fun W => isFree_any p (a : Int) W)
  have HB := hid h
  have c1 : (w.alloc (pgO p)).cell? ⟨cb, 0, none⟩ = some (.int .i64 (a : Int)) := (show Kept none' w (w.alloc (pgO p)) from (Kept.refl _ _).alloc _).cell (fun x => x) c0
  have HN := hid (heap_new w (pgO p))
  have HK := hid (show Kept none' w (w.alloc (pgO p)) from (Kept.refl _ _).alloc _)
  generalize isF p (a : Int) = fv at *
  clear h
  go_enter Tryz.func100, Tryz.ntmps100
  go_wp2_with fail
  refine (HF.out _).mono ?_
  rintro e w1 ⟨rfl, hk⟩
  have K1 := hid (none_trans HK.out hk)
  clear hk c0 c1
  go_wp2_with fail
  go_ret
  exact ⟨rfl, K1.out⟩
theorem meet_enter (xs : Array Value) (w : World) : Sem.run Tryz.prog (callFunc 101 xs) w = .ok (.enter 101 xs) w := by
  simp [callFunc, go_sem, Tryz.func101]
  rfl
/-- The last call of a region is meet, and what it asks for is not there. -/
theorem ends_meet {Q : Exit → Act → World → Prop} {o : Oper} {a : Act} {w : World} {x y z : Operand} {ts : Array TypeId} {sb sc n : Nat} {ws : List Nat} {i p : Int} (ho : o.op = .call { callee := .value (.func 101), args := #[x, y, z], argTypes := ts })
    (hx : a.eval x = .pointer (some ⟨sb, 0, none⟩)) (hy : a.eval y = .int .i64 i) (hz : a.eval z = .int .i64 p) (hs : SetAt w sb sc n ws) (hb : inS n ws i = false) (h : ∀ a', a'.defers = a.defers → Q (.panic [{ v := .iface 114 (.int .i64 p), recovered := false }]) a' w) : EndsAt Tryz.prog Q o a w := by
  refine ends_call meet_enter ho ?_
  have e : (#[x, y, z] : Array Operand).map a.eval = #[.pointer (some ⟨sb, 0, none⟩), .int .i64 i, .int .i64 p] := by simp [hx, hy, hz]
  rw [e]
  refine (meet_no sb sc n ws i p w hs hb).mono ?_
  rintro e w1 ⟨rfl, rfl⟩
  exact ⟨_, rfl, h⟩
end Go.Proofs.YthjokkihlodapaaGreat
/- Rule 10. -/
namespace Go.Proofs.YthjokkihlodapaaGreat
open Go.RowKit
set_option linter.unusedVariables false

/-- Is a page a slab of a class with a cell that is free? -/
def prS (c : Int) (p : Pg) : Bool := decide (p.kd = 4) && (decide (p.cl = c) && !decide (p.lv = (celN9 p.cl.toNat : Int)))
def dec10 (I : Img) (x : Int) : Option Nat := if 0 ≤ x ∧ x < (I.np : Int) then some x.toNat else none
/-- Rule 10 of a class. -/
def ok10 (I : Img) (j : Nat) : Bool := prgL (dec10 I) (-1) (fun i => (I.pg i).nx) (fun i => (I.pg i).pv) ((pgL I (prS (j : Int))).length + 1) (pgL I (prS (j : Int))) (I.pt.getD j 0) (-1)

theorem partC (cb a : Nat) (p : Pg) (c : Nat) (hc : p.cl = (c : Int)) (h7 : c ≤ 7) (w : World) (h : w.heap[cb]? = some (.cells #[.int .i64 (a : Int)] 3 (0, 0))) :
    Calls Tryz.prog 105 #[pgV p, .pointer (some ⟨cb, 0, none⟩)] w fun e w' => e = .returned (.bool (prS (a : Int) p)) ∧ Kept none' w w' := by
  have c0 : w.cell? ⟨cb, 0, none⟩ = some (.int .i64 (a : Int)) := by simp [World.cell?, h]
  have HF := hid (fun W => full_any p c hc h7 W)
  have c1 : (w.alloc (pgO p)).cell? ⟨cb, 0, none⟩ = some (.int .i64 (a : Int)) := (show Kept none' w (w.alloc (pgO p)) from (Kept.refl _ _).alloc _).cell (fun x => x) c0
  have HK := hid (show Kept none' w (w.alloc (pgO p)) from (Kept.refl _ _).alloc _)
  have E := hid (show prS (a : Int) p = (decide (p.kd = 4) && (decide (p.cl = (a : Int)) && !decide (p.lv = (celN9 c : Int)))) by unfold prS; rw [hc, Int.toNat_natCast])
  generalize decide (p.lv = (celN9 c : Int)) = fv at *
  generalize prS (a : Int) p = rv at *
  clear h hc
  obtain ⟨kd, od, cl, lv, nx, pv, fs, b0, b1, b2, b3⟩ := p
  dsimp only at E
  by_cases h4 : kd = 4
  · subst h4
    by_cases hca : cl = (a : Int)
    · subst hca
      have E2 := hid (show (!fv) = rv by rw [E.out]; simp)
      cases fv with
      | false =>
        go_enter Tryz.func105, Tryz.ntmps105
        go_wp2_with fail
        refine (HF.out _).mono ?_
        rintro e w1 ⟨rfl, hk⟩
        have K1 := hid (none_trans HK.out hk)
        clear hk c0 c1
        go_wp2_with fail
        go_ret
        exact ⟨ret_bool E2.out, K1.out⟩
      | true =>
        go_enter Tryz.func105, Tryz.ntmps105
        go_wp2_with fail
        refine (HF.out _).mono ?_
        rintro e w1 ⟨rfl, hk⟩
        have K1 := hid (none_trans HK.out hk)
        clear hk c0 c1
        go_wp2_with fail
        go_ret
        exact ⟨ret_bool E2.out, K1.out⟩
    · have E2 := hid (show false = rv by rw [E.out]; simp [hca])
      have f1 : (cl == (a : Int)) = false := by rw [beq_eq_false_iff_ne]; exact hca
      clear hca
      go_enter Tryz.func105, Tryz.ntmps105
      go_wp2_with fail
      go_ret
      exact ⟨ret_bool E2.out, HK.out⟩
  · have E2 := hid (show false = rv by rw [E.out]; simp [h4])
    have f1 : (kd == 4) = false := by rw [beq_eq_false_iff_ne]; exact h4
    clear h4
    go_enter Tryz.func105, Tryz.ntmps105
    go_wp2_with fail
    go_ret
    exact ⟨ret_bool E2.out, HK.out⟩
theorem dec10_i {I : Img} {x : Int} {i : Nat} (h : dec10 I x = some i) : i < I.np ∧ x = (i : Int) ∧ x ≠ -1 := by
  unfold dec10 at h
  split at h
  · injection h with h
    omega
  · cases h
theorem dec10_ins {w W : World} {cb sb sc a : Nat} {I : Img} {ws l : List Nat} (h : L8 w W cb sb sc I.np a ws l) (x : Int) : inS I.np ws x = memO l (dec10 I x) := by
  unfold dec10
  by_cases hx : 0 ≤ x ∧ x < (I.np : Int)
  · rw [if_pos hx]
    obtain ⟨i, rfl⟩ := Int.eq_ofNat_of_zero_le hx.1
    rw [Int.toNat_natCast]
    show inS I.np ws (i : Int) = decide (i ∈ l)
    unfold inS inR
    rw [decide_eq_true (by omega), Int.toNat_natCast, Bool.true_and, h.mem i (by omega)]
  · rw [if_neg hx]
    show inS I.np ws x = false
    unfold inS inR
    rw [decide_eq_false hx]; rfl

set_option maxRecDepth 6000 in
set_option maxHeartbeats 16000000 in
theorem askPartialLists_any (b : Nat) (I : Img) (V : ImV) (k r : Nat) (hS : Sn9 I k r) (w : World) (hI : ImAt w b I V) :
    Calls Tryz.prog 68 #[.pointer (some ⟨b, 0, none⟩)] w fun e w' => e = askE (fst1 8 (ok10 I)) ∧ Kept none' w w' := by
  obtain ⟨-, ⟨pa, pc, hp⟩, -, -, ⟨ta, tc, ht⟩, -, -, -, -⟩ := hI.d.sl
  obtain ⟨c0, c1, c2, c3, c4, c5, c6, c7, c8⟩ := hI.cells
  rw [ht] at c8
  have hts := hI.d.pts
  rw [ht] at hts
  obtain ⟨bl, o, rfl, hbl, htc⟩ := hts.at 0 (by rw [hS.tl]; omega)
  obtain ⟨EE, hEE⟩ : ∃ EE, EE = askE (fst1 8 (ok10 I)) := ⟨_, rfl⟩
  rw [← hEE]
  have HE := hid hEE
  have HI := hid hI
  have HS := hid hS
  have SP := hid hp
  rw [hS.tl] at c8 htc
  have HHC := hid htc
  have hnp := hS.np1
  have hmf : ∀ (fn : Fn) (first cap : Array Value) (w : World), (Instr.makeFunc fn first cap).run Tryz.prog w = .ok (.func fn first cap) w := fun _ _ _ _ => rfl
  obtain ⟨n, hn⟩ : ∃ n, n = I.np := ⟨_, rfl⟩
  have HN := hid hn
  clear hEE hI hS ht hts htc hbl hp hn
  go_enter Tryz.func68, Tryz.ntmps68
  go_wp2_with fail
  go_loopw [11] (fun i W => ∃ a : Nat, a ≤ 8 ∧ i = .int .i64 a ∧ Hid (Kept none' w W ∧ ∀ x, x < a → ok10 I x = true)) (fun i _ => 8 - (intOf i).toNat)
  case atStart => exact ⟨0, Nat.zero_le _, rfl, hid ⟨Kept.refl _ _, fun x hx => by omega⟩⟩
  case round =>
    clear c0 c1 c2 c3 c4 c5 c6 c7 c8
    obtain ⟨a, ha', rfl, hR⟩ := hrel
    by_cases hlt : a < 8
    · have hai : (a : Int) < 8 := by omega
      obtain ⟨hp64, hpc⟩ := HHC.out a hlt
      have d0 := hR.out.1.cell (fun x => x) hpc
      obtain ⟨p, hp⟩ : ∃ p, p = I.pt.getD a 0 := ⟨_, rfl⟩
      rw [← hp] at d0 hp64
      have FB := hid (show ok10 I a = false → thrE (a : Int) = EE from fun h => by rw [HE.out, fst1_bad hlt hR.out.2 h]; rfl)
      have GA := hid (show ok10 I a = true → ∀ x, x < a + 1 → ok10 I x = true from fun h x hx => by
        by_cases e : x = a
        · rw [e]; exact h
        · exact hR.out.2 x (by omega))
      have OK := hid (show prgL (dec10 I) (-1) (fun i => (I.pg i).nx) (fun i => (I.pg i).pv) ((pgL I (prS (a : Int))).length + 1) (pgL I (prS (a : Int))) p (-1) = ok10 I a by rw [hp]; rfl)
      generalize ok10 I a = okv at *
      have B1 := hid (show (wr.alloc (.cells #[.int .i64 (a : Int)] 3 (0, 0))).heap[wr.heap.size]? = some (.cells #[.int .i64 (a : Int)] 3 (0, 0)) from heap_new _ _)
      have K1 := hid (show Kept none' w (wr.alloc (.cells #[.int .i64 (a : Int)] 3 (0, 0))) from hR.out.1.alloc _)
      have SZ := hid (show wr.heap.size < (wr.alloc (.cells #[.int .i64 (a : Int)] 3 (0, 0))).heap.size by simp)
      clear hp hpc
      go_wp2_with fail
      generalize wr.alloc (.cells #[.int .i64 (a : Int)] 3 (0, 0)) = W1 at *
      generalize wr.heap.size = cb at *
      refine (pagesP b cb I V (prS (a : Int)) W1 (HI.out.keep K1.out) hnp (fun i W hi hk => by
        obtain ⟨_, _, c, _, -, -, -, -, y5, y6, -⟩ := HS.out.pg i hi
        exact partC cb a (I.pg i) c y5 y6 W ((hk.block _ (heap_lt B1.out) (fun x => x)).trans B1.out))).mono ?_
      rintro e w2 ⟨sb, sc, ws, rfl, hst, hge1, hge2, hbt, hk2⟩
      have LL := hid (show L8 w w2 cb sb sc I.np a ws (pgL I (prS (a : Int))) from ⟨(hk2.block _ (heap_lt B1.out) (fun x => x)).trans B1.out, hst, Nat.le_trans K1.out.size hge2, by have := SZ.out; omega, none_trans K1.out hk2, pgL_nodup _ _, fun i hi => by
        rw [hbt i hi, Bool.eq_iff_iff, decide_eq_true_eq, pgL_mem]
        exact ⟨fun h => ⟨hi, h⟩, fun h => h.2⟩, fun i hi => (pgL_mem.1 hi).1⟩)
      clear hst hge1 hge2 hbt hk2 d0 B1 K1 SZ
      go_wp2_with fail
      go_loopw [3, 5] (fun pv bv W => ∃ p q : Int, pv = .int .i64 p ∧ bv = .int .i64 q ∧ Hid (∃ ws l, L8 w W cb sb sc I.np a ws l ∧ prgL (dec10 I) (-1) (fun i => (I.pg i).nx) (fun i => (I.pg i).pv) (l.length + 1) l p q = okv)) (fun _ _ W => cntS (wsOf W sc))
      case atStart => exact ⟨p, -1, rfl, rfl, hid ⟨_, _, LL.out, OK.out⟩⟩
      case round =>
        clear LL OK hp64
        obtain ⟨p, q, rfl, rfl, hL⟩ := hrel
        obtain ⟨ws, l, hl, hok⟩ := hL.out
        have LL := hid hl
        have OK := hid hok
        clear hL hl hok
        by_cases hp0 : p = -1
        · have hp0' : (p != -1) = false := by rw [hp0]; rfl
          have OK2 := hid (show okv = decide (cntS ws = 0) by rw [← OK.out, hp0, prgL_end, LL.out.empty])
          obtain ⟨cw, hcw⟩ : ∃ cw, cw = cntS ws := ⟨_, rfl⟩
          have HCT := hid (fun (x : KW wr) => countS_any sb sc I.np ws x.v (LL.out.keep x.k).st)
          rw [← hcw] at HCT OK2
          have c0 : ∀ x : KW wr, x.v.cell? ⟨cb, 0, none⟩ = some (.int .i64 (a : Int)) := fun x => by simp [World.cell?, (LL.out.keep x.k).bx]
          clear hp0 hcw
          by_cases g : cw = 0
          case neg =>
            have R2 := hid (FB.out (by rw [OK2.out, decide_eq_false g]))
            have f4 : ((cw : Int) == 0) = false := by rw [beq_eq_false_iff_ne]; omega
            clear g
            go_wp2_with fail
            refine wp_region_ends_kept (by kernel_rfl) (by kernel_rfl) (by exact List.cons_ne_nil _ _) ?_; dsimp only [List.dropLast, List.getLast]
            repeat (go_big_quiet_step (first | (go_at_call 96; exact Calls.kept_of ((HCT.out _).mono fun _ _ ⟨h1, h2⟩ => ⟨h1, h2 ▸ Kept.refl _ _⟩))))
            refine wpQuiet_nil ?_
            refine ⟨rfl, ?_⟩
            rintro _ ⟨x, rfl⟩
            exact ends_must (p := (a : Int)) rfl rfl rfl fun _ hd => ⟨hd, R2.out, none_trans LL.out.k x.k⟩
          have R2 := hid (GA.out (by rw [OK2.out, decide_eq_true g]))
          have f4 : ((cw : Int) == 0) = true := by rw [beq_iff_eq]; omega
          have HMY := hid (fun W => must_yes (a : Int) W)
          clear g
          go_wp2_with fail
          refine wp_region_kept (by kernel_rfl) (by kernel_rfl) ?_
          repeat (go_big_quiet_step (first | (go_at_call 96; exact Calls.kept_of ((HCT.out _).mono fun _ _ ⟨h1, h2⟩ => ⟨h1, h2 ▸ Kept.refl _ _⟩)) | (go_at_call 91; exact Calls.kept_of ((HMY.out _).mono fun _ _ ⟨h1, h2⟩ => ⟨h1, h2 ▸ Kept.refl _ _⟩))))
          refine wpQuiet_nil ?_
          intro x
          have R3 := hid (show Kept none' w x.v ∧ _ from ⟨none_trans LL.out.k x.k, R2.out⟩)
          clear c0
          go_wp2_with fail
          go_round
          case rel => exact ⟨a + 1, by omega, by go_num, R3⟩
          case measure => simp [intOf]; omega
        · have hp0' : (p != -1) = true := by rw [bne_iff_ne]; exact hp0
          have IM := hid (HI.out.keep LL.out.k)
          have INS := hid (dec10_ins LL.out p)
          have c0 : wr.cell? ⟨cb, 0, none⟩ = some (.int .i64 (a : Int)) := by simp [World.cell?, LL.out.bx]
          cases hin : inS I.np ws p with
          | false =>
            have R2 := hid (FB.out (by
              rw [← OK.out]
              refine prgL_no hp0 fun i hi => .inl fun hm => ?_
              have := INS.out
              rw [hi, hin] at this
              exact absurd hm (of_decide_eq_false this.symm)))
            have HME := hid (meet_no sb sc I.np ws p (a : Int) wr LL.out.st hin)
            clear hin hp0
            go_wp2_with fail
            refine HME.out.mono ?_
            rintro e w3 ⟨rfl, rfl⟩
            exact ⟨rfl, R2.out, LL.out.k⟩
          | true =>
            have hex : ∃ i, dec10 I p = some i ∧ i ∈ l := by
              have := INS.out
              rw [hin] at this
              cases hd : dec10 I p with
              | none => rw [hd] at this; cases this
              | some i => rw [hd] at this; exact ⟨i, rfl, of_decide_eq_true this.symm⟩
            obtain ⟨i, hi, hil⟩ := hex
            obtain ⟨hin1, hpi, hp1⟩ := dec10_i hi
            subst hpi
            have HD := hid (show dec10 I (i : Int) = some i ∧ (i : Int) ≠ -1 from ⟨hi, hp1⟩)
            have HIL := hid hil
            have HI1 := hid hin1
            have HME := hid (meet_yes sb sc I.np ws (i : Int) (a : Int) wr LL.out.st hin)
            clear hin hil hi hin1 hp1 hp0
            go_wp2_with fail
            refine HME.out.mono ?_
            rintro e wc ⟨rfl, h1, h2, h3⟩
            have LM := hid (show L8 w wc cb sb sc I.np a (putI I.np ws (i : Int) false) (l.erase i) from LL.out.met h2 HIL.out h1)
            have MSR := hid (show cntS (wsOf wc sc) < cntS (wsOf wr sc) by
              rw [wsOf_set LM.out.st, wsOf_set LL.out.st]
              have hb : bit ws i = true := by rw [LL.out.mem i HI1.out]; exact decide_eq_true HIL.out
              have := cnt_meet LL.out.st LM.out.st HI1.out hb
              omega)
            clear h1 h2 h3 HME c0
            have IM2 := hid (HI.out.keep LM.out.k)
            have NXT := hid (show (I.pg i).pv = q → prgL (dec10 I) (-1) (fun i => (I.pg i).nx) (fun i => (I.pg i).pv) ((l.erase i).length + 1) (l.erase i) (I.pg i).nx (i : Int) = okv from fun h => by
              rw [← OK.out]
              exact (prgL_yes (nxt := fun i => (I.pg i).nx) (bk := fun i => (I.pg i).pv) HD.out.2 HD.out.1 HIL.out h).symm)
            have NOT := hid (show ¬ (I.pg i).pv = q → thrE (a : Int) = EE from fun h => FB.out (by
              rw [← OK.out]
              refine prgL_no HD.out.2 fun j hj => .inr ?_
              rw [HD.out.1] at hj
              injection hj with hj
              rw [← hj]; exact h))
            have hpa : ∃ bl' o', pa = some ⟨bl', o', none⟩ := by
              obtain ⟨bl', o', oc', hv', _⟩ := IM2.out.page i HI1.out
              rw [SP.out] at hv'
              injection hv' with e1
              exact ⟨bl', o', e1⟩
            obtain ⟨pb, po, rfl⟩ := hpa
            obtain ⟨d0, d1, d2, d3, d4, d5, d6, d7, d8, d9, d10⟩ := pgCK (IM2.out.pageK SP.out i HI1.out)
            obtain ⟨c0, c1, c2, c3, c4, c5, c6, c7, c8⟩ := IM2.out.all
            rw [SP.out, ← HN.out] at c5
            have b0 : ∀ x : KW wc, x.v.cell? ⟨cb, 0, none⟩ = some (.int .i64 (a : Int)) := fun x => by simp [World.cell?, (LM.out.keep x.k).bx]
            have hin2 : (i : Int) < (n : Int) := by have := HI1.out; rw [HN.out]; omega
            by_cases g : (I.pg i).pv = q
            case neg =>
              have R2 := hid (NOT.out g)
              have f4 : ((I.pg i).pv == q) = false := by rw [beq_eq_false_iff_ne]; exact g
              clear g
              go_wp2_with fail
              refine wp_region_ends_kept (by kernel_rfl) (by kernel_rfl) (by exact List.cons_ne_nil _ _) ?_; dsimp only [List.dropLast, List.getLast]
              repeat (go_big_quiet_step (fail))
              refine wpQuiet_nil ?_
              refine ⟨rfl, ?_⟩
              rintro _ ⟨x, rfl⟩
              exact ends_must (p := (a : Int)) rfl rfl rfl fun _ hd => ⟨hd, R2.out, none_trans LM.out.k x.k⟩
            have R2 := hid (NXT.out g)
            have f4 : ((I.pg i).pv == q) = true := by rw [beq_iff_eq]; exact g
            have HMY := hid (fun W => must_yes (a : Int) W)
            clear g
            go_wp2_with fail
            refine wp_region_kept (by kernel_rfl) (by kernel_rfl) ?_
            repeat (go_big_quiet_step (first | (go_at_call 91; exact Calls.kept_of ((HMY.out _).mono fun _ _ ⟨h1, h2⟩ => ⟨h1, h2 ▸ Kept.refl _ _⟩))))
            refine wpQuiet_nil ?_
            intro x
            have LX := hid (LM.out.keep x.k)
            clear d0 d1 d2 d3 d4 d5 d6 d7 d8 d9 d10 c0 c1 c2 c3 c4 c5 c6 c7 c8 b0 f4
            go_wp2_with fail
            have WSX := hid (show wsOf x.v sc = wsOf wc sc by rw [wsOf_set LX.out.st, wsOf_set LM.out.st])
            generalize x.v = W3 at *
            have IM3 := hid (HI.out.keep LX.out.k)
            obtain ⟨d0, d1, d2, d3, d4, d5, d6, d7, d8, d9, d10⟩ := pgCK (IM3.out.pageK SP.out i HI1.out)
            obtain ⟨c0, c1, c2, c3, c4, c5, c6, c7, c8⟩ := IM3.out.all
            rw [SP.out, ← HN.out] at c5
            refine wp_region_kept (by kernel_rfl) (by kernel_rfl) ?_
            repeat (go_big_quiet_step (fail))
            refine wpQuiet_nil ?_
            intro y
            have R3 := hid (show ∃ ws l, L8 w y.v cb sb sc I.np a ws l ∧ prgL (dec10 I) (-1) (fun i => (I.pg i).nx) (fun i => (I.pg i).pv) (l.length + 1) l (I.pg i).nx (i : Int) = okv from ⟨_, _, LX.out.keep y.k, R2.out⟩)
            have MS2 := hid (show cntS (wsOf y.v sc) < cntS (wsOf wr sc) by
              rw [wsOf_set (LX.out.keep y.k).st, ← wsOf_set LM.out.st]
              exact MSR.out)
            clear d0 d1 d2 d3 d4 d5 d6 d7 d8 d9 d10 c0 c1 c2 c3 c4 c5 c6 c7 c8
            go_wp2_with fail
            go_round
            case rel => exact ⟨(I.pg i).nx, (i : Int), rfl, rfl, R3⟩
            case measure => exact MS2.out
    · have hae : a = 8 := by omega
      have hai : ¬ (a : Int) < 8 := by omega
      have E := hid (show Ending.returned (.tuple #[]) = EE by rw [HE.out, fst1_ok (fun x hx => hR.out.2 x (by omega))]; rfl)
      clear hae
      go_wp2_with fail
      first | go_end0 | go_ret
      exact ⟨E.out, hR.out.1⟩
end Go.Proofs.YthjokkihlodapaaGreat
