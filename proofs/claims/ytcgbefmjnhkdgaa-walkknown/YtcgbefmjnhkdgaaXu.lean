import Derived.Test.YtcgbefmjnhkdgaaXt
set_option maxRecDepth 1000000
set_option maxHeartbeats 80000000
/- Rule 9. -/
namespace Go.Proofs.Ytcgbefmjnhkdgaa
open Go.RowKit
set_option linter.unusedVariables false

/-- A list of cells is followed as long as there is something left. -/
def prg9 (nx : Nat → Option Int) : Nat → List Nat → Int → Bool
  | 0, _, _ => false
  | n + 1, l, p => if p = -1 then l.isEmpty else if 0 ≤ p ∧ p.toNat ∈ l then (match nx p.toNat with | none => false | some q => prg9 nx n (l.erase p.toNat) q) else false
theorem prg9_end {nx : Nat → Option Int} {l : List Nat} : prg9 nx (l.length + 1) l (-1) = l.isEmpty := by rw [prg9, if_pos rfl]
theorem prg9_no {nx : Nat → Option Int} {l : List Nat} {p : Int} (hp : p ≠ -1) (h : ¬ (0 ≤ p ∧ p.toNat ∈ l)) : prg9 nx (l.length + 1) l p = false := by rw [prg9, if_neg hp, if_neg h]
theorem prg9_bad {nx : Nat → Option Int} {l : List Nat} {i : Nat} (h : i ∈ l) (hn : nx i = none) : prg9 nx (l.length + 1) l (i : Int) = false := by
  rw [prg9, if_neg (by omega), if_pos ⟨by omega, by rw [Int.toNat_natCast]; exact h⟩, Int.toNat_natCast, hn]
theorem prg9_yes {nx : Nat → Option Int} {l : List Nat} {i : Nat} {q : Int} (h : i ∈ l) (hn : nx i = some q) : prg9 nx (l.length + 1) l (i : Int) = prg9 nx ((l.erase i).length + 1) (l.erase i) q := by
  rw [prg9, if_neg (by omega), if_pos ⟨by omega, by rw [Int.toNat_natCast]; exact h⟩, Int.toNat_natCast, hn, List.length_erase_of_mem h]
  have : l.length - 1 + 1 = l.length := by
    have := List.length_pos_of_mem h
    omega
  rw [this]
/-- The free cells of a page. -/
def frL (p : Pg) (n : Nat) : List Nat := (List.range n).filter fun i => !bit (wsP p) i
/-- Rule 9 at a slab page of class c. -/
def ok9c (I : Img) (g c : Nat) : Bool := prg9 (nx9 I g c) ((frL (I.pg g) (celN9 c)).length + 1) (frL (I.pg g) (celN9 c)) (I.pg g).fs
/-- Rule 9 at a page. -/
def ok9 (I : Img) (g : Nat) : Bool := !decide ((I.pg g).kd = 4) || ok9c I g (I.pg g).cl.toNat
/-- A list of cells is followed: what is left. -/
structure L9 (w W : World) (sb sc n : Nat) (ws : List Nat) (l : List Nat) : Prop where
  st : SetAt W sb sc n ws
  ge : w.heap.size ≤ sc
  k : Kept none' w W
  nd : l.Nodup
  mem : ∀ i, i < n → bit ws i = decide (i ∈ l)
  lt : ∀ i, i ∈ l → i < n
theorem L9.keep {w W W' : World} {sb sc n : Nat} {ws l : List Nat} (h : L9 w W sb sc n ws l) (hk : Kept none' W W') : L9 w W' sb sc n ws l :=
  ⟨h.st.kept hk (fun x => x) (fun x => x), h.ge, none_trans h.k hk, h.nd, h.mem, h.lt⟩
theorem L9.met {w W W' : World} {sb sc n i : Nat} {ws l : List Nat} (h : L9 w W sb sc n ws l) (hk : Kept (fun x => x = sc) W W') (hi : i ∈ l) (hs : SetAt W' sb sc n (putI n ws (i : Int) false)) : L9 w W' sb sc n (putI n ws (i : Int) false) (l.erase i) := by
  refine ⟨hs, h.ge, h.k.trans hk (fun _ _ x => x) (fun x hx e => by have := h.ge; omega), h.nd.erase i, fun j hj => ?_, fun j hj => h.lt j (List.mem_of_mem_erase hj)⟩
  rw [bit_putI h.st.len i (h.lt i hi) false j]
  by_cases e : j = i
  · rw [if_pos e, e]
    exact (decide_eq_false (fun hm => ((h.nd.mem_erase_iff).1 hm).1 rfl)).symm
  · rw [if_neg e, h.mem j hj, decide_eq_decide, h.nd.mem_erase_iff]
    exact ⟨fun hm => ⟨e, hm⟩, fun hm => hm.2⟩
theorem L9.ins {w W : World} {sb sc n : Nat} {ws l : List Nat} (h : L9 w W sb sc n ws l) (p : Int) : inS n ws p = decide (0 ≤ p ∧ p.toNat ∈ l) := by
  unfold inS inR
  by_cases hp : 0 ≤ p ∧ p < (n : Int)
  · rw [decide_eq_true hp, Bool.true_and, h.mem p.toNat (by omega), decide_eq_decide]
    exact ⟨fun hm => ⟨hp.1, hm⟩, fun hm => hm.2⟩
  · rw [decide_eq_false hp, Bool.false_and]
    refine (decide_eq_false fun hm => hp ⟨hm.1, ?_⟩).symm
    have := h.lt _ hm.2
    omega
theorem L9.empty {w W : World} {sb sc n : Nat} {ws l : List Nat} (h : L9 w W sb sc n ws l) : l.isEmpty = decide (cntS ws = 0) := by
  rw [Bool.eq_iff_iff, List.isEmpty_iff, decide_eq_true_eq, cntS_zero h.st]
  constructor
  · intro e j hj
    rw [h.mem j hj, e]; rfl
  · intro hz
    cases l with
    | nil => rfl
    | cons x t =>
      exfalso
      have hx := h.lt x List.mem_cons_self
      have := hz x hx
      rw [h.mem x hx, decide_eq_true List.mem_cons_self] at this
      cases this

set_option maxRecDepth 6000 in
set_option maxHeartbeats 8000000 in
theorem askCellList_any (b : Nat) (I : Img) (V : ImV) (k r : Nat) (hS : Sn9 I k r) (g c : Nat) (hg : g < I.np) (hc : (I.pg g).cl = (c : Int)) (h7 : c ≤ 7) (w : World) (hI : ImAt w b I V) :
    Calls Try.prog 69 #[.pointer (some ⟨b, 0, none⟩), .int .i64 (g : Int)] w fun e w' => e = askE (if ok9c I g c = true then none else some g) ∧ Kept none' w w' := by
  obtain ⟨-, ⟨pa, pc, hp⟩, -, -, -, -, bp, -, -⟩ := hI.d.sl
  obtain ⟨c0, c1, c2, c3, c4, c5, c6, c7, c8⟩ := hI.cells
  rw [hp] at c5
  obtain ⟨bl, o, oc', hv', hpi, hpc⟩ := hI.page g hg
  rw [hp] at hv'
  injection hv' with e1 e2 e3
  subst e1
  obtain ⟨EE, hEE⟩ : ∃ EE, EE = askE (if ok9c I g c = true then none else some g) := ⟨_, rfl⟩
  rw [← hEE]
  have FB := hid (show ok9c I g c = false → thrE (g : Int) = EE from fun h => by rw [hEE, if_neg (by rw [h]; decide)]; rfl)
  have FG := hid (show ok9c I g c = true → Ending.returned (.tuple #[]) = EE from fun h => by rw [hEE, if_pos h]; rfl)
  have OK := hid (show prg9 (nx9 I g c) ((frL (I.pg g) (celN9 c)).length + 1) (frL (I.pg g) (celN9 c)) (I.pg g).fs = ok9c I g c from rfl)
  generalize ok9c I g c = okv at *
  have HI := hid hI
  have HFR := hid (fun W => freeSet_any (I.pg g) c hc h7 hpi W)
  have HNX := hid (fun (i : Nat) (hi : i < celN9 c) (W : World) (hW : ImAt W b I V) => nextCell_any b I V k r hS g c i hg hc h7 hi W hW)
  have PB := hid (PbI.mk' (w := w) hI (Kept.refl _ w) (I.pg g))
  obtain ⟨d0, d1, d2, d3, d4, d5, d6, d7, d8, d9, d10⟩ := hpc.c
  obtain ⟨n, hn⟩ : ∃ n, n = I.np := ⟨_, rfl⟩
  rw [← hn] at c5
  have hgn : (g : Int) < (n : Int) := by omega
  have hnp := hS.np1
  rw [← hn] at hnp
  obtain ⟨nf, hnf⟩ : ∃ nf, nf = nx9 I g c := ⟨_, rfl⟩
  rw [← hnf] at OK
  have HNF := hid (show ∀ i, nx9 I g c i = nf i from fun i => by rw [hnf])
  generalize celN9 c = cn at *
  generalize hpp : I.pg g = p at *
  clear hEE hI hp hpi hpc e2 e3 hn hc bp hpp hnf
  go_enter Try.func69, Try.ntmps69
  go_wp2_with fail
  have SZ := hid (show w.heap.size < (w.alloc (pgO p)).heap.size by simp)
  generalize w.alloc (pgO p) = W1 at *
  generalize hgg : w.heap.size = gb at *
  have HGB := hid hgg
  clear hgg d0 d1 d2 d3 d4 d5 d6 d7 d8 d9 d10 c0 c1 c2 c3 c4 c5 c6 c7 c8
  refine (HFR.out W1).mono ?_
  rintro e w2 ⟨sb, sc, ws, rfl, hst, hg1, hg2, hbt, hk2⟩
  have PB2 := hid (PB.out.keep hk2)
  have LL := hid (show L9 w w2 sb sc cn ws (frL p cn) from ⟨hst, by have := SZ.out; have := HGB.out; omega, none_trans PB.out.k hk2, List.nodup_range.filter _, fun i hi => by
    rw [hbt i hi, Bool.eq_iff_iff, decide_eq_true_eq]
    simp [frL, hi], fun i hi => by simp [frL] at hi; exact hi.1⟩)
  obtain ⟨q0, q1, q2, q3, q4, q5, q6, -⟩ := pgO_c PB2.out.pb
  clear hst hg1 hg2 hbt hk2
  go_wp2_with fail
  clear q0 q1 q2 q3 q4 q5 q6
  go_loopw [6] (fun pv W => ∃ x : Int, pv = .int .i64 x ∧ Hid (∃ ws l, L9 w W sb sc cn ws l ∧ prg9 nf (l.length + 1) l x = okv)) (fun _ W => cntS (wsOf W sc))
  case atStart => exact ⟨p.fs, rfl, hid ⟨_, _, LL.out, OK.out⟩⟩
  case round =>
    clear LL OK PB2 PB SZ
    obtain ⟨x, rfl, hL⟩ := hrel
    obtain ⟨ws, l, hl, hok⟩ := hL.out
    have LL := hid hl
    have OK := hid hok
    clear hL hl hok
    by_cases hx : x = -1
    · have f0 : (x != -1) = false := by rw [hx]; rfl
      have OK2 := hid (show okv = decide (cntS ws = 0) by rw [← OK.out, hx, prg9_end, LL.out.empty])
      obtain ⟨cw, hcw⟩ : ∃ cw, cw = cntS ws := ⟨_, rfl⟩
      have HCT := hid (countS_any sb sc cn ws wr LL.out.st)
      rw [← hcw] at HCT OK2
      clear hx hcw
      by_cases g0 : cw = 0
      case neg =>
        have R2 := hid (FB.out (by rw [OK2.out, decide_eq_false g0]))
        have f4 : ((cw : Int) == 0) = false := by rw [beq_eq_false_iff_ne]; omega
        clear g0
        go_wp2_with fail
        refine HCT.out.mono ?_
        rintro e w3 ⟨rfl, rfl⟩
        go_wp2_with fail
        refine (must_no _ _).mono ?_
        rintro e w4 ⟨rfl, rfl⟩
        exact ⟨rfl, R2.out, LL.out.k⟩
      have R2 := hid (FG.out (by rw [OK2.out, decide_eq_true g0]))
      have f4 : ((cw : Int) == 0) = true := by rw [beq_iff_eq]; omega
      clear g0
      go_wp2_with fail
      refine HCT.out.mono ?_
      rintro e w3 ⟨rfl, rfl⟩
      go_wp2_with fail
      refine (must_yes _ _).mono ?_
      rintro e w4 ⟨rfl, rfl⟩
      go_wp2_with fail
      first | go_end0 | go_ret
      exact ⟨R2.out, LL.out.k⟩
    · have f0 : (x != -1) = true := by rw [bne_iff_ne]; exact hx
      have INS := hid (LL.out.ins x)
      cases hin : inS cn ws x with
      | false =>
        have R2 := hid (FB.out (by
          rw [← OK.out]
          refine prg9_no hx ?_
          have := INS.out
          rw [hin] at this
          exact of_decide_eq_false this.symm))
        have HME := hid (meet_no sb sc cn ws x (g : Int) wr LL.out.st hin)
        clear hin hx
        go_wp2_with fail
        refine HME.out.mono ?_
        rintro e w3 ⟨rfl, rfl⟩
        exact ⟨rfl, R2.out, LL.out.k⟩
      | true =>
        have hm : 0 ≤ x ∧ x.toNat ∈ l := by
          have := INS.out
          rw [hin] at this
          exact of_decide_eq_true this.symm
        obtain ⟨i, rfl⟩ := Int.eq_ofNat_of_zero_le hm.1
        have hil : i ∈ l := by have := hm.2; rwa [Int.toNat_natCast] at this
        have HIL := hid hil
        have HI1 := hid (LL.out.lt i hil)
        have HME := hid (meet_yes sb sc cn ws (i : Int) (g : Int) wr LL.out.st hin)
        clear hin hm hil hx
        go_wp2_with fail
        refine HME.out.mono ?_
        rintro e wc ⟨rfl, h1, h2, h3⟩
        have LM := hid (show L9 w wc sb sc cn (putI cn ws (i : Int) false) (l.erase i) from LL.out.met h2 HIL.out h1)
        have MSR := hid (show cntS (wsOf wc sc) < cntS (wsOf wr sc) by
          rw [wsOf_set LM.out.st, wsOf_set LL.out.st]
          have hb : bit ws i = true := by rw [LL.out.mem i HI1.out]; exact decide_eq_true HIL.out
          have := cnt_meet LL.out.st LM.out.st HI1.out hb
          omega)
        have IM2 := hid (HI.out.keep LM.out.k)
        have NC := hid (HNX.out i HI1.out wc IM2.out)
        rw [HNF.out i] at NC
        clear h1 h2 h3 HME
        cases hq : nf i with
        | none =>
          have R2 := hid (FB.out (by rw [← OK.out]; exact prg9_bad HIL.out hq))
          rw [hq] at NC
          clear hq
          go_wp2_with fail
          refine NC.out.mono ?_
          rintro e w4 ⟨rfl, hk4⟩
          exact ⟨rfl, R2.out, none_trans LM.out.k hk4⟩
        | some q =>
          have R2 := hid (show prg9 nf ((l.erase i).length + 1) (l.erase i) q = okv by rw [← OK.out]; exact (prg9_yes HIL.out hq).symm)
          rw [hq] at NC
          clear hq
          go_wp2_with fail
          refine NC.out.mono ?_
          rintro e w4 ⟨rfl, hk4⟩
          have R3 := hid (show ∃ ws l, L9 w w4 sb sc cn ws l ∧ prg9 nf (l.length + 1) l q = okv from ⟨_, _, LM.out.keep hk4, R2.out⟩)
          have MS2 := hid (show cntS (wsOf w4 sc) < cntS (wsOf wr sc) by
            rw [wsOf_set (LM.out.keep hk4).st, ← wsOf_set LM.out.st]
            exact MSR.out)
          clear hk4
          dsimp only [nxE]
          go_wp2_with fail
          go_round
          case rel => exact ⟨q, rfl, R3⟩
          case measure => exact MS2.out

set_option maxRecDepth 6000 in
set_option maxHeartbeats 8000000 in
theorem askCellLists_any (b : Nat) (I : Img) (V : ImV) (k r : Nat) (hS : Sn9 I k r) (w : World) (hI : ImAt w b I V) :
    Calls Try.prog 41 #[.pointer (some ⟨b, 0, none⟩)] w fun e w' => e = askE (fst1 I.np (ok9 I)) ∧ Kept none' w w' := by
  obtain ⟨-, ⟨pa, pc, hp⟩, -, -, -, -, bp, -, -⟩ := hI.d.sl
  obtain ⟨c0, c1, c2, c3, c4, c5, c6, c7, c8⟩ := hI.cells
  rw [hp] at c5
  obtain ⟨EE, hEE⟩ : ∃ EE, EE = askE (fst1 I.np (ok9 I)) := ⟨_, rfl⟩
  rw [← hEE]
  have HE := hid hEE
  have HI := hid hI
  have HS := hid hS
  have SP := hid hp
  have hnp := hS.np1
  obtain ⟨n, hn⟩ : ∃ n, n = I.np := ⟨_, rfl⟩
  rw [← hn] at hnp c5
  have HN := hid hn
  clear hEE hI hp hS hn bp
  go_enter Try.func41, Try.ntmps41
  go_wp2_with fail
  go_loopw [9] (fun i W => ∃ a : Nat, a ≤ n ∧ i = .int .i64 a ∧ Hid (Kept none' w W ∧ ∀ x, x < a → ok9 I x = true)) (fun i _ => n - (intOf i).toNat)
  case atStart => exact ⟨0, Nat.zero_le _, rfl, hid ⟨Kept.refl _ _, fun x hx => by omega⟩⟩
  case round =>
    clear c0 c1 c2 c3 c4 c5 c6 c7 c8
    obtain ⟨a, ha, rfl, hR⟩ := hrel
    have A0 := hid (HI.out.keep hR.out.1)
    by_cases hlt : a < n
    · have hai : (a : Int) < (n : Int) := by omega
      have hlt' : a < I.np := by rw [← HN.out]; exact hlt
      obtain ⟨bl, o, oc', hv', hpi, hpc⟩ := A0.out.page a hlt'
      rw [SP.out] at hv'
      injection hv' with e1 e2 e3
      subst e1
      obtain ⟨kd, od, cc, ll, y1, y2, y3, y4, y5, y6, y7, y8, -⟩ := HS.out.pg a hlt'
      have FB := hid (show ok9 I a = false → thrE (a : Int) = EE from fun h => by rw [HE.out, fst1_bad hlt' hR.out.2 h]; rfl)
      have GA := hid (show ok9 I a = true → ∀ x, x < a + 1 → ok9 I x = true from fun h x hx => by
        by_cases e : x = a
        · rw [e]; exact h
        · exact hR.out.2 x (by omega))
      have OK := hid (show ok9 I a = (!decide ((I.pg a).kd = 4) || ok9c I a cc) by unfold ok9; rw [y5, Int.toNat_natCast])
      have PB := hid (PbI.mk' (w := w) A0.out hR.out.1 (I.pg a))
      have HCL := hid (askCellList_any b I V k r HS.out a cc hlt' y5 y6 (wr.alloc (pgO (I.pg a))) PB.out.im)
      generalize ok9c I a cc = o9 at *
      generalize ok9 I a = okv at *
      obtain ⟨d0, d1, d2, d3, d4, d5, d6, d7, d8, d9, d10⟩ := hpc.c
      generalize I.pg a = p at *
      clear hpi hpc e2 e3 y1 y2 y3 y4 y5 y6 y7 y8
      by_cases hk4 : p.kd = 4
      case neg =>
        have R2 := hid (show Kept none' w (wr.alloc (pgO p)) ∧ _ from ⟨hR.out.1.alloc _, GA.out (by rw [OK.out]; simp [hk4])⟩)
        have f2 : (p.kd == 4) = false := by rw [beq_eq_false_iff_ne]; exact hk4
        clear hk4
        go_wp2_with fail
        go_round
        case rel => exact ⟨a + 1, by omega, by go_num, R2⟩
        case measure => simp [intOf]; omega
      have f2 : (p.kd == 4) = true := by rw [beq_iff_eq]; exact hk4
      have OK2 := hid (show okv = o9 by rw [OK.out, decide_eq_true hk4]; rfl)
      clear hk4
      cases o9 with
      | false =>
        have R2 := hid (FB.out OK2.out)
        rw [if_neg (by decide)] at HCL
        go_wp2_with fail
        refine HCL.out.mono ?_
        rintro e w3 ⟨rfl, hk3⟩
        exact ⟨rfl, R2.out, none_trans PB.out.k hk3⟩
      | true =>
        have R2 := hid (GA.out OK2.out)
        rw [if_pos rfl] at HCL
        go_wp2_with fail
        refine HCL.out.mono ?_
        rintro e w3 ⟨rfl, hk3⟩
        have R3 := hid (show Kept none' w w3 ∧ _ from ⟨none_trans PB.out.k hk3, R2.out⟩)
        clear hk3
        dsimp only [askE]
        go_wp2_with fail
        go_round
        case rel => exact ⟨a + 1, by omega, by go_num, R3⟩
        case measure => simp [intOf]; omega
    · obtain rfl : a = n := by omega
      have hai : ¬ (a : Int) < (a : Int) := by omega
      have E := hid (show Ending.returned (.tuple #[]) = EE by rw [HE.out, fst1_ok (fun x hx => hR.out.2 x (by rw [HN.out]; exact hx))]; rfl)
      go_wp2_with fail
      first | go_end0 | go_ret
      exact ⟨E.out, hR.out.1⟩
end Go.Proofs.Ytcgbefmjnhkdgaa
