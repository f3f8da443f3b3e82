import Derived.Test.YtcgbefmjnhkdgaaXq
import Derived.Deep.DeepCutAuto
set_option maxRecDepth 1000000
set_option maxHeartbeats 80000000
/- Rule 10. -/
namespace Go.Proofs.Ytcgbefmjnhkdgaa
open Go.RowKit
set_option linter.unusedVariables false

/-- Is a page a slab of a class with a cell that is free? -/
def prS (c : Int) (p : Pg) : Bool := decide (p.kd = 4) && (decide (p.cl = c) && !decide (p.lv = (celN9 p.cl.toNat : Int)))
def dec10 (I : Img) (x : Int) : Option Nat := if 0 ≤ x ∧ x < (I.np : Int) then some x.toNat else none
/-- Rule 10 of a class. -/
def ok10 (I : Img) (j : Nat) : Bool := prgL (dec10 I) (-1) (fun i => (I.pg i).nx) (fun i => (I.pg i).pv) ((pgL I (prS (j : Int))).length + 1) (pgL I (prS (j : Int))) (I.pt.getD j 0) (-1)

theorem partC (cb a : Nat) (p : Pg) (c : Nat) (hc : p.cl = (c : Int)) (h7 : c ≤ 7) (w : World) (h : w.heap[cb]? = some (.cells #[.int .i64 (a : Int)] 3 (0, 0))) :
    Calls Try.prog 70 #[pgV p, .pointer (some ⟨cb, 0, none⟩)] w fun e w' => e = .returned (.bool (prS (a : Int) p)) ∧ Kept none' w w' := by
  have c0 : w.cell? ⟨cb, 0, none⟩ = some (.int .i64 (a : Int)) := by simp [World.cell?, h]
  have HF := hid (fun W => full_any p c hc h7 W)
  have c1 : (w.alloc (pgO p)).cell? ⟨cb, 0, none⟩ = some (.int .i64 (a : Int)) := (show Kept none' w (w.alloc (pgO p)) from (Kept.refl _ _).alloc _).cell (fun x => x) c0
  have HK := hid (show Kept none' w (w.alloc (pgO p)) from (Kept.refl _ _).alloc _)
  have E := hid (show prS (a : Int) p = (decide (p.kd = 4) && (decide (p.cl = (a : Int)) && !decide (p.lv = (celN9 c : Int)))) by unfold prS; rw [hc, Int.toNat_natCast])
  generalize decide (p.lv = (celN9 c : Int)) = fv at *
  generalize prS (a : Int) p = rv at *
  clear h hc
  obtain ⟨kd, od, cl, lv, nx, pv, fs, b0, b1, b2, b3⟩ := p
  dsimp only at E
  by_cases h4 : kd = 4
  · subst h4
    by_cases hca : cl = (a : Int)
    · subst hca
      have E2 := hid (show (!fv) = rv by rw [E.out]; simp)
      cases fv with
      | false =>
        go_enter Try.func70, Try.ntmps70
        go_wp2_with fail
        refine (HF.out _).mono ?_
        rintro e w1 ⟨rfl, hk⟩
        have K1 := hid (none_trans HK.out hk)
        clear hk c0 c1
        go_wp2_with fail
        go_ret
        exact ⟨ret_bool E2.out, K1.out⟩
      | true =>
        go_enter Try.func70, Try.ntmps70
        go_wp2_with fail
        refine (HF.out _).mono ?_
        rintro e w1 ⟨rfl, hk⟩
        have K1 := hid (none_trans HK.out hk)
        clear hk c0 c1
        go_wp2_with fail
        go_ret
        exact ⟨ret_bool E2.out, K1.out⟩
    · have E2 := hid (show false = rv by rw [E.out]; simp [hca])
      have f1 : (cl == (a : Int)) = false := by rw [beq_eq_false_iff_ne]; exact hca
      clear hca
      go_enter Try.func70, Try.ntmps70
      go_wp2_with fail
      go_ret
      exact ⟨ret_bool E2.out, HK.out⟩
  · have E2 := hid (show false = rv by rw [E.out]; simp [h4])
    have f1 : (kd == 4) = false := by rw [beq_eq_false_iff_ne]; exact h4
    clear h4
    go_enter Try.func70, Try.ntmps70
    go_wp2_with fail
    go_ret
    exact ⟨ret_bool E2.out, HK.out⟩
theorem dec10_i {I : Img} {x : Int} {i : Nat} (h : dec10 I x = some i) : i < I.np ∧ x = (i : Int) ∧ x ≠ -1 := by
  unfold dec10 at h
  split at h
  · injection h with h
    omega
  · cases h
theorem dec10_ins {w W : World} {cb sb sc a : Nat} {I : Img} {ws l : List Nat} (h : L8 w W cb sb sc I.np a ws l) (x : Int) : inS I.np ws x = memO l (dec10 I x) := by
  unfold dec10
  by_cases hx : 0 ≤ x ∧ x < (I.np : Int)
  · rw [if_pos hx]
    obtain ⟨i, rfl⟩ := Int.eq_ofNat_of_zero_le hx.1
    rw [Int.toNat_natCast]
    show inS I.np ws (i : Int) = decide (i ∈ l)
    unfold inS inR
    rw [decide_eq_true (by omega), Int.toNat_natCast, Bool.true_and, h.mem i (by omega)]
  · rw [if_neg hx]
    show inS I.np ws x = false
    unfold inS inR
    rw [decide_eq_false hx]; rfl

set_option maxRecDepth 6000 in
set_option maxHeartbeats 16000000 in
theorem askPartialLists_any (b : Nat) (I : Img) (V : ImV) (k r : Nat) (hS : Sn9 I k r) (w : World) (hI : ImAt w b I V) :
    Calls Try.prog 42 #[.pointer (some ⟨b, 0, none⟩)] w fun e w' => e = askE (fst1 8 (ok10 I)) ∧ Kept none' w w' := by
  obtain ⟨-, ⟨pa, pc, hp⟩, -, -, ⟨ta, tc, ht⟩, -, -, -, -⟩ := hI.d.sl
  obtain ⟨c0, c1, c2, c3, c4, c5, c6, c7, c8⟩ := hI.cells
  rw [ht] at c8
  have hts := hI.d.pts
  rw [ht] at hts
  obtain ⟨bl, o, rfl, hbl, htc⟩ := hts.at 0 (by rw [hS.tl]; omega)
  obtain ⟨EE, hEE⟩ : ∃ EE, EE = askE (fst1 8 (ok10 I)) := ⟨_, rfl⟩
  rw [← hEE]
  have HE := hid hEE
  have HI := hid hI
  have HS := hid hS
  have SP := hid hp
  rw [hS.tl] at c8 htc
  have HHC := hid htc
  have hnp := hS.np1
  have hmf : ∀ (fn : Fn) (first cap : Array Value) (w : World), (Instr.makeFunc fn first cap).run Try.prog w = .ok (.func fn first cap) w := fun _ _ _ _ => rfl
  obtain ⟨n, hn⟩ : ∃ n, n = I.np := ⟨_, rfl⟩
  have HN := hid hn
  clear hEE hI hS ht hts htc hbl hp hn
  go_enter Try.func42, Try.ntmps42
  go_wp2_with fail
  go_loopw [11] (fun i W => ∃ a : Nat, a ≤ 8 ∧ i = .int .i64 a ∧ Hid (Kept none' w W ∧ ∀ x, x < a → ok10 I x = true)) (fun i _ => 8 - (intOf i).toNat)
  case atStart => exact ⟨0, Nat.zero_le _, rfl, hid ⟨Kept.refl _ _, fun x hx => by omega⟩⟩
  case round =>
    clear c0 c1 c2 c3 c4 c5 c6 c7 c8
    obtain ⟨a, ha', rfl, hR⟩ := hrel
    by_cases hlt : a < 8
    · have hai : (a : Int) < 8 := by omega
      obtain ⟨hp64, hpc⟩ := HHC.out a hlt
      have d0 := hR.out.1.cell (fun x => x) hpc
      obtain ⟨p, hp⟩ : ∃ p, p = I.pt.getD a 0 := ⟨_, rfl⟩
      rw [← hp] at d0 hp64
      have FB := hid (show ok10 I a = false → thrE (a : Int) = EE from fun h => by rw [HE.out, fst1_bad hlt hR.out.2 h]; rfl)
      have GA := hid (show ok10 I a = true → ∀ x, x < a + 1 → ok10 I x = true from fun h x hx => by
        by_cases e : x = a
        · rw [e]; exact h
        · exact hR.out.2 x (by omega))
      have OK := hid (show prgL (dec10 I) (-1) (fun i => (I.pg i).nx) (fun i => (I.pg i).pv) ((pgL I (prS (a : Int))).length + 1) (pgL I (prS (a : Int))) p (-1) = ok10 I a by rw [hp]; rfl)
      generalize ok10 I a = okv at *
      have B1 := hid (show (wr.alloc (.cells #[.int .i64 (a : Int)] 3 (0, 0))).heap[wr.heap.size]? = some (.cells #[.int .i64 (a : Int)] 3 (0, 0)) from heap_new _ _)
      have K1 := hid (show Kept none' w (wr.alloc (.cells #[.int .i64 (a : Int)] 3 (0, 0))) from hR.out.1.alloc _)
      have SZ := hid (show wr.heap.size < (wr.alloc (.cells #[.int .i64 (a : Int)] 3 (0, 0))).heap.size by simp)
      clear hp hpc
      go_wp2_with fail
      generalize wr.alloc (.cells #[.int .i64 (a : Int)] 3 (0, 0)) = W1 at *
      generalize wr.heap.size = cb at *
      refine (pagesP b cb I V (prS (a : Int)) W1 (HI.out.keep K1.out) hnp (fun i W hi hk => by
        obtain ⟨_, _, c, _, -, -, -, -, y5, y6, -⟩ := HS.out.pg i hi
        exact partC cb a (I.pg i) c y5 y6 W ((hk.block _ (heap_lt B1.out) (fun x => x)).trans B1.out))).mono ?_
      rintro e w2 ⟨sb, sc, ws, rfl, hst, hge1, hge2, hbt, hk2⟩
      have LL := hid (show L8 w w2 cb sb sc I.np a ws (pgL I (prS (a : Int))) from ⟨(hk2.block _ (heap_lt B1.out) (fun x => x)).trans B1.out, hst, Nat.le_trans K1.out.size hge2, by have := SZ.out; omega, none_trans K1.out hk2, pgL_nodup _ _, fun i hi => by
        rw [hbt i hi, Bool.eq_iff_iff, decide_eq_true_eq, pgL_mem]
        exact ⟨fun h => ⟨hi, h⟩, fun h => h.2⟩, fun i hi => (pgL_mem.1 hi).1⟩)
      clear hst hge1 hge2 hbt hk2 d0 B1 K1 SZ
      go_wp2_with fail
      go_loopw [3, 5] (fun pv bv W => ∃ p q : Int, pv = .int .i64 p ∧ bv = .int .i64 q ∧ Hid (∃ ws l, L8 w W cb sb sc I.np a ws l ∧ prgL (dec10 I) (-1) (fun i => (I.pg i).nx) (fun i => (I.pg i).pv) (l.length + 1) l p q = okv)) (fun _ _ W => cntS (wsOf W sc))
      case atStart => exact ⟨p, -1, rfl, rfl, hid ⟨_, _, LL.out, OK.out⟩⟩
      case round =>
        clear LL OK hp64
        obtain ⟨p, q, rfl, rfl, hL⟩ := hrel
        obtain ⟨ws, l, hl, hok⟩ := hL.out
        have LL := hid hl
        have OK := hid hok
        clear hL hl hok
        by_cases hp0 : p = -1
        · have hp0' : (p != -1) = false := by rw [hp0]; rfl
          have OK2 := hid (show okv = decide (cntS ws = 0) by rw [← OK.out, hp0, prgL_end, LL.out.empty])
          obtain ⟨cw, hcw⟩ : ∃ cw, cw = cntS ws := ⟨_, rfl⟩
          have HCT := hid (fun (x : KW wr) => countS_any sb sc I.np ws x.v (LL.out.keep x.k).st)
          rw [← hcw] at HCT OK2
          have c0 : ∀ x : KW wr, x.v.cell? ⟨cb, 0, none⟩ = some (.int .i64 (a : Int)) := fun x => by simp [World.cell?, (LL.out.keep x.k).bx]
          clear hp0 hcw
          by_cases g : cw = 0
          case neg =>
            have R2 := hid (FB.out (by rw [OK2.out, decide_eq_false g]))
            have f4 : ((cw : Int) == 0) = false := by rw [beq_eq_false_iff_ne]; omega
            clear g
            go_wp2_with fail
            refine wp_region_ends_kept (by kernel_rfl) (by kernel_rfl) (by exact List.cons_ne_nil _ _) ?_; dsimp only [List.dropLast, List.getLast]
            repeat (go_big_quiet_step (first | (go_at_call 61; exact Calls.kept_of ((HCT.out _).mono fun _ _ ⟨h1, h2⟩ => ⟨h1, h2 ▸ Kept.refl _ _⟩))))
            refine wpQuiet_nil ?_
            refine ⟨rfl, ?_⟩
            rintro _ ⟨x, rfl⟩
            exact ends_must (p := (a : Int)) rfl rfl rfl fun _ hd => ⟨hd, R2.out, none_trans LL.out.k x.k⟩
          have R2 := hid (GA.out (by rw [OK2.out, decide_eq_true g]))
          have f4 : ((cw : Int) == 0) = true := by rw [beq_iff_eq]; omega
          have HMY := hid (fun W => must_yes (a : Int) W)
          clear g
          go_wp2_with fail
          refine wp_region_kept (by kernel_rfl) (by kernel_rfl) ?_
          repeat (go_big_quiet_step (first | (go_at_call 61; exact Calls.kept_of ((HCT.out _).mono fun _ _ ⟨h1, h2⟩ => ⟨h1, h2 ▸ Kept.refl _ _⟩)) | (go_at_call 56; exact Calls.kept_of ((HMY.out _).mono fun _ _ ⟨h1, h2⟩ => ⟨h1, h2 ▸ Kept.refl _ _⟩))))
          refine wpQuiet_nil ?_
          intro x
          have R3 := hid (show Kept none' w x.v ∧ _ from ⟨none_trans LL.out.k x.k, R2.out⟩)
          clear c0
          go_wp2_with fail
          go_round
          case rel => exact ⟨a + 1, by omega, by go_num, R3⟩
          case measure => simp [intOf]; omega
        · have hp0' : (p != -1) = true := by rw [bne_iff_ne]; exact hp0
          have IM := hid (HI.out.keep LL.out.k)
          have INS := hid (dec10_ins LL.out p)
          have c0 : wr.cell? ⟨cb, 0, none⟩ = some (.int .i64 (a : Int)) := by simp [World.cell?, LL.out.bx]
          cases hin : inS I.np ws p with
          | false =>
            have R2 := hid (FB.out (by
              rw [← OK.out]
              refine prgL_no hp0 fun i hi => .inl fun hm => ?_
              have := INS.out
              rw [hi, hin] at this
              exact absurd hm (of_decide_eq_false this.symm)))
            have HME := hid (meet_no sb sc I.np ws p (a : Int) wr LL.out.st hin)
            clear hin hp0
            go_wp2_with fail
            refine HME.out.mono ?_
            rintro e w3 ⟨rfl, rfl⟩
            exact ⟨rfl, R2.out, LL.out.k⟩
          | true =>
            have hex : ∃ i, dec10 I p = some i ∧ i ∈ l := by
              have := INS.out
              rw [hin] at this
              cases hd : dec10 I p with
              | none => rw [hd] at this; cases this
              | some i => rw [hd] at this; exact ⟨i, rfl, of_decide_eq_true this.symm⟩
            obtain ⟨i, hi, hil⟩ := hex
            obtain ⟨hin1, hpi, hp1⟩ := dec10_i hi
            subst hpi
            have HD := hid (show dec10 I (i : Int) = some i ∧ (i : Int) ≠ -1 from ⟨hi, hp1⟩)
            have HIL := hid hil
            have HI1 := hid hin1
            have HME := hid (meet_yes sb sc I.np ws (i : Int) (a : Int) wr LL.out.st hin)
            clear hin hil hi hin1 hp1 hp0
            go_wp2_with fail
            refine HME.out.mono ?_
            rintro e wc ⟨rfl, h1, h2, h3⟩
            have LM := hid (show L8 w wc cb sb sc I.np a (putI I.np ws (i : Int) false) (l.erase i) from LL.out.met h2 HIL.out h1)
            have MSR := hid (show cntS (wsOf wc sc) < cntS (wsOf wr sc) by
              rw [wsOf_set LM.out.st, wsOf_set LL.out.st]
              have hb : bit ws i = true := by rw [LL.out.mem i HI1.out]; exact decide_eq_true HIL.out
              have := cnt_meet LL.out.st LM.out.st HI1.out hb
              omega)
            clear h1 h2 h3 HME c0
            have IM2 := hid (HI.out.keep LM.out.k)
            have NXT := hid (show (I.pg i).pv = q → prgL (dec10 I) (-1) (fun i => (I.pg i).nx) (fun i => (I.pg i).pv) ((l.erase i).length + 1) (l.erase i) (I.pg i).nx (i : Int) = okv from fun h => by
              rw [← OK.out]
              exact (prgL_yes (nxt := fun i => (I.pg i).nx) (bk := fun i => (I.pg i).pv) HD.out.2 HD.out.1 HIL.out h).symm)
            have NOT := hid (show ¬ (I.pg i).pv = q → thrE (a : Int) = EE from fun h => FB.out (by
              rw [← OK.out]
              refine prgL_no HD.out.2 fun j hj => .inr ?_
              rw [HD.out.1] at hj
              injection hj with hj
              rw [← hj]; exact h))
            have hpa : ∃ bl' o', pa = some ⟨bl', o', none⟩ := by
              obtain ⟨bl', o', oc', hv', _⟩ := IM2.out.page i HI1.out
              rw [SP.out] at hv'
              injection hv' with e1
              exact ⟨bl', o', e1⟩
            obtain ⟨pb, po, rfl⟩ := hpa
            obtain ⟨d0, d1, d2, d3, d4, d5, d6, d7, d8, d9, d10⟩ := pgCK (IM2.out.pageK SP.out i HI1.out)
            obtain ⟨c0, c1, c2, c3, c4, c5, c6, c7, c8⟩ := IM2.out.all
            rw [SP.out, ← HN.out] at c5
            have b0 : ∀ x : KW wc, x.v.cell? ⟨cb, 0, none⟩ = some (.int .i64 (a : Int)) := fun x => by simp [World.cell?, (LM.out.keep x.k).bx]
            have hin2 : (i : Int) < (n : Int) := by have := HI1.out; rw [HN.out]; omega
            by_cases g : (I.pg i).pv = q
            case neg =>
              have R2 := hid (NOT.out g)
              have f4 : ((I.pg i).pv == q) = false := by rw [beq_eq_false_iff_ne]; exact g
              clear g
              go_wp2_with fail
              refine wp_region_ends_kept (by kernel_rfl) (by kernel_rfl) (by exact List.cons_ne_nil _ _) ?_; dsimp only [List.dropLast, List.getLast]
              repeat (go_big_quiet_step (fail))
              refine wpQuiet_nil ?_
              refine ⟨rfl, ?_⟩
              rintro _ ⟨x, rfl⟩
              exact ends_must (p := (a : Int)) rfl rfl rfl fun _ hd => ⟨hd, R2.out, none_trans LM.out.k x.k⟩
            have R2 := hid (NXT.out g)
            have f4 : ((I.pg i).pv == q) = true := by rw [beq_iff_eq]; exact g
            have HMY := hid (fun W => must_yes (a : Int) W)
            clear g
            go_wp2_with fail
            refine wp_region_kept (by kernel_rfl) (by kernel_rfl) ?_
            repeat (go_big_quiet_step (first | (go_at_call 56; exact Calls.kept_of ((HMY.out _).mono fun _ _ ⟨h1, h2⟩ => ⟨h1, h2 ▸ Kept.refl _ _⟩))))
            refine wpQuiet_nil ?_
            intro x
            have LX := hid (LM.out.keep x.k)
            clear d0 d1 d2 d3 d4 d5 d6 d7 d8 d9 d10 c0 c1 c2 c3 c4 c5 c6 c7 c8 b0 f4
            go_wp2_with fail
            have WSX := hid (show wsOf x.v sc = wsOf wc sc by rw [wsOf_set LX.out.st, wsOf_set LM.out.st])
            generalize x.v = W3 at *
            have IM3 := hid (HI.out.keep LX.out.k)
            obtain ⟨d0, d1, d2, d3, d4, d5, d6, d7, d8, d9, d10⟩ := pgCK (IM3.out.pageK SP.out i HI1.out)
            obtain ⟨c0, c1, c2, c3, c4, c5, c6, c7, c8⟩ := IM3.out.all
            rw [SP.out, ← HN.out] at c5
            refine wp_region_kept (by kernel_rfl) (by kernel_rfl) ?_
            repeat (go_big_quiet_step (fail))
            refine wpQuiet_nil ?_
            intro y
            have R3 := hid (show ∃ ws l, L8 w y.v cb sb sc I.np a ws l ∧ prgL (dec10 I) (-1) (fun i => (I.pg i).nx) (fun i => (I.pg i).pv) (l.length + 1) l (I.pg i).nx (i : Int) = okv from ⟨_, _, LX.out.keep y.k, R2.out⟩)
            have MS2 := hid (show cntS (wsOf y.v sc) < cntS (wsOf wr sc) by
              rw [wsOf_set (LX.out.keep y.k).st, ← wsOf_set LM.out.st]
              exact MSR.out)
            clear d0 d1 d2 d3 d4 d5 d6 d7 d8 d9 d10 c0 c1 c2 c3 c4 c5 c6 c7 c8
            go_wp2_with fail
            go_round
            case rel => exact ⟨(I.pg i).nx, (i : Int), rfl, rfl, R3⟩
            case measure => exact MS2.out
    · have hae : a = 8 := by omega
      have hai : ¬ (a : Int) < 8 := by omega
      have E := hid (show Ending.returned (.tuple #[]) = EE by rw [HE.out, fst1_ok (fun x hx => hR.out.2 x (by omega))]; rfl)
      clear hae
      go_wp2_with fail
      first | go_end0 | go_ret
      exact ⟨E.out, hR.out.1⟩
end Go.Proofs.Ytcgbefmjnhkdgaa
