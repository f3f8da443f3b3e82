import Derived.Test.YtgjapopddblpoaaGreatDoorHpJ
/- Package malloc: Stats, the walk. -/
namespace Go.Proofs.YtgjapopddblpoaaGreatDoor
open Go.RowKit
open Go.MuLone
set_option linter.unusedVariables false

abbrev stY (h : Nat) : Obj := .cells #[.int .u64 (h : Int), .int .u64 0, .int .i64 0, .int .i64 0] 35
theorem st_pty : ¬ Go.Proofs.YtgjapopddblpoaaGreatDoor.pty 35 ∧ 35 ≠ 135 ∧ 35 ≠ 91 := by unfold Go.Proofs.YtgjapopddblpoaaGreatDoor.pty; decide
theorem st_set {W : World} {y h L B F : Nat} (e : W.heap[y]? = some (stO h L B F)) : (∀ v : Nat, (W.setCell ⟨y, 1, none⟩ (.int .u64 (v : Int))).heap[y]? = some (stO h v B F)) ∧ (∀ v : Nat, (W.setCell ⟨y, 2, none⟩ (.int .i64 (v : Int))).heap[y]? = some (stO h L v F)) ∧ (∀ v : Nat, (W.setCell ⟨y, 3, none⟩ (.int .i64 (v : Int))).heap[y]? = some (stO h L B v)) := by
  refine ⟨fun v => ?_, fun v => ?_, fun v => ?_⟩ <;> · rw [heap_set e]; simp
theorem st_four {W : World} {y h L B F : Nat} (e : W.heap[y]? = some (stO 0 0 0 0)) : ((((W.setCell ⟨y, 0, none⟩ (.int .u64 (h : Int))).setCell ⟨y, 1, none⟩ (.int .u64 (L : Int))).setCell ⟨y, 2, none⟩ (.int .i64 (B : Int))).setCell ⟨y, 3, none⟩ (.int .i64 (F : Int))).heap[y]? = some (stO h L B F) := by
  have := heap_set (heap_set (heap_set (heap_set e 0 (.int .u64 (h : Int))) 1 (.int .u64 (L : Int))) 2 (.int .i64 (B : Int))) 3 (.int .i64 (F : Int))
  simpa using this
section
variable {w W W0 W1 W' : World} {hb sb lw : Nat} {x : Bx} {t : Bt} {fr : Nat → List Nat} {ls : List (Nat × Nat)} {S : Sb} {s : Int} {y2 y3 i : Nat}
/-- The book of a page is written: from L, B, F to L1, B1, F1. -/
structure StJ (w0 W0 : World) (hb sb lw : Nat) (x : Bx) (t : Bt) (fr : Nat → List Nat) (ls : List (Nat × Nat)) (S : Sb) (y2 y3 L B F : Nat) (W : World) : Prop where
  H : HW w0 W hb sb lw x t fr ls S 1
  k : Kept none' W0 W
  r : W.heap[y2]? = some (stO 0 0 0 0)
  b : W.heap[y3]? = some (stO x.n L B F)
  n2 : y2 < y3
  n3 : W0.heap.size ≤ y3
  nw : w0.heap.size ≤ y3
variable {L B F : Nat}
theorem StJ.keep (j : StJ w W0 hb sb lw x t fr ls S y2 y3 L B F W) (k : Kept none' W W') : StJ w W0 hb sb lw x t fr ls S y2 y3 L B F W' :=
  ⟨j.H.keep k, none_trans j.k k, (k.block _ (heap_lt j.r) (fun e => e)).trans j.r, (k.block _ (heap_lt j.b) (fun e => e)).trans j.b, j.n2, j.n3, j.nw⟩
theorem StJ.wr {L1 B1 F1 : Nat} (j : StJ w W0 hb sb lw x t fr ls S y2 y3 L B F W) (k : Kept (fun y => y = y3) W W') (e : W'.heap[y3]? = some (stO x.n L1 B1 F1)) : StJ w W0 hb sb lw x t fr ls S y2 y3 L1 B1 F1 W' :=
  ⟨j.H.other j.b j.nw st_pty.1 st_pty.2.1 st_pty.2.2 k, j.k.trans k (fun _ _ e => e) (fun y hy e => absurd j.n3 (by rw [← e]; exact Nat.not_le.2 hy)), (k.block _ (heap_lt j.r) (fun e => absurd j.n2 (by rw [e]; exact Nat.lt_irrefl _))).trans j.r, e, j.n2, j.n3, j.nw⟩
theorem StJ.s1 (j : StJ w W0 hb sb lw x t fr ls S y2 y3 L B F W) (v : Nat) : StJ w W0 hb sb lw x t fr ls S y2 y3 v B F (W.setCell ⟨y3, 1, none⟩ (.int .u64 (v : Int))) := j.wr ((Kept.refl (fun y => y = y3) W).setCell (p := ⟨y3, 1, none⟩) rfl _) ((st_set j.b).1 v)
theorem StJ.s2 (j : StJ w W0 hb sb lw x t fr ls S y2 y3 L B F W) (v : Nat) : StJ w W0 hb sb lw x t fr ls S y2 y3 L v F (W.setCell ⟨y3, 2, none⟩ (.int .i64 (v : Int))) := j.wr ((Kept.refl (fun y => y = y3) W).setCell (p := ⟨y3, 2, none⟩) rfl _) ((st_set j.b).2.1 v)
theorem StJ.s3 (j : StJ w W0 hb sb lw x t fr ls S y2 y3 L B F W) (v : Nat) : StJ w W0 hb sb lw x t fr ls S y2 y3 L B v (W.setCell ⟨y3, 3, none⟩ (.int .i64 (v : Int))) := j.wr ((Kept.refl (fun y => y = y3) W).setCell (p := ⟨y3, 3, none⟩) rfl _) ((st_set j.b).2.2 v)
set_option maxRecDepth 6000 in
set_option maxHeartbeats 4000000 in
theorem Stats_h (H : HW w W hb sb lw x t fr ls S 0) :
    Calls Tryz.prog 13 #[.pointer (some ⟨hb, 0, none⟩)] W fun e w' => e = .returned (stV x.n (stS plL t.m t.m.n) (stS plB t.m t.m.n) (stS plF t.m t.m.n)) ∧ Kept none' W w' := by
  have n2 := H.po.nums.2.1
  have n4 := H.po.nums.2.2.2.1
  have KA := hid ((Kept.refl none' W).alloc stZ)
  have HA := hid (H.keep KA.out)
  have XA := hid (show (W.alloc stZ).heap[W.heap.size]? = some (stO 0 0 0 0) from heap_new W stZ)
  have hwW : w.heap.size ≤ W.heap.size := H.po.pl.kp.size
  have LK := hid HA.out.lock
  have XL := hid (show (lk1 (W.alloc stZ) hb).heap[W.heap.size]? = some (stO 0 0 0 0) from ((HA.out.set 1).2.block _ (heap_lt XA.out) (fun e => by
    have := heap_lt H.bx
    omega)).trans XA.out)
  have CM := hid (committed_h HA.out.in)
  have SB := hid (fun i (hi : i ≤ t.m.n) => H.stb i hi)
  have SK := hid (fun i (hi : i < t.m.n) => H.sk hi)
  have sL := hid (fun i => show stS plL t.m (i + 1) = stS plL t.m i + plL (t.m.pg i) from rfl)
  have sB := hid (fun i => show stS plB t.m (i + 1) = stS plB t.m i + plB (t.m.pg i) from rfl)
  have sF := hid (fun i => show stS plF t.m (i + 1) = stS plF t.m i + plF (t.m.pg i) from rfl)
  have hsz : (lk1 (W.alloc stZ) hb).heap.size = W.heap.size + 1 := by simp
  obtain ⟨n, hn⟩ : ∃ n, n = t.m.n := ⟨_, rfl⟩
  have HH := hid H
  have HN := hid hn
  have z0 : stS plL t.m 0 = 0 := rfl
  have zz1 : stS plB t.m 0 = 0 := rfl
  have zz2 : stS plF t.m 0 = 0 := rfl
  rw [← hn] at n2 SB SK ⊢
  obtain ⟨fL, hfL⟩ : ∃ f, f = stS plL t.m := ⟨_, rfl⟩
  obtain ⟨fB, hfB⟩ : ∃ f, f = stS plB t.m := ⟨_, rfl⟩
  obtain ⟨fF, hfF⟩ : ∃ f, f = stS plF t.m := ⟨_, rfl⟩
  rw [← hfL] at SB sL z0 ⊢
  rw [← hfB] at SB sB zz1 ⊢
  rw [← hfF] at SB sF zz2 ⊢
  have hxn : x.n ≤ 9223372036854775808 := by omega
  clear H n4 hn hfL hfB hfF
  go_enter_defers Tryz.func13, Tryz.ntmps13
  go_wp2_with fail
  refine LK.out.mono ?_
  rintro e w1 ⟨rfl, rfl⟩
  go_wp2_with fail
  refine CM.out.mono ?_
  rintro e w2 ⟨rfl, hk2⟩
  have J0 := hid (show StJ w (lk1 (W.alloc stZ) hb) hb sb lw x t fr ls S W.heap.size w2.heap.size 0 0 0 (w2.alloc (stY x.n)) from by
    have k3 := hk2.alloc (stY x.n)
    have hs := hk2.size
    rw [hsz] at hs
    exact ⟨HA.out.in.keep k3, k3, (k3.block _ (heap_lt XL.out) (fun e => e)).trans XL.out, heap_new w2 _, by omega, by rw [hsz]; omega, by omega⟩)
  clear hk2
  obtain ⟨c0, c2, c3, c4, c5, c6⟩ := J0.out.H.c
  have MP := hid (Map6 J0.out.H.po.pl)
  have PGS := hid (pages6 J0.out.H.po)
  rw [← HN.out] at PGS
  go_upto_region 4 with fail
  generalize w2.alloc (stY x.n) = W3 at *
  generalize w2.heap.size = y3 at *
  go_wp2_with fail
  refine MP.out.mono ?_
  rintro e w4 ⟨rfl, h4⟩
  replace h4 := h4.symm
  subst h4
  go_wp2_with fail
  refine PGS.out.mono ?_
  rintro e w4 ⟨rfl, h4⟩
  replace h4 := h4.symm
  subst h4
  clear MP PGS c0 c2 c3 c4 c5 c6
  go_wp2_with fail
  go_loopw [25] (fun c V => ∃ i : Nat, i ≤ n ∧ c = .int .i64 (i : Int) ∧ Hid (StJ w (lk1 (W.alloc stZ) hb) hb sb lw x t fr ls S W.heap.size y3 (fL i) (fB i) (fF i) V)) (fun c _ => n - (intOf c).toNat)
  case atStart => exact ⟨0, Nat.zero_le _, rfl, hid (by rw [z0, zz1, zz2]; exact J0.out)⟩
  case round =>
    clear J0 z0 zz1 zz2
    obtain ⟨i, hi, rfl, hJ⟩ := hrel
    by_cases hlt : i < n
    · have hii : (i : Int) < (n : Int) := by omega
      have hin : i < t.m.n := by rw [← HN.out]; exact hlt
      have MP := hid (Map6 hJ.out.H.po.pl)
      have AT := hid (at_any x.m x.B t.m (i : Int) wr hJ.out.H.po.pl.bd.mp)
      rw [show atP t.m (i : Int) = t.m.pg i by unfold atP; rw [if_pos (inR_yes hin), Int.toNat_natCast]] at AT
      obtain ⟨c0, c2, c3, c4, c5, c6⟩ := hJ.out.H.c
      have sk := SK.out i hlt
      have aL := sL.out i
      have aB := sB.out i
      have aF := sF.out i
      have bb := SB.out i hi
      have bb1 := SB.out (i + 1) hlt
      generalize plL (t.m.pg i) = dl at *
      generalize plB (t.m.pg i) = db at *
      generalize plF (t.m.pg i) = df at *
      generalize t.m.pg i = q at *
      go_wp2_with fail
      refine MP.out.mono ?_
      rintro e w4 ⟨rfl, h4⟩
      replace h4 := h4.symm
      subst h4
      go_wp2_with fail
      refine AT.out.mono ?_
      rintro e w5 ⟨rfl, hk5⟩
      have J6 := hid (hJ.out.keep (hk5.alloc (pobj q)))
      have X5 := hid (heap_new w5 (pobj q))
      have hne : w5.heap.size ≠ y3 := by
        have h1 := hk5.size
        have h2 := heap_lt hJ.out.b
        omega
      clear MP AT hk5 c0 c2 c3 c4 c5 c6
      go_upto_region 8 with fail
      generalize w5.alloc (pobj q) = w6 at *
      generalize w5.heap.size = y5 at *
      obtain ⟨p0, p1, p2, p3, p4⟩ := stc J6.out.b
      obtain ⟨x0, x1, x2, x3, x4, x5, x6, x7, x8, x9, x10⟩ := box11 X5.out
      obtain ⟨L, hL⟩ : ∃ L, L = fL i := ⟨_, rfl⟩
      obtain ⟨B, hB⟩ : ∃ B, B = fB i := ⟨_, rfl⟩
      obtain ⟨F, hF⟩ : ∃ F, F = fF i := ⟨_, rfl⟩
      rw [← hL, ← hB, ← hF] at J6
      rw [← hL] at p1 aL bb
      rw [← hB] at p2 aB bb
      rw [← hF] at p3 aF bb
      cases sk with
      | free hq h1 h2 h3 =>
        subst h1 h2 h3
        have D := hid (show StJ w (lk1 (W.alloc stZ) hb) hb sb lw x t fr ls S W.heap.size y3 (fL (i + 1)) (fB (i + 1)) (fF (i + 1)) (w6.setCell ⟨y3, 3, none⟩ (.int .i64 ((F + 1 : Nat) : Int))) from by rw [aL, aB, aF, Nat.add_zero, Nat.add_zero]; exact J6.out.s3 (F + 1))
        obtain ⟨F1, hF1⟩ : ∃ F1, F1 = F + 1 := ⟨_, rfl⟩
        rw [← hF1] at D
        have e1 : (F : Int) + 1 = (F1 : Int) := by omega
        have hFb : F1 ≤ 1024 := by omega
        clear aL aB aF hF1 hL hB hF bb bb1 J6 X5
        rcases hq with hq | hq
        · have q0 : (q.kd == 0) = true := by rw [beq_iff_eq]; exact hq
          clear hq
          go_wp2_with fail
          exact ⟨⟨i + 1, by omega, by simp, D⟩, by simp [intOf]; omega⟩
        · have q0 : (q.kd == 0) = false := by rw [beq_eq_false_iff_ne]; omega
          have q1 : (q.kd == 1) = true := by rw [beq_iff_eq]; exact hq
          clear hq
          go_wp2_with fail
          exact ⟨⟨i + 1, by omega, by simp, D⟩, by simp [intOf]; omega⟩
      | rest hq h1 h2 h3 =>
        subst h1 h2 h3
        have D := hid (show StJ w (lk1 (W.alloc stZ) hb) hb sb lw x t fr ls S W.heap.size y3 (fL (i + 1)) (fB (i + 1)) (fF (i + 1)) w6 from by rw [aL, aB, aF, Nat.add_zero, Nat.add_zero, Nat.add_zero]; exact J6.out)
        have q0 : (q.kd == 0) = false := by rw [beq_eq_false_iff_ne]; omega
        have q1 : (q.kd == 1) = false := by rw [beq_eq_false_iff_ne]; omega
        have q2 : (q.kd == 2) = false := by rw [beq_eq_false_iff_ne]; omega
        have q4 : (q.kd == 4) = false := by rw [beq_eq_false_iff_ne]; omega
        clear aL aB aF hL hB hF bb bb1 J6 X5 hq
        go_wp2_with fail
        exact ⟨⟨i + 1, by omega, by simp, D⟩, by simp [intOf]; omega⟩
      | head k hk hq ho h1 h2 h3 =>
        subst h2 h3
        have q0 : (q.kd == 0) = false := by rw [beq_eq_false_iff_ne]; omega
        have q1 : (q.kd == 1) = false := by rw [beq_eq_false_iff_ne]; omega
        have q2 : (q.kd == 2) = true := by rw [beq_iff_eq]; exact hq
        have RN := hid (fun W' => run_h k hk q ho W')
        rw [← h1] at RN
        have KD := hid ((Kept.refl none' w6).drew)
        obtain ⟨L1, hL1⟩ : ∃ L1, L1 = L + dl := ⟨_, rfl⟩
        obtain ⟨B1, hB1⟩ : ∃ B1, B1 = B + 1 := ⟨_, rfl⟩
        have DC := hid (fun w7 (kk : Kept none' w6 w7) => show StJ w (lk1 (W.alloc stZ) hb) hb sb lw x t fr ls S W.heap.size y3 L1 B F (w7.setCell ⟨y3, 1, none⟩ (.int .u64 (L1 : Int))) from (J6.out.keep kk).s1 L1)
        have PC := hid (fun w7 (kk : Kept none' w6 w7) => stc (J6.out.keep kk).b)
        have DE := hid (fun w8 (jj : StJ w (lk1 (W.alloc stZ) hb) hb sb lw x t fr ls S W.heap.size y3 L1 B F w8) => show StJ w (lk1 (W.alloc stZ) hb) hb sb lw x t fr ls S W.heap.size y3 (fL (i + 1)) (fB (i + 1)) (fF (i + 1)) (w8.setCell ⟨y3, 2, none⟩ (.int .i64 (B1 : Int))) from by
          rw [aL, aB, aF, Nat.add_zero, ← hL1, ← hB1]
          exact jj.s2 B1)
        have e1 : (L : Int) + (dl : Int) = (L1 : Int) := by omega
        have e2 : (B : Int) + 1 = (B1 : Int) := by omega
        rw [aL, ← hL1, aB, ← hB1] at bb1
        obtain ⟨b1, b2, b3⟩ := bb1
        have hLb : L1 ≤ 1073741824 := by omega
        have hLw : IntKind.u64.wrap (L1 : Int) = (L1 : Int) := by rw [wrap_u64]; omega
        have hBb : B1 ≤ 262144 := by omega
        have hdb : dl ≤ 1073741824 := by omega
        clear aL aB aF hL1 hB1 hL hB hF bb J6 hq ho hk h1 b1 b2 b3
        go_wp2_with fail
        go_cut [3, 25] from 25 to 79 (fun s3 s25 wx => s3 = .pointer (some ⟨y3, 0, none⟩) ∧ s25 = .int .i64 (i : Int) ∧ Hid (StJ w (lk1 (W.alloc stZ) hb) hb sb lw x t fr ls S W.heap.size y3 L1 B F wx))
        case first =>
          rename_i KK hKK J' KK2 hJ hM
          clear hKK KK
          obtain ⟨d0, d1, d2, d3, d4⟩ := PC.out _ KD.out
          refine wp_region_noPanic ?_
          go_region_with (first
            | (go_at_call 43; (with_reducible refine (RN.out _).mono ?_); rintro e w7 ⟨rfl, hk7⟩; have K7 := hid (none_trans KD.out hk7); obtain ⟨r0, r1, r2, r3, r4⟩ := PC.out _ K7.out; have DD := hid (DC.out _ K7.out); clear hk7)
            | fail)
          all_goals
            refine NoPanic.normal ?_
            go_wp2_with fail
            go_meet
            case rel => exact ⟨rfl, rfl, by with_reducible exact DD⟩
        case rest =>
        obtain ⟨rfl, rfl, hC⟩ := hcut
        obtain ⟨d0, d1, d2, d3, d4⟩ := stc hC.out.b
        have D := hid (DE.out _ hC.out)
        clear DC PC DE KD RN p0 p1 p2 p3 p4
        go_wp2_with fail
        exact ⟨⟨i + 1, by omega, by simp, D⟩, by simp [intOf]; omega⟩
      | slab k l hk hl hq hc hv h1 h2 h3 =>
        subst h3
        have q0 : (q.kd == 0) = false := by rw [beq_eq_false_iff_ne]; omega
        have q1 : (q.kd == 1) = false := by rw [beq_eq_false_iff_ne]; omega
        have q2 : (q.kd == 2) = false := by rw [beq_eq_false_iff_ne]; omega
        have q4 : (q.kd == 4) = true := by rw [beq_iff_eq]; exact hq
        have CL := hid (fun W' => cell_h k hk q hc W')
        have hz := szC_le hk
        obtain ⟨z, hzz⟩ : ∃ z, z = szC k := ⟨_, rfl⟩
        rw [← hzz] at CL hz h1
        have KD := hid ((Kept.refl none' w6).drew)
        obtain ⟨L1, hL1⟩ : ∃ L1, L1 = L + dl := ⟨_, rfl⟩
        obtain ⟨B1, hB1⟩ : ∃ B1, B1 = B + db := ⟨_, rfl⟩
        have DC := hid (fun w7 (kk : Kept none' w6 w7) => show StJ w (lk1 (W.alloc stZ) hb) hb sb lw x t fr ls S W.heap.size y3 L1 B F (w7.setCell ⟨y3, 1, none⟩ (.int .u64 (L1 : Int))) ∧ (w7.setCell ⟨y3, 1, none⟩ (.int .u64 (L1 : Int))).cell? ⟨y5, 3, none⟩ = some (.int .i64 q.lv) from ⟨(J6.out.keep kk).s1 L1, ((Kept.refl (fun y => y = y3) w7).setCell (p := ⟨y3, 1, none⟩) rfl _).cell hne (kk.cell (fun e => e) x3)⟩)
        have PC := hid (fun w7 (kk : Kept none' w6 w7) => And.intro (stc (J6.out.keep kk).b) (kk.cell (fun e => e) x3))
        have DE := hid (fun w8 (jj : StJ w (lk1 (W.alloc stZ) hb) hb sb lw x t fr ls S W.heap.size y3 L1 B F w8) => show StJ w (lk1 (W.alloc stZ) hb) hb sb lw x t fr ls S W.heap.size y3 (fL (i + 1)) (fB (i + 1)) (fF (i + 1)) (w8.setCell ⟨y3, 2, none⟩ (.int .i64 (B1 : Int))) from by
          rw [aL, aB, aF, Nat.add_zero, ← hL1, ← hB1]
          exact jj.s2 B1)
        have hli : q.lv * (z : Int) = (dl : Int) := by rw [hv, h1]; simp
        have e1 : (L : Int) + (dl : Int) = (L1 : Int) := by omega
        have e2 : (B : Int) + q.lv = (B1 : Int) := by omega
        rw [aL, ← hL1, aB, ← hB1] at bb1
        obtain ⟨b1, b2, b3⟩ := bb1
        have hLb : L1 ≤ 1073741824 := by omega
        have hLw : IntKind.u64.wrap (L1 : Int) = (L1 : Int) := by rw [wrap_u64]; omega
        have hBb : B1 ≤ 262144 := by omega
        have hdb : dl ≤ 1073741824 := by omega
        have lwr : IntKind.u64.wrap q.lv = q.lv := by rw [wrap_u64]; omega
        have lw0 : 0 ≤ q.lv := by omega
        have lw1 : q.lv ≤ 256 := by omega
        have dwr : IntKind.u64.wrap (dl : Int) = (dl : Int) := by rw [wrap_u64]; omega
        clear aL aB aF hL1 hB1 hL hB hF bb J6 hq hc hk h1 h2 b1 b2 b3 hzz hv hl
        go_wp2_with fail
        go_cut [3, 5, 25] from 25 to 79 (fun s3 s5 s25 wx => s3 = .pointer (some ⟨y3, 0, none⟩) ∧ s25 = .int .i64 (i : Int) ∧ s5 = .pointer (some ⟨y5, 0, none⟩) ∧ Hid (StJ w (lk1 (W.alloc stZ) hb) hb sb lw x t fr ls S W.heap.size y3 L1 B F wx ∧ wx.cell? ⟨y5, 3, none⟩ = some (.int .i64 q.lv)))
        case first =>
          rename_i KK hKK J' KK2 hJ hM
          clear hKK KK
          obtain ⟨⟨d0, d1, d2, d3, d4⟩, d5⟩ := PC.out _ KD.out
          refine wp_region_noPanic ?_
          go_region_with (first
            | (go_at_call 44; (with_reducible refine (CL.out _).mono ?_); rintro e w7 ⟨rfl, hk7⟩; have K7 := hid (none_trans KD.out hk7); obtain ⟨⟨r0, r1, r2, r3, r4⟩, r5⟩ := PC.out _ K7.out; have DD := hid (DC.out _ K7.out); clear hk7)
            | fail)
          all_goals
            refine NoPanic.normal ?_
            go_wp2_with fail
            go_meet
            case rel => exact ⟨rfl, rfl, rfl, by with_reducible exact DD⟩
        case rest =>
        obtain ⟨rfl, rfl, rfl, hC⟩ := hcut
        obtain ⟨d0, d1, d2, d3, d4⟩ := stc hC.out.1.b
        have d5 := hC.out.2
        have D := hid (DE.out _ hC.out.1)
        clear DC PC DE KD CL p0 p1 p2 p3 p4
        go_wp2_with fail
        exact ⟨⟨i + 1, by omega, by simp, D⟩, by simp [intOf]; omega⟩
    · obtain rfl : i = n := by omega
      have hii : ¬ (i : Int) < (i : Int) := by omega
      obtain ⟨p0, p1, p2, p3, p4⟩ := stc hJ.out.b
      obtain ⟨r0, r1, r2, r3, r4⟩ := stc hJ.out.r
      have k9 := ((((Kept.refl (fun y => y = W.heap.size) wr).setCell (p := ⟨W.heap.size, 0, none⟩) rfl (.int .u64 (x.n : Int))).setCell (p := ⟨W.heap.size, 1, none⟩) rfl (.int .u64 ((fL i : Nat) : Int))).setCell (p := ⟨W.heap.size, 2, none⟩) rfl (.int .i64 ((fB i : Nat) : Int))).setCell (p := ⟨W.heap.size, 3, none⟩) rfl (.int .i64 ((fF i : Nat) : Int))
      have X9 := hid (st_four hJ.out.r (h := x.n) (L := fL i) (B := fB i) (F := fF i))
      have K9 := hid k9
      have H9 := hid (hJ.out.H.other hJ.out.r hwW st_pty.1 st_pty.2.1 st_pty.2.2 k9)
      clear k9
      go_wp2_with fail
      generalize (((wr.setCell ⟨W.heap.size, 0, none⟩ (.int .u64 (x.n : Int))).setCell ⟨W.heap.size, 1, none⟩ (.int .u64 ((fL i : Nat) : Int))).setCell ⟨W.heap.size, 2, none⟩ (.int .i64 ((fB i : Nat) : Int))).setCell ⟨W.heap.size, 3, none⟩ (.int .i64 ((fF i : Nat) : Int)) = w9 at *
      have UL := hid (H9.out.unlock .returning)
      have hnb : W.heap.size ≠ hb := fun e => by
        have := heap_lt HH.out.bx
        omega
      have D := hid (show Kept none' W (lk0 w9 hb) from KA.out.trans (HA.out.round (K := fun y => y = W.heap.size) (fun e => hnb e.symm) ((hJ.out.k.mono (fun _ _ e => e.elim)).trans K9.out (fun _ _ e => e) (fun _ _ e => e)) H9.out rfl rfl rfl) (fun _ _ e => e) (fun y hy e => absurd hy (by rw [e]; exact Nat.lt_irrefl _)))
      have X10 := hid (show (lk0 w9 hb).heap[W.heap.size]? = some (stO x.n (fL i) (fB i) (fF i)) from ((H9.out.set 0).2.block _ (heap_lt X9.out) hnb).trans X9.out)
      obtain ⟨u0, u1, u2, u3, u4⟩ := stc X10.out
      refine leaves_cons (f := 36) (args := #[.pointer (some ⟨hb, 0, none⟩)]) (by simp) (by simp [go_sem]) ?_
      refine UL.out.mono ?_
      rintro e u' w3 ⟨rfl, rfl, rfl⟩
      exact ⟨stV x.n (fL i) (fB i) (fF i), by simp [results, Tryz.results13, go_sem, u0, u1, u2, u3], rfl, D.out⟩
end
end Go.Proofs.YtgjapopddblpoaaGreatDoor
