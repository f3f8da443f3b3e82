import Derived.Test.YtocpnddacdpnmaaGreatDoorSlN
/- Package slab: hand. -/
namespace Go.Proofs.YtocpnddacdpnmaaGreatDoor
open Go.RowKit
set_option linter.unusedVariables false

theorem ownM_yes {m : Mp} {p i : Nat} {l : Bool} (hp : p < m.n) (hk : (m.pg p).kd = 4) (hi : i < ncell (m.pg p).cl) (hl : litP (m.pg p) i = !l) : ownE m (p : Int) (i : Int) l = 0 ∧ ownM m (p : Int) (i : Int) l = { m with pg := upp m.pg p (ownP (m.pg p) i) } := by
  have hc : canOwn m (p : Int) (i : Int) l = true := by
    unfold canOwn isCell
    rw [Int.toNat_natCast, Int.toNat_natCast, inR_yes hp, decide_eq_true hk, inR_yes hi, hl]
    cases l <;> rfl
  unfold ownE ownM
  rw [if_pos hc, if_pos hc, Int.toNat_natCast, Int.toNat_natCast]
  exact ⟨rfl, rfl⟩
theorem firstM_yes {m : Mp} {p : Nat} {c : Int} (hp : p < m.n) (hk : (m.pg p).kd = 4) (hc : c = -1 ∨ ∃ j : Nat, c = (j : Int) ∧ j < ncell (m.pg p).cl) : firstM m (p : Int) c = { m with pg := upp m.pg p { m.pg p with fs := c } } := by
  have h : canFirst m (p : Int) c = true := by
    unfold canFirst
    rw [Int.toNat_natCast, inR_yes hp, decide_eq_true hk]
    rcases hc with rfl | ⟨j, rfl, hj⟩
    · rfl
    · rw [inR_yes hj, Bool.or_true]; rfl
  unfold firstM
  rw [if_pos h, Int.toNat_natCast]
/-- The map, the heads behind a cell's being handed out. -/
def hanM2 (m : Mp) (p i : Nat) (r : List Nat) : Mp := firstM (ownM m (p : Int) (i : Int) true) (p : Int) (hdI r)
def hanM (m : Mp) (p i : Nat) (r : List Nat) : Mp := if r = [] then unlM (hanM2 m p i r) (p : Int) else hanM2 m p i r
def hanH (m : Mp) (h : Nat → Int) (p k i : Nat) (r : List Nat) : Nat → Int := if r = [] then unlH (hanM2 m p i r) h (p : Int) k else h
set_option maxRecDepth 4000 in
set_option maxHeartbeats 2000000 in
theorem hand_s {w W sb lw x t fr ls S h} (o : SO w W sb lw x t fr ls S h) (p k i : Nat) (r : List Nat) (hc : S.c p = some k) (hf : S.fl p = i :: r) :
    Calls Tryz.prog 38 #[.pointer (some ⟨sb, 0, none⟩), .int .i64 (p : Int), .int .i64 (k : Int)] W fun e w' => e = .returned (.tuple #[.int .u64 ((caN x p k i : Nat) : Int), .int .i64 0]) ∧ SE w W sb lw x t (hanM t.m p i r) (hanH t.m h p k i r) w' := by
  obtain ⟨hk, sp⟩ := o.si.pg p k hc
  obtain ⟨nd, lt, lk⟩ := o.si.fl p k hc
  have hlv := o.si.lv p k hc
  obtain ⟨hls, hpn, hp1, hpb⟩ := o.mem hc
  have n4 := o.po.nums.2.2.2.1
  rw [hf] at nd lt lk hlv
  have hib : i < ncl k := lt i List.mem_cons_self
  have hnb := ncl_b hk
  have hoff := off_cell (x := x) (p := p) hk hib (by omega)
  have hin : M.In x.base x.n (caN x p k i) 8 := by
    have hz := szC_le hk
    unfold M.In
    have e : caN x p k i = x.base + 4096 * p + i * szC k := rfl
    omega
  have hao : caN x p k i - x.base = 4096 * p + i * szC k := by
    have e : caN x p k i = x.base + 4096 * p + i * szC k := rfl
    omega
  have hcn : ncell (t.m.pg p).cl = ncl k := by rw [sp.cl]; rfl
  have hlit : litP (t.m.pg p) i = !true := by
    rw [sp.bt i (by omega), hf]
    exact decide_eq_false (fun e => e.2 List.mem_cons_self)
  obtain ⟨hoE, hoM⟩ := ownM_yes hpn sp.kd (by rw [hcn]; exact hib) hlit
  have hnx : ∃ nx : Int, nx = hdI r ∧ ∀ W', Kept none' W W' → Calls Tryz.prog 90 #[.pointer (some ⟨sb, 0, none⟩), .int .u64 ((caN x p k i : Nat) : Int), .int .i64 (p : Int)] W' fun e w' => e = .returned (.tuple #[.int .i64 nx, .bool true]) ∧ Kept none' W' w' := by
    cases r with
    | nil => exact ⟨-1, rfl, fun W' kk => next_zero (o.sw.keep kk) _ _ hin (by rw [hao]; exact lk.1)⟩
    | cons j r' =>
      have hjb : j < ncl k := lt j (List.mem_cons_of_mem _ List.mem_cons_self)
      have hj3 := off_cell (x := x) (p := p) hk hjb (by omega)
      obtain ⟨a1, a2, a3, a4⟩ := at_cell (x := x) (t := t) hk hjb (by omega) hpn sp.kd sp.cl
      refine ⟨(j : Int), rfl, fun W' kk => ?_⟩
      have := next_cell (o.sw.keep kk) (caN x p k i) p (caN x p k j) hin (by rw [hao]; exact lk.1) (by
        have e : caN x p k j = x.base + 4096 * p + j * szC k := rfl
        have := o.sw.pl.bd.sp.cfg.b1
        omega) hj3.2.2 a1 a2
      rw [a4] at this
      exact this
  obtain ⟨nx, hnx1, hnx2⟩ := hnx
  have NX := hid hnx2
  obtain ⟨q, hq⟩ : ∃ q, q = t.m.pg p := ⟨_, rfl⟩
  have HA := hid (show Calls Tryz.prog 16 #[.pointer (some ⟨x.m, 0, none⟩), .int .i64 (p : Int)] W fun e w' => e = .returned (.tuple #[pval q, .bool true]) ∧ Kept none' W w' from by rw [hq]; exact at_in x.m x.B t.m p W o.sw.pl.bd.mp hpn)
  have HM := hid (Map6 o.sw.pl)
  have HC := hid (show q.cl = (k : Int) from by rw [hq]; exact sp.cl)
  have HF := hid (show q.fs = (i : Int) from by rw [hq, sp.fs, hf]; rfl)
  obtain ⟨lv, hlv2⟩ : ∃ lv : Nat, q.lv = (lv : Int) := ⟨_, by rw [hq]; exact sp.lv⟩
  have hlvr : lv = ncl k - (r.length + 1) := by
    have := sp.lv
    rw [← hq, hlv2, hf] at this
    have := Int.ofNat.inj this
    rw [this]; rfl
  have HL := hid hlv2
  obtain ⟨a, ha⟩ : ∃ a, a = caN x p k i := ⟨_, rfl⟩
  have AD := hid (show ∀ W', Kept none' W W' → Calls Tryz.prog 89 #[.pointer (some ⟨sb, 0, none⟩), .int .i64 (p : Int), .int .i64 (k : Int), .int .i64 (i : Int)] W' fun e w' => e = .returned (.int .u64 (a : Int)) ∧ Kept none' W' w' from fun W' kk => by
    rw [ha]
    exact address_s (o.sw.keep kk) p k i (by omega) hk (by omega))
  rw [← ha] at NX ⊢
  obtain ⟨m1, hm1⟩ : ∃ m1, m1 = ownM t.m (p : Int) (i : Int) true := ⟨_, rfl⟩
  have OW := hid (show ∀ W', Kept none' W W' → Calls Tryz.prog 40 #[.pointer (some ⟨x.m, 0, none⟩), .int .i64 (p : Int), .int .i64 (i : Int), .bool true] W' fun e w' => e = .returned (.int .i64 0) ∧ SD w W' sb lw x t h m1 w' from fun W' kk => by
    have := Own_s (o.sw.keep kk) (p : Int) (i : Int) true
    rw [hoE, ← hm1] at this
    exact this)
  have FR := hid (show ∀ W', SW w W' sb lw x { t with m := m1 } h → Calls Tryz.prog 88 #[.pointer (some ⟨x.m, 0, none⟩), .int .i64 (p : Int), .int .i64 nx] W' fun e w' => e = .returned (.int .i64 (firstE m1 (p : Int) nx)) ∧ SD w W' sb lw x { t with m := m1 } h (firstM m1 (p : Int) nx) w' from fun W' s => First_s s (p : Int) nx)
  obtain ⟨m2, hm2⟩ : ∃ m2, m2 = firstM m1 (p : Int) nx := ⟨_, rfl⟩
  have hM2 : hanM2 t.m p i r = m2 := by unfold hanM2; rw [hm2, hm1, hnx1]
  rw [← hm2] at FR
  generalize firstE m1 (p : Int) nx = fe at *
  obtain ⟨mF, hmF⟩ : ∃ mF, mF = hanM t.m p i r := ⟨_, rfl⟩
  obtain ⟨hF, hhF⟩ : ∃ hF, hF = hanH t.m h p k i r := ⟨_, rfl⟩
  rw [← hmF, ← hhF]
  unfold hanM at hmF
  unfold hanH at hhF
  rw [hM2] at hmF hhF
  have HMF := hid hmF
  have HHF := hid hhF
  have HO := hid o.sw
  obtain ⟨c0, c1⟩ := o.sw.c0
  have hnl2 := hnb.2.2
  have CLS := hid (show ∀ W' tt, SW w W' sb lw x tt h → Calls Tryz.prog 42 #[.int .i64 (k : Int)] W' fun e w' => e = .returned (.int .i64 ((ncl k : Nat) : Int)) ∧ w' = W' from fun W' tt s => cells_s s k hk)
  obtain ⟨N, hN⟩ : ∃ N, N = ncl k := ⟨_, rfl⟩
  rw [← hN] at CLS
  have HLR := hid (show lv + 1 = N ↔ r = [] from by
    have h9 : r.length + 1 ≤ ncl k := hlv
    have h8 := hnb.2.1
    rw [hlvr, hN]
    constructor
    · intro e
      cases r with
      | nil => rfl
      | cons j r' =>
        exfalso
        rw [List.length_cons] at e h9
        omega
    · intro e
      rw [e, List.length_nil]
      omega)
  have hNb : N ≤ 256 := by rw [hN]; exact hnl2
  have hlvb : lv ≤ 256 := by omega
  clear o sp nd lt lk hlv hls hpb n4 hf hib hnb hoff hin hao hcn hlit hoE hoM hnx2 hq hlv2 ha hm1 hm2 hM2 hmF hhF hlvr hN hnl2 hpn hc hnx1
  go_enter Tryz.func38, Tryz.ntmps38
  go_wp2_with fail
  refine HM.out.mono ?_
  rintro e w1 ⟨rfl, h1⟩
  replace h1 := h1.symm
  subst h1
  go_wp2_with fail
  refine HA.out.mono ?_
  rintro e w2 ⟨rfl, hk2⟩
  have K2 := hid (hk2.alloc (pobj q))
  have X2 := hid (heap_new w2 (pobj q))
  have S2 := hid (HO.out.keep K2.out)
  have NY := hid (show ¬ (bown x w2.heap.size ∨ w2.heap.size = sb) from fun e => by
    rcases e with e | e
    · exact absurd ((HO.out.keep hk2).pl.lt _ (.inl e)) (Nat.lt_irrefl _)
    · have := heap_lt (HO.out.keep hk2).bx
      omega)
  clear hk2 c0 c1
  go_upto_region 2 with fail
  generalize w2.heap.size = y at *
  generalize w2.alloc (pobj q) = W2 at *
  have PQ := hid (show ∀ W' : World, W'.heap[y]? = some (pobj q) → W'.cell? ⟨y, 2, none⟩ = some (.int .i64 (k : Int)) ∧ W'.cell? ⟨y, 3, none⟩ = some (.int .i64 (lv : Int)) ∧ W'.cell? ⟨y, 6, none⟩ = some (.int .i64 (i : Int)) from fun W' hW => by
    obtain ⟨_, _, p2, p3, _, _, p6, _⟩ := pg11 hW
    rw [HC.out] at p2
    rw [HL.out] at p3
    rw [HF.out] at p6
    exact ⟨p2, p3, p6⟩)
  obtain ⟨p2, p3, p6⟩ := PQ.out _ X2.out
  obtain ⟨c0, c1⟩ := S2.out.c0
  go_wp2_with fail
  refine (AD.out _ K2.out).mono ?_
  rintro e w3 ⟨rfl, hk3⟩
  have K3 := hid (none_trans K2.out hk3)
  have X3 := hid ((hk3.block _ (heap_lt X2.out) (fun e => e)).trans X2.out)
  clear hk3 c0 c1 p2 p3 p6
  go_wp2_with fail
  refine (NX.out _ K3.out).mono ?_
  rintro e w4 ⟨rfl, hk4⟩
  have K4 := hid (none_trans K3.out hk4)
  have X4 := hid ((hk4.block _ (heap_lt X3.out) (fun e => e)).trans X3.out)
  have S4 := hid (HO.out.keep K4.out)
  clear hk4
  go_upto_region 6 with fail
  have KD := hid ((Kept.refl none' w4).drew)
  have K5 := hid (none_trans K4.out KD.out)
  have S5 := hid (HO.out.keep K5.out)
  have X5 := hid ((KD.out.block _ (heap_lt X4.out) (fun e => e)).trans X4.out)
  have MP := hid (Map6 S5.out.pl)
  obtain ⟨p2, p3, p6⟩ := PQ.out _ X5.out
  obtain ⟨c0, c1⟩ := S5.out.c0
  go_region_held3 (fun w' => w'.cell? ⟨sb, 0, none⟩ = some (.pointer (some ⟨lw, 0, none⟩)) ∧ w'.cell? ⟨y, 6, none⟩ = some (.int .i64 (i : Int))) ((refine ⟨?_, ?_⟩ <;> first | with_reducible assumption | fail)) (first
    | (go_at_call 40; (with_reducible refine (OW.out _ K5.out).mono ?_); rintro e w6 ⟨rfl, hs6, hk6⟩; obtain ⟨f0, f1⟩ := hs6.c0; have X6 := hid ((hk6.block _ (heap_lt X5.out) (fun e => NY.out (.inl e))).trans X5.out); obtain ⟨f2, f3, f6⟩ := PQ.out _ X6.out; have S6 := hid hs6; have K6 := hid (K5.out.trans hk6 (fun _ _ e => e.elim) (fun _ _ e => e)); clear hs6 hk6)
    | (go_at_call 15; (with_reducible refine MP.out.mono ?_); rintro e w5 ⟨rfl, h5⟩; replace h5 := h5.symm; subst h5)
    | fail)
  all_goals
    clear p2 p3 p6 c0 c1 f2 f3 f6
    have MP6 := hid (Map6 S6.out.pl)
    go_wp2_with fail
    refine MP6.out.mono ?_
    rintro e w7 ⟨rfl, h7⟩
    replace h7 := h7.symm
    subst h7
    go_wp2_with fail
    refine (FR.out _ S6.out).mono ?_
    rintro e w7 ⟨rfl, hs7, hk7⟩
    have S7 := hid hs7
    have K7 := hid (K6.out.trans hk7 (fun _ _ e => e) (fun _ _ e => e))
    have X7 := hid ((hk7.block _ (heap_lt X6.out) (fun e => NY.out (.inl e))).trans X6.out)
    clear hs7 hk7 f0 f1
    go_upto_region 9 with fail
    obtain ⟨p2, p3, p6⟩ := PQ.out _ X7.out
    have KD7 := hid ((Kept.refl none' w7).drew)
    have X8 := hid ((KD7.out.block _ (heap_lt X7.out) (fun e => e)).trans X7.out)
    obtain ⟨q2, q3, q6⟩ := PQ.out _ X8.out
    obtain ⟨l1, hl1⟩ : ∃ l1, l1 = lv + 1 := ⟨_, rfl⟩
    have hl1i : (lv : Int) + 1 = (l1 : Int) := by omega
    have hl1b : l1 ≤ 257 := by omega
    have hlw : IntKind.i64.wrap (l1 : Int) = (l1 : Int) := by rw [IntKind.wrap_i64]; omega
    have HL1 := hid hl1
    clear hl1
    have CL := hid (CLS.out _ _ (S7.out.keep KD7.out))
    go_region_held3 (fun w' => w'.cell? ⟨y, 3, none⟩ = some (.int .i64 (lv : Int))) (first | with_reducible assumption | fail) (first
      | (go_at_call 42; (with_reducible refine CL.out.mono ?_); rintro e w8 ⟨rfl, h8⟩; replace h8 := h8.symm; subst h8)
      | fail)
    all_goals
      have S8 := hid (S7.out.keep KD7.out)
      have K8 := hid (K7.out.trans KD7.out (fun _ _ e => e) (fun _ _ e => e.elim))
      clear p2 p3 p6 q2 q3 q6 CL
      by_cases hr : r = []
      · have hb : ((l1 : Int) == (N : Int)) = true := by
          rw [beq_iff_eq, HL1.out]
          have := HLR.out.2 hr
          omega
        have UL := hid (show Calls Tryz.prog 91 #[.pointer (some ⟨sb, 0, none⟩), .int .i64 (p : Int), .int .i64 (k : Int)] w7.drew fun e w' => e = .returned (.tuple #[]) ∧ SE w w7.drew sb lw x t mF hF w' from by
          have := unlink_s S8.out (p : Int) k hk
          rw [HMF.out, HHF.out, if_pos hr, if_pos hr]
          exact this)
        generalize w7.drew = W8 at *
        as_aux_lemma =>
          go_wp2_with fail
          refine UL.out.mono ?_
          rintro e w9 ⟨rfl, hs9, hk9⟩
          have D := hid (show SE w W sb lw x t mF hF w9 from ⟨hs9, (K8.out.mono (fun _ _ e => .inl e)).trans hk9 (fun _ _ e => e) (fun _ _ e => e)⟩)
          clear hs9 hk9
          go_wp2_with fail
          exact ⟨rfl, .tuple #[.int .u64 (a : Int), .int .i64 0], by simp [results, Tryz.results38, go_sem], rfl, D.out⟩
      · have hb : ((l1 : Int) == (N : Int)) = false := by
          rw [beq_eq_false_iff_ne, HL1.out]
          intro e
          exact hr (HLR.out.1 (by omega))
        have D := hid (show SE w W sb lw x t mF hF w7.drew from by
          rw [HMF.out, HHF.out, if_neg hr, if_neg hr]
          exact ⟨S8.out, K8.out.mono (fun _ _ e => .inl e)⟩)
        generalize w7.drew = W8 at *
        as_aux_lemma =>
          go_wp2_with fail
          exact ⟨rfl, .tuple #[.int .u64 (a : Int), .int .i64 0], by simp [results, Tryz.results38, go_sem], rfl, D.out⟩
end Go.Proofs.YtocpnddacdpnmaaGreatDoor
