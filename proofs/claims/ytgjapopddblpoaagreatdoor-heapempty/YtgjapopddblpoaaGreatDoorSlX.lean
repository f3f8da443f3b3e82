import Derived.Test.YtgjapopddblpoaaGreatDoorRd
/- Package slab: Give. -/
namespace Go.Proofs.YtgjapopddblpoaaGreatDoor
open Go.RowKit
set_option linter.unusedVariables false

/-- A page of kind 4 is a slab page. -/
theorem SO.four {w W sb lw x t fr ls S h} (o : SO w W sb lw x t fr ls S h) {g : Nat} (hg : g < t.m.n) (hk : (t.m.pg g).kd = 4) : ∃ k, S.c g = some k := by
  cases e : S.c g with
  | some k => exact ⟨k, rfl⟩
  | none =>
    exfalso
    obtain ⟨B, s, hN, hL⟩ := o.sf
    obtain ⟨a, p, k, hb, h1, h2⟩ := s.cv g hg
    have h9 : a ≠ 9 := fun e => hN p k (e ▸ hb)
    have hp := s.pg a p k hb h9 g h1 h2
    rw [o.si.eP, pOf_none e, Option.getD_none] at hp
    rw [hp] at hk
    have hk : (if g = p then (a : Int) else (a : Int) + 1) = 4 := hk
    rcases s.tg a p k hb with rfl | rfl | rfl
    · split at hk <;> omega
    · split at hk <;> omega
    · exact h9 rfl
/-- A live cell and its address. -/
def Liv (x : Bx) (S : Sb) (p g k i : Nat) : Prop := S.c g = some k ∧ i < ncl k ∧ i ∉ S.fl g ∧ p = caN x g k i
theorem SO.liv_of {w W sb lw x t fr ls S h} (o : SO w W sb lw x t fr ls S h) {p : Nat} (hp : p < 18446744073709551616) (hl : livS x t p = true) : ∃ g k i, Liv x S p g k i := by
  unfold livS atB at hl
  rw [Bool.and_eq_true, Bool.and_eq_true] at hl
  obtain ⟨⟨h1, h2⟩, h3⟩ := hl
  have h1 := of_decide_eq_true h1
  have h2 := of_decide_eq_true h2
  obtain ⟨g, hg⟩ : ∃ g, g = offS x p / 4096 := ⟨_, rfl⟩
  have hgn : g < t.m.n := by
    refine Nat.lt_of_not_le fun hle => ?_
    unfold atQ atP at h1
    rw [← hg, if_neg] at h1
    · exact absurd h1 (by decide)
    · intro e
      obtain ⟨k, e1, e2⟩ := inR_nat e
      omega
  have hQ : atQ x t p = t.m.pg g := by
    unfold atQ
    rw [← hg]
    exact atP_in hgn
  rw [hQ] at h1
  obtain ⟨k, hc⟩ := o.four hgn h1
  obtain ⟨hk, sp⟩ := o.si.pg g k hc
  have hnb := ncl_b hk
  have hz := szC_le hk
  have ek : (atQ x t p).cl.toNat = k := by rw [hQ, sp.cl]; rfl
  rw [ek] at h2
  obtain ⟨i, hi⟩ : ∃ i, i = offS x p % 4096 / szC k := ⟨_, rfl⟩
  have hN : atN x t p = i := by unfold atN; rw [ek, hi]
  have him : i * szC k = offS x p % 4096 := by
    have := Nat.div_add_mod (offS x p % 4096) (szC k)
    rw [h2, Nat.add_zero, Nat.mul_comm, ← hi] at this
    exact this
  have hib : i < ncl k := by
    refine Nat.lt_of_not_le fun hle => ?_
    have := Nat.mul_le_mul_right (szC k) hle
    rw [hnb.1, him] at this
    have := Nat.mod_lt (offS x p) (show 0 < 4096 by decide)
    omega
  rw [hQ, hN, sp.bt i (by omega)] at h3
  have h3 := of_decide_eq_true h3
  refine ⟨g, k, i, hc, hib, h3.2, ?_⟩
  obtain ⟨_, hpn, hp1, hpb⟩ := o.mem hc
  have n4 := o.po.nums.2.2.2.1
  have e : caN x g k i = x.base + 4096 * g + i * szC k := rfl
  rw [e, him, hg]
  have hd := Nat.div_add_mod (offS x p) 4096
  have ho : offS x p = (p + 18446744073709551616 - x.base) % 18446744073709551616 := rfl
  omega
theorem SO.of_liv {w W sb lw x t fr ls S h} (o : SO w W sb lw x t fr ls S h) {p g k i : Nat} (hl : Liv x S p g k i) : livS x t p = true ∧ atB x t p = true ∧ offS x p / 4096 = g ∧ atQ x t p = t.m.pg g ∧ atN x t p = i ∧ p < 18446744073709551616 := by
  obtain ⟨hc, hi, hn, rfl⟩ := hl
  obtain ⟨hk, sp⟩ := o.si.pg g k hc
  have hnb := ncl_b hk
  obtain ⟨_, hpn, hp1, hpb⟩ := o.mem hc
  have n4 := o.po.nums.2.2.2.1
  obtain ⟨h1, h2, h3, h4⟩ := at_cell (x := x) (t := t) hk hi (by omega) hpn sp.kd sp.cl
  refine ⟨?_, h1, h2, h3, h4, (off_cell (x := x) (p := g) hk hi (by omega)).2.2⟩
  unfold livS
  rw [h1, h3, h4, sp.bt i (by omega), decide_eq_true ⟨hi, hn⟩]
  rfl
set_option maxRecDepth 4000 in
theorem Give7_no {w W sb lw x t h} (s : SW w W sb lw x t h) (p : Nat) (hp : p < 18446744073709551616) (hl : livS x t p = false) :
    Calls Tryz.prog 79 #[.pointer (some ⟨sb, 0, none⟩), .int .u64 (p : Int)] W fun e w' => e = .returned (.int .i64 1) ∧ Kept none' W w' := by
  have LV := hid (show ∃ g n q, Calls Tryz.prog 127 #[.pointer (some ⟨sb, 0, none⟩), .int .u64 (p : Int)] W fun e w' => e = .returned (.tuple #[cvV g n q, .bool false]) ∧ Kept none' W w' from by
    cases hB : atB x t p with
    | false => exact ⟨_, _, _, live_no s p hp hB⟩
    | true =>
      have := live_yes s p hp hB
      unfold livS at hl
      rw [hB, Bool.true_and] at hl
      rw [hl] at this
      exact ⟨_, _, _, this⟩)
  obtain ⟨g, n, q, LX⟩ := LV.out
  have LY := hid LX
  clear s hl LX LV
  go_enter Tryz.func79, Tryz.ntmps79
  go_wp2_with fail
  refine LY.out.mono ?_
  rintro e w1 ⟨rfl, hk⟩
  have K1 := hid (hk.alloc (cvO g n q))
  clear hk
  go_wp2_with fail
  exact ⟨rfl, .int .i64 1, by simp [results, Tryz.results79, go_sem], rfl, K1.out⟩
theorem cnt_x {n L lv N l1 N1 : Nat} (h : L < n) (h2 : 2 ≤ n) (e1 : lv = n - L) (e2 : l1 = lv - 1) (eN : N = n) (e3 : N1 = N - 1) : (l1 = 0 ↔ L + 1 = n) ∧ (l1 = N1 ↔ L = 0) ∧ (L + 1 = n ∨ L + 1 < n) := by omega
/-- What Give of a live cell leaves. -/
inductive GvP (w W : World) (sb lw : Nat) (x : Bx) (t : Bt) (fr : Nat → List Nat) (ls : List (Nat × Nat)) (S : Sb) (g k i : Nat) (w' : World) : Prop where
  | back (hl : (S.fl g).length + 1 < ncl k) (so : ∃ P t' h', SO w w' sb lw { x with P := P } t' fr ls (givS S g k i) h' ∧ (∀ j, ¬ (4096 * g + i * szC k ≤ j ∧ j < 4096 * g + i * szC k + 8) → t'.f j = t.f j) ∧ t'.m.n = t.m.n) (kp : Kept (sown x sb) W w')
  | rel (hl : (S.fl g).length + 1 = ncl k) (so : RlO w W sb lw x t fr ls S g k w')
set_option maxRecDepth 4000 in
set_option maxHeartbeats 20000000 in
theorem Give7_yes {w W sb lw x t fr ls S h} (o : SO w W sb lw x t fr ls S h) (hv : Lve S) (p g k i : Nat) (hl : Liv x S p g k i) :
    Calls Tryz.prog 79 #[.pointer (some ⟨sb, 0, none⟩), .int .u64 (p : Int)] W fun e w' => e = .returned (.int .i64 0) ∧ GvP w W sb lw x t fr ls S g k i w' := by
  obtain ⟨hlv, hB, hg, hQ, hN, hp⟩ := o.of_liv hl
  obtain ⟨hc, hi, hn, hpa⟩ := hl
  obtain ⟨hk, sp⟩ := o.si.pg g k hc
  have hnb := ncl_b hk
  have hlen := hv g k hc
  obtain ⟨hls, hpn, hp1, hpb⟩ := o.mem hc
  have n4 := o.po.nums.2.2.2.1
  have hoc := off_cell (x := x) (p := g) hk hi (by omega)
  have LV := hid (show Calls Tryz.prog 127 #[.pointer (some ⟨sb, 0, none⟩), .int .u64 (p : Int)] W fun e w' => e = .returned (.tuple #[cvV (g : Int) (i : Int) (t.m.pg g), .bool true]) ∧ Kept none' W w' from by
    have := live_yes o.sw p hp hB
    unfold livS at hlv
    rw [hB, Bool.true_and] at hlv
    rw [hlv, hg, hN, hQ] at this
    exact this)
  obtain ⟨q, hq⟩ : ∃ q, q = t.m.pg g := ⟨_, rfl⟩
  have HC := hid (show q.cl = (k : Int) from by rw [hq]; exact sp.cl)
  obtain ⟨lv, hlv2⟩ : ∃ lv, lv = ncl k - (S.fl g).length := ⟨_, rfl⟩
  have HL := hid (show q.lv = (lv : Int) from by rw [hq, hlv2]; exact sp.lv)
  have HF := hid (show q.fs = hdI (S.fl g) from by rw [hq]; exact sp.fs)
  have hfsb : q.fs = -1 ∨ ∃ j : Nat, j ≤ 256 ∧ q.fs = (j : Int) := by
    rw [HF.out]
    rcases hdI_cases (S.fl g) with e | ⟨r, e, hr⟩
    · exact .inl e
    · refine .inr ⟨r, ?_, e⟩
      have := (o.si.fl g k hc).2.1 r hr
      omega
  rw [← hq] at LV
  have OW := hid (show ∀ W', SW w W' sb lw x t h → Calls Tryz.prog 128 #[.pointer (some ⟨x.m, 0, none⟩), .int .i64 (g : Int), .int .i64 (i : Int), .bool false] W' fun e w' => e = .returned (.int .i64 (ownE t.m (g : Int) (i : Int) false)) ∧ SW w w' sb lw x { t with m := ownM t.m (g : Int) (i : Int) false } h ∧ Kept (bown x) W' w' from fun W' s => Own_s s (g : Int) (i : Int) false)
  generalize ownE t.m (g : Int) (i : Int) false = oe at *
  obtain ⟨m1, hm1⟩ : ∃ m1, m1 = ownM t.m (g : Int) (i : Int) false := ⟨_, rfl⟩
  have RL := hid (show ∀ W', SW w W' sb lw x { t with m := m1 } h → Kept (bown x) W W' → (S.fl g).length + 1 = ncl k → Calls Tryz.prog 129 #[.pointer (some ⟨sb, 0, none⟩), .int .i64 (g : Int), .int .i64 (k : Int)] W' fun e w' => e = .returned (.int .i64 0) ∧ GvP w W sb lw x t fr ls S g k i w' from fun W' s kk hl => by
    rw [hm1] at s
    refine (release_s o g k i hc hi hn (fun e => by rw [e, List.length_nil] at hl; omega) s).mono ?_
    rintro e w' ⟨rfl, P, t', h', h1, h2, h3, h4⟩
    exact ⟨rfl, .rel hl ⟨P, t', h', h1, h2, h3, (kk.mono (fun _ _ e => .inl e)).trans h4 (fun _ _ e => e) (fun _ _ e => e)⟩⟩)
  have PT := hid (show ∀ W', SW w W' sb lw x { t with m := m1 } h → Calls Tryz.prog 131 #[.pointer (some ⟨sb, 0, none⟩), .int .i64 (g : Int), .int .i64 (k : Int)] W' fun e w' => e = .returned (.tuple #[]) ∧ SW w w' sb lw x { t with m := putM m1 h (g : Int) k } (uphI h k (g : Int)) ∧ Kept (sown x sb) W' w' from fun W' s => put_s s (g : Int) k hk)
  have EN := hid (show ∀ W', SW w W' sb lw x { t with m := givN t.m h g k i (S.fl g) } (givH h g k (S.fl g)) → Kept (sown x sb) W W' → (S.fl g).length + 1 < ncl k → Calls Tryz.prog 132 #[.pointer (some ⟨sb, 0, none⟩), cvV (g : Int) (i : Int) q, .int .u64 (p : Int)] W' fun e w' => e = .returned (.tuple #[]) ∧ GvP w W sb lw x t fr ls S g k i w' from fun W' s kk hl => by
    have hin : M.In x.base x.n p 8 := by
      have hz := szC_le hk
      unfold M.In
      have e : caN x g k i = x.base + 4096 * g + i * szC k := rfl
      omega
    refine (enter_s s g i k p q (by omega) hk HC.out hfsb hp hin).mono ?_
    rintro e w' ⟨rfl, h1, h2⟩
    have hpo : p - x.base = 4096 * g + i * szC k := by
      have e : caN x g k i = x.base + 4096 * g + i * szC k := rfl
      omega
    rw [hpo, HF.out, hdA_lk] at h1
    have so := o.give hc hi hn hlen h1
    refine ⟨rfl, .back hl ⟨_, _, _, so, fun j hj => M.upd_out _ _ _ _ _ hj, ?_⟩ (kk.trans (h2.mono (fun _ _ e => .inl e)) (fun _ _ e => e) (fun _ _ e => e))⟩
    have h3 := so.st
    have h4 := o.st
    have h5 : (givM t.m h g k i (S.fl g)).n * 4096 = x.n := h3
    show (givM t.m h g k i (S.fl g)).n = t.m.n
    omega)
  have CLS := hid (show ∀ W', SW w W' sb lw x { t with m := m1 } h → Calls Tryz.prog 130 #[.int .i64 (k : Int)] W' fun e w' => e = .returned (.int .i64 ((ncl k : Nat) : Int)) ∧ w' = W' from fun W' s => cells_s s k hk)
  obtain ⟨N, hNk⟩ : ∃ N, N = ncl k := ⟨_, rfl⟩
  rw [← hNk] at CLS
  obtain ⟨l1, hl1⟩ : ∃ l1, l1 = lv - 1 := ⟨_, rfl⟩
  obtain ⟨N1, hN1⟩ : ∃ N1, N1 = N - 1 := ⟨_, rfl⟩
  have hl1i : (lv : Int) - 1 = (l1 : Int) := by omega
  have hl1b : l1 ≤ 256 := by omega
  have hN1i : (N : Int) - 1 = (N1 : Int) := by omega
  have hN1b : N1 ≤ 256 := by omega
  have hNb : N ≤ 256 := by omega
  have hlvb : lv ≤ 256 := by omega
  have hx := cnt_x hlen hnb.2.1 hlv2 hl1 hNk hN1
  have X1 := hid hx.1
  have X2 := hid hx.2.1
  have X3 := hid hx.2.2
  clear hx
  have X4 := hid hnb.2.1
  have GN := hid (show givN t.m h g k i (S.fl g) = (if S.fl g = [] then putM m1 h (g : Int) k else m1) from by unfold givN; rw [hm1])
  have HS := hid o.sw
  rw [← hm1] at OW
  clear o hv hlv hB hg hQ hN hp hc hi hn hpa sp hlen hls hpn hp1 hpb n4 hoc hq hlv2 hfsb hm1 hNk hl1 hN1 hnb
  go_enter Tryz.func79, Tryz.ntmps79
  go_wp2_with fail
  refine LV.out.mono ?_
  rintro e w1 ⟨rfl, hk1⟩
  have K1 := hid (hk1.alloc (cvO (g : Int) (i : Int) q))
  have Y1 := hid (heap_new w1 (cvO (g : Int) (i : Int) q))
  have S1 := hid (HS.out.keep K1.out)
  have NY := hid (show ¬ (bown x w1.heap.size ∨ w1.heap.size = sb) from fun e => by
    rcases e with e | e
    · exact absurd ((HS.out.keep hk1).pl.lt _ (.inl e)) (Nat.lt_irrefl _)
    · have := heap_lt (HS.out.keep hk1).bx
      omega)
  clear hk1
  go_upto_region 4 with fail
  generalize w1.heap.size = y at *
  generalize w1.alloc (cvO (g : Int) (i : Int) q) = W1 at *
  have CQ := hid (show ∀ W' : World, W'.heap[y]? = some (cvO (g : Int) (i : Int) q) → W'.cell? ⟨y, 0, none⟩ = some (.int .i64 (g : Int)) ∧ W'.cell? ⟨y, 1, none⟩ = some (.int .i64 (i : Int)) ∧ W'.cell? ⟨y, 4, none⟩ = some (.int .i64 (k : Int)) ∧ W'.cell? ⟨y, 5, none⟩ = some (.int .i64 (lv : Int)) from fun W' hW => by
    obtain ⟨a0, a1, a2, a3, a4, a5, _⟩ := cv13 hW
    rw [HC.out] at a4
    rw [HL.out] at a5
    exact ⟨a0, a1, a4, a5⟩)
  have KD := hid ((Kept.refl none' W1).drew)
  have K2 := hid (none_trans K1.out KD.out)
  have S2 := hid (HS.out.keep K2.out)
  have Y2 := hid ((KD.out.block _ (heap_lt Y1.out) (fun e => e)).trans Y1.out)
  have MP := hid (Map6 S2.out.pl)
  obtain ⟨p0, p1, p4, p5⟩ := CQ.out _ Y2.out
  obtain ⟨c0, c1⟩ := S2.out.c0
  go_region_held3 (fun w' => w'.cell? ⟨sb, 0, none⟩ = some (.pointer (some ⟨lw, 0, none⟩)) ∧ w'.cell? ⟨y, 0, none⟩ = some (.int .i64 (g : Int)) ∧ w'.cell? ⟨y, 1, none⟩ = some (.int .i64 (i : Int))) ((refine ⟨?_, ?_, ?_⟩ <;> first | with_reducible assumption | fail)) (first
    | (go_at_call 128; (with_reducible refine (OW.out _ S2.out).mono ?_); rintro e w3 ⟨rfl, hs3, hk3⟩; obtain ⟨f0, f1⟩ := hs3.c0; have Y3 := hid ((hk3.block _ (heap_lt Y2.out) (fun e => NY.out (.inl e))).trans Y2.out); obtain ⟨g0, g1, g4, g5⟩ := CQ.out _ Y3.out; have S3 := hid hs3; have K3 := hid (K2.out.trans hk3 (fun _ _ e => e.elim) (fun _ _ e => e)); clear hs3 hk3)
    | (go_at_call 40; (with_reducible refine MP.out.mono ?_); rintro e w3 ⟨rfl, h3⟩; replace h3 := h3.symm; subst h3)
    | fail)
  all_goals
    clear p0 p1 p4 p5 c0 c1 MP
    by_cases hz : l1 = 0
    · have hb : ((l1 : Int) == 0) = true := by rw [beq_iff_eq]; omega
      have hlz := hid (X1.out.1 hz)
      have RR := hid (RL.out _ S3.out K3.out hlz.out)
      subst hz
      as_aux_lemma =>
        go_wp2_with fail
        refine RR.out.mono ?_
        rintro e w4 ⟨rfl, h4⟩
        have D := hid h4
        clear h4
        go_wp2_with fail
        exact ⟨rfl, .int .i64 0, by simp [results, Tryz.results79, go_sem], rfl, D.out⟩
    · have hb : ((l1 : Int) == 0) = false := by rw [beq_eq_false_iff_ne]; omega
      have hb' : ¬ (l1 : Int) = 0 := by omega
      have hlt := hid (X3.out.resolve_left (fun e => hz (X1.out.2 e)))
      have CL := hid (CLS.out _ S3.out)
      clear hz
      by_cases hn1 : l1 = N1
      · have hf0 : S.fl g = [] := List.length_eq_zero_iff.1 (X2.out.1 hn1)
        have PP := hid (PT.out _ S3.out)
        have EE := hid (show ∀ W', SW w W' sb lw x { t with m := putM m1 h (g : Int) k } (uphI h k (g : Int)) → Kept (sown x sb) W W' → Calls Tryz.prog 132 #[.pointer (some ⟨sb, 0, none⟩), cvV (g : Int) (i : Int) q, .int .u64 (p : Int)] W' fun e w' => e = .returned (.tuple #[]) ∧ GvP w W sb lw x t fr ls S g k i w' from fun W' s kk => by
          refine EN.out W' ?_ kk hlt.out
          rw [GN.out, if_pos hf0, show givH h g k (S.fl g) = uphI h k (g : Int) from by unfold givH; rw [if_pos hf0]]
          exact s)
        have hb2 : ((l1 : Int) == (N1 : Int)) = true := by rw [beq_iff_eq]; omega
        have HN1 := hid hn1
        clear hn1 hf0
        as_aux_lemma =>
          go_wp2_with fail
          refine CL.out.mono ?_
          rintro e w4 ⟨rfl, h4⟩
          replace h4 := h4.symm
          subst h4
          go_wp2_with fail
          refine PP.out.mono ?_
          rintro e w5 ⟨rfl, hs5, hk5⟩
          have E5 := hid (EE.out _ hs5 ((K3.out.mono (fun _ _ e => .inl e)).trans hk5 (fun _ _ e => e) (fun _ _ e => e)))
          have Y5 := hid ((hk5.block _ (heap_lt Y3.out) NY.out).trans Y3.out)
          clear hs5 hk5 g0 g1 g4 g5 f0 f1 CL PP
          obtain ⟨b0, b1, b2, b3, b4, b5, b6, b7, b8, b9, b10, b11, b12⟩ := cv13 Y5.out
          go_wp2_with fail
          refine E5.out.mono ?_
          rintro e w6 ⟨rfl, h6⟩
          have D := hid h6
          clear h6 b0 b1 b2 b3 b4 b5 b6 b7 b8 b9 b10 b11 b12
          go_wp2_with fail
          exact ⟨rfl, .int .i64 0, by simp [results, Tryz.results79, go_sem], rfl, D.out⟩
      · have hf0 : S.fl g ≠ [] := fun e => hn1 (X2.out.2 (by rw [e]; rfl))
        have EE := hid (show Calls Tryz.prog 132 #[.pointer (some ⟨sb, 0, none⟩), cvV (g : Int) (i : Int) q, .int .u64 (p : Int)] _ fun e w' => e = .returned (.tuple #[]) ∧ GvP w W sb lw x t fr ls S g k i w' from by
          refine EN.out _ ?_ (K3.out.mono (fun _ _ e => .inl e)) hlt.out
          rw [GN.out, if_neg hf0, show givH h g k (S.fl g) = h from by unfold givH; rw [if_neg hf0]]
          exact S3.out)
        have hb2 : ((l1 : Int) == (N1 : Int)) = false := by rw [beq_eq_false_iff_ne]; omega
        have hb3 : ¬ (l1 : Int) = (N1 : Int) := by omega
        clear hn1 hf0
        as_aux_lemma =>
          go_wp2_with fail
          refine CL.out.mono ?_
          rintro e w4 ⟨rfl, h4⟩
          replace h4 := h4.symm
          subst h4
          clear g0 g1 g4 g5
          obtain ⟨b0, b1, b2, b3, b4, b5, b6, b7, b8, b9, b10, b11, b12⟩ := cv13 Y3.out
          go_wp2_with fail
          refine EE.out.mono ?_
          rintro e w6 ⟨rfl, h6⟩
          have D := hid h6
          clear h6 b0 b1 b2 b3 b4 b5 b6 b7 b8 b9 b10 b11 b12
          go_wp2_with fail
          exact ⟨rfl, .int .i64 0, by simp [results, Tryz.results79, go_sem], rfl, D.out⟩
end Go.Proofs.YtgjapopddblpoaaGreatDoor
