import Derived.Test.YthjokkihlodapaaGreatXw
set_option maxRecDepth 1000000
set_option maxHeartbeats 80000000
/- region.New, slab.over, New, Open; malloc.New: that they answer. -/
namespace Go.Proofs.YthjokkihlodapaaGreat.H
open Go.RowKit
set_option linter.unusedVariables false
set_option maxHeartbeats 4000000
set_option maxRecDepth 4000

/-- A pool: its box, its space, its map. -/
structure PoW (W : World) (lw s m b : Nat) (ao : Option Nat) (base R lim n : Nat) (f : Nat → Nat) (B : Bs) (mp : Mp) : Prop where
  bx : W.heap[lw]? = some (.cells #[.pointer (some ⟨s, 0, none⟩), .pointer (some ⟨m, 0, none⟩), .pointer (some ⟨b, 0, none⟩)] 97 (0, 0))
  sp : M.SpaceAt W s ao base R lim n f
  mp : MapAt W m B mp
theorem PoW.keep {W W' : World} {lw s m b : Nat} {ao : Option Nat} {base R lim n : Nat} {f : Nat → Nat} {B : Bs} {mp : Mp} (h : PoW W lw s m b ao base R lim n f B mp) (k : Kept none' W W') : PoW W' lw s m b ao base R lim n f B mp :=
  ⟨(k.block _ (heap_lt h.bx) (fun x => x)).trans h.bx, h.sp.keep (ofK k), h.mp.kept k (fun _ _ x => x)⟩
theorem PoW.c {W : World} {lw s m b : Nat} {ao : Option Nat} {base R lim n : Nat} {f : Nat → Nat} {B : Bs} {mp : Mp} (h : PoW W lw s m b ao base R lim n f B mp) : W.cell? ⟨lw, 0, none⟩ = some (.pointer (some ⟨s, 0, none⟩)) ∧ W.cell? ⟨lw, 1, none⟩ = some (.pointer (some ⟨m, 0, none⟩)) := by
  constructor <;> simp [World.cell?, h.bx]
theorem Space9 {W : World} {lw s m b : Nat} {ao : Option Nat} {base R lim n : Nat} {f : Nat → Nat} {B : Bs} {mp : Mp} (h : PoW W lw s m b ao base R lim n f B mp) : Calls Tryz.prog 81 #[.pointer (some ⟨lw, 0, none⟩)] W fun e w' => e = .returned (.pointer (some ⟨s, 0, none⟩)) ∧ w' = W := by
  obtain ⟨c0, c1⟩ := h.c
  clear h
  go_enter Tryz.func81, Tryz.ntmps81
  go_wp2_with fail
  go_ret
  exact ⟨rfl, rfl⟩
theorem Map9 {W : World} {lw s m b : Nat} {ao : Option Nat} {base R lim n : Nat} {f : Nat → Nat} {B : Bs} {mp : Mp} (h : PoW W lw s m b ao base R lim n f B mp) : Calls Tryz.prog 79 #[.pointer (some ⟨lw, 0, none⟩)] W fun e w' => e = .returned (.pointer (some ⟨m, 0, none⟩)) ∧ w' = W := by
  obtain ⟨c0, c1⟩ := h.c
  clear h
  go_enter Tryz.func79, Tryz.ntmps79
  go_wp2_with fail
  go_ret
  exact ⟨rfl, rfl⟩
/-- What slab.over leaves. -/
def OvS (W : World) (lw : Nat) (e : Ending) (w' : World) : Prop := ∃ sb b0 : Nat, e = .returned (.pointer (some ⟨sb, 0, none⟩)) ∧ w'.heap[sb]? = some (.cells #[.pointer (some ⟨lw, 0, none⟩), .int .u64 (b0 : Int), .int .i64 0, .int .i64 0, .int .i64 0, .int .i64 0, .int .i64 0, .int .i64 0, .int .i64 0, .int .i64 0] 100 (0, 0)) ∧ Kept none' W w' ∧ W.heap.size ≤ sb
theorem over9 {W : World} {lw s m b : Nat} {ao : Option Nat} {base R lim n : Nat} {f : Nat → Nat} {B : Bs} {mp : Mp} (h : PoW W lw s m b ao base R lim n f B mp) (hn : mp.n * 4096 = n) (hb : base + n ≤ 9223372036854775808) (hm : mp.n ≤ 1024) :
    Calls Tryz.prog 47 #[.pointer (some ⟨lw, 0, none⟩)] W (OvS W lw) := by
  have HM := hid (Map9 h)
  have PG := hid (pages_any m B mp W h.mp)
  have SP := hid (Space9 h)
  have EN := hid (M.end_any s ao base R lim n f W h.sp)
  obtain ⟨pn, hpn⟩ : ∃ pn, pn = mp.n := ⟨_, rfl⟩
  rw [← hpn] at PG hn hm
  obtain ⟨en, hen⟩ : ∃ en, en = base + n := ⟨_, rfl⟩
  rw [← hen] at EN hb
  have hpi : (pn : Int) * 4096 = (n : Int) := by omega
  have heb : (en : Int) - (n : Int) = (base : Int) := by omega
  have hnl : n ≤ 4194304 := by omega
  have hbl : base ≤ 9223372036854775808 := by omega
  have GOAL := hid (show ∀ mm, OvS W lw (.returned (.pointer (some ⟨W.heap.size, 0, none⟩))) ((W.drewN mm).alloc (.cells #[.pointer (some ⟨lw, 0, none⟩), .int .u64 (base : Int), .int .i64 0, .int .i64 0, .int .i64 0, .int .i64 0, .int .i64 0, .int .i64 0, .int .i64 0, .int .i64 0] 100 (0, 0))) from fun mm => ⟨W.heap.size, base, rfl, heap_new (W.drewN mm) _, ((Kept.refl none' W).drewN mm).alloc _, Nat.le_refl _⟩)
  clear h hpn hen
  go_enter Tryz.func47, Tryz.ntmps47
  go_wp2_with fail
  refine HM.out.mono ?_
  rintro e w1 ⟨rfl, h1⟩
  replace h1 := h1.symm
  subst h1
  go_wp2_with fail
  refine PG.out.mono ?_
  rintro e w2 ⟨rfl, h2⟩
  replace h2 := h2.symm
  subst h2
  go_wp2_with fail
  refine SP.out.mono ?_
  rintro e w3 ⟨rfl, h3⟩
  replace h3 := h3.symm
  subst h3
  go_wp2_with fail
  refine EN.out.mono ?_
  rintro e w4 ⟨rfl, mm, h4⟩
  subst h4
  go_wp2_with fail
  go_ret
  exact GOAL.out mm
theorem slabNew9 {W : World} {lw s m b : Nat} {ao : Option Nat} {base R lim n : Nat} {f : Nat → Nat} {B : Bs} {mp : Mp} (h : PoW W lw s m b ao base R lim n f B mp) (hn : mp.n * 4096 = n) (hb : base + n ≤ 9223372036854775808) (hm : mp.n ≤ 1024) :
    Calls Tryz.prog 24 #[.pointer (some ⟨lw, 0, none⟩)] W fun e w' => ∃ sb, e = .returned (.pointer (some ⟨sb, 0, none⟩)) ∧ Kept none' W w' := by
  have OV := hid (over9 h hn hb hm)
  clear h hn hb hm
  go_enter Tryz.func24, Tryz.ntmps24
  go_wp2_with fail
  refine OV.out.mono ?_
  rintro e w1 ⟨sb, b0, rfl, hs, hk, hz⟩
  have ST := hid (show ∃ cs, w1.heap[sb]? = some (.cells cs 100 (0, 0)) ∧ cs.size = 10 from ⟨_, hs, rfl⟩)
  have K1 := hid hk
  have HZ := hid hz
  clear hs hk hz OV
  go_wp2_with fail
  go_loopw [7] (fun i V => ∃ a : Nat, a ≤ 8 ∧ i = .int .i64 a ∧ Hid (Kept none' W V ∧ ∃ cs, V.heap[sb]? = some (.cells cs 100 (0, 0)) ∧ cs.size = 10)) (fun i _ => 8 - (intOf i).toNat)
  case atStart => exact ⟨0, Nat.zero_le _, rfl, hid ⟨K1.out, ST.out⟩⟩
  case round =>
    obtain ⟨a, ha, rfl, hR⟩ := hrel
    by_cases hlt : a < 8
    · have hai : (a : Int) < 8 := by omega
      obtain ⟨hk, cs, hcs, hsz⟩ := hR.out
      have hc : ∃ v, wr.cell? ⟨sb, 2 + a, none⟩ = some v := by
        refine ⟨cs[2 + a]'(by omega), ?_⟩
        simp [World.cell?, hcs, show 2 + a < cs.size by omega]
      obtain ⟨v, hv⟩ := hc
      have hf : wr.frozen? ⟨sb, 2 + a, none⟩ = false := by simp [World.frozen?, hcs]
      have R2 := hid (show Kept none' W (wr.setCell ⟨sb, 2 + a, none⟩ (.int .i64 (-1))) ∧ ∃ cs, (wr.setCell ⟨sb, 2 + a, none⟩ (.int .i64 (-1))).heap[sb]? = some (.cells cs 100 (0, 0)) ∧ cs.size = 10 from ⟨hk.setNew (fun h => absurd h (by have := HZ.out; show ¬ sb < _; omega)) _, _, heap_set hcs _ _, by simp [hsz]⟩)
      clear hk hcs hsz
      go_wp2_with fail
      go_round
      case rel => exact ⟨a + 1, by omega, by go_num, R2⟩
      case measure => simp [intOf]; omega
    · have hai : ¬ (a : Int) < 8 := by omega
      go_wp2_with fail
      go_ret
      exact ⟨⟨sb, rfl⟩, hR.out.1⟩
theorem regionNew9 (base lim o : Nat) (hb64 : base < 18446744073709551616) (hl : lim ≤ 64) (ho : o ≤ 8) (hm : M.mayB base (lim : Int) (o : Int) = true) (w : World) :
    Calls Tryz.prog 23 #[cfgV base (lim : Int) (o : Int)] w fun e w' => ∃ lw s m b B f, e = .returned (.tuple #[.pointer (some ⟨lw, 0, none⟩), .int .i64 0]) ∧ PoW w' lw s m b none base (M.RS o) lim 0 f B (newM o) ∧ Kept none' w w' := by
  have NW := hid (fun W => M.New_ok base hb64 (lim : Int) (o : Int) (by omega) (by omega) (by omega) (by omega) hm (fun _ => 0) W)
  have NP := hid (fun W => new_any (o : Int) W)
  have NB := hid (fun s m W => NewB_any base s m o (lim : Int) ho W)
  have K0 := hid ((Kept.refl none' w).alloc (cfgO base (lim : Int) (o : Int)))
  have X0 := hid (heap_new w (cfgO base (lim : Int) (o : Int)))
  have hoo : ordN (o : Int) = o := by unfold ordN; split <;> (try split) <;> omega
  rw [hoo] at NP
  clear hoo hm
  go_enter Tryz.func23, Tryz.ntmps23
  go_wp2_with fail
  generalize w.alloc (cfgO base (lim : Int) (o : Int)) = W0 at *
  generalize w.heap.size = cb at *
  refine (NW.out W0).mono ?_
  rintro e w1 ⟨s, rfl, hs, hk1, hz1⟩
  rw [Int.toNat_natCast, Int.toNat_natCast] at hs
  have S1 := hid hs
  have K1 := hid (none_trans K0.out (toK hk1))
  have X1 := hid (((toK hk1).block _ (heap_lt X0.out) (fun x => x)).trans X0.out)
  obtain ⟨x0, x1, x2⟩ := cfg3 X1.out
  clear hs hk1 hz1
  go_wp2_with fail
  refine (NP.out w1).mono ?_
  rintro e w2 ⟨m, B, rfl, hm2, hk2, -⟩
  have S2 := hid (S1.out.keep (ofK hk2))
  have M2 := hid hm2
  have K2 := hid (none_trans K1.out hk2)
  have X2 := hid ((hk2.block _ (heap_lt X1.out) (fun x => x)).trans X1.out)
  obtain ⟨y0, y1, y2⟩ := cfg3 X2.out
  clear hm2 hk2 x0 x1 x2
  go_wp2_with fail
  refine (NB.out s m w2).mono ?_
  rintro e w3 ⟨b, rfl, g, cap, L, hov, -⟩
  have K3 := hid hov.kp
  clear hov y0 y1 y2
  have GOAL := hid (show ∀ W', Kept none' w3 W' → W'.heap[w3.heap.size]? = some (.cells #[.pointer (some ⟨s, 0, none⟩), .pointer (some ⟨m, 0, none⟩), .pointer (some ⟨b, 0, none⟩)] 97 (0, 0)) → ∃ lw s m b B f, Ending.returned (.tuple #[.pointer (some ⟨w3.heap.size, 0, none⟩), .int .i64 0]) = .returned (.tuple #[.pointer (some ⟨lw, 0, none⟩), .int .i64 0]) ∧ PoW W' lw s m b none base (M.RS o) lim 0 f B (newM o) ∧ Kept none' w W' from fun W' hk hx => ⟨_, s, m, b, B, _, rfl, ⟨hx, (S2.out.keep (ofK K3.out)).keep (ofK hk), (M2.out.kept K3.out (fun _ _ x => x)).kept hk (fun _ _ x => x)⟩, none_trans (none_trans K2.out K3.out) hk⟩)
  go_wp2_with fail
  refine ⟨rfl, .tuple #[.pointer (some ⟨w3.heap.size, 0, none⟩), .int .i64 0], by simp [results, Tryz.results23, go_sem], GOAL.out _ ((Kept.refl none' w3).alloc _) (heap_new _ _)⟩
end Go.Proofs.YthjokkihlodapaaGreat.H
/- region.Open, slab.Open, malloc.New, malloc.Open: that they answer. -/
namespace Go.Proofs.YthjokkihlodapaaGreat.H
open Go.RowKit
set_option linter.unusedVariables false
set_option maxHeartbeats 4000000
set_option maxRecDepth 4000

/-- While regions are committed. -/
def OC9 (w : World) (s m cb : Nat) (B : Bs) (base lim o : Nat) (mp : Mp) (j : Nat) (W : World) : Prop := ∃ a f, M.SpaceAt W s a base (M.RS o) lim (j * M.RS o) f ∧ MapAt W m B mp ∧ Kept none' w W ∧ w.heap.size ≤ s ∧ (∀ g, a = some g → w.heap.size ≤ g) ∧ W.heap[cb]? = some (cfgO base (lim : Int) (o : Int))
theorem cfg_space {w : World} {s cb : Nat} {a : Option Nat} {base R lim n : Nat} {f : Nat → Nat} {b2 : Nat} {l2 o2 : Int} (k : M.SpaceAt w s a base R lim n f) (h : w.heap[cb]? = some (cfgO b2 l2 o2)) (hy : M.own s a cb) : False := by
  obtain ⟨cs, t', z, h1, h2⟩ := space_ty k hy
  rw [h] at h1
  cases h1
  rcases h2 with e2 | e2 <;> exact absurd e2 (by decide)
theorem regionOpen9 (base lim o : Nat) (hb64 : base < 18446744073709551616) (hl : lim ≤ 64) (ho : o ≤ 8) (hm : M.mayB base (lim : Int) (o : Int) = true) (r nb np : Nat) (hr : r ≤ lim) (hnp : np = r * 2 ^ o) (hnb : nb = np * 4096) (hb0 : 0 < nb) (ba pa qa : Option Addr) (bc pc qc nq : Nat) (gg : Nat → Nat) (g0 cp0 : Nat) (hd : List Nat) (hd64 : ∀ i, hd.getD i 0 < 18446744073709551616) (hN : hd.length = o + 1) (mp : Mp) (hmo : mp.o = o) (w : World) (hbv : M.Bytes w (.slice ba nb bc) nb gg) (hh : w.heap[g0]? = some (.cells (wcells hd) 22 (0, 0)))
    (hpm : ∀ W, Kept none' w W → Calls Tryz.prog 48 #[.int .i64 (o : Int), .slice pa np pc, .slice qa nq qc] W fun e w' => ∃ b, e = .returned (.tuple #[.pointer (some ⟨b, 0, none⟩), .int .i64 0]) ∧ Hid (∃ B', MapAt w' b B' mp ∧ (∀ x, mown b B' o x → W.heap.size ≤ x) ∧ Kept none' W w')) :
    Calls Tryz.prog 25 #[cfgV base (lim : Int) (o : Int), .int .i64 (r : Int), .slice ba nb bc, .slice pa np pc, .slice qa nq qc, .slice (some ⟨g0, 0, none⟩) (o + 1) cp0] w fun e w' => ∃ lw s m b a B f, e = .returned (.tuple #[.pointer (some ⟨lw, 0, none⟩), .int .i64 0]) ∧ PoW w' lw s m b a base (M.RS o) lim nb f B mp ∧ Kept none' w w' := by
  have K3 := hid ((Kept.refl none' w).alloc (cfgO base (lim : Int) (o : Int)))
  have X3 := hid (heap_new w (cfgO base (lim : Int) (o : Int)))
  have NW := hid (fun W => M.New_ok base hb64 (lim : Int) (o : Int) (by omega) (by omega) (by omega) (by omega) hm (fun _ => 0) W)
  have HPM := hid hpm
  have HBV := hid hbv
  have HH := hid hh
  have HN := hid hN
  have H64 := hid hd64
  have hz9 : 2 ^ o ≤ 2 ^ 8 := Nat.pow_le_pow_right (by decide) ho
  have hqb : np ≤ 16384 := by
    rw [hnp]
    exact Nat.le_trans (Nat.mul_le_mul (show r ≤ 64 by omega) hz9) (by decide)
  have hqe : (r : Int) * 2 ^ o = (np : Int) := by rw [hnp]; simp
  have hsh : IntKind.i64.wrap ((r : Int) * 2 ^ o) = (np : Int) := by rw [hqe, IntKind.wrap_i64]; omega
  have hoi : (0 : Int) ≤ (o : Int) := by omega
  have hon : ¬ (o : Int) < 0 := by omega
  have hri : ¬ (lim : Int) < (r : Int) := by omega
  have hnbi : (np : Int) * 4096 = (nb : Int) := by omega
  have hnpi : (np : Int) ≤ 16384 := by omega
  have HNB := hid (show nb = r * M.RS o by rw [hnb, hnp, M.RS, Nat.mul_assoc, Nat.mul_comm (2 ^ o) 4096])
  have HB0 := hid hb0
  clear hm hpm hbv hh hN hd64 hqe hz9 hqb hnp hnb hmo hb0
  go_enter Tryz.func25, Tryz.ntmps25
  obtain ⟨x0, x1, x2⟩ := cfg3 X3.out
  go_wp2_with fail
  generalize w.alloc (cfgO base (lim : Int) (o : Int)) = W3 at *
  refine (NW.out _).mono ?_
  rintro e w4 ⟨s, rfl, hS, hk', hs⟩
  have hk : Kept none' W3 w4 := toK hk'
  have S4 := hid (show M.SpaceAt w4 s none base (M.RS o) lim 0 (fun _ => 0) from by simpa using hS)
  have HS4 := hid (show w.heap.size ≤ s from Nat.le_trans K3.out.size hs)
  have X4 := hid ((hk.block _ (heap_lt X3.out) (fun x => x)).trans X3.out)
  have K4 := hid (none_trans K3.out hk)
  clear x0 x1 x2 hk hk' hS hs X3 K3 NW
  obtain ⟨x0, x1, x2⟩ := cfg3 X4.out
  go_wp2_with fail
  clear hsh hri hnbi
  refine (HPM.out _ K4.out).mono ?_
  rintro e w5 ⟨m, rfl, hM⟩
  obtain ⟨B, hM1, hM2, hk⟩ := hM.out
  have M5 := hid hM1
  have K5 := hid (none_trans K4.out hk)
  have X5 := hid ((hk.block _ (heap_lt X4.out) (fun x => x)).trans X4.out)
  have S5 := hid (S4.out.keep (ofK hk))
  clear hk x0 x1 x2 HPM S4 X4 hM hM1 hM2
  obtain ⟨x0, x1, x2⟩ := cfg3 X5.out
  have OB := hid (OpenB_yes base s m o (lim : Int) ho hd HN.out H64.out g0 cp0 w5 ((K5.out.block _ (heap_lt HH.out) (fun e => e)).trans HH.out))
  go_wp2_with fail
  refine OB.out.mono ?_
  rintro e w6 ⟨b, rfl, hO⟩
  have k6 : Kept none' w5 w6 := by obtain ⟨_, _, _, h, _⟩ := hO; exact h.kp
  have S6 := hid (show OC9 w s m w.heap.size B base lim o mp 0 w6 from ⟨none, _, by rw [Nat.zero_mul]; exact S5.out.keep (ofK k6), M5.out.kept k6 (fun _ _ x => x), none_trans K5.out k6, HS4.out, (fun g e => by cases e), (k6.block _ (heap_lt X5.out) (fun x => x)).trans X5.out⟩)
  clear x0 x1 x2 OB S5 hO k6 X5 M5 K5
  generalize hcb : w.heap.size = cb at *
  have HCB := hid hcb
  clear hcb
  go_wp2_with fail
  go_loopw [74] (fun i W' => ∃ j : Nat, j ≤ r ∧ i = .int .i64 j ∧ Hid (OC9 w s m cb B base lim o mp j W')) (fun i _ => r - (intOf i).toNat)
  case atStart => exact ⟨0, Nat.zero_le _, rfl, S6⟩
  case round =>
    clear S6
    obtain ⟨j, hj, rfl, hI⟩ := hrel
    obtain ⟨a, f, h1, hmm, h2, h3, h4, h5⟩ := hI.out
    have A1 := hid h1
    have AM := hid hmm
    have A2 := hid h2
    have A3 := hid h3
    have A4 := hid h4
    have A5 := hid h5
    clear hI h1 h2 h3 h4 h5 hmm
    by_cases hlt : j < r
    · have hji : (j : Int) < (r : Int) := by omega
      have CM := hid (M.Commit_ok s a base (M.RS o) lim (j * M.RS o) f wr A1.out ⟨j, rfl, by omega⟩)
      go_wp2_with fail
      refine CM.out.mono ?_
      rintro e w7 ⟨rfl, g', hS, hk, hg⟩
      have D := hid (show OC9 w s m cb B base lim o mp (j + 1) w7 from by
        have hz := A2.out.size
        refine ⟨some g', _, by rw [Nat.add_mul, Nat.one_mul]; exact hS, AM.out.kept (toK hk) (fun x hx hy => map_space AM.out A1.out hx hy), ownY A2.out A3.out A4.out (toK hk), A3.out, fun g e => ?_, ?_⟩
        · cases e
          rcases hg with e | e
          · exact A4.out g' e
          · omega
        · exact ((toK hk).block _ (heap_lt A5.out) (fun e => cfg_space A1.out A5.out e)).trans A5.out)
      clear hS hk hg CM
      go_wp2_with fail
      exact ⟨⟨j + 1, by omega, by simp, D⟩, by simp [intOf]; omega⟩
    · obtain rfl : j = r := by omega
      have hji : ¬ (j : Int) < (j : Int) := by omega
      obtain ⟨x0, x1, x2⟩ := cfg3 A5.out
      have WR := hid (show Calls Tryz.prog 51 #[.pointer (some ⟨s, 0, none⟩), .int .u64 (base : Int), .slice ba nb bc] wr fun e w' => e = .returned (.int .i64 0) ∧ Kept none' w w' ∧ (∃ f', M.SpaceAt w' s a base (M.RS o) lim nb f') ∧ MapAt w' m B mp from by
        have hnn := HNB.out
        have h0 := HB0.out
        obtain ⟨g, hg⟩ := space_someY A1.out (show 0 < j * M.RS o by omega)
        have h1 : M.SpaceAt wr s a base (M.RS o) lim (j * M.RS o) f := A1.out
        rw [hg] at h1
        refine (M.Write_in s g base (M.RS o) lim (j * M.RS o) f base nb _ gg wr h1 h0 ⟨Nat.le_refl _, by omega⟩ (HBV.out.kept (ofK A2.out) (fun _ _ e => e))).mono ?_
        rintro e w' ⟨rfl, hs', hk⟩
        rw [← hg] at hs' hk
        rw [← hnn] at hs'
        exact ⟨rfl, ownY A2.out A3.out A4.out (toK hk), ⟨_, hs'⟩, AM.out.kept (toK hk) (fun x hx hy => map_space AM.out A1.out hx hy)⟩)
      go_wp2_with fail
      refine WR.out.mono ?_
      rintro e w8 ⟨rfl, hk8, ⟨f', hs8⟩, hm8⟩
      have GOAL := hid (show ∀ W', Kept none' w8 W' → W'.heap[w8.heap.size]? = some (.cells #[.pointer (some ⟨s, 0, none⟩), .pointer (some ⟨m, 0, none⟩), .pointer (some ⟨b, 0, none⟩)] 97 (0, 0)) → ∃ lw s m b a B f, Ending.returned (.tuple #[.pointer (some ⟨w8.heap.size, 0, none⟩), .int .i64 0]) = .returned (.tuple #[.pointer (some ⟨lw, 0, none⟩), .int .i64 0]) ∧ PoW W' lw s m b a base (M.RS o) lim nb f B mp ∧ Kept none' w W' from fun W' hk hx => ⟨_, s, m, b, a, B, f', rfl, ⟨hx, hs8.keep (ofK hk), hm8.kept hk (fun _ _ x => x)⟩, none_trans hk8 hk⟩)
      clear hk8 hs8 hm8 x0 x1 x2 WR
      go_wp2_with fail
      exact ⟨rfl, .tuple #[.pointer (some ⟨w8.heap.size, 0, none⟩), .int .i64 0], by simp [results, Tryz.results25, go_sem], GOAL.out _ ((Kept.refl none' w8).alloc _) (heap_new _ _)⟩
end Go.Proofs.YthjokkihlodapaaGreat.H
