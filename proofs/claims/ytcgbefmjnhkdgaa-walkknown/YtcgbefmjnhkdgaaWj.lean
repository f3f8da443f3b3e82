import Derived.Test.YtcgbefmjnhkdgaaWi
set_option maxRecDepth 1000000
set_option maxHeartbeats 80000000
/- region.New, slab.over, New, Open; malloc.New: that they answer. -/
namespace Go.Proofs.Ytcgbefmjnhkdgaa.H
open Go.RowKit
set_option linter.unusedVariables false
set_option maxHeartbeats 4000000
set_option maxRecDepth 4000

/-- A pool: its box, its space, its map. -/
structure PoW (W : World) (lw s m b : Nat) (ao : Option Nat) (base R lim n : Nat) (f : Nat → Nat) (B : Bs) (mp : Mp) : Prop where
  bx : W.heap[lw]? = some (.cells #[.pointer (some ⟨s, 0, none⟩), .pointer (some ⟨m, 0, none⟩), .pointer (some ⟨b, 0, none⟩)] 99 (0, 0))
  sp : M.SpaceAt W s ao base R lim n f
  mp : MapAt W m B mp
theorem PoW.keep {W W' : World} {lw s m b : Nat} {ao : Option Nat} {base R lim n : Nat} {f : Nat → Nat} {B : Bs} {mp : Mp} (h : PoW W lw s m b ao base R lim n f B mp) (k : Kept none' W W') : PoW W' lw s m b ao base R lim n f B mp :=
  ⟨(k.block _ (heap_lt h.bx) (fun x => x)).trans h.bx, h.sp.keep (ofK k), h.mp.kept k (fun _ _ x => x)⟩
theorem PoW.c {W : World} {lw s m b : Nat} {ao : Option Nat} {base R lim n : Nat} {f : Nat → Nat} {B : Bs} {mp : Mp} (h : PoW W lw s m b ao base R lim n f B mp) : W.cell? ⟨lw, 0, none⟩ = some (.pointer (some ⟨s, 0, none⟩)) ∧ W.cell? ⟨lw, 1, none⟩ = some (.pointer (some ⟨m, 0, none⟩)) := by
  constructor <;> simp [World.cell?, h.bx]
theorem Space9 {W : World} {lw s m b : Nat} {ao : Option Nat} {base R lim n : Nat} {f : Nat → Nat} {B : Bs} {mp : Mp} (h : PoW W lw s m b ao base R lim n f B mp) : Calls Try.prog 79 #[.pointer (some ⟨lw, 0, none⟩)] W fun e w' => e = .returned (.pointer (some ⟨s, 0, none⟩)) ∧ w' = W := by
  obtain ⟨c0, c1⟩ := h.c
  clear h
  go_enter Try.func79, Try.ntmps79
  go_wp2_with fail
  go_ret
  exact ⟨rfl, rfl⟩
theorem Map9 {W : World} {lw s m b : Nat} {ao : Option Nat} {base R lim n : Nat} {f : Nat → Nat} {B : Bs} {mp : Mp} (h : PoW W lw s m b ao base R lim n f B mp) : Calls Try.prog 77 #[.pointer (some ⟨lw, 0, none⟩)] W fun e w' => e = .returned (.pointer (some ⟨m, 0, none⟩)) ∧ w' = W := by
  obtain ⟨c0, c1⟩ := h.c
  clear h
  go_enter Try.func77, Try.ntmps77
  go_wp2_with fail
  go_ret
  exact ⟨rfl, rfl⟩
/-- What slab.over leaves. -/
def OvS (W : World) (lw : Nat) (e : Ending) (w' : World) : Prop := ∃ sb b0 : Nat, e = .returned (.pointer (some ⟨sb, 0, none⟩)) ∧ w'.heap[sb]? = some (.cells #[.pointer (some ⟨lw, 0, none⟩), .int .u64 (b0 : Int), .int .i64 0, .int .i64 0, .int .i64 0, .int .i64 0, .int .i64 0, .int .i64 0, .int .i64 0, .int .i64 0] 102 (0, 0)) ∧ Kept none' W w' ∧ W.heap.size ≤ sb
theorem over9 {W : World} {lw s m b : Nat} {ao : Option Nat} {base R lim n : Nat} {f : Nat → Nat} {B : Bs} {mp : Mp} (h : PoW W lw s m b ao base R lim n f B mp) (hn : mp.n * 4096 = n) (hb : base + n ≤ 9223372036854775808) (hm : mp.n ≤ 1024) :
    Calls Try.prog 47 #[.pointer (some ⟨lw, 0, none⟩)] W (OvS W lw) := by
  have HM := hid (Map9 h)
  have PG := hid (pages_any m B mp W h.mp)
  have SP := hid (Space9 h)
  have EN := hid (M.end_any s ao base R lim n f W h.sp)
  obtain ⟨pn, hpn⟩ : ∃ pn, pn = mp.n := ⟨_, rfl⟩
  rw [← hpn] at PG hn hm
  obtain ⟨en, hen⟩ : ∃ en, en = base + n := ⟨_, rfl⟩
  rw [← hen] at EN hb
  have hpi : (pn : Int) * 4096 = (n : Int) := by omega
  have heb : (en : Int) - (n : Int) = (base : Int) := by omega
  have hnl : n ≤ 4194304 := by omega
  have hbl : base ≤ 9223372036854775808 := by omega
  have GOAL := hid (show ∀ mm, OvS W lw (.returned (.pointer (some ⟨W.heap.size, 0, none⟩))) ((W.drewN mm).alloc (.cells #[.pointer (some ⟨lw, 0, none⟩), .int .u64 (base : Int), .int .i64 0, .int .i64 0, .int .i64 0, .int .i64 0, .int .i64 0, .int .i64 0, .int .i64 0, .int .i64 0] 102 (0, 0))) from fun mm => ⟨W.heap.size, base, rfl, heap_new (W.drewN mm) _, ((Kept.refl none' W).drewN mm).alloc _, Nat.le_refl _⟩)
  clear h hpn hen
  go_enter Try.func47, Try.ntmps47
  go_wp2_with fail
  refine HM.out.mono ?_
  rintro e w1 ⟨rfl, h1⟩
  replace h1 := h1.symm
  subst h1
  go_wp2_with fail
  refine PG.out.mono ?_
  rintro e w2 ⟨rfl, h2⟩
  replace h2 := h2.symm
  subst h2
  go_wp2_with fail
  refine SP.out.mono ?_
  rintro e w3 ⟨rfl, h3⟩
  replace h3 := h3.symm
  subst h3
  go_wp2_with fail
  refine EN.out.mono ?_
  rintro e w4 ⟨rfl, mm, h4⟩
  subst h4
  go_wp2_with fail
  go_ret
  exact GOAL.out mm
theorem slabNew9 {W : World} {lw s m b : Nat} {ao : Option Nat} {base R lim n : Nat} {f : Nat → Nat} {B : Bs} {mp : Mp} (h : PoW W lw s m b ao base R lim n f B mp) (hn : mp.n * 4096 = n) (hb : base + n ≤ 9223372036854775808) (hm : mp.n ≤ 1024) :
    Calls Try.prog 27 #[.pointer (some ⟨lw, 0, none⟩)] W fun e w' => ∃ sb, e = .returned (.pointer (some ⟨sb, 0, none⟩)) ∧ Kept none' W w' := by
  have OV := hid (over9 h hn hb hm)
  clear h hn hb hm
  go_enter Try.func27, Try.ntmps27
  go_wp2_with fail
  refine OV.out.mono ?_
  rintro e w1 ⟨sb, b0, rfl, hs, hk, hz⟩
  have ST := hid (show ∃ cs, w1.heap[sb]? = some (.cells cs 102 (0, 0)) ∧ cs.size = 10 from ⟨_, hs, rfl⟩)
  have K1 := hid hk
  have HZ := hid hz
  clear hs hk hz OV
  go_wp2_with fail
  go_loopw [7] (fun i V => ∃ a : Nat, a ≤ 8 ∧ i = .int .i64 a ∧ Hid (Kept none' W V ∧ ∃ cs, V.heap[sb]? = some (.cells cs 102 (0, 0)) ∧ cs.size = 10)) (fun i _ => 8 - (intOf i).toNat)
  case atStart => exact ⟨0, Nat.zero_le _, rfl, hid ⟨K1.out, ST.out⟩⟩
  case round =>
    obtain ⟨a, ha, rfl, hR⟩ := hrel
    by_cases hlt : a < 8
    · have hai : (a : Int) < 8 := by omega
      obtain ⟨hk, cs, hcs, hsz⟩ := hR.out
      have hc : ∃ v, wr.cell? ⟨sb, 2 + a, none⟩ = some v := by
        refine ⟨cs[2 + a]'(by omega), ?_⟩
        simp [World.cell?, hcs, show 2 + a < cs.size by omega]
      obtain ⟨v, hv⟩ := hc
      have hf : wr.frozen? ⟨sb, 2 + a, none⟩ = false := by simp [World.frozen?, hcs]
      have R2 := hid (show Kept none' W (wr.setCell ⟨sb, 2 + a, none⟩ (.int .i64 (-1))) ∧ ∃ cs, (wr.setCell ⟨sb, 2 + a, none⟩ (.int .i64 (-1))).heap[sb]? = some (.cells cs 102 (0, 0)) ∧ cs.size = 10 from ⟨hk.setNew (fun h => absurd h (by have := HZ.out; show ¬ sb < _; omega)) _, _, heap_set hcs _ _, by simp [hsz]⟩)
      clear hk hcs hsz
      go_wp2_with fail
      go_round
      case rel => exact ⟨a + 1, by omega, by go_num, R2⟩
      case measure => simp [intOf]; omega
    · have hai : ¬ (a : Int) < 8 := by omega
      go_wp2_with fail
      go_ret
      exact ⟨⟨sb, rfl⟩, hR.out.1⟩
theorem regionNew9 (base lim o : Nat) (hb64 : base < 18446744073709551616) (hl : lim ≤ 64) (ho : o ≤ 8) (hm : M.mayB base (lim : Int) (o : Int) = true) (w : World) :
    Calls Try.prog 26 #[cfgV base (lim : Int) (o : Int)] w fun e w' => ∃ lw s m b B f, e = .returned (.tuple #[.pointer (some ⟨lw, 0, none⟩), .int .i64 0]) ∧ PoW w' lw s m b none base (M.RS o) lim 0 f B (newM o) ∧ Kept none' w w' := by
  have NW := hid (fun W => M.New_ok base hb64 (lim : Int) (o : Int) (by omega) (by omega) (by omega) (by omega) hm (fun _ => 0) W)
  have NP := hid (fun W => new_any (o : Int) W)
  have NB := hid (fun s m W => NewB_any base s m o (lim : Int) ho W)
  have K0 := hid ((Kept.refl none' w).alloc (cfgO base (lim : Int) (o : Int)))
  have X0 := hid (heap_new w (cfgO base (lim : Int) (o : Int)))
  have hoo : ordN (o : Int) = o := by unfold ordN; split <;> (try split) <;> omega
  rw [hoo] at NP
  clear hoo hm
  go_enter Try.func26, Try.ntmps26
  go_wp2_with fail
  generalize w.alloc (cfgO base (lim : Int) (o : Int)) = W0 at *
  generalize w.heap.size = cb at *
  refine (NW.out W0).mono ?_
  rintro e w1 ⟨s, rfl, hs, hk1, hz1⟩
  rw [Int.toNat_natCast, Int.toNat_natCast] at hs
  have S1 := hid hs
  have K1 := hid (none_trans K0.out (toK hk1))
  have X1 := hid (((toK hk1).block _ (heap_lt X0.out) (fun x => x)).trans X0.out)
  obtain ⟨x0, x1, x2⟩ := cfg3 X1.out
  clear hs hk1 hz1
  go_wp2_with fail
  refine (NP.out w1).mono ?_
  rintro e w2 ⟨m, B, rfl, hm2, hk2, -⟩
  have S2 := hid (S1.out.keep (ofK hk2))
  have M2 := hid hm2
  have K2 := hid (none_trans K1.out hk2)
  have X2 := hid ((hk2.block _ (heap_lt X1.out) (fun x => x)).trans X1.out)
  obtain ⟨y0, y1, y2⟩ := cfg3 X2.out
  clear hm2 hk2 x0 x1 x2
  go_wp2_with fail
  refine (NB.out s m w2).mono ?_
  rintro e w3 ⟨b, rfl, g, cap, L, hov, -⟩
  have K3 := hid hov.kp
  clear hov y0 y1 y2
  have GOAL := hid (show ∀ W', Kept none' w3 W' → W'.heap[w3.heap.size]? = some (.cells #[.pointer (some ⟨s, 0, none⟩), .pointer (some ⟨m, 0, none⟩), .pointer (some ⟨b, 0, none⟩)] 99 (0, 0)) → ∃ lw s m b B f, Ending.returned (.tuple #[.pointer (some ⟨w3.heap.size, 0, none⟩), .int .i64 0]) = .returned (.tuple #[.pointer (some ⟨lw, 0, none⟩), .int .i64 0]) ∧ PoW W' lw s m b none base (M.RS o) lim 0 f B (newM o) ∧ Kept none' w W' from fun W' hk hx => ⟨_, s, m, b, B, _, rfl, ⟨hx, (S2.out.keep (ofK K3.out)).keep (ofK hk), (M2.out.kept K3.out (fun _ _ x => x)).kept hk (fun _ _ x => x)⟩, none_trans (none_trans K2.out K3.out) hk⟩)
  go_wp2_with fail
  refine ⟨rfl, .tuple #[.pointer (some ⟨w3.heap.size, 0, none⟩), .int .i64 0], by simp [results, Try.results26, go_sem], GOAL.out _ ((Kept.refl none' w3).alloc _) (heap_new _ _)⟩
end Go.Proofs.Ytcgbefmjnhkdgaa.H
