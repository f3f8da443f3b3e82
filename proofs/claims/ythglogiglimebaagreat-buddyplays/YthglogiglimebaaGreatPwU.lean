import Derived.Test.YthglogiglimebaaGreatPwQ
import Derived.ArgAppend
import Derived.Laws.OwnMore
import Derived.Maps.AppendAt
import Derived.Deep.RegionLaw
/- BuddyPlays: buddy.Open of zeros, and of a row of another length. -/
namespace Go.Proofs.YthglogiglimebaaGreat
open Go.RowKit
set_option linter.unusedVariables false

set_option maxRecDepth 4000 in
set_option maxHeartbeats 2000000 in
theorem over_zero (base s m N : Nat) (lim o : Int) (hN : 1 ≤ N) (hN9 : N ≤ 9) (g0 cp0 : Nat) (w : World) (hh : ∀ i, i < N → w.cell? ⟨g0, i, none⟩ = some (.int .u64 ((0 : Nat) : Int))) :
    Calls Tryz.prog 79 #[cfgV base lim o, .pointer (some ⟨s, 0, none⟩), .pointer (some ⟨m, 0, none⟩), .slice (some ⟨g0, 0, none⟩) N cp0] w fun e w' => ∃ b, e = .returned (.pointer (some ⟨b, 0, none⟩)) ∧ OvP w w' b base s m N (fun i => (0 : Nat)) := by
  have HH := hid hh
  have B0 := hid (show Ov w ((w.alloc (cfgO base lim o)).alloc (bdO base s m (.slice none 0 0))) (w.heap.size + 1) base s m 0 (.slice none 0 0) (fun _ => 0) (fun i => (0 : Nat)) from
    ⟨heap_new2 w _ _, World.ownsRow_nil _ _ _ _, .inl ⟨rfl, rfl⟩, fun j hj => absurd hj (by omega), fun i j hi => absurd hi (by omega), fun j hj => absurd hj (by omega), by omega, ((Kept.refl none' w).alloc _).alloc _⟩)
  clear hh
  go_enter Tryz.func79, Tryz.ntmps79
  go_wp2_with fail
  go_loopw [20] (fun i W => ∃ k : Nat, k ≤ N ∧ i = .int .i64 k ∧ Hid (∃ v L, Ov w W (w.heap.size + 1) base s m k v L (fun i => (0 : Nat)))) (fun i _ => N - (intOf i).toNat)
  case atStart => exact ⟨0, by omega, rfl, ⟨_, _, B0.out⟩⟩
  case round =>
    clear B0
    obtain ⟨k, hk, rfl, hR⟩ := hrel
    obtain ⟨v, L, hR⟩ := hR.out
    have HR := hid hR
    have c3 : wr.cell? ⟨w.heap.size + 1, 3, none⟩ = some v := by simp [World.cell?, hR.hb]
    have kp := hR.kp
    clear hR
    by_cases hlt : k < N
    · have hki : (k : Int) < (N : Int) := by omega
      obtain ⟨hd, hhd⟩ : ∃ hd, hd = (0 : Nat) := ⟨_, rfl⟩
      have hck : wr.cell? ⟨g0, k, none⟩ = some (.int .u64 (hd : Int)) := by
        rw [hhd]
        exact kp.cell (fun x => x) (HH.out k hlt)
      have h64k : hd < 18446744073709551616 := by rw [hhd]; decide
      have HHD := hid hhd
      clear hhd kp
      go_wp2_with fail
      go_region_law (first | (refine step_newlist rfl 29 30 rfl (w.heap.size + 1) s hd h64k v c3 rfl rfl ?_; intro W2 c HS K2 c3; have K2 := hid (none_trans (Kept.refl none' wr).drew K2.out); have c32 := ((Kept.refl none' W2).alloc (.cells #[.pointer (some ⟨c, 0, none⟩)] 84)).cell (fun x => x) c3) | (refine step_pushL rfl (.tmp 28) (.tmp 32) rfl v _ k c (w.heap.size + 1) _ _ _ ((HR.out.pl.kept K2.out (fun _ _ x => x)).kept ((Kept.refl none' W2).alloc _) (fun _ _ x => x)) (by simp) (by omega) (((K2.out.alloc _).block (w.heap.size + 1) (heap_lt HR.out.hb) (fun x => x)).trans HR.out.hb) ⟨W2.heap.size, 0, none⟩ 1 rfl rfl (by rw [Addr.add_lit]; exact cell_new _ _ _) ?_; intro g' cap' W3 HPU e2 z2))
      all_goals
        have HN2 := hid (HR.out.next (HHD.out ▸ (HS.out.1.keep (ofK ((Kept.refl none' W2).alloc _)))) HS.out.2 (K2.out.alloc _) HPU.out)
        generalize hW : W3.setCell ⟨w.heap.size + 1, 3, none⟩ (.slice (some ⟨g', 0, none⟩) (k + 1) cap') = W4 at HN2
        clear hW HPU e2 z2 c32 c3
        go_wp2_with fail
        exact ⟨⟨k + 1, by omega, by simp, ⟨_, _, HN2.out⟩⟩, by simp [intOf]; omega⟩
    · have hki : ¬ (k : Int) < (N : Int) := by omega
      have D := hid (show OvP w wr (w.heap.size + 1) base s m N (fun i => (0 : Nat)) from by
        have e : k = N := by omega
        have h := HR.out
        rw [e] at h
        rcases h.vs with ⟨_, h0⟩ | ⟨g, cap, h0, hg⟩
        · omega
        · rw [h0] at h
          exact ⟨g, cap, L, h, hg⟩)
      clear HR kp
      go_wp2_with fail
      go_ret
      exact ⟨_, rfl, D.out⟩
set_option maxRecDepth 4000 in
theorem OpenB_zero (base s m o : Nat) (lim : Int) (ho : o ≤ 8) (g0 cp0 : Nat) (w : World) (hh : ∀ i, i < o + 1 → w.cell? ⟨g0, i, none⟩ = some (.int .u64 ((0 : Nat) : Int))) :
    Calls Tryz.prog 28 #[cfgV base lim (o : Int), .pointer (some ⟨s, 0, none⟩), .pointer (some ⟨m, 0, none⟩), .slice (some ⟨g0, 0, none⟩) (o + 1) cp0] w fun e w' => ∃ b, e = .returned (.tuple #[.pointer (some ⟨b, 0, none⟩), .int .i64 0]) ∧ OvP w w' b base s m (o + 1) (fun i => (0 : Nat)) := by
  have K0 := hid ((Kept.refl none' w).alloc (cfgO base lim (o : Int)))
  have X0 := hid (heap_new w (cfgO base lim (o : Int)))
  have H0 := hid (fun i hi => K0.out.cell (fun x => x) (hh i hi))
  clear hh
  obtain ⟨N, hN⟩ : ∃ N, N = o + 1 := ⟨_, rfl⟩
  have hNi : (o : Int) + 1 = (N : Int) := by omega
  rw [← hN] at H0 ⊢
  have OR := hid (fun W => orders_any base lim o ho W)
  rw [hNi] at OR
  have hN9 : N ≤ 9 := by omega
  have hN1 : 1 ≤ N := by omega
  clear hNi hN
  go_enter Tryz.func28, Tryz.ntmps28
  go_wp2_with fail
  generalize w.alloc (cfgO base lim (o : Int)) = W1 at *
  refine (OR.out _).mono ?_
  rintro e w2 ⟨rfl, hk⟩
  have K2 := hid (none_trans K0.out hk)
  have X2 := hid ((hk.block _ (heap_lt X0.out) (fun x => x)).trans X0.out)
  have H2 := hid (fun i hi => hk.cell (fun x => x) (H0.out i hi))
  clear hk X0 H0 K0
  have x0 : w2.cell? ⟨w.heap.size, 0, none⟩ = some (.int .u64 (base : Int)) := by simp [World.cell?, X2.out]
  have x1 : w2.cell? ⟨w.heap.size, 1, none⟩ = some (.int .i64 lim) := by simp [World.cell?, X2.out]
  have x2 : w2.cell? ⟨w.heap.size, 2, none⟩ = some (.int .i64 (o : Int)) := by simp [World.cell?, X2.out]
  go_wp2_with fail
  refine (over_zero base s m N lim (o : Int) hN1 hN9 g0 cp0 _ H2.out).mono ?_
  rintro e w3 ⟨b, rfl, hO⟩
  have O3 := hid (hO.base K2.out)
  clear hO
  go_wp2_with fail
  exact ⟨rfl, .tuple #[.pointer (some ⟨b, 0, none⟩), .int .i64 0], by simp [results, Tryz.results28, go_sem], b, rfl, O3.out⟩
set_option maxRecDepth 4000 in
theorem OpenB_no (base s m o N : Nat) (lim : Int) (ho : o ≤ 8) (hN : N ≠ o + 1) (hN2 : N ≤ 1000) (ga : Option Addr) (gc : Nat) (w : World) :
    Calls Tryz.prog 28 #[cfgV base lim (o : Int), .pointer (some ⟨s, 0, none⟩), .pointer (some ⟨m, 0, none⟩), .slice ga N gc] w fun e w' => e = .returned (.tuple #[.pointer none, .int .i64 7]) ∧ Kept none' w w' := by
  have K0 := hid ((Kept.refl none' w).alloc (cfgO base lim (o : Int)))
  have X0 := hid (heap_new w (cfgO base lim (o : Int)))
  obtain ⟨P, hP⟩ : ∃ P, P = o + 1 := ⟨_, rfl⟩
  have hPi : (o : Int) + 1 = (P : Int) := by omega
  have OR := hid (fun W => orders_any base lim o ho W)
  rw [hPi] at OR
  have hne : ¬ (N : Int) = (P : Int) := by omega
  have hnb : ((N : Int) == (P : Int)) = false := beq_eq_false_iff_ne.2 hne
  clear hPi hP hN
  go_enter Tryz.func28, Tryz.ntmps28
  go_wp2_with fail
  generalize w.alloc (cfgO base lim (o : Int)) = W1 at *
  refine (OR.out _).mono ?_
  rintro e w2 ⟨rfl, hk⟩
  have K2 := hid (none_trans K0.out hk)
  have X2 := hid ((hk.block _ (heap_lt X0.out) (fun x => x)).trans X0.out)
  clear hk X0 K0
  have x0 : w2.cell? ⟨w.heap.size, 0, none⟩ = some (.int .u64 (base : Int)) := by simp [World.cell?, X2.out]
  have x1 : w2.cell? ⟨w.heap.size, 1, none⟩ = some (.int .i64 lim) := by simp [World.cell?, X2.out]
  have x2 : w2.cell? ⟨w.heap.size, 2, none⟩ = some (.int .i64 (o : Int)) := by simp [World.cell?, X2.out]
  go_wp2_with fail
  exact ⟨rfl, .tuple #[.pointer none, .int .i64 7], by simp [results, Tryz.results28, go_sem], rfl, K2.out⟩
/-- Open of a row of zeros. -/
theorem OpenB_row (base s m o : Nat) (lim : Int) (ho : o ≤ 8) (W0 : World) (j : Nat) (hj : j ≤ 20) (ga : Option Addr) (gc : Nat) (w : World) (h : WL W0 w (.slice ga j gc) (List.replicate j 0)) :
    Calls Tryz.prog 28 #[cfgV base lim (o : Int), .pointer (some ⟨s, 0, none⟩), .pointer (some ⟨m, 0, none⟩), .slice ga j gc] w fun e w' => ∃ bv ev, e = .returned (.tuple #[.pointer bv, .int .i64 ev]) ∧ (j ≠ o + 1 → bv = none ∧ ev = 7) ∧ Kept none' w w' := by
  by_cases hN : j = o + 1
  · subst hN
    have hz : ∀ i, i < o + 1 → ∃ g, ga = some ⟨g, 0, none⟩ ∧ w.cell? ⟨g, i, none⟩ = some (.int .u64 ((0 : Nat) : Int)) := fun i hi => by
      have h1 := h.1.own
      rw [List.length_replicate] at h1
      exact own_get h1 (i := i) (by simp [M.e64, hi])
    obtain ⟨g0, rfl, _⟩ := hz 0 (by omega)
    refine (OpenB_zero base s m o lim ho g0 gc w (fun i hi => ?_)).mono ?_
    · obtain ⟨g, e, h2⟩ := hz i hi
      injection e with e
      injection e with e
      subst e
      exact h2
    · rintro e w' ⟨b, rfl, hO⟩
      obtain ⟨g, cap, L, hO, _⟩ := hO
      exact ⟨_, _, rfl, fun e => absurd rfl e, hO.kp⟩
  · refine (OpenB_no base s m o j lim ho hN (by omega) ga gc w).mono ?_
    rintro e w' ⟨rfl, hk⟩
    exact ⟨_, _, rfl, fun _ => ⟨rfl, rfl⟩, hk⟩
end Go.Proofs.YthglogiglimebaaGreat
