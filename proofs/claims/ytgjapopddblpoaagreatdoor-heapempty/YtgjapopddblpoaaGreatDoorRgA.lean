import Derived.Test.YtgjapopddblpoaaGreatDoorKh
import Derived.Deep.RegionHeld3
/- Package region: New, and what a pool stands on. -/
namespace Go.Proofs.YtgjapopddblpoaaGreatDoor
open Go.RowKit
set_option linter.unusedVariables false

theorem Space6 {w W lw x t} (h : Pol w W lw x t) : Calls Tryz.prog 53 #[.pointer (some ⟨lw, 0, none⟩)] W fun e w' => e = .returned (.pointer (some ⟨x.s, 0, none⟩)) ∧ w' = W := by
  obtain ⟨c0, c1, c2⟩ := h.c
  clear h
  go_enter Tryz.func53, Tryz.ntmps53
  go_wp2_with fail
  go_ret
  exact ⟨rfl, rfl⟩
theorem Map6 {w W lw x t} (h : Pol w W lw x t) : Calls Tryz.prog 40 #[.pointer (some ⟨lw, 0, none⟩)] W fun e w' => e = .returned (.pointer (some ⟨x.m, 0, none⟩)) ∧ w' = W := by
  obtain ⟨c0, c1, c2⟩ := h.c
  clear h
  go_enter Tryz.func40, Tryz.ntmps40
  go_wp2_with fail
  go_ret
  exact ⟨rfl, rfl⟩
theorem Buddy6 {w W lw x t} (h : Pol w W lw x t) : Calls Tryz.prog 48 #[.pointer (some ⟨lw, 0, none⟩)] W fun e w' => e = .returned (.pointer (some ⟨x.b, 0, none⟩)) ∧ w' = W := by
  obtain ⟨c0, c1, c2⟩ := h.c
  clear h
  go_enter Tryz.func48, Tryz.ntmps48
  go_wp2_with fail
  go_ret
  exact ⟨rfl, rfl⟩
set_option maxRecDepth 4000 in
theorem New6_bad (base : Nat) (hb64 : base < 18446744073709551616) (lim ord : Int) (hl1 : -9223372036854775808 ≤ lim) (hl2 : lim ≤ 9223372036854775807) (ho1 : -9223372036854775808 ≤ ord) (ho2 : ord ≤ 9223372036854775807) (h : M.mayB base lim ord = false) (w : World) :
    Calls Tryz.prog 33 #[cfgV base lim ord] w fun e w' => e = .returned (.tuple #[.pointer none, .int .i64 1]) ∧ Kept none' w w' := by
  have K0 := hid ((Kept.refl none' w).alloc (cfgO base lim ord))
  have X0 := hid (heap_new w (cfgO base lim ord))
  have NB := hid (fun W => M.New_bad base hb64 lim ord hl1 hl2 ho1 ho2 h W)
  obtain ⟨x0, x1, x2⟩ := cfg3 X0.out
  clear h
  go_enter Tryz.func33, Tryz.ntmps33
  go_wp2_with fail
  refine (NB.out _).mono ?_
  rintro e w1 ⟨rfl, hk⟩
  have K1 := hid (none_trans K0.out (toK hk))
  clear hk x0 x1 x2
  go_wp2_with fail
  exact ⟨rfl, .tuple #[.pointer none, .int .i64 1], by simp [results, Tryz.results33, go_sem], rfl, K1.out⟩
/-- What New leaves. -/
def New6P (w : World) (base lim o : Nat) (e : Ending) (w' : World) : Prop := ∃ lw x, e = .returned (.tuple #[.pointer (some ⟨lw, 0, none⟩), .int .i64 0]) ∧ Pol w w' lw x ⟨fun _ => 0, newM o, fun _ => 0⟩ ∧ x.base = base ∧ x.R = 4096 * 2 ^ o ∧ x.lim = lim ∧ x.n = 0 ∧ x.o = o ∧ x.P = fun _ => none
set_option maxRecDepth 4000 in
set_option maxHeartbeats 1000000 in
theorem New6_ok (base : Nat) (hb64 : base < 18446744073709551616) (lim o : Nat) (hl : lim ≤ 64) (ho : o ≤ 8) (hm : M.mayB base (lim : Int) (o : Int) = true) (w : World) :
    Calls Tryz.prog 33 #[cfgV base (lim : Int) (o : Int)] w fun e w' => New6P w base lim o e w' := by
  have K3 := hid ((Kept.refl none' w).alloc (cfgO base (lim : Int) (o : Int)))
  have X3 := hid (heap_new w (cfgO base (lim : Int) (o : Int)))
  have NW := hid (fun W => M.New_ok base hb64 (lim : Int) (o : Int) (by omega) (by omega) (by omega) (by omega) hm (fun _ => 0) W)
  clear hm
  go_enter Tryz.func33, Tryz.ntmps33
  obtain ⟨x0, x1, x2⟩ := cfg3 X3.out
  go_wp2_with fail
  generalize w.alloc (cfgO base (lim : Int) (o : Int)) = W3 at *
  refine (NW.out _).mono ?_
  rintro e w4 ⟨s, rfl, hS, hk', hs⟩
  have hk : Kept none' W3 w4 := toK hk'
  have S4 := hid (show M.SpaceAt w4 s none base (M.RS o) lim 0 (fun _ => 0) from by simpa using hS)
  have HS4 := hid (show w.heap.size ≤ s from Nat.le_trans K3.out.size hs)
  have X4 := hid ((hk.block _ (heap_lt X3.out) (fun x => x)).trans X3.out)
  have K4 := hid (none_trans K3.out hk)
  clear x0 x1 x2 hk hk' hS hs X3 K3 NW
  obtain ⟨x0, x1, x2⟩ := cfg3 X4.out
  go_wp2_with fail
  refine (new_any (o : Int) _).mono ?_
  rintro e w5 ⟨m, B, rfl, hM, hk, hN⟩
  have M5 := hid (show MapAt w5 m B (newM o) from by rw [show ordN (o : Int) = o by unfold ordN; rw [if_neg (by omega), if_neg (by omega)]; simp] at hM; exact hM)
  have N5' := hid (show ∀ y, mown m B o y → w.heap.size ≤ y from fun y hy => by rw [show ordN (o : Int) = o by unfold ordN; rw [if_neg (by omega), if_neg (by omega)]; simp] at hN; exact Nat.le_trans K4.out.size (hN y hy))
  have S5 := hid (S4.out.keep (ofK hk))
  have X5 := hid ((hk.block _ (heap_lt X4.out) (fun x => x)).trans X4.out)
  have K5 := hid (none_trans K4.out hk)
  clear x0 x1 x2 hk hM hN X4 K4 S4
  obtain ⟨x0, x1, x2⟩ := cfg3 X5.out
  go_wp2_with fail
  refine (NewB_any base s m o (lim : Int) ho _).mono ?_
  rintro e w6 ⟨b, rfl, hO⟩
  have k6 : Kept none' w5 w6 := by obtain ⟨_, _, _, h, _⟩ := hO; exact h.kp
  have D := hid (show ∃ x : Bx, Pol w (w6.alloc (plO x)) w6.heap.size x ⟨fun _ => 0, newM o, fun _ => 0⟩ ∧ x.base = base ∧ x.R = 4096 * 2 ^ o ∧ x.lim = lim ∧ x.n = 0 ∧ (x.o = o ∧ x.P = fun _ => none) ∧ x.s = s ∧ x.m = m ∧ x.b = b from by
    obtain ⟨l, c, L, hB, h1, h2, h3, h4⟩ := hO.bd rfl (S5.out.keep (ofK k6)) (M5.out.keep k6) rfl rfl
    have hz := K5.out.size
    have hz6 := (none_trans K5.out k6).size
    refine ⟨_, ⟨heap_new _ _, hB.keep ((Kept.refl none' w6).alloc _), ?_, (none_trans K5.out k6).alloc _⟩, rfl, rfl, rfl, rfl, ⟨rfl, rfl⟩, rfl, rfl, rfl⟩
    rintro y (hy | rfl | rfl | rfl)
    · rcases hy with hy | hy | ⟨k, hk, rfl⟩
      · rcases hy with rfl | hy
        · exact HS4.out
        · cases hy
      · exact N5'.out y hy
      · exact Nat.le_trans hz (h3 k hk)
    · exact Nat.le_trans hz h1
    · exact Nat.le_trans hz h2
    · exact hz6)
  clear x0 x1 x2 k6 hO X5 S5 M5
  go_wp2_with fail
  obtain ⟨x, hL, e1, e2, e3, e4, e5, e6, e7, e8⟩ := D.out
  refine ⟨rfl, .tuple #[.pointer (some ⟨w6.heap.size, 0, none⟩), .int .i64 0], by simp [results, Tryz.results33, go_sem], _, x, rfl, ?_, e1, e2, e3, e4, e5⟩
  rw [plO, e6, e7, e8] at hL
  exact hL
theorem New6_po {w W lw x} (o : Nat) (h : Pol w W lw x ⟨fun _ => 0, newM o, fun _ => 0⟩) (hn : x.n = 0) (ho : x.o = o) (hP : x.P = fun _ => none) (hb : x.base % 4096 = 0) : PO w W lw x ⟨fun _ => 0, newM o, fun _ => 0⟩ (fun _ => []) [] := by
  subst ho
  have hc := h.bd.sp.cfg
  have hbe := hc.be
  have h63 : x.base + x.n ≤ 9223372036854775808 := by
    rw [hn, Nat.add_zero]
    exact Nat.le_trans (Nat.le_add_right _ _) hbe
  exact ⟨h, Sf.new x _ hP h.bd.o8 hc.b1 h63, by rw [hn]; exact Nat.zero_mul 4096, hb⟩
end Go.Proofs.YtgjapopddblpoaaGreatDoor
