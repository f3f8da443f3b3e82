import Derived.Test.YthomkkboeldgnaaGreatRgD
import Derived.Test.YthomkkboeldgnaaGreatPgx
/- Package region: Open of nothing; the law's awake. -/
namespace Go.Proofs.YthomkkboeldgnaaGreat
open Go.RowKit
set_option linter.unusedVariables false

theorem may1 : M.mayB 65536 ((2 : Nat) : Int) ((1 : Nat) : Int) = true := by decide
set_option maxRecDepth 4000 in
set_option maxHeartbeats 1000000 in
theorem Open6_nil (w : World) (q h : Nat) (hq : w.cell? ⟨q, 0, none⟩ = some (.slice none 0 0)) (hh : w.heap[h]? = some (.cells (wcells [0, 0]) 24 (0, 0))) :
    Calls Tryz.prog 19 #[cfgV 65536 2 1, .int .i64 0, .slice none 0 0, .slice none 0 0, .slice (some ⟨q, 0, none⟩) 1 1, .slice (some ⟨h, 0, none⟩) 2 2] w fun e w' => ∃ b, e = .returned (.tuple #[.pointer (some ⟨b, 0, none⟩), .int .i64 0]) ∧ Kept none' w w' := by
  have K3 := hid ((Kept.refl none' w).alloc (cfgO 65536 2 1))
  have X3 := hid (heap_new w (cfgO 65536 2 1))
  have NW := hid (fun W => M.New_ok 65536 (by decide) ((2 : Nat) : Int) ((1 : Nat) : Int) (by omega) (by omega) (by omega) (by omega) may1 (fun _ => 0) W)
  have HQ := hid hq
  have H0 := hid hh
  clear hq hh
  go_enter Tryz.func19, Tryz.ntmps19
  obtain ⟨x0, x1, x2⟩ := cfg3 X3.out
  go_wp2_with fail
  generalize w.alloc (cfgO 65536 2 1) = W3 at *
  refine (NW.out _).mono ?_
  rintro e w4 ⟨s, rfl, hS, hk', hs⟩
  have hk : Kept none' W3 w4 := toK hk'
  have X4 := hid ((hk.block _ (heap_lt X3.out) (fun x => x)).trans X3.out)
  have K4 := hid (none_trans K3.out hk)
  clear x0 x1 x2 hk hk' hS hs X3 K3 NW
  obtain ⟨x0, x1, x2⟩ := cfg3 X4.out
  have OP := hid (show Calls Tryz.prog 31 #[.int .i64 1, .slice none 0 0, .slice (some ⟨q, 0, none⟩) 1 1] w4 fun e w' => ∃ b, e = .returned (.tuple #[.pointer (some ⟨b, 0, none⟩), .int .i64 0]) ∧ Kept none' w4 w' from by
    have hc := K4.out.cell (fun e => e) HQ.out
    refine (open_in (.slice none 0 0) (.slice (some ⟨q, 0, none⟩) 1 1) (fun _ => .slice none 0 0) ⟨1, 0, fun _ => blankP 0 0, fun _ => []⟩ (by decide) (by decide) ⟨0, rfl⟩ w4 ⟨by decide, none, 0, rfl, .inl rfl⟩ ⟨by decide, some ⟨q, 0, none⟩, 1, rfl, .inr ⟨q, 0, rfl, World.block_lt_of_cell? w4 _ hc, fun k hk => ?_⟩⟩ (fun i hi => absurd hi (Nat.not_lt_zero _)) (fun k hk => ?_)).mono ?_
    · have hk : k < 1 := hk
      obtain rfl : k = 0 := by omega
      exact ⟨hc, fun i => by simp, none, 0, rfl, Or.inl rfl⟩
    · show 0 = (0 / 2 ^ (k + 1) + 63) / 64
      rw [Nat.zero_div]
    · rintro e w' ⟨b, rfl, hb⟩
      obtain ⟨B', _, _, hk⟩ := hb.out
      exact ⟨b, rfl, hk⟩)
  go_wp2_with fail
  refine OP.out.mono ?_
  rintro e w5 ⟨m, rfl, hk⟩
  have K5 := hid (none_trans K4.out hk)
  have X5 := hid ((hk.block _ (heap_lt X4.out) (fun x => x)).trans X4.out)
  clear x0 x1 x2 hk OP
  obtain ⟨x0, x1, x2⟩ := cfg3 X5.out
  have OB := hid (OpenB_yes 65536 s m 1 2 (by decide) [0, 0] rfl (fun i => by
    rcases i with _ | _ | i <;> simp) h 2 w5 ((K5.out.block _ (heap_lt H0.out) (fun e => e)).trans H0.out))
  go_wp2_with fail
  refine OB.out.mono ?_
  rintro e w6 ⟨b, rfl, hO⟩
  have k6 : Kept none' w5 w6 := by obtain ⟨_, _, _, h, _⟩ := hO; exact h.kp
  have K6 := hid (none_trans K5.out k6)
  have X6 := hid ((k6.block _ (heap_lt X5.out) (fun x => x)).trans X5.out)
  clear x0 x1 x2 k6 hO OB
  go_wp2_with fail
  go_loopw [74] (fun i W => i = .int .i64 0 ∧ Hid (Kept none' w6 W)) (fun _ _ => 0)
  case atStart => exact ⟨rfl, hid (Kept.refl none' w6)⟩
  case round =>
    obtain ⟨rfl, hK⟩ := hrel
    have X7 := hid ((hK.out.block _ (heap_lt X6.out) (fun x => x)).trans X6.out)
    obtain ⟨x0, x1, x2⟩ := cfg3 X7.out
    have K7 := hid (none_trans K6.out hK.out)
    have WZ := hid (M.Write_zero s 65536 none 0 wr)
    go_wp2_with fail
    refine WZ.out.mono ?_
    rintro e w8 hw8
    have K8 := hid (show Kept none' w w8 from by
      obtain ⟨_, hk⟩ := hw8
      first
        | exact none_trans K7.out (toK hk)
        | (obtain ⟨n, rfl⟩ := hk; exact K7.out.drewN n)
        | (subst hk; exact K7.out))
    obtain ⟨rfl, _⟩ := hw8
    have K9 := hid (fun o => K8.out.alloc o)
    clear x0 x1 x2 WZ
    go_wp2_with fail
    exact ⟨rfl, .tuple #[.pointer (some ⟨w8.heap.size, 0, none⟩), .int .i64 0], by simp [results, Tryz.results19, go_sem], _, rfl, K9.out _⟩
set_option maxRecDepth 4000 in
set_option maxHeartbeats 1000000 in
theorem awake6 (w : World) : Calls Tryz.prog 4 #[] w fun e w' => e = .returned (.bool true) ∧ Kept none' w w' := by
  have K1 := hid ((Kept.refl none' w).alloc (cfgO 65536 2 1))
  have X1 := hid (heap_new w (cfgO 65536 2 1))
  have NW := hid (fun W => New6_ok 65536 (by decide) 2 1 (by decide) (by decide) may1 W)
  go_enter Tryz.func4, Tryz.ntmps4
  obtain ⟨x0, x1, x2⟩ := cfg3 X1.out
  go_wp2_with fail
  generalize w.alloc (cfgO 65536 2 1) = W1 at *
  refine (NW.out _).mono ?_
  rintro e w2 ⟨lw, x, rfl, hL, e1, e2, e3, e4, e5⟩
  have P2 := hid (New6_po 1 hL e4 e5 (by rw [e1]))
  have X2 := hid ((hL.kp.block _ (heap_lt X1.out) (fun x => x)).trans X1.out)
  have EQ := hid (And.intro e1 (And.intro e2 (And.intro e3 (And.intro e4 e5))))
  clear hL e1 e2 e3 e4 e5 x0 x1 x2 NW
  go_wp2_with fail
  refine (Space6 P2.out.pl).mono ?_
  rintro e w3 ⟨rfl, h3⟩
  replace h3 := h3.symm
  subst h3
  go_wp2_with fail
  refine (Map6 P2.out.pl).mono ?_
  rintro e w3 ⟨rfl, h3⟩
  replace h3 := h3.symm
  subst h3
  go_wp2_with fail
  refine (Buddy6 P2.out.pl).mono ?_
  rintro e w3 ⟨rfl, h3⟩
  replace h3 := h3.symm
  subst h3
  obtain ⟨x0, x1, x2⟩ := cfg3 X2.out
  have ka := (Kept.refl none' w2).alloc (.cells #[.slice none 0 0] 61)
  have kb := (Kept.refl none' (w2.alloc (.cells #[.slice none 0 0] 61))).alloc (.cells #[.int .u64 0, .int .u64 0] 24)
  have hc0 : (w2.alloc (.cells #[.slice none 0 0] 61)).cell? ⟨w2.heap.size, 0, none⟩ = some (.slice none 0 0) := by
    have h := cells_new (w := w2) (cs := #[.slice none 0 0]) (t := 61) 0 _ rfl
    rw [Addr.add_lit] at h
    exact h
  have ON := hid (Open6_nil ((w2.alloc (.cells #[.slice none 0 0] 61)).alloc (.cells #[.int .u64 0, .int .u64 0] 24)) w2.heap.size (w2.heap.size + 1) (kb.cell (fun e => e) hc0) (heap_new2 w2 (.cells #[.slice none 0 0] 61) (.cells #[.int .u64 0, .int .u64 0] 24)))
  have KK := hid (none_trans ka kb)
  clear ka kb hc0
  go_wp2_with fail
  refine ON.out.mono ?_
  rintro e w4 ⟨b4, rfl, hk⟩
  have P4 := hid (P2.out.keep (none_trans KK.out hk))
  clear hk ON x0 x1 x2 KK P2 X2
  have NG := hid (Need_grew P4.out 0 (Nat.zero_le _) (fun a _ _ => rfl) (by
    obtain ⟨_, _, e3, e4, _⟩ := EQ.out
    rw [e3, e4]
    omega))
  have had : ad x (newM 1).n = 65536 := by unfold ad; rw [EQ.out.1]; rfl
  go_wp2_with fail
  refine NG.out.mono ?_
  rintro e w5 ⟨he, ⟨x5, t5, hP5, hS5, _, hn5, _⟩, _⟩
  replace he : e = .returned (.tuple #[.int .u64 65536, .bool true, .int .i64 0]) := by rw [he]; show _ = _; rw [show ad x ((⟨fun _ => 0, newM 1, fun _ => 0⟩ : Bt).m.n) = 65536 from had]; rfl
  subst he
  have P5 := hid hP5
  have RG := hid (regions6 hP5 1 (by rw [hn5, hS5.o, Nat.one_mul]; show 0 + 2 ^ x.o = 2 ^ x.o; rw [Nat.zero_add]))
  clear hP5 hS5 hn5 NG had
  go_wp2_with fail
  refine (Space6 P5.out.pl).mono ?_
  rintro e w6 ⟨rfl, h6⟩
  replace h6 := h6.symm
  subst h6
  go_wp2_with fail
  refine RG.out.mono ?_
  rintro e w7 ⟨rfl, hk⟩
  have D := hid (none_trans K1.out (none_trans P5.out.pl.kp hk))
  clear hk RG
  go_wp2_with fail
  go_ret
  exact ⟨rfl, D.out⟩
end Go.Proofs.YthomkkboeldgnaaGreat
