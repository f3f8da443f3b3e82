import Derived.Test.YthglogiglimebaaGreatPwQ
import Derived.Test.YthglogiglimebaaGreatQi
import Derived.Test.YthglogiglimebaaGreatQh
import Derived.RegionTactic
import Derived.Deep.RegionHeld3
import Derived.Deep.RegionHeldLaw
/- BuddyPlays: the step Go. -/
namespace Go.Proofs.YthglogiglimebaaGreat
open Go.RowKit
set_option linter.unusedVariables false

set_option maxRecDepth 4000 in
set_option maxHeartbeats 16000000 in
theorem step_go {E w W lw c x t fr ls fa fc va n vc} (h : PW E w W lw c x t fr ls fa fc va n vc) (hc : n ≤ 1000) (od tt rf : Int) (sp a : Nat) :
    Calls Tryz.prog 12 #[.pointer (some ⟨lw, 0, none⟩), stV 3 od tt rf sp, .int .u64 (a : Int)] W fun e w' => StP E w W lw (c + 1) e w' := by
  obtain ⟨n1, n2, n3, n4, ⟨r, n5, n6, n7⟩, n8, n9⟩ := h.nums
  have hst := h.st
  have hR1 := h.law.bd.sp.cfg.r1
  have hrr : x.n / x.R = r := by rw [n7]; exact Nat.mul_div_cancel _ (by omega)
  have K0 := (Kept.refl none' W).alloc (stO 3 od tt rf sp)
  have HH := hid h
  have X0 := hid (heap_new W (stO 3 od tt rf sp))
  have H0 := hid (h.keep K0)
  have HK0 := hid K0
  have HN5 := hid n5
  have HN7 := hid n7
  have HN9 := hid n9
  have HST := hid hst
  have HRR := hid hrr
  have HEX := hid (fun y (e : E y) => (h.ex y e).1)
  have LST := hid h.nl
  obtain ⟨s0, s1, s2, s3, s4⟩ := stc8 X0.out
  clear h K0 n5 n7 n9 hst hrr hR1
  have T0 := hid (fun (h0 : t.m.n = 0) (W1 : World) => show Calls Tryz.prog 44 #[.agg #[.int .i64 (x.o : Int), .int .i64 (t.m.n : Int), .slice fa (x.o + 1) fc, .slice va n vc]] W1 fun e w' => e = .returned (.int .i64 (-1)) ∧ Kept none' W1 w' from by rw [h0]; exact Top5_zero (x.o : Int) fa (x.o + 1) fc (.slice va n vc) W1)
  have T1 := hid (fun (hz : 2 ^ x.o ≤ t.m.n) (W1 : World) => show Calls Tryz.prog 44 #[.agg #[.int .i64 (x.o : Int), .int .i64 (t.m.n : Int), .slice fa (x.o + 1) fc, .slice va n vc]] W1 fun e w' => e = .returned (.int .i64 ((t.m.n - 2 ^ x.o : Nat) : Int)) ∧ Kept none' W1 w' from Top5_any x.o t.m.n n1 n2 hz fa (x.o + 1) fc (.slice va n vc) W1)
  generalize hV : W.alloc (stO 3 od tt rf sp) = V0 at *
  obtain ⟨c0, c1, c2, c3, c4, c5, c6, c7, c8, c9⟩ := H0.out.law.c
  go_enter Tryz.func12, Tryz.ntmps12
  go_wp2_with fail
  rcases HH.out.top with ⟨h0, _⟩ | ⟨hz, _, _⟩
  · as_aux_lemma =>
    refine (T0.out h0 _).mono ?_
    rintro e w1 ⟨rfl, hk1⟩
    have K1 := hid (none_trans HK0.out hk1)
    have D := hid (HH.out.stp (none_trans K1.out (Kept.refl none' w1).drew))
    clear c0 c1 c2 c3 c4 c5 c6 c7 c8 c9 s0 s1 s2 s3 s4 hk1 hV
    go_upto_region 14 with fail
    refine wp_region_noPanic ?_
    refine wp_region_held_drew (S := (fun w' => True)) (by kernel_rfl) trivial (fun hHeld => ?_)
    refine wpAnyH_take (i := 0) (oi := { dst := some 85, op := .move (.tmp 11), type := _, pos := _, after := _, guard := none }) (v := (.int .i64 (-1))) rfl (by kernel_rfl) (by kernel_rfl) (by kernel_rfl) (fun _ _ _ h => h) (Or.inl ⟨by rfl, fun w hSw => by (try dsimp only at hSw); go_simp⟩) (by assumption) ?_
    simp only [Act.put, List.setIfInBounds_toArray, List.set_cons_zero, List.set_cons_succ]
    refine wpAnyH_take (i := 1) (oi := { dst := some 86, op := .binOp .lss _ (.tmp 85) (.const (.int .i64 0)) _, type := _, pos := _, after := _, guard := none }) (v := (.bool true)) rfl (by kernel_rfl) (by kernel_rfl) (by kernel_rfl) (fun _ _ _ h => h) (Or.inl ⟨by rfl, fun w hSw => by (try dsimp only at hSw); go_simp⟩) (by assumption) ?_
    simp only [Act.put, List.setIfInBounds_toArray, List.set_cons_zero, List.set_cons_succ]
    refine wpAnyH_take (i := 2) (oi := { dst := some 87, op := .move (.tmp 86), type := _, pos := _, after := _, guard := none }) (v := (.bool true)) rfl (by kernel_rfl) (by kernel_rfl) (by kernel_rfl) (fun _ _ _ h => h) (Or.inl ⟨by rfl, fun w hSw => by (try dsimp only at hSw); go_simp⟩) (by assumption) ?_
    simp only [Act.put, List.setIfInBounds_toArray, List.set_cons_zero, List.set_cons_succ]
    refine wpAnyH_take (i := 3) (oi := { dst := some 88, op := _, type := _, pos := _, after := _, guard := some (2, false) }) (v := undef) rfl (by kernel_rfl) (by kernel_rfl) (by kernel_rfl) (fun _ _ _ h => h) (Or.inr ⟨by rfl, rfl⟩) (by assumption) ?_
    simp only [Act.put, List.setIfInBounds_toArray, List.set_cons_zero, List.set_cons_succ]
    refine wpAnyH_take (i := 4) (oi := { dst := some 89, op := _, type := _, pos := _, after := _, guard := some (2, false) }) (v := undef) rfl (by kernel_rfl) (by kernel_rfl) (by kernel_rfl) (fun _ _ _ h => h) (Or.inr ⟨by rfl, rfl⟩) (by assumption) ?_
    simp only [Act.put, List.setIfInBounds_toArray, List.set_cons_zero, List.set_cons_succ]
    refine wpAnyH_take (i := 5) (oi := { dst := some 90, op := _, type := _, pos := _, after := _, guard := some (2, false) }) (v := undef) rfl (by kernel_rfl) (by kernel_rfl) (by kernel_rfl) (fun _ _ _ h => h) (Or.inr ⟨by rfl, rfl⟩) (by assumption) ?_
    simp only [Act.put, List.setIfInBounds_toArray, List.set_cons_zero, List.set_cons_succ]
    refine wpAnyH_take (i := 6) (oi := { dst := some 91, op := _, type := _, pos := _, after := _, guard := some (2, false) }) (v := undef) rfl (by kernel_rfl) (by kernel_rfl) (by kernel_rfl) (fun _ _ _ h => h) (Or.inr ⟨by rfl, rfl⟩) (by assumption) ?_
    simp only [Act.put, List.setIfInBounds_toArray, List.set_cons_zero, List.set_cons_succ]
    refine wpAnyH_take (i := 7) (oi := { dst := some 92, op := _, type := _, pos := _, after := _, guard := some (2, false) }) (v := undef) rfl (by kernel_rfl) (by kernel_rfl) (by kernel_rfl) (fun _ _ _ h => h) (Or.inr ⟨by rfl, rfl⟩) (by assumption) ?_
    simp only [Act.put, List.setIfInBounds_toArray, List.set_cons_zero, List.set_cons_succ]
    refine wpAnyH_take (i := 8) (oi := { dst := some 93, op := _, type := _, pos := _, after := _, guard := some (2, false) }) (v := undef) rfl (by kernel_rfl) (by kernel_rfl) (by kernel_rfl) (fun _ _ _ h => h) (Or.inr ⟨by rfl, rfl⟩) (by assumption) ?_
    simp only [Act.put, List.setIfInBounds_toArray, List.set_cons_zero, List.set_cons_succ]
    refine wpAnyH_take (i := 9) (oi := { dst := some 94, op := _, type := _, pos := _, after := _, guard := some (2, false) }) (v := undef) rfl (by kernel_rfl) (by kernel_rfl) (by kernel_rfl) (fun _ _ _ h => h) (Or.inr ⟨by rfl, rfl⟩) (by assumption) ?_
    simp only [Act.put, List.setIfInBounds_toArray, List.set_cons_zero, List.set_cons_succ]
    refine wpAnyH_take (i := 10) (oi := { dst := some 95, op := _, type := _, pos := _, after := _, guard := some (2, false) }) (v := undef) rfl (by kernel_rfl) (by kernel_rfl) (by kernel_rfl) (fun _ _ _ h => h) (Or.inr ⟨by rfl, rfl⟩) (by assumption) ?_
    simp only [Act.put, List.setIfInBounds_toArray, List.set_cons_zero, List.set_cons_succ]
    refine wpAnyH_take (i := 11) (oi := { dst := some 96, op := _, type := _, pos := _, after := _, guard := some (2, false) }) (v := undef) rfl (by kernel_rfl) (by kernel_rfl) (by kernel_rfl) (fun _ _ _ h => h) (Or.inr ⟨by rfl, rfl⟩) (by assumption) ?_
    simp only [Act.put, List.setIfInBounds_toArray, List.set_cons_zero, List.set_cons_succ]
    refine wpAnyH_take (i := 12) (oi := { dst := some 97, op := _, type := _, pos := _, after := _, guard := some (2, false) }) (v := undef) rfl (by kernel_rfl) (by kernel_rfl) (by kernel_rfl) (fun _ _ _ h => h) (Or.inr ⟨by rfl, rfl⟩) (by assumption) ?_
    simp only [Act.put, List.setIfInBounds_toArray, List.set_cons_zero, List.set_cons_succ]
    refine wpAnyH_take (i := 13) (oi := { dst := some 98, op := _, type := _, pos := _, after := _, guard := some (2, false) }) (v := undef) rfl (by kernel_rfl) (by kernel_rfl) (by kernel_rfl) (fun _ _ _ h => h) (Or.inr ⟨by rfl, rfl⟩) (by assumption) ?_
    simp only [Act.put, List.setIfInBounds_toArray, List.set_cons_zero, List.set_cons_succ]
    refine wpAnyH_take (i := 14) (oi := { dst := some 99, op := _, type := _, pos := _, after := _, guard := some (2, false) }) (v := undef) rfl (by kernel_rfl) (by kernel_rfl) (by kernel_rfl) (fun _ _ _ h => h) (Or.inr ⟨by rfl, rfl⟩) (by assumption) ?_
    simp only [Act.put, List.setIfInBounds_toArray, List.set_cons_zero, List.set_cons_succ]
    refine wpAnyH_take (i := 15) (oi := { dst := some 100, op := .pick (.tmp 87) (.const (.bool true)) (.tmp 99), type := _, pos := _, after := _, guard := none }) (v := (.bool true)) rfl (by kernel_rfl) (by kernel_rfl) (by kernel_rfl) (fun _ _ _ h => h) (Or.inl ⟨by rfl, fun w hSw => by (try dsimp only at hSw); go_simp⟩) (by assumption) ?_
    simp only [Act.put, List.setIfInBounds_toArray, List.set_cons_zero, List.set_cons_succ]
    refine wpAnyH_take (i := 16) (oi := { dst := some 101, op := .move (.tmp 100), type := _, pos := _, after := _, guard := none }) (v := (.bool true)) rfl (by kernel_rfl) (by kernel_rfl) (by kernel_rfl) (fun _ _ _ h => h) (Or.inl ⟨by rfl, fun w hSw => by (try dsimp only at hSw); go_simp⟩) (by assumption) ?_
    simp only [Act.put, List.setIfInBounds_toArray, List.set_cons_zero, List.set_cons_succ]
    refine wpAnyH_take (i := 17) (oi := { dst := some 102, op := _, type := _, pos := _, after := _, guard := some (16, false) }) (v := undef) rfl (by kernel_rfl) (by kernel_rfl) (by kernel_rfl) (fun _ _ _ h => h) (Or.inr ⟨by rfl, rfl⟩) (by assumption) ?_
    simp only [Act.put, List.setIfInBounds_toArray, List.set_cons_zero, List.set_cons_succ]
    refine wpAnyH_take (i := 18) (oi := { dst := some 103, op := _, type := _, pos := _, after := _, guard := some (16, false) }) (v := undef) rfl (by kernel_rfl) (by kernel_rfl) (by kernel_rfl) (fun _ _ _ h => h) (Or.inr ⟨by rfl, rfl⟩) (by assumption) ?_
    simp only [Act.put, List.setIfInBounds_toArray, List.set_cons_zero, List.set_cons_succ]
    refine wpAnyH_take (i := 19) (oi := { dst := some 104, op := .pick (.tmp 101) (.const (.bool true)) (.tmp 103), type := _, pos := _, after := _, guard := none }) (v := (.bool true)) rfl (by kernel_rfl) (by kernel_rfl) (by kernel_rfl) (fun _ _ _ h => h) (Or.inl ⟨by rfl, fun w hSw => by (try dsimp only at hSw); go_simp⟩) (by assumption) ?_
    simp only [Act.put, List.setIfInBounds_toArray, List.set_cons_zero, List.set_cons_succ]
    refine wpAnyH_take (i := 20) (oi := { dst := some 6, op := .assign (.tmp 104), type := _, pos := _, after := _, guard := none }) (v := (.bool true)) rfl (by kernel_rfl) (by kernel_rfl) (by kernel_rfl) (fun _ _ _ h => h) (Or.inl ⟨by rfl, fun w hSw => by (try dsimp only at hSw); go_simp⟩) (by assumption) ?_
    simp only [Act.put, List.setIfInBounds_toArray, List.set_cons_zero, List.set_cons_succ]
    refine wpAnyH_done (by kernel_rfl) ?_ _
    refine NoPanic.normal ?_
    go_wp2_with fail
    go_ret
    exact D.out
  · refine (T1.out hz _).mono ?_
    rintro e w1 ⟨rfl, hk1⟩
    have K1 := hid (none_trans HK0.out hk1)
    clear c0 c1 c2 c3 c4 c5 c6 c7 c8 c9 s0 s1 s2 s3 s4 hk1 hV
    go_upto_region 14 with fail
    obtain ⟨tp, htp⟩ : ∃ tp, tp = t.m.n - 2 ^ x.o := ⟨_, rfl⟩
    rw [← htp]
    have HTP := hid htp
    have HD := hid (HH.out.keep (none_trans K1.out (Kept.refl none' w1).drew))
    have KD := hid (none_trans K1.out (Kept.refl none' w1).drew)
    have hlv : liveL ls (tp : Int) (x.o : Int) = true ∨ liveL ls (tp : Int) (x.o : Int) = false := by cases liveL ls (tp : Int) (x.o : Int) <;> simp
    have IL := hid (show Calls Tryz.prog 45 #[.agg #[.int .i64 (x.o : Int), .int .i64 (t.m.n : Int), .slice fa (x.o + 1) fc, .slice va n vc], .int .i64 (tp : Int), .int .i64 (x.o : Int)] w1.drew fun e w' => e = .returned (.bool (liveL ls (tp : Int) (x.o : Int))) ∧ Kept none' w1.drew w' from by
      have h1 := HD.out.rn
      have e1 := LST.out
      subst e1
      exact IsLive5 (x.o : Int) (t.m.n : Int) fa (x.o + 1) fc va vc ls hc (tp : Int) (x.o : Int) w1.drew h1)
    obtain ⟨d0, d1, d2, d3, d4, d5, d6, d7, d8, d9⟩ := HD.out.law.c
    clear htp
    have ht0 : ¬ (tp : Int) < 0 := by omega
    have htb : decide ((tp : Int) < 0) = false := decide_eq_false ht0
    rcases hlv with hl | hl
    · as_aux_lemma =>
      rw [hl] at IL
      have HM := hid (show (t.m.n - 2 ^ x.o, x.o) ∈ ls from by
        obtain ⟨⟨p, k⟩, hm, h2⟩ := List.any_eq_true.1 hl
        rw [Bool.and_eq_true, decide_eq_true_iff, decide_eq_true_iff] at h2
        have e1 : p = tp := by have := h2.1; exact Int.ofNat.inj this
        have e2 : k = x.o := by have := h2.2; exact Int.ofNat.inj this
        rw [e1, e2, HTP.out] at hm
        exact hm)
      have HR := hid (show x.R ≤ x.n from by
        have h1 := HH.out.law.bd.hR
        have h2 := HST.out
        rw [← h2, h1, Nat.mul_comm]
        exact Nat.mul_le_mul_right _ hz)
      refine wp_region_noPanic ?_
      refine wp_region_any (by kernel_rfl) ?_
      change wpAny _ _ _ _ _ _ _ (World.drew _)
      refine wpAny_take (i := 0) (oi := { dst := some 85, op := .move (.tmp 11), type := _, pos := _, after := _, guard := none }) (v := (.int .i64 (tp : Int))) rfl (by kernel_rfl) (by kernel_rfl) (by kernel_rfl) (fun _ _ _ h => h) (Or.inl ⟨by rfl, fun w => by go_simp⟩) ?_
      simp only [Act.put, List.setIfInBounds_toArray, List.set_cons_zero, List.set_cons_succ]
      refine wpAny_take (i := 1) (oi := { dst := some 86, op := .binOp .lss _ (.tmp 85) (.const (.int .i64 0)) _, type := _, pos := _, after := _, guard := none }) (v := (.bool false)) rfl (by kernel_rfl) (by kernel_rfl) (by kernel_rfl) (fun _ _ _ h => h) (Or.inl ⟨by rfl, fun w => by go_simp⟩) ?_
      simp only [Act.put, List.setIfInBounds_toArray, List.set_cons_zero, List.set_cons_succ]
      refine wpAny_take (i := 2) (oi := { dst := some 87, op := .move (.tmp 86), type := _, pos := _, after := _, guard := none }) (v := (.bool false)) rfl (by kernel_rfl) (by kernel_rfl) (by kernel_rfl) (fun _ _ _ h => h) (Or.inl ⟨by rfl, fun w => by go_simp⟩) ?_
      simp only [Act.put, List.setIfInBounds_toArray, List.set_cons_zero, List.set_cons_succ]
      refine wpAny_take (i := 3) (oi := { dst := some 88, op := .move (.tmp 0), type := _, pos := _, after := _, guard := some (2, false) }) (v := (.pointer (some ⟨lw, 0, none⟩))) rfl (by kernel_rfl) (by kernel_rfl) (by kernel_rfl) (fun _ _ _ h => h) (Or.inl ⟨by rfl, fun w => by go_simp⟩) ?_
      simp only [Act.put, List.setIfInBounds_toArray, List.set_cons_zero, List.set_cons_succ]
      refine wpAny_take (i := 4) (oi := { dst := some 89, op := .nilCheck (.tmp 88), type := _, pos := _, after := _, guard := some (2, false) }) (v := (.pointer (some ⟨lw, 0, none⟩))) rfl (by kernel_rfl) (by kernel_rfl) (by kernel_rfl) (fun _ _ _ h => h) (Or.inl ⟨by rfl, fun w => by go_simp⟩) ?_
      simp only [Act.put, List.setIfInBounds_toArray, List.set_cons_zero, List.set_cons_succ]
      refine wpAny_take (i := 5) (oi := { dst := some 90, op := .fieldAddr _ (.tmp 89) 4, type := _, pos := _, after := _, guard := some (2, false) }) (v := (.pointer (some ⟨lw, 6, none⟩))) rfl (by kernel_rfl) (by kernel_rfl) (by kernel_rfl) (fun _ _ _ h => h) (Or.inl ⟨by rfl, fun w => by go_simp⟩) ?_
      simp only [Act.put, List.setIfInBounds_toArray, List.set_cons_zero, List.set_cons_succ]
      refine wpAny_take (i := 7) (oi := { dst := some 92, op := .move (.tmp 11), type := _, pos := _, after := _, guard := some (2, false) }) (v := (.int .i64 (tp : Int))) rfl (by kernel_rfl) (by kernel_rfl) (by kernel_rfl) (fun _ _ _ h => h) (Or.inl ⟨by rfl, fun w => by go_simp⟩) ?_
      simp only [Act.put, List.setIfInBounds_toArray, List.set_cons_zero, List.set_cons_succ]
      refine wpAny_take (i := 8) (oi := { dst := some 93, op := .move (.tmp 0), type := _, pos := _, after := _, guard := some (2, false) }) (v := (.pointer (some ⟨lw, 0, none⟩))) rfl (by kernel_rfl) (by kernel_rfl) (by kernel_rfl) (fun _ _ _ h => h) (Or.inl ⟨by rfl, fun w => by go_simp⟩) ?_
      simp only [Act.put, List.setIfInBounds_toArray, List.set_cons_zero, List.set_cons_succ]
      refine wpAny_take (i := 9) (oi := { dst := some 94, op := .nilCheck (.tmp 93), type := _, pos := _, after := _, guard := some (2, false) }) (v := (.pointer (some ⟨lw, 0, none⟩))) rfl (by kernel_rfl) (by kernel_rfl) (by kernel_rfl) (fun _ _ _ h => h) (Or.inl ⟨by rfl, fun w => by go_simp⟩) ?_
      simp only [Act.put, List.setIfInBounds_toArray, List.set_cons_zero, List.set_cons_succ]
      refine wpAny_take (i := 10) (oi := { dst := some 95, op := .fieldAddr _ (.tmp 94) 0, type := _, pos := _, after := _, guard := some (2, false) }) (v := (.pointer (some ⟨lw, 0, none⟩))) rfl (by kernel_rfl) (by kernel_rfl) (by kernel_rfl) (fun _ _ _ h => h) (Or.inl ⟨by rfl, fun w => by go_simp⟩) ?_
      simp only [Act.put, List.setIfInBounds_toArray, List.set_cons_zero, List.set_cons_succ]
      refine wpAny_take (i := 11) (oi := { dst := some 96, op := .fieldAddr _ (.tmp 95) 2, type := _, pos := _, after := _, guard := some (2, false) }) (v := (.pointer (some ⟨lw, 2, none⟩))) rfl (by kernel_rfl) (by kernel_rfl) (by kernel_rfl) (fun _ _ _ h => h) (Or.inl ⟨by rfl, fun w => by go_simp⟩) ?_
      simp only [Act.put, List.setIfInBounds_toArray, List.set_cons_zero, List.set_cons_succ]
      refine wpAny_ready (rs := [6, 12]) (by kernel_rfl) (by simp) ?_
      refine AllReady.cons rfl (fun K hK0 => ?_) (AllReady.cons rfl (fun K hK0 => ?_) AllReady.nil)
      · as_aux_lemma =>
        have hK := hid hK0
        clear hK0
        go_simp
        refine hK.out _ _ ?_
        clear hK K
        try simp only [Act.put, List.setIfInBounds_toArray, List.set_cons_zero, List.set_cons_succ]
        refine wpAny_ready (rs := [12]) (by kernel_rfl) (by simp) ?_
        refine AllReady.cons rfl (fun K hK0 => ?_) AllReady.nil
        have hK := hid hK0
        clear hK0
        go_simp
        refine hK.out _ _ ?_
        clear hK K
        try simp only [Act.put, List.setIfInBounds_toArray, List.set_cons_zero, List.set_cons_succ]
        refine wpAny_ready (rs := [13]) (by kernel_rfl) (by simp) ?_
        refine AllReady.cons rfl (fun K hK0 => ?_) AllReady.nil
        have hK := hid hK0
        clear hK0
        go_simp
        refine IL.out.mono ?_
        rintro e w2 ⟨rfl, hk⟩
        have H2 := hid (HD.out.keep hk)
        have K2 := hid (none_trans KD.out hk)
        clear hk
        refine hK.out _ _ ?_
        clear hK K
        try simp only [Act.put, List.setIfInBounds_toArray, List.set_cons_zero, List.set_cons_succ]
        refine wpAny_take (i := 14) (oi := { dst := some 99, op := .unOp .not _ (.tmp 98), type := _, pos := _, after := _, guard := some (2, false) }) (v := (.bool false)) rfl (by kernel_rfl) (by kernel_rfl) (by kernel_rfl) (fun _ _ _ h => h) (Or.inl ⟨by rfl, fun w => by go_simp⟩) ?_
        simp only [Act.put, List.setIfInBounds_toArray, List.set_cons_zero, List.set_cons_succ]
        refine wpAny_take (i := 15) (oi := { dst := some 100, op := .pick (.tmp 87) (.const (.bool true)) (.tmp 99), type := _, pos := _, after := _, guard := none }) (v := (.bool false)) rfl (by kernel_rfl) (by kernel_rfl) (by kernel_rfl) (fun _ _ _ h => h) (Or.inl ⟨by rfl, fun w => by go_simp⟩) ?_
        simp only [Act.put, List.setIfInBounds_toArray, List.set_cons_zero, List.set_cons_succ]
        refine wpAny_take (i := 16) (oi := { dst := some 101, op := .move (.tmp 100), type := _, pos := _, after := _, guard := none }) (v := (.bool false)) rfl (by kernel_rfl) (by kernel_rfl) (by kernel_rfl) (fun _ _ _ h => h) (Or.inl ⟨by rfl, fun w => by go_simp⟩) ?_
        simp only [Act.put, List.setIfInBounds_toArray, List.set_cons_zero, List.set_cons_succ]
        refine wpAny_take (i := 17) (oi := { dst := some 102, op := .move (.tmp 0), type := _, pos := _, after := _, guard := some (16, false) }) (v := (.pointer (some ⟨lw, 0, none⟩))) rfl (by kernel_rfl) (by kernel_rfl) (by kernel_rfl) (fun _ _ _ h => h) (Or.inl ⟨by rfl, fun w => by go_simp⟩) ?_
        simp only [Act.put, List.setIfInBounds_toArray, List.set_cons_zero, List.set_cons_succ]
        refine wpAny_ready (rs := [18]) (by kernel_rfl) (by simp) ?_
        refine AllReady.cons rfl (fun K hK0 => ?_) AllReady.nil
        have hK := hid hK0
        clear hK0
        go_simp
        refine (goes_x lw x t t.m.n fa (x.o + 1) fc va n vc hc ls LST.out w w2 H2.out.law H2.out.rn HR.out rfl hz).mono ?_
        rintro e w3 hq
        obtain ⟨he, hs⟩ := H2.out.goes HM.out hz hq
        subst he
        have S3 := hid (hs.kl K2.out HEX.out)
        clear hs hq
        refine hK.out _ _ ?_
        clear hK K
        try simp only [Act.put, List.setIfInBounds_toArray, List.set_cons_zero, List.set_cons_succ]
        refine wpAny_take (i := 19) (oi := { dst := some 104, op := .pick (.tmp 101) (.const (.bool true)) (.tmp 103), type := _, pos := _, after := _, guard := none }) (v := (.bool true)) rfl (by kernel_rfl) (by kernel_rfl) (by kernel_rfl) (fun _ _ _ h => h) (Or.inl ⟨by rfl, fun w => by go_simp⟩) ?_
        simp only [Act.put, List.setIfInBounds_toArray, List.set_cons_zero, List.set_cons_succ]
        refine wpAny_take (i := 20) (oi := { dst := some 6, op := .assign (.tmp 104), type := _, pos := _, after := _, guard := none }) (v := (.bool true)) rfl (by kernel_rfl) (by kernel_rfl) (by kernel_rfl) (fun _ _ _ h => h) (Or.inl ⟨by rfl, fun w => by go_simp⟩) ?_
        simp only [Act.put, List.setIfInBounds_toArray, List.set_cons_zero, List.set_cons_succ]
        refine wpAny_done (by kernel_rfl) ?_ _
        refine NoPanic.normal ?_
        go_wp2_with fail
        go_ret
        exact S3.out
      · as_aux_lemma =>
        have hK := hid hK0
        clear hK0
        go_simp
        refine hK.out _ _ ?_
        clear hK K
        try simp only [Act.put, List.setIfInBounds_toArray, List.set_cons_zero, List.set_cons_succ]
        refine wpAny_ready (rs := [6]) (by kernel_rfl) (by simp) ?_
        refine AllReady.cons rfl (fun K hK0 => ?_) AllReady.nil
        have hK := hid hK0
        clear hK0
        go_simp
        refine hK.out _ _ ?_
        clear hK K
        try simp only [Act.put, List.setIfInBounds_toArray, List.set_cons_zero, List.set_cons_succ]
        refine wpAny_ready (rs := [13]) (by kernel_rfl) (by simp) ?_
        refine AllReady.cons rfl (fun K hK0 => ?_) AllReady.nil
        have hK := hid hK0
        clear hK0
        go_simp
        refine IL.out.mono ?_
        rintro e w2 ⟨rfl, hk⟩
        have H2 := hid (HD.out.keep hk)
        have K2 := hid (none_trans KD.out hk)
        clear hk
        refine hK.out _ _ ?_
        clear hK K
        try simp only [Act.put, List.setIfInBounds_toArray, List.set_cons_zero, List.set_cons_succ]
        refine wpAny_take (i := 14) (oi := { dst := some 99, op := .unOp .not _ (.tmp 98), type := _, pos := _, after := _, guard := some (2, false) }) (v := (.bool false)) rfl (by kernel_rfl) (by kernel_rfl) (by kernel_rfl) (fun _ _ _ h => h) (Or.inl ⟨by rfl, fun w => by go_simp⟩) ?_
        simp only [Act.put, List.setIfInBounds_toArray, List.set_cons_zero, List.set_cons_succ]
        refine wpAny_take (i := 15) (oi := { dst := some 100, op := .pick (.tmp 87) (.const (.bool true)) (.tmp 99), type := _, pos := _, after := _, guard := none }) (v := (.bool false)) rfl (by kernel_rfl) (by kernel_rfl) (by kernel_rfl) (fun _ _ _ h => h) (Or.inl ⟨by rfl, fun w => by go_simp⟩) ?_
        simp only [Act.put, List.setIfInBounds_toArray, List.set_cons_zero, List.set_cons_succ]
        refine wpAny_take (i := 16) (oi := { dst := some 101, op := .move (.tmp 100), type := _, pos := _, after := _, guard := none }) (v := (.bool false)) rfl (by kernel_rfl) (by kernel_rfl) (by kernel_rfl) (fun _ _ _ h => h) (Or.inl ⟨by rfl, fun w => by go_simp⟩) ?_
        simp only [Act.put, List.setIfInBounds_toArray, List.set_cons_zero, List.set_cons_succ]
        refine wpAny_take (i := 17) (oi := { dst := some 102, op := .move (.tmp 0), type := _, pos := _, after := _, guard := some (16, false) }) (v := (.pointer (some ⟨lw, 0, none⟩))) rfl (by kernel_rfl) (by kernel_rfl) (by kernel_rfl) (fun _ _ _ h => h) (Or.inl ⟨by rfl, fun w => by go_simp⟩) ?_
        simp only [Act.put, List.setIfInBounds_toArray, List.set_cons_zero, List.set_cons_succ]
        refine wpAny_ready (rs := [18]) (by kernel_rfl) (by simp) ?_
        refine AllReady.cons rfl (fun K hK0 => ?_) AllReady.nil
        have hK := hid hK0
        clear hK0
        go_simp
        refine (goes_x lw x t t.m.n fa (x.o + 1) fc va n vc hc ls LST.out w w2 H2.out.law H2.out.rn HR.out rfl hz).mono ?_
        rintro e w3 hq
        obtain ⟨he, hs⟩ := H2.out.goes HM.out hz hq
        subst he
        have S3 := hid (hs.kl K2.out HEX.out)
        clear hs hq
        refine hK.out _ _ ?_
        clear hK K
        try simp only [Act.put, List.setIfInBounds_toArray, List.set_cons_zero, List.set_cons_succ]
        refine wpAny_take (i := 19) (oi := { dst := some 104, op := .pick (.tmp 101) (.const (.bool true)) (.tmp 103), type := _, pos := _, after := _, guard := none }) (v := (.bool true)) rfl (by kernel_rfl) (by kernel_rfl) (by kernel_rfl) (fun _ _ _ h => h) (Or.inl ⟨by rfl, fun w => by go_simp⟩) ?_
        simp only [Act.put, List.setIfInBounds_toArray, List.set_cons_zero, List.set_cons_succ]
        refine wpAny_take (i := 20) (oi := { dst := some 6, op := .assign (.tmp 104), type := _, pos := _, after := _, guard := none }) (v := (.bool true)) rfl (by kernel_rfl) (by kernel_rfl) (by kernel_rfl) (fun _ _ _ h => h) (Or.inl ⟨by rfl, fun w => by go_simp⟩) ?_
        simp only [Act.put, List.setIfInBounds_toArray, List.set_cons_zero, List.set_cons_succ]
        refine wpAny_done (by kernel_rfl) ?_ _
        refine NoPanic.normal ?_
        go_wp2_with fail
        go_ret
        exact S3.out
    · as_aux_lemma =>
      rw [hl] at IL
      refine wp_region_noPanic ?_
      refine wp_region_held_drew (S := (fun w' => w'.cell? ⟨lw, 2, none⟩ = some (.int .i64 (x.o : Int)) ∧ w'.cell? ⟨lw, 6, none⟩ = some (.int .i64 (x.o : Int)) ∧ w'.cell? ⟨lw, 7, none⟩ = some (.int .i64 (t.m.n : Int)) ∧ w'.cell? ⟨lw, 8, none⟩ = some (.slice fa (x.o + 1) fc) ∧ w'.cell? ⟨lw, 9, none⟩ = some (.slice va n vc))) (by kernel_rfl) ⟨d2, d6, d7, d8, d9⟩ (fun hHeld => ?_)
      refine wpAnyH_take (i := 0) (oi := { dst := some 85, op := .move (.tmp 11), type := _, pos := _, after := _, guard := none }) (v := (.int .i64 (tp : Int))) rfl (by kernel_rfl) (by kernel_rfl) (by kernel_rfl) (fun _ _ _ h => h) (Or.inl ⟨by rfl, fun w hSw => by (try dsimp only at hSw); go_simp⟩) (by assumption) ?_
      simp only [Act.put, List.setIfInBounds_toArray, List.set_cons_zero, List.set_cons_succ]
      refine wpAnyH_take (i := 1) (oi := { dst := some 86, op := .binOp .lss _ (.tmp 85) (.const (.int .i64 0)) _, type := _, pos := _, after := _, guard := none }) (v := (.bool false)) rfl (by kernel_rfl) (by kernel_rfl) (by kernel_rfl) (fun _ _ _ h => h) (Or.inl ⟨by rfl, fun w hSw => by (try dsimp only at hSw); go_simp⟩) (by assumption) ?_
      simp only [Act.put, List.setIfInBounds_toArray, List.set_cons_zero, List.set_cons_succ]
      refine wpAnyH_take (i := 2) (oi := { dst := some 87, op := .move (.tmp 86), type := _, pos := _, after := _, guard := none }) (v := (.bool false)) rfl (by kernel_rfl) (by kernel_rfl) (by kernel_rfl) (fun _ _ _ h => h) (Or.inl ⟨by rfl, fun w hSw => by (try dsimp only at hSw); go_simp⟩) (by assumption) ?_
      simp only [Act.put, List.setIfInBounds_toArray, List.set_cons_zero, List.set_cons_succ]
      refine wpAnyH_take (i := 3) (oi := { dst := some 88, op := .move (.tmp 0), type := _, pos := _, after := _, guard := some (2, false) }) (v := (.pointer (some ⟨lw, 0, none⟩))) rfl (by kernel_rfl) (by kernel_rfl) (by kernel_rfl) (fun _ _ _ h => h) (Or.inl ⟨by rfl, fun w hSw => by (try dsimp only at hSw); go_simp⟩) (by assumption) ?_
      simp only [Act.put, List.setIfInBounds_toArray, List.set_cons_zero, List.set_cons_succ]
      refine wpAnyH_take (i := 4) (oi := { dst := some 89, op := .nilCheck (.tmp 88), type := _, pos := _, after := _, guard := some (2, false) }) (v := (.pointer (some ⟨lw, 0, none⟩))) rfl (by kernel_rfl) (by kernel_rfl) (by kernel_rfl) (fun _ _ _ h => h) (Or.inl ⟨by rfl, fun w hSw => by (try dsimp only at hSw); go_simp⟩) (by assumption) ?_
      simp only [Act.put, List.setIfInBounds_toArray, List.set_cons_zero, List.set_cons_succ]
      refine wpAnyH_take (i := 5) (oi := { dst := some 90, op := .fieldAddr _ (.tmp 89) 4, type := _, pos := _, after := _, guard := some (2, false) }) (v := (.pointer (some ⟨lw, 6, none⟩))) rfl (by kernel_rfl) (by kernel_rfl) (by kernel_rfl) (fun _ _ _ h => h) (Or.inl ⟨by rfl, fun w hSw => by (try dsimp only at hSw); go_simp⟩) (by assumption) ?_
      simp only [Act.put, List.setIfInBounds_toArray, List.set_cons_zero, List.set_cons_succ]
      refine wpAnyH_take (i := 6) (oi := { dst := some 91, op := .load _ (.tmp 90), type := _, pos := _, after := _, guard := some (2, false) }) (v := (.agg #[.int .i64 (x.o : Int), .int .i64 (t.m.n : Int), .slice fa (x.o + 1) fc, .slice va n vc])) rfl (by kernel_rfl) (by kernel_rfl) (by kernel_rfl) (fun _ _ _ h => h) (Or.inl ⟨by rfl, fun w hSw => by (try dsimp only at hSw); go_simp⟩) (by assumption) ?_
      simp only [Act.put, List.setIfInBounds_toArray, List.set_cons_zero, List.set_cons_succ]
      refine wpAnyH_take (i := 7) (oi := { dst := some 92, op := .move (.tmp 11), type := _, pos := _, after := _, guard := some (2, false) }) (v := (.int .i64 (tp : Int))) rfl (by kernel_rfl) (by kernel_rfl) (by kernel_rfl) (fun _ _ _ h => h) (Or.inl ⟨by rfl, fun w hSw => by (try dsimp only at hSw); go_simp⟩) (by assumption) ?_
      simp only [Act.put, List.setIfInBounds_toArray, List.set_cons_zero, List.set_cons_succ]
      refine wpAnyH_take (i := 8) (oi := { dst := some 93, op := .move (.tmp 0), type := _, pos := _, after := _, guard := some (2, false) }) (v := (.pointer (some ⟨lw, 0, none⟩))) rfl (by kernel_rfl) (by kernel_rfl) (by kernel_rfl) (fun _ _ _ h => h) (Or.inl ⟨by rfl, fun w hSw => by (try dsimp only at hSw); go_simp⟩) (by assumption) ?_
      simp only [Act.put, List.setIfInBounds_toArray, List.set_cons_zero, List.set_cons_succ]
      refine wpAnyH_take (i := 9) (oi := { dst := some 94, op := .nilCheck (.tmp 93), type := _, pos := _, after := _, guard := some (2, false) }) (v := (.pointer (some ⟨lw, 0, none⟩))) rfl (by kernel_rfl) (by kernel_rfl) (by kernel_rfl) (fun _ _ _ h => h) (Or.inl ⟨by rfl, fun w hSw => by (try dsimp only at hSw); go_simp⟩) (by assumption) ?_
      simp only [Act.put, List.setIfInBounds_toArray, List.set_cons_zero, List.set_cons_succ]
      refine wpAnyH_take (i := 10) (oi := { dst := some 95, op := .fieldAddr _ (.tmp 94) 0, type := _, pos := _, after := _, guard := some (2, false) }) (v := (.pointer (some ⟨lw, 0, none⟩))) rfl (by kernel_rfl) (by kernel_rfl) (by kernel_rfl) (fun _ _ _ h => h) (Or.inl ⟨by rfl, fun w hSw => by (try dsimp only at hSw); go_simp⟩) (by assumption) ?_
      simp only [Act.put, List.setIfInBounds_toArray, List.set_cons_zero, List.set_cons_succ]
      refine wpAnyH_take (i := 11) (oi := { dst := some 96, op := .fieldAddr _ (.tmp 95) 2, type := _, pos := _, after := _, guard := some (2, false) }) (v := (.pointer (some ⟨lw, 2, none⟩))) rfl (by kernel_rfl) (by kernel_rfl) (by kernel_rfl) (fun _ _ _ h => h) (Or.inl ⟨by rfl, fun w hSw => by (try dsimp only at hSw); go_simp⟩) (by assumption) ?_
      simp only [Act.put, List.setIfInBounds_toArray, List.set_cons_zero, List.set_cons_succ]
      refine wpAnyH_take (i := 12) (oi := { dst := some 97, op := .load _ (.tmp 96), type := _, pos := _, after := _, guard := some (2, false) }) (v := (.int .i64 (x.o : Int))) rfl (by kernel_rfl) (by kernel_rfl) (by kernel_rfl) (fun _ _ _ h => h) (Or.inl ⟨by rfl, fun w hSw => by (try dsimp only at hSw); go_simp⟩) (by assumption) ?_
      simp only [Act.put, List.setIfInBounds_toArray, List.set_cons_zero, List.set_cons_succ]
      refine wpAnyH_ready (rs := [13]) (by kernel_rfl) (by simp) ?_
      refine AllReadyH.cons rfl (fun K hK => ?_) AllReadyH.nil
      go_simp
      refine IL.out.mono ?_
      rintro e w2 ⟨rfl, hk⟩
      have H2 := hid (HD.out.keep hk)
      have K2 := hid (none_trans KD.out hk)
      obtain ⟨_, _, y2, _, _, _, y6, y7, y8, y9⟩ := H2.out.law.c
      clear hk
      refine hK.out _ _ ⟨y2, y6, y7, y8, y9⟩ (fun hHeld2 => ?_)
      clear hK K hHeld
      try simp only [Act.put, List.setIfInBounds_toArray, List.set_cons_zero, List.set_cons_succ]
      refine wpAnyH_take (i := 14) (oi := { dst := some 99, op := .unOp .not _ (.tmp 98), type := _, pos := _, after := _, guard := some (2, false) }) (v := (.bool true)) rfl (by kernel_rfl) (by kernel_rfl) (by kernel_rfl) (fun _ _ _ h => h) (Or.inl ⟨by rfl, fun w hSw => by (try dsimp only at hSw); go_simp⟩) (by assumption) ?_
      simp only [Act.put, List.setIfInBounds_toArray, List.set_cons_zero, List.set_cons_succ]
      refine wpAnyH_take (i := 15) (oi := { dst := some 100, op := .pick (.tmp 87) (.const (.bool true)) (.tmp 99), type := _, pos := _, after := _, guard := none }) (v := (.bool true)) rfl (by kernel_rfl) (by kernel_rfl) (by kernel_rfl) (fun _ _ _ h => h) (Or.inl ⟨by rfl, fun w hSw => by (try dsimp only at hSw); go_simp⟩) (by assumption) ?_
      simp only [Act.put, List.setIfInBounds_toArray, List.set_cons_zero, List.set_cons_succ]
      refine wpAnyH_take (i := 16) (oi := { dst := some 101, op := .move (.tmp 100), type := _, pos := _, after := _, guard := none }) (v := (.bool true)) rfl (by kernel_rfl) (by kernel_rfl) (by kernel_rfl) (fun _ _ _ h => h) (Or.inl ⟨by rfl, fun w hSw => by (try dsimp only at hSw); go_simp⟩) (by assumption) ?_
      simp only [Act.put, List.setIfInBounds_toArray, List.set_cons_zero, List.set_cons_succ]
      refine wpAnyH_take (i := 17) (oi := { dst := some 102, op := _, type := _, pos := _, after := _, guard := some (16, false) }) (v := undef) rfl (by kernel_rfl) (by kernel_rfl) (by kernel_rfl) (fun _ _ _ h => h) (Or.inr ⟨by rfl, rfl⟩) (by assumption) ?_
      simp only [Act.put, List.setIfInBounds_toArray, List.set_cons_zero, List.set_cons_succ]
      refine wpAnyH_take (i := 18) (oi := { dst := some 103, op := _, type := _, pos := _, after := _, guard := some (16, false) }) (v := undef) rfl (by kernel_rfl) (by kernel_rfl) (by kernel_rfl) (fun _ _ _ h => h) (Or.inr ⟨by rfl, rfl⟩) (by assumption) ?_
      simp only [Act.put, List.setIfInBounds_toArray, List.set_cons_zero, List.set_cons_succ]
      refine wpAnyH_take (i := 19) (oi := { dst := some 104, op := .pick (.tmp 101) (.const (.bool true)) (.tmp 103), type := _, pos := _, after := _, guard := none }) (v := (.bool true)) rfl (by kernel_rfl) (by kernel_rfl) (by kernel_rfl) (fun _ _ _ h => h) (Or.inl ⟨by rfl, fun w hSw => by (try dsimp only at hSw); go_simp⟩) (by assumption) ?_
      simp only [Act.put, List.setIfInBounds_toArray, List.set_cons_zero, List.set_cons_succ]
      refine wpAnyH_take (i := 20) (oi := { dst := some 6, op := .assign (.tmp 104), type := _, pos := _, after := _, guard := none }) (v := (.bool true)) rfl (by kernel_rfl) (by kernel_rfl) (by kernel_rfl) (fun _ _ _ h => h) (Or.inl ⟨by rfl, fun w hSw => by (try dsimp only at hSw); go_simp⟩) (by assumption) ?_
      simp only [Act.put, List.setIfInBounds_toArray, List.set_cons_zero, List.set_cons_succ]
      refine wpAnyH_done (by kernel_rfl) ?_ _
      refine NoPanic.normal ?_
      have D := hid (HH.out.stp K2.out)
      go_wp2_with fail
      go_ret
      exact D.out
end Go.Proofs.YthglogiglimebaaGreat
