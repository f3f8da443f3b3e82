import Derived.Test.YthglogiglimebaaGreatPwQ
import Derived.Test.YthglogiglimebaaGreatQi
import Derived.Deep.RegionHeld3
import Derived.Deep.RegionHeldLaw
/- BuddyPlays: the step Come. -/
namespace Go.Proofs.YthglogiglimebaaGreat
open Go.RowKit
set_option linter.unusedVariables false

set_option maxRecDepth 4000 in
set_option maxHeartbeats 2000000 in
theorem step_come {E w W lw c x t fr ls fa fc va n vc} (h : PW E w W lw c x t fr ls fa fc va n vc) (hc : n ≤ 1000) (od tt rf : Int) (sp a : Nat) :
    Calls Tryz.prog 12 #[.pointer (some ⟨lw, 0, none⟩), stV 0 od tt rf sp, .int .u64 (a : Int)] W fun e w' => StP E w W lw (c + 1) e w' := by
  obtain ⟨n1, n2, n3, n4, ⟨r, n5, n6, n7⟩, n8, n9⟩ := h.nums
  have hst := h.st
  have hR1 := h.law.bd.sp.cfg.r1
  have hrr : x.n / x.R = r := by rw [n7]; exact Nat.mul_div_cancel _ (by omega)
  have K0 := (Kept.refl none' W).alloc (stO 0 od tt rf sp)
  have HH := hid h
  have X0 := hid (heap_new W (stO 0 od tt rf sp))
  have H0 := hid (h.keep K0)
  have HK0 := hid K0
  have HN5 := hid n5
  have HN7 := hid n7
  have HN9 := hid n9
  have HST := hid hst
  have HRR := hid hrr
  have HEX := hid (fun y (e : E y) => (h.ex y e).1)
  have LST := hid h.nl
  obtain ⟨s0, s1, s2, s3, s4⟩ := stc8 X0.out
  clear h K0 n5 n7 n9 hst hrr hR1
  generalize hV : W.alloc (stO 0 od tt rf sp) = V0 at *
  go_enter Tryz.func12, Tryz.ntmps12
  go_wp2_with fail
  have HD := hid (H0.out.keep (Kept.refl none' V0).drew)
  have HKD := hid (none_trans HK0.out (Kept.refl none' V0).drew)
  have RG := hid (show Calls Tryz.prog 40 #[.pointer (some ⟨x.s, 0, none⟩)] V0.drew fun e w' => e = .returned (.int .i64 (r : Int)) ∧ Kept none' V0.drew w' from (M.regions_any x.s x.a x.base x.R x.lim x.n t.f V0.drew HD.out.law.bd.sp).mono (by
    rintro e w' ⟨rfl, m, rfl⟩
    exact ⟨by rw [HRR.out], (Kept.refl none' V0.drew).drewN m⟩))
  clear s0 s1 s2 s3 s4 hV
  obtain ⟨_, d2, _, d3, _, d4, _, _, _, _⟩ := HD.out.law.c
  by_cases hr : r = x.lim
  · as_aux_lemma =>
    rw [hr] at RG
    refine wp_region_noPanic ?_
    refine wp_region_held_drew (S := (fun w' => w'.cell? ⟨lw, 1, none⟩ = some (.int .i64 (x.lim : Int)) ∧ w'.cell? ⟨lw, 3, none⟩ = some (.pointer (some ⟨x.s, 0, none⟩)))) (by kernel_rfl) ⟨d2, d3⟩ (fun hHeld => ?_)
    refine wpAnyH_take (i := 0) (oi := { dst := some 21, op := .move (.tmp 0), type := _, pos := _, after := _, guard := none }) (v := (.pointer (some ⟨lw, 0, none⟩))) rfl (by kernel_rfl) (by kernel_rfl) (by kernel_rfl) (fun _ _ _ h => h) (Or.inl ⟨by rfl, fun w hSw => by (try dsimp only at hSw); go_simp⟩) (by assumption) ?_
    simp only [Act.put, List.setIfInBounds_toArray, List.set_cons_zero, List.set_cons_succ]
    refine wpAnyH_take (i := 1) (oi := { dst := some 22, op := .nilCheck (.tmp 21), type := _, pos := _, after := _, guard := none }) (v := (.pointer (some ⟨lw, 0, none⟩))) rfl (by kernel_rfl) (by kernel_rfl) (by kernel_rfl) (fun _ _ _ h => h) (Or.inl ⟨by rfl, fun w hSw => by (try dsimp only at hSw); go_simp⟩) (by assumption) ?_
    simp only [Act.put, List.setIfInBounds_toArray, List.set_cons_zero, List.set_cons_succ]
    refine wpAnyH_take (i := 2) (oi := { dst := some 23, op := .fieldAddr _ (.tmp 22) 1, type := _, pos := _, after := _, guard := none }) (v := (.pointer (some ⟨lw, 3, none⟩))) rfl (by kernel_rfl) (by kernel_rfl) (by kernel_rfl) (fun _ _ _ h => h) (Or.inl ⟨by rfl, fun w hSw => by (try dsimp only at hSw); go_simp⟩) (by assumption) ?_
    simp only [Act.put, List.setIfInBounds_toArray, List.set_cons_zero, List.set_cons_succ]
    refine wpAnyH_take (i := 3) (oi := { dst := some 24, op := .load _ (.tmp 23), type := _, pos := _, after := _, guard := none }) (v := (.pointer (some ⟨x.s, 0, none⟩))) rfl (by kernel_rfl) (by kernel_rfl) (by kernel_rfl) (fun _ _ _ h => h) (Or.inl ⟨by rfl, fun w hSw => by (try dsimp only at hSw); go_simp⟩) (by assumption) ?_
    simp only [Act.put, List.setIfInBounds_toArray, List.set_cons_zero, List.set_cons_succ]
    refine wpAnyH_take (i := 5) (oi := { dst := some 26, op := .move (.tmp 0), type := _, pos := _, after := _, guard := none }) (v := (.pointer (some ⟨lw, 0, none⟩))) rfl (by kernel_rfl) (by kernel_rfl) (by kernel_rfl) (fun _ _ _ h => h) (Or.inl ⟨by rfl, fun w hSw => by (try dsimp only at hSw); go_simp⟩) (by assumption) ?_
    simp only [Act.put, List.setIfInBounds_toArray, List.set_cons_zero, List.set_cons_succ]
    refine wpAnyH_take (i := 6) (oi := { dst := some 27, op := .nilCheck (.tmp 26), type := _, pos := _, after := _, guard := none }) (v := (.pointer (some ⟨lw, 0, none⟩))) rfl (by kernel_rfl) (by kernel_rfl) (by kernel_rfl) (fun _ _ _ h => h) (Or.inl ⟨by rfl, fun w hSw => by (try dsimp only at hSw); go_simp⟩) (by assumption) ?_
    simp only [Act.put, List.setIfInBounds_toArray, List.set_cons_zero, List.set_cons_succ]
    refine wpAnyH_take (i := 7) (oi := { dst := some 28, op := .fieldAddr _ (.tmp 27) 0, type := _, pos := _, after := _, guard := none }) (v := (.pointer (some ⟨lw, 0, none⟩))) rfl (by kernel_rfl) (by kernel_rfl) (by kernel_rfl) (fun _ _ _ h => h) (Or.inl ⟨by rfl, fun w hSw => by (try dsimp only at hSw); go_simp⟩) (by assumption) ?_
    simp only [Act.put, List.setIfInBounds_toArray, List.set_cons_zero, List.set_cons_succ]
    refine wpAnyH_take (i := 8) (oi := { dst := some 29, op := .fieldAddr _ (.tmp 28) 1, type := _, pos := _, after := _, guard := none }) (v := (.pointer (some ⟨lw, 1, none⟩))) rfl (by kernel_rfl) (by kernel_rfl) (by kernel_rfl) (fun _ _ _ h => h) (Or.inl ⟨by rfl, fun w hSw => by (try dsimp only at hSw); go_simp⟩) (by assumption) ?_
    simp only [Act.put, List.setIfInBounds_toArray, List.set_cons_zero, List.set_cons_succ]
    refine wpAnyH_take (i := 9) (oi := { dst := some 30, op := .load _ (.tmp 29), type := _, pos := _, after := _, guard := none }) (v := (.int .i64 (x.lim : Int))) rfl (by kernel_rfl) (by kernel_rfl) (by kernel_rfl) (fun _ _ _ h => h) (Or.inl ⟨by rfl, fun w hSw => by (try dsimp only at hSw); go_simp⟩) (by assumption) ?_
    simp only [Act.put, List.setIfInBounds_toArray, List.set_cons_zero, List.set_cons_succ]
    refine wpAnyH_ready (rs := [4]) (by kernel_rfl) (by simp) ?_
    refine AllReadyH.cons rfl (fun K hK => ?_) AllReadyH.nil
    go_simp
    refine RG.out.mono ?_
    rintro e w2 ⟨rfl, hk⟩
    have H2 := hid (HD.out.keep hk)
    have K2 := hid (none_trans HKD.out hk)
    obtain ⟨_, y2, _, y3, _, _, _, _, _, _⟩ := H2.out.law.c
    clear hk
    refine hK.out _ _ ⟨y2, y3⟩ (fun hHeld2 => ?_)
    clear hK K hHeld
    try simp only [Act.put, List.setIfInBounds_toArray, List.set_cons_zero, List.set_cons_succ]
    refine wpAnyH_take (i := 10) (oi := { dst := some 31, op := .binOp .eql _ (.tmp 25) (.tmp 30) _, type := _, pos := _, after := _, guard := none }) (v := (.bool true)) rfl (by kernel_rfl) (by kernel_rfl) (by kernel_rfl) (fun _ _ _ h => h) (Or.inl ⟨by rfl, fun w hSw => by (try dsimp only at hSw); go_simp⟩) (by assumption) ?_
    simp only [Act.put, List.setIfInBounds_toArray, List.set_cons_zero, List.set_cons_succ]
    refine wpAnyH_take (i := 11) (oi := { dst := some 32, op := .move (.tmp 31), type := _, pos := _, after := _, guard := none }) (v := (.bool true)) rfl (by kernel_rfl) (by kernel_rfl) (by kernel_rfl) (fun _ _ _ h => h) (Or.inl ⟨by rfl, fun w hSw => by (try dsimp only at hSw); go_simp⟩) (by assumption) ?_
    simp only [Act.put, List.setIfInBounds_toArray, List.set_cons_zero, List.set_cons_succ]
    refine wpAnyH_take (i := 12) (oi := { dst := some 33, op := _, type := _, pos := _, after := _, guard := some (11, false) }) (v := undef) rfl (by kernel_rfl) (by kernel_rfl) (by kernel_rfl) (fun _ _ _ h => h) (Or.inr ⟨by rfl, rfl⟩) (by assumption) ?_
    simp only [Act.put, List.setIfInBounds_toArray, List.set_cons_zero, List.set_cons_succ]
    refine wpAnyH_take (i := 13) (oi := { dst := some 34, op := _, type := _, pos := _, after := _, guard := some (11, false) }) (v := undef) rfl (by kernel_rfl) (by kernel_rfl) (by kernel_rfl) (fun _ _ _ h => h) (Or.inr ⟨by rfl, rfl⟩) (by assumption) ?_
    simp only [Act.put, List.setIfInBounds_toArray, List.set_cons_zero, List.set_cons_succ]
    refine wpAnyH_take (i := 14) (oi := { dst := some 35, op := .pick (.tmp 32) (.const (.bool true)) (.tmp 34), type := _, pos := _, after := _, guard := none }) (v := (.bool true)) rfl (by kernel_rfl) (by kernel_rfl) (by kernel_rfl) (fun _ _ _ h => h) (Or.inl ⟨by rfl, fun w hSw => by (try dsimp only at hSw); go_simp⟩) (by assumption) ?_
    simp only [Act.put, List.setIfInBounds_toArray, List.set_cons_zero, List.set_cons_succ]
    refine wpAnyH_take (i := 15) (oi := { dst := some 6, op := .assign (.tmp 35), type := _, pos := _, after := _, guard := none }) (v := (.bool true)) rfl (by kernel_rfl) (by kernel_rfl) (by kernel_rfl) (fun _ _ _ h => h) (Or.inl ⟨by rfl, fun w hSw => by (try dsimp only at hSw); go_simp⟩) (by assumption) ?_
    simp only [Act.put, List.setIfInBounds_toArray, List.set_cons_zero, List.set_cons_succ]
    refine wpAnyH_done (by kernel_rfl) ?_ _
    refine NoPanic.normal ?_
    have D := hid (HH.out.stp K2.out)
    go_wp2_with fail
    go_ret
    exact D.out
  · as_aux_lemma =>
    have hrI : ¬ (r : Int) = (x.lim : Int) := by omega
    have hrd : decide (r = x.lim) = false := decide_eq_false hr
    have hrb : ((r : Int) == (x.lim : Int)) = false := by simp; omega
    have HK := hid (show ∃ k, x.n = k * x.R ∧ k + 1 ≤ x.lim from ⟨r, HN7.out, by omega⟩)
    have hrl : r + 1 ≤ x.lim := by omega
    have HG := hid (HH.out.limb HN7.out HN5.out hrl)
    go_region_held3 (fun w' => w'.cell? ⟨lw, 1, none⟩ = some (.int .i64 (x.lim : Int)) ∧ w'.cell? ⟨lw, 3, none⟩ = some (.pointer (some ⟨x.s, 0, none⟩))) ((refine ⟨?_, ?_⟩ <;> with_reducible assumption)) (first
      | (go_at_call 40; refine RG.out.mono ?_; rintro e w2 ⟨rfl, hk⟩; have H2 := hid (HD.out.keep hk); have K2 := hid (none_trans HKD.out hk); obtain ⟨_, y2, _, y3, _, _, _, _, _, _⟩ := H2.out.law.c; clear hk)
      | (go_at_call 14; refine (come_x lw x t t.m.n fa (x.o + 1) fc va n vc hc ls LST.out w w2 H2.out.law H2.out.rn HK.out HST.out rfl HG.out.1).mono ?_; rintro e w3 hq; obtain ⟨he, hs⟩ := H2.out.come HG.out.2 hq; subst he; have S3 := hid (hs.kl K2.out HEX.out); obtain ⟨x3, ga3, gc3, _, hl3, _, _, _, _, _, _, _, hlim3, _, _, _, hs3⟩ := hq; obtain ⟨_, u2, _, u3, _, _, _, _, _, _⟩ := hl3.c; rw [hlim3] at u2; rw [hs3] at u3; clear hs hl3)
      | fail)
    all_goals as_aux_lemma =>
      go_wp2_with fail
      go_ret
      exact S3.out
end Go.Proofs.YthglogiglimebaaGreat
