import Derived.Test.YthglogiglimebaaGreatQb
import Derived.Deep.RegionHeld3
/- BuddyPlays: croftref5's Feed, Pull. -/
namespace Go.Proofs.YthglogiglimebaaGreat
open Go.RowKit
set_option linter.unusedVariables false

theorem set4_cell {W : World} {b b' i : Nat} {u v0 v1 v2 v3 : Value} (h : W.cell? ⟨b, i, none⟩ = some u) (hne : b ≠ b') : ((((W.setCell ⟨b', 0, none⟩ v0).setCell ⟨b', 1, none⟩ v1).setCell ⟨b', 2, none⟩ v2).setCell ⟨b', 3, none⟩ v3).cell? ⟨b, i, none⟩ = some u :=
  (set4_k W b' v0 v1 v2 v3).cell hne h
set_option maxRecDepth 4000 in
set_option maxHeartbeats 1000000 in
theorem Feed5_zero (o : Nat) (fa : Option Addr) (fc : Nat) (va : Option Addr) (vc : Nat) (fr : Nat → List Nat) (ls : List (Nat × Nat)) (w : World) (h : FL w fa fc o fr) (hr : RN w (.slice va ls.length vc) ls) :
    Calls Tryz.prog 41 #[r5V (o : Int) 0 (.slice fa (o + 1) fc) (.slice va ls.length vc)] w fun e w' => V5P w (o : Int) 0 o fr ls 9 e w' := by
  obtain ⟨n, hn'⟩ : ∃ n, n = ls.length := ⟨_, rfl⟩
  have B0 := hid (Bz.two (oi := (o : Int)) (P := 0) (.slice va n vc) h)
  have HR := hid hr
  rw [← hn']
  have HN := hid hn'
  clear h hr hn'
  go_enter Tryz.func41, Tryz.ntmps41
  go_wp2_with fail
  generalize (w.alloc (r5O (o : Int) 0 (.slice fa (o + 1) fc) (.slice va n vc))).alloc r5Z = W0 at *
  have BD := hid (B0.out.keep (Kept.refl none' W0).drew)
  clear B0
  obtain ⟨d0, d1, d2, d3, _⟩ := r5c BD.out.x0
  refine wp_region_noPanic ?_
  refine wp_region_held_drew (S := (fun w' => w'.cell? ⟨w.heap.size, 0, none⟩ = some (.int .i64 (o : Int)) ∧ w'.cell? ⟨w.heap.size, 1, none⟩ = some (.int .i64 0) ∧ w'.cell? ⟨w.heap.size, 2, none⟩ = some (.slice fa (o + 1) fc) ∧ w'.cell? ⟨w.heap.size, 3, none⟩ = some (.slice va n vc))) (by kernel_rfl) ⟨d0, d1, d2, d3⟩ (fun hHeld => ?_)
  refine wpAnyH_take (i := 0) (oi := { dst := some 4, op := .load _ (.tmp 1), type := _, pos := _, after := _, guard := none }) (v := (r5V (o : Int) 0 (.slice fa (o + 1) fc) (.slice va n vc))) rfl (by kernel_rfl) (by kernel_rfl) (by kernel_rfl) (fun _ _ _ h => h) (Or.inl ⟨by rfl, fun w hSw => by (try dsimp only at hSw); go_simp⟩) (by assumption) ?_
  simp only [Act.put, List.setIfInBounds_toArray, List.set_cons_zero, List.set_cons_succ]
  refine wpAnyH_ready (rs := [1]) (by kernel_rfl) (by simp) ?_
  refine AllReadyH.cons rfl (fun K hK => ?_) AllReadyH.nil
  go_simp
  refine (Top5_zero (o : Int) fa (o + 1) fc (.slice va n vc) _).mono ?_
  rintro e w2 ⟨rfl, hk2⟩
  have B2 := BD.out.keep hk2
  obtain ⟨x0, x1, x2, x3, fx⟩ := r5c B2.x0
  obtain ⟨hy2, hfin⟩ := same5 B2 HR.out
  obtain ⟨b0, b1, b2, b3, fb⟩ := r5c hy2
  have FIN := hid hfin
  clear hy2 hfin hk2
  refine hK.out _ _ ⟨x0, x1, x2, x3⟩ (fun hHeld2 => ?_)
  clear hK K hHeld
  try simp only [Act.put, List.setIfInBounds_toArray, List.set_cons_zero, List.set_cons_succ]
  refine wpAnyH_take (i := 2) (oi := { dst := some 6, op := .binOp .lss _ (.tmp 5) (.const (.int .i64 0)) _, type := _, pos := _, after := _, guard := none }) (v := (.bool true)) rfl (by kernel_rfl) (by kernel_rfl) (by kernel_rfl) (fun _ _ _ h => h) (Or.inl ⟨by rfl, fun w hSw => by (try dsimp only at hSw); go_simp⟩) (by assumption) ?_
  simp only [Act.put, List.setIfInBounds_toArray, List.set_cons_zero, List.set_cons_succ]
  refine wpAnyH_take (i := 3) (oi := { dst := some 7, op := .move (.tmp 6), type := _, pos := _, after := _, guard := none }) (v := (.bool true)) rfl (by kernel_rfl) (by kernel_rfl) (by kernel_rfl) (fun _ _ _ h => h) (Or.inl ⟨by rfl, fun w hSw => by (try dsimp only at hSw); go_simp⟩) (by assumption) ?_
  simp only [Act.put, List.setIfInBounds_toArray, List.set_cons_zero, List.set_cons_succ]
  refine wpAnyH_take (i := 4) (oi := { dst := some 8, op := _, type := _, pos := _, after := _, guard := some (3, false) }) (v := undef) rfl (by kernel_rfl) (by kernel_rfl) (by kernel_rfl) (fun _ _ _ h => h) (Or.inr ⟨by rfl, rfl⟩) (by assumption) ?_
  simp only [Act.put, List.setIfInBounds_toArray, List.set_cons_zero, List.set_cons_succ]
  refine wpAnyH_take (i := 5) (oi := { dst := some 9, op := _, type := _, pos := _, after := _, guard := some (3, false) }) (v := undef) rfl (by kernel_rfl) (by kernel_rfl) (by kernel_rfl) (fun _ _ _ h => h) (Or.inr ⟨by rfl, rfl⟩) (by assumption) ?_
  simp only [Act.put, List.setIfInBounds_toArray, List.set_cons_zero, List.set_cons_succ]
  refine wpAnyH_take (i := 6) (oi := { dst := some 10, op := _, type := _, pos := _, after := _, guard := some (3, false) }) (v := undef) rfl (by kernel_rfl) (by kernel_rfl) (by kernel_rfl) (fun _ _ _ h => h) (Or.inr ⟨by rfl, rfl⟩) (by assumption) ?_
  simp only [Act.put, List.setIfInBounds_toArray, List.set_cons_zero, List.set_cons_succ]
  refine wpAnyH_take (i := 7) (oi := { dst := some 11, op := _, type := _, pos := _, after := _, guard := some (3, false) }) (v := undef) rfl (by kernel_rfl) (by kernel_rfl) (by kernel_rfl) (fun _ _ _ h => h) (Or.inr ⟨by rfl, rfl⟩) (by assumption) ?_
  simp only [Act.put, List.setIfInBounds_toArray, List.set_cons_zero, List.set_cons_succ]
  refine wpAnyH_take (i := 8) (oi := { dst := some 12, op := _, type := _, pos := _, after := _, guard := some (3, false) }) (v := undef) rfl (by kernel_rfl) (by kernel_rfl) (by kernel_rfl) (fun _ _ _ h => h) (Or.inr ⟨by rfl, rfl⟩) (by assumption) ?_
  simp only [Act.put, List.setIfInBounds_toArray, List.set_cons_zero, List.set_cons_succ]
  refine wpAnyH_take (i := 9) (oi := { dst := some 13, op := _, type := _, pos := _, after := _, guard := some (3, false) }) (v := undef) rfl (by kernel_rfl) (by kernel_rfl) (by kernel_rfl) (fun _ _ _ h => h) (Or.inr ⟨by rfl, rfl⟩) (by assumption) ?_
  simp only [Act.put, List.setIfInBounds_toArray, List.set_cons_zero, List.set_cons_succ]
  refine wpAnyH_take (i := 10) (oi := { dst := some 14, op := _, type := _, pos := _, after := _, guard := some (3, false) }) (v := undef) rfl (by kernel_rfl) (by kernel_rfl) (by kernel_rfl) (fun _ _ _ h => h) (Or.inr ⟨by rfl, rfl⟩) (by assumption) ?_
  simp only [Act.put, List.setIfInBounds_toArray, List.set_cons_zero, List.set_cons_succ]
  refine wpAnyH_take (i := 11) (oi := { dst := some 15, op := .pick (.tmp 7) (.const (.bool true)) (.tmp 14), type := _, pos := _, after := _, guard := none }) (v := (.bool true)) rfl (by kernel_rfl) (by kernel_rfl) (by kernel_rfl) (fun _ _ _ h => h) (Or.inl ⟨by rfl, fun w hSw => by (try dsimp only at hSw); go_simp⟩) (by assumption) ?_
  simp only [Act.put, List.setIfInBounds_toArray, List.set_cons_zero, List.set_cons_succ]
  refine wpAnyH_done (by kernel_rfl) ?_ _
  refine NoPanic.normal ?_
  go_wp2_with fail
  exact ⟨rfl, .tuple #[r5V (o : Int) 0 (.slice fa (o + 1) fc) (.slice va n vc), .int .i64 9], by simp [results, Tryz.results41, go_sem, b0, b1, b2, b3], fa, fc, va, vc, by rw [HN.out]; rfl, (FIN.out _ _ _ _).1, (FIN.out _ _ _ _).2.1, (FIN.out _ _ _ _).2.2⟩
set_option maxRecDepth 4000 in
set_option maxHeartbeats 1000000 in
theorem Pull5_zero (o : Nat) (fa : Option Addr) (fc : Nat) (va : Option Addr) (vc : Nat) (fr : Nat → List Nat) (ls : List (Nat × Nat)) (w : World) (h : FL w fa fc o fr) (hr : RN w (.slice va ls.length vc) ls) :
    Calls Tryz.prog 42 #[r5V (o : Int) 0 (.slice fa (o + 1) fc) (.slice va ls.length vc)] w fun e w' => V5P w (o : Int) 0 o fr ls 9 e w' := by
  obtain ⟨n, hn'⟩ : ∃ n, n = ls.length := ⟨_, rfl⟩
  have B0 := hid (Bz.two (oi := (o : Int)) (P := 0) (.slice va n vc) h)
  have HR := hid hr
  rw [← hn']
  have HN := hid hn'
  clear h hr hn'
  go_enter Tryz.func42, Tryz.ntmps42
  go_wp2_with fail
  generalize (w.alloc (r5O (o : Int) 0 (.slice fa (o + 1) fc) (.slice va n vc))).alloc r5Z = W0 at *
  have BD := hid (B0.out.keep (Kept.refl none' W0).drew)
  clear B0
  obtain ⟨d0, d1, d2, d3, _⟩ := r5c BD.out.x0
  refine wp_region_noPanic ?_
  refine wp_region_held_drew (S := (fun w' => w'.cell? ⟨w.heap.size, 0, none⟩ = some (.int .i64 (o : Int)) ∧ w'.cell? ⟨w.heap.size, 1, none⟩ = some (.int .i64 0) ∧ w'.cell? ⟨w.heap.size, 2, none⟩ = some (.slice fa (o + 1) fc) ∧ w'.cell? ⟨w.heap.size, 3, none⟩ = some (.slice va n vc))) (by kernel_rfl) ⟨d0, d1, d2, d3⟩ (fun hHeld => ?_)
  refine wpAnyH_take (i := 0) (oi := { dst := some 4, op := .load _ (.tmp 1), type := _, pos := _, after := _, guard := none }) (v := (r5V (o : Int) 0 (.slice fa (o + 1) fc) (.slice va n vc))) rfl (by kernel_rfl) (by kernel_rfl) (by kernel_rfl) (fun _ _ _ h => h) (Or.inl ⟨by rfl, fun w hSw => by (try dsimp only at hSw); go_simp⟩) (by assumption) ?_
  simp only [Act.put, List.setIfInBounds_toArray, List.set_cons_zero, List.set_cons_succ]
  refine wpAnyH_ready (rs := [1]) (by kernel_rfl) (by simp) ?_
  refine AllReadyH.cons rfl (fun K hK => ?_) AllReadyH.nil
  go_simp
  refine (Top5_zero (o : Int) fa (o + 1) fc (.slice va n vc) _).mono ?_
  rintro e w2 ⟨rfl, hk2⟩
  have B2 := BD.out.keep hk2
  obtain ⟨x0, x1, x2, x3, fx⟩ := r5c B2.x0
  obtain ⟨hy2, hfin⟩ := same5 B2 HR.out
  obtain ⟨b0, b1, b2, b3, fb⟩ := r5c hy2
  have FIN := hid hfin
  clear hy2 hfin hk2
  refine hK.out _ _ ⟨x0, x1, x2, x3⟩ (fun hHeld2 => ?_)
  clear hK K hHeld
  try simp only [Act.put, List.setIfInBounds_toArray, List.set_cons_zero, List.set_cons_succ]
  refine wpAnyH_take (i := 2) (oi := { dst := some 6, op := .binOp .lss _ (.tmp 5) (.const (.int .i64 0)) _, type := _, pos := _, after := _, guard := none }) (v := (.bool true)) rfl (by kernel_rfl) (by kernel_rfl) (by kernel_rfl) (fun _ _ _ h => h) (Or.inl ⟨by rfl, fun w hSw => by (try dsimp only at hSw); go_simp⟩) (by assumption) ?_
  simp only [Act.put, List.setIfInBounds_toArray, List.set_cons_zero, List.set_cons_succ]
  refine wpAnyH_take (i := 3) (oi := { dst := some 7, op := .move (.tmp 6), type := _, pos := _, after := _, guard := none }) (v := (.bool true)) rfl (by kernel_rfl) (by kernel_rfl) (by kernel_rfl) (fun _ _ _ h => h) (Or.inl ⟨by rfl, fun w hSw => by (try dsimp only at hSw); go_simp⟩) (by assumption) ?_
  simp only [Act.put, List.setIfInBounds_toArray, List.set_cons_zero, List.set_cons_succ]
  refine wpAnyH_take (i := 4) (oi := { dst := some 8, op := _, type := _, pos := _, after := _, guard := some (3, false) }) (v := undef) rfl (by kernel_rfl) (by kernel_rfl) (by kernel_rfl) (fun _ _ _ h => h) (Or.inr ⟨by rfl, rfl⟩) (by assumption) ?_
  simp only [Act.put, List.setIfInBounds_toArray, List.set_cons_zero, List.set_cons_succ]
  refine wpAnyH_take (i := 5) (oi := { dst := some 9, op := _, type := _, pos := _, after := _, guard := some (3, false) }) (v := undef) rfl (by kernel_rfl) (by kernel_rfl) (by kernel_rfl) (fun _ _ _ h => h) (Or.inr ⟨by rfl, rfl⟩) (by assumption) ?_
  simp only [Act.put, List.setIfInBounds_toArray, List.set_cons_zero, List.set_cons_succ]
  refine wpAnyH_take (i := 6) (oi := { dst := some 10, op := _, type := _, pos := _, after := _, guard := some (3, false) }) (v := undef) rfl (by kernel_rfl) (by kernel_rfl) (by kernel_rfl) (fun _ _ _ h => h) (Or.inr ⟨by rfl, rfl⟩) (by assumption) ?_
  simp only [Act.put, List.setIfInBounds_toArray, List.set_cons_zero, List.set_cons_succ]
  refine wpAnyH_take (i := 7) (oi := { dst := some 11, op := _, type := _, pos := _, after := _, guard := some (3, false) }) (v := undef) rfl (by kernel_rfl) (by kernel_rfl) (by kernel_rfl) (fun _ _ _ h => h) (Or.inr ⟨by rfl, rfl⟩) (by assumption) ?_
  simp only [Act.put, List.setIfInBounds_toArray, List.set_cons_zero, List.set_cons_succ]
  refine wpAnyH_take (i := 8) (oi := { dst := some 12, op := _, type := _, pos := _, after := _, guard := some (3, false) }) (v := undef) rfl (by kernel_rfl) (by kernel_rfl) (by kernel_rfl) (fun _ _ _ h => h) (Or.inr ⟨by rfl, rfl⟩) (by assumption) ?_
  simp only [Act.put, List.setIfInBounds_toArray, List.set_cons_zero, List.set_cons_succ]
  refine wpAnyH_take (i := 9) (oi := { dst := some 13, op := _, type := _, pos := _, after := _, guard := some (3, false) }) (v := undef) rfl (by kernel_rfl) (by kernel_rfl) (by kernel_rfl) (fun _ _ _ h => h) (Or.inr ⟨by rfl, rfl⟩) (by assumption) ?_
  simp only [Act.put, List.setIfInBounds_toArray, List.set_cons_zero, List.set_cons_succ]
  refine wpAnyH_take (i := 10) (oi := { dst := some 14, op := _, type := _, pos := _, after := _, guard := some (3, false) }) (v := undef) rfl (by kernel_rfl) (by kernel_rfl) (by kernel_rfl) (fun _ _ _ h => h) (Or.inr ⟨by rfl, rfl⟩) (by assumption) ?_
  simp only [Act.put, List.setIfInBounds_toArray, List.set_cons_zero, List.set_cons_succ]
  refine wpAnyH_take (i := 11) (oi := { dst := some 15, op := .pick (.tmp 7) (.const (.bool true)) (.tmp 14), type := _, pos := _, after := _, guard := none }) (v := (.bool true)) rfl (by kernel_rfl) (by kernel_rfl) (by kernel_rfl) (fun _ _ _ h => h) (Or.inl ⟨by rfl, fun w hSw => by (try dsimp only at hSw); go_simp⟩) (by assumption) ?_
  simp only [Act.put, List.setIfInBounds_toArray, List.set_cons_zero, List.set_cons_succ]
  refine wpAnyH_done (by kernel_rfl) ?_ _
  refine NoPanic.normal ?_
  go_wp2_with fail
  exact ⟨rfl, .tuple #[r5V (o : Int) 0 (.slice fa (o + 1) fc) (.slice va n vc), .int .i64 9], by simp [results, Tryz.results42, go_sem, b0, b1, b2, b3], fa, fc, va, vc, by rw [HN.out]; rfl, (FIN.out _ _ _ _).1, (FIN.out _ _ _ _).2.1, (FIN.out _ _ _ _).2.2⟩
set_option maxRecDepth 4000 in
set_option maxHeartbeats 1000000 in
theorem Feed5_any (o p : Nat) (ho : o ≤ 8) (hp : p ≤ 1024) (hz : 2 ^ o ≤ p) (fa : Option Addr) (fc : Nat) (va : Option Addr) (vc : Nat) (fr : Nat → List Nat) (hf : ∀ j, j ≤ o → (fr j).length ≤ 1024) (ls : List (Nat × Nat)) (hn : ls.length ≤ 1000) (w : World) (h : FL w fa fc o fr) (hr : RN w (.slice va ls.length vc) ls) :
    Calls Tryz.prog 41 #[r5V (o : Int) (p : Int) (.slice fa (o + 1) fc) (.slice va ls.length vc)] w fun e w' => ((p - 2 ^ o, o) ∈ ls ∧ V5P w (o : Int) (p : Int) o (giveF o fr (p - 2 ^ o) o) (dropR ls (p - 2 ^ o)) 0 e w') ∨ ((p - 2 ^ o, o) ∉ ls ∧ V5P w (o : Int) (p : Int) o fr ls 9 e w') := by
  obtain ⟨n, hn'⟩ : ∃ n, n = ls.length := ⟨_, rfl⟩
  obtain ⟨T, hT⟩ : ∃ T, T = p - 2 ^ o := ⟨_, rfl⟩
  have B0 := hid (Bz.two (oi := (o : Int)) (P := (p : Int)) (.slice va n vc) h)
  have TP := hid (show ∀ W, Calls Tryz.prog 44 #[r5V (o : Int) (p : Int) (.slice fa (o + 1) fc) (.slice va n vc)] W fun e w' => e = .returned (.int .i64 (T : Int)) ∧ Kept none' W w' from fun W => by rw [hT]; exact Top5_any o p ho hp hz fa (o + 1) fc _ W)
  have IL := hid (fun W (k : Kept none' w W) => IsLive5 (o : Int) (p : Int) fa (o + 1) fc va vc ls hn (T : Int) (o : Int) W (hr.keep k))
  have hT1 : T ≤ 1024 := by rw [hT]; exact Nat.le_trans (Nat.sub_le _ _) hp
  have GV := hid (fun (hl : (T, o) ∈ ls) W (k : Kept none' w W) => Give5 o ho (p : Int) fa fc va vc fr hf ls hn T o hT1 (Nat.le_refl _) hl W (h.keep k) (hr.keep k))
  have HR := hid hr
  rw [← hT]
  rw [← hn'] at IL GV hn ⊢
  have hT0 : decide ((T : Int) < 0) = false := by simp
  have HN := hid hn'
  clear h hr hn' hf hT hz
  by_cases hl : (T, o) ∈ ls
  · have GL := hid (GV.out hl)
    have HL := hid hl
    rw [liveL_mem.2 hl] at IL
    clear hl GV
    go_enter Tryz.func41, Tryz.ntmps41
    go_wp2_with fail
    generalize (w.alloc (r5O (o : Int) (p : Int) (.slice fa (o + 1) fc) (.slice va n vc))).alloc r5Z = W0 at *
    have BD := hid (B0.out.keep (Kept.refl none' W0).drew)
    clear B0
    obtain ⟨d0, d1, d2, d3, _⟩ := r5c BD.out.x0
    go_region_held3 (fun w' => w'.cell? ⟨w.heap.size, 0, none⟩ = some (.int .i64 (o : Int)) ∧ w'.cell? ⟨w.heap.size, 1, none⟩ = some (.int .i64 (p : Int)) ∧ w'.cell? ⟨w.heap.size, 2, none⟩ = some (.slice fa (o + 1) fc) ∧ w'.cell? ⟨w.heap.size, 3, none⟩ = some (.slice va n vc)) ((refine ⟨?_, ?_, ?_, ?_⟩ <;> first | with_reducible assumption)) (first
      | (go_at_call 44; refine (TP.out _).mono ?_; rintro e w2 ⟨rfl, hk2⟩; have B2 := hid (BD.out.keep hk2); obtain ⟨y0, y1, y2, y3, _⟩ := r5c B2.out.x0; clear hk2)
      | (go_at_call 44; refine (TP.out _).mono ?_; rintro e w3 ⟨rfl, hk3⟩; have B3 := hid (B2.out.keep hk3); obtain ⟨z0, z1, z2, z3, _⟩ := r5c B3.out.x0; clear hk3)
      | (go_at_call 45; refine (IL.out _ B3.out.kp).mono ?_; rintro e w4 ⟨rfl, hk4⟩; have B4 := hid (B3.out.keep hk4); obtain ⟨t0, t1, t2, t3, _⟩ := r5c B4.out.x0; clear hk4)
      | fail)
    all_goals
      clear d0 d1 d2 d3 y0 y1 y2 y3 z0 z1 z2 z3
      have BE := hid (B4.out.keep (Kept.refl none' w4).drew)
      obtain ⟨u0, u1, u2, u3, _⟩ := r5c BE.out.x0
      go_wp2_with fail
      go_region_held3 (fun w' => w'.cell? ⟨w.heap.size, 0, none⟩ = some (.int .i64 (o : Int)) ∧ w'.cell? ⟨w.heap.size, 1, none⟩ = some (.int .i64 (p : Int)) ∧ w'.cell? ⟨w.heap.size, 2, none⟩ = some (.slice fa (o + 1) fc) ∧ w'.cell? ⟨w.heap.size, 3, none⟩ = some (.slice va n vc)) ((refine ⟨?_, ?_, ?_, ?_⟩ <;> first | with_reducible assumption | with_reducible exact set4_cell (by assumption) (by omega))) (first
        | (go_at_call 44; refine (TP.out _).mono ?_; rintro e w5 ⟨rfl, hk5⟩; have B5 := hid (BE.out.keep hk5); obtain ⟨y0, y1, y2, y3, _⟩ := r5c B5.out.x0; clear hk5)
        | (go_at_call 47; refine (GL.out _ B5.out.kp).mono ?_; rintro e w6 ⟨fa6, fc6, va6, vc6, rfl, hk6, hf6, hr6⟩; obtain ⟨hy6, hfin⟩ := B5.out.fin hk6 hf6 hr6; have FIN := hid hfin; obtain ⟨b0, b1, b2, b3, fb⟩ := r5c hy6; obtain ⟨z0, z1, z2, z3, _⟩ := r5c (B5.out.keep hk6).x0; clear hk6 hf6 hr6 hfin hy6)
        | fail)
      all_goals
        obtain ⟨m, hm⟩ : ∃ m, m = (dropR ls T).length := ⟨_, rfl⟩
        rw [← hm] at FIN ⊢
        have HM := hid hm
        clear hm
        go_wp2_with fail
        exact ⟨rfl, .tuple #[r5V (o : Int) (p : Int) (.slice fa6 (o + 1) fc6) (.slice va6 m vc6), .int .i64 0], by simp [results, Tryz.results41, go_sem, b0, b1, b2, b3], .inl ⟨HL.out, fa6, fc6, va6, vc6, by rw [HM.out]; rfl, (FIN.out _ _ _ _).1, (FIN.out _ _ _ _).2.1, by rw [← HM.out]; exact (FIN.out _ _ _ _).2.2⟩⟩
  · have HL := hid hl
    rw [show liveL ls (T : Int) (o : Int) = false by
      cases e : liveL ls (T : Int) (o : Int) with
      | false => rfl
      | true => exact absurd (liveL_mem.1 e) hl] at IL
    clear hl GV
    go_enter Tryz.func41, Tryz.ntmps41
    go_wp2_with fail
    generalize (w.alloc (r5O (o : Int) (p : Int) (.slice fa (o + 1) fc) (.slice va n vc))).alloc r5Z = W0 at *
    have BD := hid (B0.out.keep (Kept.refl none' W0).drew)
    clear B0
    obtain ⟨d0, d1, d2, d3, _⟩ := r5c BD.out.x0
    go_region_held3 (fun w' => w'.cell? ⟨w.heap.size, 0, none⟩ = some (.int .i64 (o : Int)) ∧ w'.cell? ⟨w.heap.size, 1, none⟩ = some (.int .i64 (p : Int)) ∧ w'.cell? ⟨w.heap.size, 2, none⟩ = some (.slice fa (o + 1) fc) ∧ w'.cell? ⟨w.heap.size, 3, none⟩ = some (.slice va n vc)) ((refine ⟨?_, ?_, ?_, ?_⟩ <;> first | with_reducible assumption)) (first
      | (go_at_call 44; refine (TP.out _).mono ?_; rintro e w2 ⟨rfl, hk2⟩; have B2 := hid (BD.out.keep hk2); obtain ⟨y0, y1, y2, y3, _⟩ := r5c B2.out.x0; clear hk2)
      | (go_at_call 44; refine (TP.out _).mono ?_; rintro e w3 ⟨rfl, hk3⟩; have B3 := hid (B2.out.keep hk3); obtain ⟨z0, z1, z2, z3, _⟩ := r5c B3.out.x0; clear hk3)
      | (go_at_call 45; refine (IL.out _ B3.out.kp).mono ?_; rintro e w4 ⟨rfl, hk4⟩; have B4 := hid (B3.out.keep hk4); obtain ⟨t0, t1, t2, t3, _⟩ := r5c B4.out.x0; clear hk4)
      | fail)
    all_goals
      clear d0 d1 d2 d3 y0 y1 y2 y3 z0 z1 z2 z3
      obtain ⟨hy2, hfin⟩ := same5 B4.out HR.out
      obtain ⟨b0, b1, b2, b3, fb⟩ := r5c hy2
      have FIN := hid hfin
      clear hy2 hfin TP
      go_wp2_with fail
      exact ⟨rfl, .tuple #[r5V (o : Int) (p : Int) (.slice fa (o + 1) fc) (.slice va n vc), .int .i64 9], by simp [results, Tryz.results41, go_sem, b0, b1, b2, b3], .inr ⟨HL.out, fa, fc, va, vc, by rw [HN.out]; rfl, (FIN.out _ _ _ _).1, (FIN.out _ _ _ _).2.1, (FIN.out _ _ _ _).2.2⟩⟩
set_option maxRecDepth 4000 in
set_option maxHeartbeats 1000000 in
theorem Pull5_any (o p : Nat) (ho : o ≤ 8) (hp : p ≤ 1024) (hz : 2 ^ o ≤ p) (fa : Option Addr) (fc : Nat) (va : Option Addr) (vc : Nat) (fr : Nat → List Nat) (hf : ∀ j, j ≤ o → (fr j).length ≤ 1024) (ls : List (Nat × Nat)) (hn : ls.length ≤ 1000) (w : World) (h : FL w fa fc o fr) (hr : RN w (.slice va ls.length vc) ls) :
    Calls Tryz.prog 42 #[r5V (o : Int) (p : Int) (.slice fa (o + 1) fc) (.slice va ls.length vc)] w fun e w' => (p - 2 ^ o ∈ fr o ∧ V5P w (o : Int) (p : Int) o (frU fr o (M.dropL (fr o) (p - 2 ^ o))) (ls ++ [(p - 2 ^ o, o)]) 0 e w') ∨ (p - 2 ^ o ∉ fr o ∧ V5P w (o : Int) (p : Int) o fr ls 9 e w') := by
  obtain ⟨n, hn'⟩ : ∃ n, n = ls.length := ⟨_, rfl⟩
  obtain ⟨T, hT⟩ : ∃ T, T = p - 2 ^ o := ⟨_, rfl⟩
  have B0 := hid (Bz.two (oi := (o : Int)) (P := (p : Int)) (.slice va n vc) h)
  have TP := hid (show ∀ W, Calls Tryz.prog 44 #[r5V (o : Int) (p : Int) (.slice fa (o + 1) fc) (.slice va n vc)] W fun e w' => e = .returned (.int .i64 (T : Int)) ∧ Kept none' W w' from fun W => by rw [hT]; exact Top5_any o p ho hp hz fa (o + 1) fc _ W)
  have IS := hid (fun W (k : Kept none' w W) => Is5 o (o : Int) (p : Int) fa fc va n vc fr o (Nat.le_refl _) (hf o (Nat.le_refl _)) ho T W (h.keep k))
  have LE := hid (fun W (k : Kept none' w W) => leave5 o ho (o : Int) (p : Int) fa fc va n vc fr o (Nat.le_refl _) (hf o (Nat.le_refl _)) T W (h.keep k))
  have LV := hid (fun W fa2 fc2 (k : Kept none' w W) => lives5 (o : Int) (p : Int) fa2 (o + 1) fc2 va vc ls hn T o W (hr.keep k))
  have HR := hid hr
  rw [← hT]
  rw [← hn'] at LV hn ⊢
  have hT0 : decide ((T : Int) < 0) = false := by simp
  have HN := hid hn'
  clear h hr hn' hf hT hz
  by_cases hl : T ∈ fr o
  · have HL := hid hl
    rw [decide_eq_true hl] at IS
    clear hl
    go_enter Tryz.func42, Tryz.ntmps42
    go_wp2_with fail
    generalize (w.alloc (r5O (o : Int) (p : Int) (.slice fa (o + 1) fc) (.slice va n vc))).alloc r5Z = W0 at *
    have BD := hid (B0.out.keep (Kept.refl none' W0).drew)
    clear B0
    obtain ⟨d0, d1, d2, d3, _⟩ := r5c BD.out.x0
    go_region_held3 (fun w' => w'.cell? ⟨w.heap.size, 0, none⟩ = some (.int .i64 (o : Int)) ∧ w'.cell? ⟨w.heap.size, 1, none⟩ = some (.int .i64 (p : Int)) ∧ w'.cell? ⟨w.heap.size, 2, none⟩ = some (.slice fa (o + 1) fc) ∧ w'.cell? ⟨w.heap.size, 3, none⟩ = some (.slice va n vc)) ((refine ⟨?_, ?_, ?_, ?_⟩ <;> first | with_reducible assumption)) (first
      | (go_at_call 44; refine (TP.out _).mono ?_; rintro e w2 ⟨rfl, hk2⟩; have B2 := hid (BD.out.keep hk2); obtain ⟨y0, y1, y2, y3, _⟩ := r5c B2.out.x0; clear hk2)
      | (go_at_call 44; refine (TP.out _).mono ?_; rintro e w3 ⟨rfl, hk3⟩; have B3 := hid (B2.out.keep hk3); obtain ⟨z0, z1, z2, z3, _⟩ := r5c B3.out.x0; clear hk3)
      | (go_at_call 89; refine (IS.out _ B3.out.kp).mono ?_; rintro e w4 ⟨rfl, hk4⟩; have B4 := hid (B3.out.keep hk4); obtain ⟨t0, t1, t2, t3, _⟩ := r5c B4.out.x0; clear hk4)
      | fail)
    all_goals
      clear d0 d1 d2 d3 y0 y1 y2 y3 z0 z1 z2 z3
      have BE := hid (B4.out.keep (Kept.refl none' w4).drew)
      obtain ⟨u0, u1, u2, u3, _⟩ := r5c BE.out.x0
      go_wp2_with fail
      go_region_held3 (fun w' => w'.cell? ⟨w.heap.size, 0, none⟩ = some (.int .i64 (o : Int)) ∧ w'.cell? ⟨w.heap.size, 1, none⟩ = some (.int .i64 (p : Int)) ∧ w'.cell? ⟨w.heap.size, 2, none⟩ = some (.slice fa (o + 1) fc) ∧ w'.cell? ⟨w.heap.size, 3, none⟩ = some (.slice va n vc)) ((refine ⟨?_, ?_, ?_, ?_⟩ <;> first | with_reducible assumption | with_reducible exact set4_cell (by assumption) (by omega))) (first
        | (go_at_call 44; refine (TP.out _).mono ?_; rintro e w5 ⟨rfl, hk5⟩; have B5 := hid (BE.out.keep hk5); obtain ⟨y0, y1, y2, y3, _⟩ := r5c B5.out.x0; clear hk5)
        | (go_at_call 32; refine (LE.out _ B5.out.kp).mono ?_; rintro e w6 ⟨fa6, fc6, rfl, hk6, hf6⟩; have B6 := hid (B5.out.keep hk6); have F6 := hid hf6; obtain ⟨z0, z1, z2, z3, _⟩ := r5c B6.out.x0; clear hk6 hf6)
        | (go_at_call 44; refine (TP.out _).mono ?_; rintro e w7 ⟨rfl, hk7⟩; have B7 := hid (B6.out.keep hk7); have F7 := hid (F6.out.keep hk7); obtain ⟨s0, s1, s2, s3, _⟩ := r5c B7.out.x0; clear hk7)
        | (go_at_call 82; refine (LV.out _ fa6 fc6 B7.out.kp).mono ?_; rintro e w8 ⟨va8, vc8, rfl, hk8, hr8⟩; obtain ⟨m, hm⟩ : ∃ m, m = (ls ++ [(T, o)]).length := ⟨_, rfl⟩; rw [← hm] at hr8 ⊢; have HM := hid hm; clear hm; obtain ⟨hy8, hfin⟩ := B7.out.fin hk8 (F7.out.keep hk8) hr8; have FIN := hid hfin; obtain ⟨b0, b1, b2, b3, fb⟩ := r5c hy8; obtain ⟨r0, r1, r2, r3, _⟩ := r5c (B7.out.keep hk8).x0; clear hk8 hr8 hfin hy8)
        | fail)
      all_goals
        go_wp2_with fail
        exact ⟨rfl, .tuple #[r5V (o : Int) (p : Int) (.slice fa6 (o + 1) fc6) (.slice va8 m vc8), .int .i64 0], by simp [results, Tryz.results42, go_sem, b0, b1, b2, b3], .inl ⟨HL.out, fa6, fc6, va8, vc8, by rw [HM.out]; rfl, (FIN.out _ _ _ _).1, (FIN.out _ _ _ _).2.1, by rw [← HM.out]; exact (FIN.out _ _ _ _).2.2⟩⟩
  · have HL := hid hl
    rw [decide_eq_false hl] at IS
    clear hl LE LV
    go_enter Tryz.func42, Tryz.ntmps42
    go_wp2_with fail
    generalize (w.alloc (r5O (o : Int) (p : Int) (.slice fa (o + 1) fc) (.slice va n vc))).alloc r5Z = W0 at *
    have BD := hid (B0.out.keep (Kept.refl none' W0).drew)
    clear B0
    obtain ⟨d0, d1, d2, d3, _⟩ := r5c BD.out.x0
    go_region_held3 (fun w' => w'.cell? ⟨w.heap.size, 0, none⟩ = some (.int .i64 (o : Int)) ∧ w'.cell? ⟨w.heap.size, 1, none⟩ = some (.int .i64 (p : Int)) ∧ w'.cell? ⟨w.heap.size, 2, none⟩ = some (.slice fa (o + 1) fc) ∧ w'.cell? ⟨w.heap.size, 3, none⟩ = some (.slice va n vc)) ((refine ⟨?_, ?_, ?_, ?_⟩ <;> first | with_reducible assumption)) (first
      | (go_at_call 44; refine (TP.out _).mono ?_; rintro e w2 ⟨rfl, hk2⟩; have B2 := hid (BD.out.keep hk2); obtain ⟨y0, y1, y2, y3, _⟩ := r5c B2.out.x0; clear hk2)
      | (go_at_call 44; refine (TP.out _).mono ?_; rintro e w3 ⟨rfl, hk3⟩; have B3 := hid (B2.out.keep hk3); obtain ⟨z0, z1, z2, z3, _⟩ := r5c B3.out.x0; clear hk3)
      | (go_at_call 89; refine (IS.out _ B3.out.kp).mono ?_; rintro e w4 ⟨rfl, hk4⟩; have B4 := hid (B3.out.keep hk4); obtain ⟨t0, t1, t2, t3, _⟩ := r5c B4.out.x0; clear hk4)
      | fail)
    all_goals
      clear d0 d1 d2 d3 y0 y1 y2 y3 z0 z1 z2 z3
      obtain ⟨hy2, hfin⟩ := same5 B4.out HR.out
      obtain ⟨b0, b1, b2, b3, fb⟩ := r5c hy2
      have FIN := hid hfin
      clear hy2 hfin TP
      go_wp2_with fail
      exact ⟨rfl, .tuple #[r5V (o : Int) (p : Int) (.slice fa (o + 1) fc) (.slice va n vc), .int .i64 9], by simp [results, Tryz.results42, go_sem, b0, b1, b2, b3], .inr ⟨HL.out, fa, fc, va, vc, by rw [HN.out]; rfl, (FIN.out _ _ _ _).1, (FIN.out _ _ _ _).2.1, (FIN.out _ _ _ _).2.2⟩⟩
end Go.Proofs.YthglogiglimebaaGreat
