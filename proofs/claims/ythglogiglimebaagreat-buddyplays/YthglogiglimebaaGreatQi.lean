import Derived.Test.YthglogiglimebaaGreatQh
import Derived.Deep.RegionHeld3
/- BuddyPlays: the steps that look, and those that are none. -/
namespace Go.Proofs.YthglogiglimebaaGreat
open Go.RowKit
set_option linter.unusedVariables false

theorem PW.stp {E w W w' lw c x t fr ls fa fc va n vc} (h : PW E w W lw c x t fr ls fa fc va n vc) (k : Kept none' W w') : StP E w W lw (c + 1) (.returned (.bool true)) w' := ⟨_, _, _, _, _, _, _, _, _, rfl, (h.keep k).mono (Nat.le_succ _), fun y e => k.block y (h.ex y e).1 (fun e => e)⟩
set_option maxRecDepth 4000 in
set_option maxHeartbeats 2000000 in
theorem step_look {E w W lw c x t fr ls fa fc va n vc} (h : PW E w W lw c x t fr ls fa fc va n vc) (hc : n ≤ 1000) (od tt rf : Int) (sp a : Nat) :
    Calls Tryz.prog 12 #[.pointer (some ⟨lw, 0, none⟩), stV 11 od tt rf sp, .int .u64 (a : Int)] W fun e w' => StP E w W lw (c + 1) e w' := by
  have K0 := (Kept.refl none' W).alloc (stO 11 od tt rf sp)
  have LK := hid (looks_x (h.keep K0) hc)
  have HK0 := hid K0
  have HH := hid h
  clear h K0
  go_enter Tryz.func12, Tryz.ntmps12
  go_wp2_with fail
  refine LK.out.mono ?_
  rintro e w1 ⟨rfl, hk1⟩
  have D := hid (HH.out.stp (none_trans HK0.out hk1))
  clear hk1 LK
  go_wp2_with fail
  go_ret
  exact D.out
set_option maxRecDepth 4000 in
set_option maxHeartbeats 2000000 in
theorem step_none {E w W lw c x t fr ls fa fc va n vc} (h : PW E w W lw c x t fr ls fa fc va n vc) (op od tt rf : Int) (hop : op ≠ 0 ∧ op ≠ 1 ∧ op ≠ 2 ∧ op ≠ 3 ∧ op ≠ 5 ∧ op ≠ 6 ∧ op ≠ 7 ∧ op ≠ 8 ∧ op ≠ 9 ∧ op ≠ 10 ∧ op ≠ 11) (sp a : Nat) :
    Calls Tryz.prog 12 #[.pointer (some ⟨lw, 0, none⟩), stV op od tt rf sp, .int .u64 (a : Int)] W fun e w' => StP E w W lw (c + 1) e w' := by
  obtain ⟨p0, p1, p2, p3, p5, p6, p7, p8, p9, p10, p11⟩ := hop
  have D := hid (fun W' (k : Kept none' W W') => h.stp k)
  have K0 := hid ((Kept.refl none' W).alloc (stO op od tt rf sp))
  clear h
  go_enter Tryz.func12, Tryz.ntmps12
  go_wp2_with fail
  go_ret
  exact D.out _ K0.out
theorem tw_heads {x : Bx} {t : Bt} {W w3 w4 w5 : World} {g4 g5 : Nat} (ho : x.o ≤ 8) (k3 : Kept none' W w3) (k4 : Kept none' W w4) (k5 : Kept none' W w5) (hk5 : Kept none' w4 w5) (hb4 : w4.heap[g4]? = some (.cells (wcells (headsL x t)) 22 (0, 0))) (hb5 : w5.heap[g5]? = some (.cells (wcells (headsL x t)) 22 (0, 0))) (hg4 : w3.heap.size ≤ g4) (hg5 : w4.heap.size ≤ g5) : Tw W w5 (some ⟨g4, 0, none⟩) (x.o + 1) (x.o + 1) (some ⟨g5, 0, none⟩) (x.o + 1) (x.o + 1) ((headsL x t).map M.e64) ((headsL x t).map M.e64) := by
  have hb4' := (hk5.block _ (heap_lt hb4) (fun e => e)).trans hb4
  have hl : (headsL x t).length = x.o + 1 := headsL_len x t
  have own : ∀ g, w5.heap[g]? = some (.cells (wcells (headsL x t)) 22 (0, 0)) → w5.ownsRow 0 22 1 (.slice (some ⟨g, 0, none⟩) (x.o + 1) (x.o + 1)) (x.o + 1) ((headsL x t).map M.e64) := fun g hg => ⟨by rw [List.length_map, hl, Nat.mul_one], .inr ⟨g, x.o + 1, wcells (headsL x t), rfl, Nat.zero_le _, hg, Nat.le_refl _, by simp only [maxLen]; omega, by simp [wcells, hl], by
    rw [Nat.mul_one, ← hl]
    simp only [wcells]
    rw [List.take_of_length_le (by simp)]
    rfl⟩⟩
  have s3 := k3.size
  have s4 := k4.size
  have hne : g4 ≠ g5 := fun e => by have := heap_lt hb4; omega
  refine ⟨⟨own g4 hb4', fun g cap e => by injection e with e1 e2 e3; exact .inl (by omega), k5⟩, ⟨own g5 hb5, fun g cap e => by injection e with e1 e2 e3; exact .inl (by omega), k5⟩, fun r e => ?_, fun r e => ?_, fun r e1 e2 => ?_⟩
  · simp [Value.ownBlock] at e
    omega
  · simp [Value.ownBlock] at e
    omega
  · simp [Value.ownBlock] at e1 e2
    omega
theorem tw_lists {xs : List Nat} {W w3 w4 w5 : World} {v4 v5 : Value} (k3 : Kept none' W w3) (k4 : Kept none' W w4) (k5 : Kept none' W w5) (hk5 : Kept none' w4 w5) (hb4 : M.Lst w4 v4 xs) (hb5 : M.Lst w5 v5 xs) (hg4 : ∀ r, v4.ownBlock = some r → w3.heap.size ≤ r) (hg5 : ∀ r, v5.ownBlock = some r → w4.heap.size ≤ r) : ∃ va4 ca4 va5 ca5, v4 = .slice va4 xs.length ca4 ∧ v5 = .slice va5 xs.length ca5 ∧ Tw W w5 va4 xs.length ca4 va5 xs.length ca5 (xs.map M.e64) (xs.map M.e64) := by
  have o4 : w5.ownsRow 0 22 1 v4 xs.length (xs.map M.e64) := own_kept hb4.own hk5 (fun _ _ e => e)
  have o5 : w5.ownsRow 0 22 1 v5 xs.length (xs.map M.e64) := hb5.own
  obtain ⟨va4, ca4, rfl⟩ := own_val o4
  obtain ⟨va5, ca5, rfl⟩ := own_val o5
  have s3 := k3.size
  have s4 := k4.size
  refine ⟨va4, ca4, va5, ca5, rfl, rfl, ⟨o4, fun g cap e => .inr ?_, k5⟩, ⟨o5, fun g cap e => .inr ?_, k5⟩, fun r e => ?_, fun r e => ?_, fun r e1 e2 => ?_⟩
  · exact Nat.le_trans s3 (hg4 g (by rw [e]; rfl))
  · exact Nat.le_trans s4 (hg5 g (by rw [e]; rfl))
  · exact Nat.le_trans s3 (hg4 r e)
  · exact Nat.le_trans s4 (hg5 r e)
  · have h1 := hg5 r e2
    have h2 := (World.ownsRow.lt (show w4.ownsRow 0 22 1 _ _ _ from hb4.own) r e1).2
    omega
set_option maxRecDepth 4000 in
set_option maxHeartbeats 2000000 in
theorem step_heads {E w W lw c x t fr ls fa fc va n vc} (h : PW E w W lw c x t fr ls fa fc va n vc) (hc : n ≤ 1000) (od tt rf : Int) (sp a : Nat) :
    Calls Tryz.prog 12 #[.pointer (some ⟨lw, 0, none⟩), stV 7 od tt rf sp, .int .u64 (a : Int)] W fun e w' => StP E w W lw (c + 1) e w' := by
  have ho := h.nums.1
  have K0 := (Kept.refl none' W).alloc (stO 7 od tt rf sp)
  have HK0 := hid K0
  have HH := hid h
  have HC := hid (fun W' (k : Kept none' W W') => show W'.cell? ⟨lw, 5, none⟩ = some (.pointer (some ⟨x.b, 0, none⟩)) from by
    obtain ⟨c0, c1, c2, c3, c4, c5, c6, c7, c8, c9⟩ := (h.keep k).law.c
    exact c5)
  have HKD := hid (none_trans K0 (Kept.refl none' _).drew)
  have c5 := HC.out _ HKD.out
  clear h K0
  go_enter Tryz.func12, Tryz.ntmps12
  go_wp2_with fail
  go_region_held3 (fun w' => w'.cell? ⟨lw, 5, none⟩ = some (.pointer (some ⟨x.b, 0, none⟩))) (with_reducible assumption) (first
    | (go_at_call 30; refine IN8.out.mono ?_; rintro e w9 ⟨rfl, hk9⟩; have K9 := hid (none_trans K8.out (toK hk9)); have a9 := HC.out _ K9.out; clear hk9)
    | (go_at_call 51; (with_reducible refine (heads_x (HH.out.keep K7.out)).mono ?_); rintro e w8 ⟨v8, rfl, hw8, hk8, _⟩; have K8 := hid (none_trans K7.out hk8); have IN8 := hid (M.ints_any _ _ _ _ (by rw [headsL_len]; omega) w8 (Wds.keep' L7.out hk8) hw8.wds); rw [decide_eq_true rfl] at IN8; have a8 := HC.out _ K8.out; clear hw8 hk8)
    | (go_at_call 29; (with_reducible refine (heads_w (HH.out.keep K6.out)).mono ?_); rintro e w7 ⟨g7, rfl, hw7, hk7, _, _⟩; have K7 := hid (none_trans K6.out hk7); have L7 := hid hw7; have a7 := HC.out _ K7.out; clear hw7 hk7)
    | (go_at_call 52; refine AP.out.mono ?_; rintro e w6 ⟨rfl, hk6⟩; have K6 := hid hk6; have a6 := HC.out _ K6.out; clear hk6)
    | (go_at_call 29; (with_reducible refine (heads_w (HH.out.keep K4.out)).mono ?_); rintro e w5 ⟨g5, rfl, _, hk5, hb5, hg5⟩; have K5 := hid (none_trans K4.out hk5); have TW := hid (show Tw W w5 (some ⟨g4, 0, none⟩) (x.o + 1) (x.o + 1) (some ⟨g5, 0, none⟩) (x.o + 1) (x.o + 1) ((headsL x t).map M.e64) ((headsL x t).map M.e64) from tw_heads ho K3.out K4.out (none_trans K4.out hk5) hk5 B4.out hb5 G4.out hg5); have AP := hid (apart_x W _ _ _ _ _ _ _ _ (by omega) (by omega) w5 TW.out); have a5 := HC.out _ K5.out; clear hk5 hb5 hg5 TW)
    | (go_at_call 29; (with_reducible refine (heads_w (HH.out.keep K3.out)).mono ?_); rintro e w4 ⟨g4, rfl, _, hk4, hb4, hg4⟩; have K4 := hid (none_trans K3.out hk4); have B4 := hid hb4; have G4 := hid hg4; have a4 := HC.out _ K4.out; clear hk4 hb4 hg4)
    | (go_at_call 30; refine IN.out.mono ?_; rintro e w3 ⟨rfl, hk3⟩; have K3 := hid (none_trans K2.out (toK hk3)); have a3 := HC.out _ K3.out; clear hk3)
    | (go_at_call 51; (with_reducible refine (heads_x (HH.out.keep K1.out)).mono ?_); rintro e w2 ⟨v2, rfl, hw2, hk2, _⟩; have K2 := hid (none_trans K1.out hk2); have IN := hid (M.ints_any _ _ _ _ (by rw [headsL_len]; omega) w2 (Wds.keep' L1.out hk2) hw2.wds); rw [decide_eq_true rfl] at IN; have a2 := HC.out _ K2.out; clear hw2 hk2)
    | (go_at_call 29; (with_reducible refine (heads_w (HH.out.keep HKD.out)).mono ?_); rintro e w1 ⟨g1, rfl, hw1, hk1, hb1, hg1⟩; have K1 := hid (none_trans HKD.out hk1); have L1 := hid hw1; have a1 := HC.out _ K1.out; clear hw1 hk1 hb1 hg1)
    | fail)
  all_goals
    have D := hid (HH.out.stp K9.out)
    go_wp2_with fail
    go_ret
    exact D.out
end Go.Proofs.YthglogiglimebaaGreat
/- BuddyPlays: the step Free. -/
namespace Go.Proofs.YthglogiglimebaaGreat
open Go.RowKit
set_option linter.unusedVariables false

theorem stc8 {W : World} {b : Nat} {op od tt rf : Int} {p : Nat} (h : W.heap[b]? = some (stO op od tt rf p)) : W.cell? ⟨b, 0, none⟩ = some (.int .i64 op) ∧ W.cell? ⟨b, 1, none⟩ = some (.int .i64 od) ∧ W.cell? ⟨b, 2, none⟩ = some (.int .i64 tt) ∧ W.cell? ⟨b, 3, none⟩ = some (.int .i64 rf) ∧ W.cell? ⟨b, 4, none⟩ = some (.int .u64 (p : Int)) := by
  refine ⟨?_, ?_, ?_, ?_, ?_⟩ <;> simp [World.cell?, h]
set_option maxRecDepth 4000 in
set_option maxHeartbeats 2000000 in
theorem step_free {E w W lw c x t fr ls fa fc va n vc} (h : PW E w W lw c x t fr ls fa fc va n vc) (hc : n ≤ 1000) (k : Nat) (hk : k ≤ x.o) (tt rf : Int) (sp a : Nat) :
    Calls Tryz.prog 12 #[.pointer (some ⟨lw, 0, none⟩), stV 8 (k : Int) tt rf sp, .int .u64 (a : Int)] W fun e w' => StP E w W lw (c + 1) e w' := by
  have ho := h.nums.1
  have FLN := hid (h.flen k hk)
  have K0 := (Kept.refl none' W).alloc (stO 8 (k : Int) tt rf sp)
  have HK0 := hid K0
  have HW := hid h
  have HH := hid (h.keep K0)
  have X0 := hid (heap_new W (stO 8 (k : Int) tt rf sp))
  generalize hV : W.alloc (stO 8 (k : Int) tt rf sp) = V0 at *
  have HC := hid (fun W' (k' : Kept none' V0 W') => show W'.cell? ⟨lw, 5, none⟩ = some (.pointer (some ⟨x.b, 0, none⟩)) ∧ W'.cell? ⟨W.heap.size, 1, none⟩ = some (.int .i64 (k : Int)) from by
    obtain ⟨c0, c1, c2, c3, c4, c5, c6, c7, c8, c9⟩ := (HH.out.keep k').law.c
    obtain ⟨s0, s1, s2, s3, s4⟩ := stc8 ((k'.block _ (heap_lt X0.out) (fun e => e)).trans X0.out)
    exact ⟨c5, s1⟩)
  have HKD := hid ((Kept.refl none' V0).drew)
  obtain ⟨c5, c51⟩ := HC.out _ HKD.out
  obtain ⟨s0, _, _, _, _⟩ := stc8 X0.out
  clear h K0
  go_enter Tryz.func12, Tryz.ntmps12
  go_wp2_with fail
  clear s0 hV
  go_region_held3 (fun w' => w'.cell? ⟨lw, 5, none⟩ = some (.pointer (some ⟨x.b, 0, none⟩)) ∧ w'.cell? ⟨W.heap.size, 1, none⟩ = some (.int .i64 (k : Int))) ((refine ⟨?_, ?_⟩ <;> with_reducible assumption)) (first
    | (go_at_call 30; refine IN8.out.mono ?_; rintro e w9 ⟨rfl, hk9⟩; have K9 := hid (none_trans K8.out (toK hk9)); obtain ⟨a9, a91⟩ := HC.out _ K9.out; clear hk9)
    | (go_at_call 53; (with_reducible refine (free_x (HH.out.keep K7.out) k hk).mono ?_); rintro e w8 ⟨v8, rfl, hw8, hk8, _⟩; have K8 := hid (none_trans K7.out hk8); have IN8 := hid (M.ints_any _ _ _ _ (Nat.le_trans FLN.out (by decide)) w8 (Wds.keep' L7.out hk8) hw8.wds); rw [decide_eq_true rfl] at IN8; obtain ⟨a8, a81⟩ := HC.out _ K8.out; clear hw8 hk8)
    | (go_at_call 20; (with_reducible refine (free_w (HH.out.keep K6.out) k hk).mono ?_); rintro e w7 ⟨v7, rfl, hw7, hk7, _⟩; have K7 := hid (none_trans K6.out hk7); have L7 := hid hw7.wds; obtain ⟨a7, a71⟩ := HC.out _ K7.out; clear hw7 hk7)
    | (go_at_call 52; refine AP.out.mono ?_; rintro e w6 ⟨rfl, hk6⟩; have K6 := hid hk6; obtain ⟨a6, a61⟩ := HC.out _ K6.out; clear hk6)
    | (go_at_call 20; (with_reducible refine (free_w (HH.out.keep K4.out) k hk).mono ?_); rintro e w5 ⟨v5, rfl, hb5, hk5, hg5⟩; have K5 := hid (none_trans K4.out hk5); obtain ⟨va4, ca4, va5, ca5, e4, e5, hTW⟩ := tw_lists K3.out K4.out (none_trans K4.out hk5) hk5 B4.out hb5 G4.out hg5; subst e4 e5; have TW := hid hTW; clear hTW; have AP := hid (apart_x V0 _ _ _ _ _ _ _ _ FLN.out FLN.out w5 TW.out); obtain ⟨a5, a51⟩ := HC.out _ K5.out; clear hk5 hb5 hg5 TW)
    | (go_at_call 20; (with_reducible refine (free_w (HH.out.keep K3.out) k hk).mono ?_); rintro e w4 ⟨v4, rfl, hb4, hk4, hg4⟩; have K4 := hid (none_trans K3.out hk4); have B4 := hid hb4; have G4 := hid hg4; obtain ⟨a4, a41⟩ := HC.out _ K4.out; clear hk4 hb4 hg4)
    | (go_at_call 30; refine IN.out.mono ?_; rintro e w3 ⟨rfl, hk3⟩; have K3 := hid (none_trans K2.out (toK hk3)); obtain ⟨a3, a31⟩ := HC.out _ K3.out; clear hk3)
    | (go_at_call 53; (with_reducible refine (free_x (HH.out.keep K1.out) k hk).mono ?_); rintro e w2 ⟨v2, rfl, hw2, hk2, _⟩; have K2 := hid (none_trans K1.out hk2); have IN := hid (M.ints_any _ _ _ _ (Nat.le_trans FLN.out (by decide)) w2 (Wds.keep' L1.out hk2) hw2.wds); rw [decide_eq_true rfl] at IN; obtain ⟨a2, a21⟩ := HC.out _ K2.out; clear hw2 hk2)
    | (go_at_call 20; (with_reducible refine (free_w (HH.out.keep HKD.out) k hk).mono ?_); rintro e w1 ⟨v1, rfl, hw1, hk1, hg1⟩; have K1 := hid (none_trans HKD.out hk1); have L1 := hid hw1.wds; obtain ⟨a1, a11⟩ := HC.out _ K1.out; clear hw1 hk1 hg1)
    | fail)
  all_goals
    have D := hid (HW.out.stp (none_trans HK0.out K9.out))
    go_wp2_with fail
    go_ret
    exact D.out
end Go.Proofs.YthglogiglimebaaGreat
