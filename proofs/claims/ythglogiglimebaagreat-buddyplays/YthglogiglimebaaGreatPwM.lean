import Derived.Test.YthglogiglimebaaGreatQi
import Derived.Deep.RegionHeld3
/- BuddyPlays: the step Free, an order that may not be. -/
namespace Go.Proofs.YthglogiglimebaaGreat
open Go.RowKit
set_option linter.unusedVariables false

theorem newL_nil {W W' : World} (k : Kept none' W W') : NewL W [] (.returned (.slice none 0 0)) W' := ⟨_, rfl, M.Lst.nil _, k, fun r e => by simp [Value.ownBlock] at e⟩
theorem free_nx {E w W lw c x t fr ls fa fc va n vc} (h : PW E w W lw c x t fr ls fa fc va n vc) (k : Int) (hk : inR (x.o + 1) k = false) :
    Calls Tryz.prog 53 #[.pointer (some ⟨lw, 0, none⟩), .int .i64 k] W fun e w' => NewL W [] e w' := (free_no h k hk).mono fun e w' ⟨he, hk⟩ => by
  subst he
  exact newL_nil hk
theorem free_nw {E w W lw c x t fr ls fa fc va n vc} (h : PW E w W lw c x t fr ls fa fc va n vc) (k : Int) (hk : inR (x.o + 1) k = false) :
    Calls Tryz.prog 20 #[.pointer (some ⟨x.b, 0, none⟩), .int .i64 k] W fun e w' => NewL W [] e w' := (Free_no x t k hk W h.law.bd).mono fun e w' ⟨he, hw⟩ => by
  subst he hw
  exact newL_nil (Kept.refl _ _)
set_option maxRecDepth 4000 in
set_option maxHeartbeats 2000000 in
theorem step_free_no {E w W lw c x t fr ls fa fc va n vc} (h : PW E w W lw c x t fr ls fa fc va n vc) (hc : n ≤ 1000) (k : Int) (hk : inR (x.o + 1) k = false) (tt rf : Int) (sp a : Nat) :
    Calls Tryz.prog 12 #[.pointer (some ⟨lw, 0, none⟩), stV 8 k tt rf sp, .int .u64 (a : Int)] W fun e w' => StP E w W lw (c + 1) e w' := by
  have ho := h.nums.1
  have FLN := hid (show ([] : List Nat).length ≤ 1024 from by simp)
  have K0 := (Kept.refl none' W).alloc (stO 8 k tt rf sp)
  have HK0 := hid K0
  have HW := hid h
  have HH := hid (h.keep K0)
  have X0 := hid (heap_new W (stO 8 k tt rf sp))
  generalize hV : W.alloc (stO 8 k tt rf sp) = V0 at *
  have HC := hid (fun W' (k' : Kept none' V0 W') => show W'.cell? ⟨lw, 5, none⟩ = some (.pointer (some ⟨x.b, 0, none⟩)) ∧ W'.cell? ⟨W.heap.size, 1, none⟩ = some (.int .i64 k) from by
    obtain ⟨c0, c1, c2, c3, c4, c5, c6, c7, c8, c9⟩ := (HH.out.keep k').law.c
    obtain ⟨s0, s1, s2, s3, s4⟩ := stc8 ((k'.block _ (heap_lt X0.out) (fun e => e)).trans X0.out)
    exact ⟨c5, s1⟩)
  have HKD := hid ((Kept.refl none' V0).drew)
  obtain ⟨c5, c51⟩ := HC.out _ HKD.out
  obtain ⟨s0, _, _, _, _⟩ := stc8 X0.out
  clear h K0
  go_enter Tryz.func12, Tryz.ntmps12
  go_wp2_with fail
  clear s0 hV
  go_region_held3 (fun w' => w'.cell? ⟨lw, 5, none⟩ = some (.pointer (some ⟨x.b, 0, none⟩)) ∧ w'.cell? ⟨W.heap.size, 1, none⟩ = some (.int .i64 k)) ((refine ⟨?_, ?_⟩ <;> with_reducible assumption)) (first
    | (go_at_call 30; refine IN8.out.mono ?_; rintro e w9 ⟨rfl, hk9⟩; have K9 := hid (none_trans K8.out (toK hk9)); obtain ⟨a9, a91⟩ := HC.out _ K9.out; clear hk9)
    | (go_at_call 53; (with_reducible refine (free_nx (HH.out.keep K7.out) k hk).mono ?_); rintro e w8 ⟨v8, rfl, hw8, hk8, _⟩; have K8 := hid (none_trans K7.out hk8); have IN8 := hid (M.ints_any _ _ _ _ (Nat.le_trans FLN.out (by decide)) w8 (Wds.keep' L7.out hk8) hw8.wds); rw [decide_eq_true rfl] at IN8; obtain ⟨a8, a81⟩ := HC.out _ K8.out; clear hw8 hk8)
    | (go_at_call 20; (with_reducible refine (free_nw (HH.out.keep K6.out) k hk).mono ?_); rintro e w7 ⟨v7, rfl, hw7, hk7, _⟩; have K7 := hid (none_trans K6.out hk7); have L7 := hid hw7.wds; obtain ⟨a7, a71⟩ := HC.out _ K7.out; clear hw7 hk7)
    | (go_at_call 52; refine AP.out.mono ?_; rintro e w6 ⟨rfl, hk6⟩; have K6 := hid hk6; obtain ⟨a6, a61⟩ := HC.out _ K6.out; clear hk6)
    | (go_at_call 20; (with_reducible refine (free_nw (HH.out.keep K4.out) k hk).mono ?_); rintro e w5 ⟨v5, rfl, hb5, hk5, hg5⟩; have K5 := hid (none_trans K4.out hk5); obtain ⟨va4, ca4, va5, ca5, e4, e5, hTW⟩ := tw_lists K3.out K4.out (none_trans K4.out hk5) hk5 B4.out hb5 G4.out hg5; subst e4 e5; have TW := hid hTW; clear hTW; have AP := hid (apart_x V0 _ _ _ _ _ _ _ _ FLN.out FLN.out w5 TW.out); obtain ⟨a5, a51⟩ := HC.out _ K5.out; clear hk5 hb5 hg5 TW)
    | (go_at_call 20; (with_reducible refine (free_nw (HH.out.keep K3.out) k hk).mono ?_); rintro e w4 ⟨v4, rfl, hb4, hk4, hg4⟩; have K4 := hid (none_trans K3.out hk4); have B4 := hid hb4; have G4 := hid hg4; obtain ⟨a4, a41⟩ := HC.out _ K4.out; clear hk4 hb4 hg4)
    | (go_at_call 30; refine IN.out.mono ?_; rintro e w3 ⟨rfl, hk3⟩; have K3 := hid (none_trans K2.out (toK hk3)); obtain ⟨a3, a31⟩ := HC.out _ K3.out; clear hk3)
    | (go_at_call 53; (with_reducible refine (free_nx (HH.out.keep K1.out) k hk).mono ?_); rintro e w2 ⟨v2, rfl, hw2, hk2, _⟩; have K2 := hid (none_trans K1.out hk2); have IN := hid (M.ints_any _ _ _ _ (Nat.le_trans FLN.out (by decide)) w2 (Wds.keep' L1.out hk2) hw2.wds); rw [decide_eq_true rfl] at IN; obtain ⟨a2, a21⟩ := HC.out _ K2.out; clear hw2 hk2)
    | (go_at_call 20; (with_reducible refine (free_nw (HH.out.keep HKD.out) k hk).mono ?_); rintro e w1 ⟨v1, rfl, hw1, hk1, hg1⟩; have K1 := hid (none_trans HKD.out hk1); have L1 := hid hw1.wds; obtain ⟨a1, a11⟩ := HC.out _ K1.out; clear hw1 hk1 hg1)
    | fail)
  all_goals
    have D := hid (HW.out.stp (none_trans HK0.out K9.out))
    go_wp2_with fail
    go_ret
    exact D.out
end Go.Proofs.YthglogiglimebaaGreat
