/- croftlaw7.lives. -/
import Derived.Test.YtocpnddacdpnmaaGreatDoorSmc
namespace Go.Proofs.YtocpnddacdpnmaaGreatDoor
open Go.RowKit
set_option linter.unusedVariables false

def S1 : Sb := takS (freS S0 0 7) 0 7 (List.range' 1 (ncl 7 - 1))
def S2 : Sb := takS S1 0 7 []
theorem S1_pl : S1.pl 7 = [0] := by decide
theorem S1_fl : S1.fl 0 = [1] := by decide
theorem S2_no : ∀ g k i, ¬ Lv7 S2 67585 g k i := by
  rintro g k i ⟨h1, h2, h3, h4⟩
  by_cases e : g = 0
  · subst e
    have e2 : S2.c 0 = some 7 := rfl
    rw [e2] at h1
    cases h1
    rw [show szC 7 = 2048 by decide] at h4
    omega
  · have e2 : S2.c g = none := by
      show updF S0.c 0 (some 7) g = none
      rw [updF_ne _ _ e]
      rfl
    rw [e2] at h1
    cases h1
set_option maxRecDepth 8000 in
set_option maxHeartbeats 8000000 in
theorem lives7 (w : World) (hT : Tab w) :
    Calls Tryz.prog 8 #[] w fun e w' => e = .returned (.bool true) ∧ Kept none' w w' := by
  have BG := hid (begin7_ok 65536 (by decide) 1 1 (by decide) (by decide) (by decide) (by decide) w hT)
  have HT := hid hT
  clear hT
  go_enter Tryz.func8, Tryz.ntmps8
  go_wp2_with fail
  refine BG.out.mono ?_
  rintro e w1 hB
  obtain ⟨wb, lw, sb, fv, lv, pv, qv, rfl, hx, hks, hk, hz⟩ := hB.ks
  have X1 := hid hx
  have S1' := hid hks
  have K1 := hid hk
  have HZ := hid hz
  obtain ⟨c3, c4⟩ := w7c hx
  clear hB hx hks hk hz BG
  have T1 := hid (S1'.out.stuck 0 (by decide) rfl true (.inl rfl))
  go_wp2_with fail
  refine T1.out.mono ?_
  rintro e w2 ⟨rfl, hs, hk⟩
  have X2 := hid ((hk.block _ (heap_lt X1.out) (fun e => e)).trans X1.out)
  have K2 := hid (none_trans K1.out hk)
  have T2 := hid (hs.grow 7 (by decide) rfl)
  clear hs hk c3 c4 T1
  obtain ⟨c3, c4⟩ := w7c X2.out
  go_wp2_with fail
  refine T2.out.mono ?_
  rintro e w3 ⟨rfl, hs, hk⟩
  have X3 := hid ((hk.block _ (heap_lt X2.out) (fun e => e.1 rfl)).trans X2.out)
  have K3 := hid (K2.out.trans hk (fun _ _ e => e) (fun y hy e => absurd hy (Nat.not_lt.2 e.2)))
  have T3 := hid (hs.old 7 (by decide) S1_pl S1_fl false)
  rw [show 65536 + 4096 * 0 + 1 * szC 7 = 67584 by decide] at T3
  clear hs hk c3 c4 T2
  obtain ⟨c3, c4⟩ := w7c X3.out
  go_wp2_with fail
  refine T3.out.mono ?_
  rintro e w4 ⟨rfl, hs, hk⟩
  have X4 := hid ((hk.block _ (heap_lt X3.out) (fun e => e.1 rfl)).trans X3.out)
  have K4 := hid (K3.out.trans hk (fun _ _ e => e) (fun y hy e => absurd hy (Nat.not_lt.2 e.2)))
  have S4 := hid hs
  clear hs hk c3 c4 T3
  go_upto_region 7 with fail
  have KD := hid ((Kept.refl none' w4).drew)
  have X5 := hid ((KD.out.block _ (heap_lt X4.out) (fun e => e)).trans X4.out)
  have S5 := hid (S4.out.keep KD.out)
  have HP := hid S5.out.heads
  obtain ⟨c3, c4⟩ := w7c X5.out
  go_region_held3 (fun w' => w'.cell? ⟨wb, 3, none⟩ = some (.pointer (some ⟨lw, 0, none⟩)) ∧ w'.cell? ⟨wb, 4, none⟩ = some (.pointer (some ⟨sb, 0, none⟩))) ((refine ⟨?_, ?_⟩ <;> first | with_reducible assumption | fail)) (first
    | (go_at_call 11; (with_reducible refine HP.out.mono ?_); rintro e w5 ⟨b, rfl, hb, hk5, hz5⟩; have K5 := hid (none_trans KD.out hk5); have X6 := hid ((hk5.block _ (heap_lt X5.out) (fun e => e)).trans X5.out); obtain ⟨f3, f4⟩ := w7c X6.out; have OP := hid ((S5.out.keep hk5).open HT.out b hb); clear hb hk5 hz5)
    | (go_at_call 36; (with_reducible refine OP.out.mono ?_); rintro e w6 ⟨sb2, rfl, hs2, hs1, hk6⟩; have K6 := hid (none_trans K4.out (none_trans K5.out hk6)); have X7 := hid ((hk6.block _ (heap_lt X6.out) (fun e => e)).trans X6.out); have Q2 := hid hs2; have Q1 := hid hs1; obtain ⟨g3, g4⟩ := w7c X7.out; clear hs2 hs1 hk6)
    | fail)
  all_goals
    clear c3 c4 f3 f4 HP OP
    go_upto_region 8 with fail
    have KE := hid ((Kept.refl none' w6).drew)
    have X8 := hid ((KE.out.block _ (heap_lt X7.out) (fun e => e)).trans X7.out)
    have PA := hid (show ∀ W', Kept none' w6 W' → Calls Tryz.prog 11 #[.pointer (some ⟨sb, 0, none⟩)] W' fun e w' => ∃ b, e = .returned (.slice (some ⟨b, 0, none⟩) 8 8) ∧ NumC w' b 8 (fun j => hdI (S2.pl j)) ∧ Kept none' W' w' ∧ Kept none' w6 w' from fun W' k => (Q1.out.keep k).heads.mono fun e w' ⟨b, h1, h2, h3, _⟩ => ⟨b, h1, h2, h3, none_trans k h3⟩)
    have PB := hid (show ∀ W', Kept none' w6 W' → Calls Tryz.prog 11 #[.pointer (some ⟨sb2, 0, none⟩)] W' fun e w' => ∃ b, e = .returned (.slice (some ⟨b, 0, none⟩) 8 8) ∧ NumC w' b 8 (fun j => hdI (S2.pl j)) ∧ Kept none' W' w' ∧ Kept none' w6 w' from fun W' k => (Q2.out.keep k).heads.mono fun e w' ⟨b, h1, h2, h3, _⟩ => ⟨b, h1, h2, h3, none_trans k h3⟩)
    obtain ⟨c3, c4⟩ := w7c X8.out
    clear g3 g4
    go_region_held3 (fun w' => w'.cell? ⟨wb, 4, none⟩ = some (.pointer (some ⟨sb, 0, none⟩))) (first | with_reducible assumption | fail) (first
      | (go_at_call 11; (with_reducible refine (PB.out _ KE.out).mono ?_); rintro e wB ⟨b2, rfl, hb, hk, hk6⟩; have N2 := hid hb; have KB := hid hk6; obtain ⟨i3, i4⟩ := w7c ((hk6.block _ (heap_lt X7.out) (fun e => e)).trans X7.out); clear hb hk hk6)
      | (go_at_call 11; (with_reducible refine (PA.out _ KE.out).mono ?_); rintro e wA ⟨b1, rfl, hb, hk, hk6⟩; have N1 := hid hb; have KA := hid hk6; obtain ⟨j3, j4⟩ := w7c ((hk6.block _ (heap_lt X7.out) (fun e => e)).trans X7.out); clear hb hk hk6)
      | (go_at_call 11; (with_reducible refine (PA.out _ KB.out).mono ?_); rintro e wA ⟨b1, rfl, hb, hk, hk6⟩; have N1 := hid hb; have KA := hid hk6; have M2 := hid (N2.out.keep hk); obtain ⟨j3, j4⟩ := w7c ((hk6.block _ (heap_lt X7.out) (fun e => e)).trans X7.out); clear hb hk hk6)
      | (go_at_call 11; (with_reducible refine (PB.out _ KA.out).mono ?_); rintro e wB ⟨b2, rfl, hb, hk, hk6⟩; have N2 := hid hb; have KB := hid hk6; have M1 := hid (N1.out.keep hk); obtain ⟨i3, i4⟩ := w7c ((hk6.block _ (heap_lt X7.out) (fun e => e)).trans X7.out); clear hb hk hk6)
      | (go_at_call 10; (with_reducible refine (ints7 b2 b1 8 8 8 _ (by decide) _ M2.out N1.out).mono ?_); rintro e w8 ⟨rfl, hk8⟩; have K8 := hid (none_trans KA.out hk8); obtain ⟨l3, l4⟩ := w7c ((K8.out.block _ (heap_lt X7.out) (fun e => e)).trans X7.out); clear hk8)
      | (go_at_call 10; (with_reducible refine (ints7 b2 b1 8 8 8 _ (by decide) _ N2.out M1.out).mono ?_); rintro e w8 ⟨rfl, hk8⟩; have K8 := hid (none_trans KB.out hk8); obtain ⟨l3, l4⟩ := w7c ((K8.out.block _ (heap_lt X7.out) (fun e => e)).trans X7.out); clear hk8)
      | fail)
    all_goals
      have Z1 := hid ((Q1.out.keep K8.out).size_yes (a := 67584) (g := 0) (k := 7) (i := 1) ⟨rfl, by decide, by decide, by decide⟩)
      have K9 := hid (none_trans K6.out K8.out)
      rw [show szC 7 = 2048 by decide] at Z1
      clear c3 c4
      go_wp2_with fail
      refine Z1.out.mono ?_
      rintro e w9 ⟨rfl, hs9, hk9⟩
      have L9 := hid ((K8.out.block _ (heap_lt X7.out) (fun e => e)).trans X7.out)
      obtain ⟨m3, m4⟩ := w7c ((hk9.block _ (heap_lt L9.out) (fun e => e)).trans L9.out)
      have Z2 := hid (hs9.size_no 67585 (by decide) S2_no)
      have K10 := hid (none_trans K9.out hk9)
      clear hs9 hk9
      go_wp2_with fail
      refine Z2.out.mono ?_
      rintro e w10 ⟨rfl, hs10, hk10⟩
      have D := hid (none_trans K10.out hk10)
      clear hs10 hk10
      go_wp2_with fail
      go_ret
      exact ⟨rfl, D.out⟩
end Go.Proofs.YtocpnddacdpnmaaGreatDoor
