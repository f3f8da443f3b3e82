/- RegionGone: the walk. -/
import Derived.Test.YtggieolknccababGonD
import Derived.Test.YtggieolknccababRgE
import Derived.Deep.RegionHeld3
import Derived.Deep.DeepCutAuto
namespace Go.Proofs.Ytggieolknccabab
open Go.RowKit
set_option linter.unusedVariables false

/-- Numbers that came in. -/
def In6 (w : World) (a : Option Addr) (n : Nat) : Prop := n ≤ 9223372036854775807 ∧ (n = 0 ∨ ∃ bl f, a = some ⟨bl, f, none⟩ ∧ ∀ i, i < n → ∃ z, N64 z ∧ w.cell? ⟨bl, f + i, none⟩ = some (.int .i64 z))
theorem may6 {l o : Nat} (hl : l ≤ 3) (ho : o ≤ 3) : M.mayB 1048576 ((l + 1 : Nat) : Int) (o : Int) = true := by
  have h : ∀ l : Nat, l < 4 → ∀ o : Nat, o < 4 → M.mayB 1048576 ((l + 1 : Nat) : Int) (o : Int) = true := by decide
  exact h l (by omega) o (by omega)
theorem small6 (a b : Int) (w : World) : Calls Try.prog 6 #[.int .i64 a, .int .i64 b] w fun e w' => ∃ L o : Nat, 1 ≤ L ∧ L ≤ 4 ∧ o ≤ 3 ∧ e = .returned (cfgV 1048576 (L : Int) (o : Int)) ∧ Kept none' w w' := by
  refine (small_any a b w).mono ?_
  rintro e w' ⟨l, o, h1, h2, rfl, hk⟩
  exact ⟨l + 1, o, by omega, by omega, h2, rfl, hk⟩
theorem may6L {L o : Nat} (h1 : 1 ≤ L) (h2 : L ≤ 4) (ho : o ≤ 3) : M.mayB 1048576 (L : Int) (o : Int) = true := by
  obtain ⟨l, rfl⟩ : ∃ l, L = l + 1 := ⟨L - 1, by omega⟩
  exact may6 (by omega) ho
theorem tm7 (a : Int) : -6 ≤ a.tmod 7 ∧ a.tmod 7 ≤ 6 := by
  have h1 := Int.tmod_lt_of_pos a (show (0 : Int) < 7 by omega)
  have h2 := Int.lt_tmod_of_pos a (show (0 : Int) < 7 by omega)
  omega
/-- The state of the first loop. -/
def G1s (w : World) (lw l o m : Nat) (va vk : Value) (W : World) : Prop := ∃ E x t fr ls, G1 w lw l o m va vk E x t fr ls W
/-- The state of the second one. -/
def G2s (w : World) (lw l o m : Nat) (va vk : Value) (I : Nat) (P : (Nat → Bool) → Prop) (W : World) : Prop := ∃ d E x t fr l0 ls, G2 w lw l o m va vk I d E x t fr l0 ls W ∧ P d
set_option maxRecDepth 4000 in
set_option maxHeartbeats 8000000 in
theorem gone_any (a b : Int) (oa : Option Addr) (n oc : Nat) (fm : Int) (w : World) (hin : In6 w oa n) :
    Calls Try.prog 3 #[.int .i64 a, .int .i64 b, .slice oa n oc, .int .i64 fm] w fun e w' => e = .returned (.bool true) ∧ Kept none' w w' := by
  have HIN := hid hin
  have hn63 := hin.1
  clear hin
  go_enter Try.func3, Try.ntmps3
  go_wp2_with fail
  refine (awake6 _).mono ?_
  rintro e w0 ⟨rfl, hk0⟩
  have K0 := hid hk0
  clear hk0
  go_wp2_with fail
  refine (small6 a b _).mono ?_
  rintro e w1 ⟨L, o, hL1, hL4, ho, rfl, hk1⟩
  have K1 := hid ((none_trans K0.out hk1).alloc (cfgO 1048576 (L : Int) (o : Int)))
  have X1 := hid (heap_new w1 (cfgO 1048576 (L : Int) (o : Int)))
  have NW := hid (fun W => New6_ok 1048576 (by decide) L o (by omega) (by omega) (may6L hL1 hL4 ho) W)
  clear hk1 K0
  obtain ⟨x0, x1, x2⟩ := cfg3 X1.out
  go_wp2_with fail
  generalize w1.alloc (cfgO 1048576 (L : Int) (o : Int)) = W1 at *
  generalize w1.heap.size = cb at *
  refine (NW.out _).mono ?_
  rintro e w2 ⟨lw, x, rfl, hPl, e1, e2, e3, e4, e5⟩
  have I0 := hid (show G1s W1 lw L o 0 (.slice none 0 0) (.slice none 0 0) w2 from ⟨fun _ => False, x, _, _, [], ⟨⟨New6_po o hPl e4 e5 (by rw [e1]), fun y e => e.elim⟩, fun y e => by simp [Value.ownBlock] at e, fun y e => by simp [Value.ownBlock] at e, GS.nil _ _ _ _ hPl.kp, GS.nil _ _ _ _ hPl.kp, rfl, List.nodup_nil, e1, e3, e5⟩⟩)
  clear hPl e1 e2 e3 e4 e5 x0 x1 x2 NW
  go_wp2_with fail
  go_loopw [12, 13, 14] (fun sa sk i W' => ∃ j m : Nat, j ≤ n ∧ i = .int .i64 j ∧ (∃ ga gc, sa = .slice ga m gc ∧ ∃ ka kc, sk = .slice ka m kc ∧ Hid (G1s W1 lw L o m (.slice ga m gc) (.slice ka m kc) W'))) (fun _ _ i _ => n - (intOf i).toNat)
  case atStart => exact ⟨0, 0, Nat.zero_le _, rfl, none, 0, rfl, none, 0, rfl, I0⟩
  case round =>
    clear I0
    obtain ⟨j, m, hj, rfl, ga, gc, rfl, ka, kc, rfl, hI⟩ := hrel
    obtain ⟨E, x, t, fr, ls, hG⟩ := hI.out
    have G := hid hG
    clear hI hG
    by_cases hlt : j < n
    · have hji : (j : Int) < (n : Int) := by omega
      obtain ⟨_, h0 | ⟨bl, f, hoa, hcell⟩⟩ := HIN.out
      · omega
      obtain ⟨z, hz, r0⟩ := hcell j hlt
      subst hoa
      have R0 := hid r0
      have r1 := (none_trans K1.out G.out.pe.po.pl.kp).cell (fun e => e) r0
      clear hcell r0
      have ND := hid (Need_any G.out.pe.po z false)
      go_wp2_with fail
      clear r1
      refine ND.out.mono ?_
      rintro e w3 hn
      have suc : ∀ (p i : Nat) x' t' fr', z = (i : Int) → e = .returned (.tuple #[.int .u64 ((ad x p : Nat) : Int), .bool false, .int .i64 0]) ∨ e = .returned (.tuple #[.int .u64 ((ad x p : Nat) : Int), .bool true, .int .i64 0]) → PO W1 w3 lw x' t' fr' (ls ++ [(p, i)]) → Sm x x' → Kept (bown x) wr w3 → Nb wr x x' → (∀ r ∈ ls, r.1 ≠ p) → Hid (∃ (q : Nat) (bb : Bool) (i g cap g2 cap2 : Nat) (w4 w5 : World), z = (i : Int) ∧ e = .returned (.tuple #[.int .u64 (q : Int), .bool bb, .int .i64 0]) ∧ Hid ((∀ ty, (Builtin.append_ #[32, 32] ty #[.slice ga m gc, .slice (some ⟨w3.heap.size, 0, none⟩) 1 1]).run Try.prog (w3.alloc (.cells #[.int .u64 (q : Int)] 24)) = .ok (.slice (some ⟨g, 0, none⟩) (m + 1) cap) w4) ∧ (∀ ty, (Builtin.append_ #[22, 22] ty #[.slice ka m kc, .slice (some ⟨w4.heap.size, 0, none⟩) 1 1]).run Try.prog (w4.alloc (.cells #[.int .i64 z] 3)) = .ok (.slice (some ⟨g2, 0, none⟩) (m + 1) cap2) w5) ∧ Kept none' W1 w4 ∧ G1s W1 lw L o (m + 1) (.slice (some ⟨g, 0, none⟩) (m + 1) cap) (.slice (some ⟨g2, 0, none⟩) (m + 1) cap2) w5)) := fun p i x' t' fr' hz he hp hs hk nb hnp => by
        obtain ⟨g, cap, w4, g2, cap2, w5, E', r1, r2, k4, hG'⟩ := G.out.suc p i hp hs hk nb hnp
        rcases he with he | he
        · exact hid ⟨adG p, false, i, g, cap, g2, cap2, w4, w5, hz, by rw [he, adx G.out], hid ⟨r1, by rw [hz]; exact r2, k4, ⟨E', x', t', fr', _, hG'⟩⟩⟩
        · exact hid ⟨adG p, true, i, g, cap, g2, cap2, w4, w5, hz, by rw [he, adx G.out], hid ⟨r1, by rw [hz]; exact r2, k4, ⟨E', x', t', fr', _, hG'⟩⟩⟩
      have ends : Hid ((∃ er : Int, er ≠ 0 ∧ e = .returned (.tuple #[.int .u64 0, .bool false, .int .i64 er]) ∧ Hid (G1s W1 lw L o m (.slice ga m gc) (.slice ka m kc) w3)) ∨ (∃ (q : Nat) (bb : Bool) (i g cap g2 cap2 : Nat) (w4 w5 : World), z = (i : Int) ∧ e = .returned (.tuple #[.int .u64 (q : Int), .bool bb, .int .i64 0]) ∧ Hid ((∀ ty, (Builtin.append_ #[32, 32] ty #[.slice ga m gc, .slice (some ⟨w3.heap.size, 0, none⟩) 1 1]).run Try.prog (w3.alloc (.cells #[.int .u64 (q : Int)] 24)) = .ok (.slice (some ⟨g, 0, none⟩) (m + 1) cap) w4) ∧ (∀ ty, (Builtin.append_ #[22, 22] ty #[.slice ka m kc, .slice (some ⟨w4.heap.size, 0, none⟩) 1 1]).run Try.prog (w4.alloc (.cells #[.int .i64 z] 3)) = .ok (.slice (some ⟨g2, 0, none⟩) (m + 1) cap2) w5) ∧ Kept none' W1 w4 ∧ G1s W1 lw L o (m + 1) (.slice (some ⟨g, 0, none⟩) (m + 1) cap) (.slice (some ⟨g2, 0, none⟩) (m + 1) cap2) w5))) := by
        cases hn with
        | bad hk he kp => exact hid (.inl ⟨1, by decide, he, hid ⟨E, x, t, fr, ls, G.out.keep kp⟩⟩)
        | stuck i hk hi hz2 hd he kp => exact hid (.inl ⟨2, by decide, he, hid ⟨E, x, t, fr, ls, G.out.keep kp⟩⟩)
        | here i jj p l2 hk hi hij hjj hz2 hp he hs kp =>
          obtain ⟨t', hP, _⟩ := hs
          refine hid (.inr (suc p i x t' _ hk (.inl he) hP (Sm.refl x) kp (fun y e => .inl e) (fun r hr e => ?_)).out)
          obtain ⟨q, k⟩ := r
          have hz3 : 0 < 2 ^ k := Nat.pow_pos (by decide)
          have hz4 : 0 < 2 ^ jj := Nat.pow_pos (by decide)
          have e : q = p := e
          rcases G.out.pe.po.sf.apart0 hjj (show p ∈ fr jj by rw [hp]; exact List.mem_cons_self) hr with e2 | e2 <;> omega
        | grew i hk hi hz2 hd hl2 he hs kp =>
          obtain ⟨x', t', hP, hS, _, _, hnb⟩ := hs
          refine hid (.inr (suc t.m.n i x' t' _ hk (.inr he) hP hS kp hnb (fun r hr e => ?_)).out)
          obtain ⟨q, k⟩ := r
          obtain ⟨_, _, h3⟩ := G.out.pe.po.sf.sn.al hr
          have hz3 : 0 < 2 ^ k := Nat.pow_pos (by decide)
          have e : q = t.m.n := e
          omega
      clear suc hn ND
      rcases ends.out with ⟨er, her, he, hD⟩ | ⟨q, bb, i, g, cap, g2, cap2, w4, w5, hzi, he, hD⟩
      · as_aux_lemma =>
        clear ends
        subst he
        have hb : (er == 0) = false := beq_eq_false_iff_ne.2 her
        go_wp2_with fail
        exact ⟨⟨j + 1, m, by omega, by simp, ga, gc, rfl, ka, kc, rfl, hD⟩, by simp [intOf]; omega⟩
      · as_aux_lemma =>
        clear ends
        subst he hzi
        have r4 := (none_trans K1.out hD.out.2.2.1).cell (fun e => e) R0.out
        have HA1 := hid hD.out.1
        have HA2 := hid hD.out.2.1
        have HD := hid hD.out.2.2.2
        clear hD
        go_wp2_with (at_builtin; first | refine Lib.wpList_append_run _ rfl _ _ _ _ rfl (.slice ga m gc) (.slice (some ⟨w3.heap.size, 0, none⟩) 1 1) rfl rfl _ _ (HA1.out _) ?_ | refine Lib.wpList_append_run _ rfl _ _ _ _ rfl (.slice ka m kc) (.slice (some ⟨w4.heap.size, 0, none⟩) 1 1) rfl rfl _ _ (HA2.out _) ?_)
        exact ⟨⟨j + 1, m + 1, by omega, by simp, _, _, rfl, _, _, rfl, HD⟩, by simp [intOf]; omega⟩
    · obtain rfl : j = n := by omega
      have hji : ¬ (j : Int) < (j : Int) := by omega
      have hm := G.out.len
      obtain ⟨st, hst6, hst⟩ : ∃ st : Nat, st ≤ 6 ∧ (Int.tmod fm 7 = (st : Int) ∨ (0 < st ∧ Int.tmod fm 7 = -(st : Int))) := by
        have h7 := tm7 fm
        by_cases e : Int.tmod fm 7 < 0
        · exact ⟨(-(Int.tmod fm 7)).toNat, by omega, .inr ⟨by omega, by omega⟩⟩
        · exact ⟨(Int.tmod fm 7).toNat, by omega, .inl (by omega)⟩
      obtain ⟨wm, hmk, hbr, hkm⟩ := make_bools m hm wr
      have HG := hid (show G2s W1 lw L o m (.slice ga m gc) (.slice ka m kc) wr.heap.size (fun _ => True) wm from ⟨_, _, _, _, _, _, _, G.out.g2 hkm hbr (Nat.le_refl _), trivial⟩)
      clear hbr hkm G
      have hmi : (m : Int) ≤ 1024 := by omega
      rcases hst with hst | ⟨hs0, hst⟩
      · as_aux_lemma =>
        have hsti : (st : Int) ≤ 6 := by omega
        go_wp2_with fail
        clear hmk
        generalize wr.heap.size = I at *
        go_loopw [21] (fun r W' => ∃ rd : Nat, rd ≤ 8 ∧ r = .int .i64 rd ∧ Hid (G2s W1 lw L o m (.slice ga m gc) (.slice ka m kc) I (fun d => rd = 8 → ∀ i, i < m → d i = true) W')) (fun r _ => 8 - (intOf r).toNat)
        case atStart =>
          refine ⟨0, by omega, rfl, hid ?_⟩
          obtain ⟨d, E, x, t, fr, l0, ls, hG, _⟩ := HG.out
          exact ⟨d, E, x, t, fr, l0, ls, hG, fun e => by omega⟩
        case round =>
          clear HG
          obtain ⟨rd, hrd, rfl, hI⟩ := hrel
          by_cases hr8 : rd < 8
          · have hri : (rd : Int) < 8 := by omega
            have J0 := hid (show G2s W1 lw L o m (.slice ga m gc) (.slice ka m kc) I (fun d => rd = 7 → ∀ i, i < 0 → d i = true) wr from by
              obtain ⟨d, E, x, t, fr, l0, ls, hG, _⟩ := hI.out
              exact ⟨d, E, x, t, fr, l0, ls, hG, fun _ i hi => by omega⟩)
            clear hI
            go_wp2_with fail
            go_loopw [22] (fun i W' => ∃ a : Nat, a ≤ m ∧ i = .int .i64 a ∧ Hid (G2s W1 lw L o m (.slice ga m gc) (.slice ka m kc) I (fun d => rd = 7 → ∀ i, i < a → d i = true) W')) (fun i _ => m - (intOf i).toNat)
            case atStart => exact ⟨0, Nat.zero_le _, rfl, J0⟩
            case round =>
              clear J0
              obtain ⟨a, ha, rfl, hI⟩ := hrel
              by_cases hla : a < m
              · have hai : (a : Int) < (m : Int) := by omega
                obtain ⟨d, E, x, t, fr, l0, ls, hG, hP⟩ := hI.out
                have G := hid hG
                have PD := hid hP
                have b0 := hG.br.cell a hla
                clear hI hG hP
                cases hd : d a with
                | true =>
                  rw [hd] at b0
                  have D := hid (show G2s W1 lw L o m (.slice ga m gc) (.slice ka m kc) I (fun d => rd = 7 → ∀ i, i < a + 1 → d i = true) wr from ⟨d, E, x, t, fr, l0, ls, G.out, fun e i hi => by
                    by_cases e2 : i = a
                    · rw [e2]; exact hd
                    · exact PD.out e i (by omega)⟩)
                  go_wp2_with fail
                  exact ⟨⟨a + 1, by omega, by simp, D⟩, by simp [intOf]; omega⟩
                | false =>
                  rw [hd] at b0
                  obtain ⟨pr, hpr⟩ : ∃ pr : Nat, pr = a * (st + 3) := ⟨_, rfl⟩
                  have hpb : pr ≤ 9216 := by
                    rw [hpr]
                    exact Nat.le_trans (Nat.mul_le_mul (show a ≤ 1024 by omega) (show st + 3 ≤ 9 by omega)) (by decide)
                  have hmul : (a : Int) * ((st : Int) + 3) = (pr : Int) := by rw [hpr]; push_cast; rfl
                  have hprb : (pr : Int) ≤ 9216 := by omega
                  have hm1 : IntKind.i64.wrap ((a : Int) * ((st : Int) + 3)) = (pr : Int) := by rw [hmul, IntKind.wrap_i64]; omega
                  obtain ⟨c8, hc8⟩ : ∃ c8 : Int, Int.tmod ((pr : Int) + (rd : Int)) 8 = c8 := ⟨_, rfl⟩
                  clear hpr hpb
                  have GO := hid (show ∃ q k, l0.getD a (0, 0) = (q, k) from ⟨_, _, rfl⟩)
                  have stay : c8 ≠ 0 → rd ≠ 7 → Hid (G2s W1 lw L o m (.slice ga m gc) (.slice ka m kc) I (fun d => rd = 7 → ∀ i, i < a + 1 → d i = true) wr) := fun _ h7 => hid ⟨d, E, x, t, fr, l0, ls, G.out, fun e => absurd e h7⟩
                  by_cases hgo : c8 = 0 ∨ rd = 7
                  · obtain ⟨q, k, hq⟩ := GO.out
                    obtain ⟨g, g2, hga, hka, r1, r2⟩ := G.out.row a hla q k hq
                    subst hga hka
                    have hm : (q, k) ∈ ls := (G.out.mem q k).2 ⟨a, hla, hd, hq⟩
                    have KD := hid ((Kept.refl none' wr).drew)
                    have GD := hid (G.out.keep KD.out)
                    have GV := hid (Give6_yes GD.out.pe.po q k hm (adG q) (by unfold ad adG; rw [G.out.base]))
                    have HQ := hid hq
                    have HDD := hid hd
                    have d1 := KD.out.cell (fun e => e) r1
                    have d2 := KD.out.cell (fun e => e) r2
                    have NG := hid (show ∀ y, E y → ¬ bown x y from fun y e e2 => (G.out.pe.ex y e).2 (.inl e2))
                    have EA := hid (And.intro (G.out.ea g (by simp [Value.ownBlock])).1 (G.out.ek g2 (by simp [Value.ownBlock])).1)
                    have fin : ∀ w', (∃ t', PO W1 w' lw x t' (giveF x.o fr q k) (dropR ls q) ∧ t'.m.n = t.m.n ∧ Kept (bown x) wr.drew w') → Hid (G2s W1 lw L o m (.slice (some ⟨g, 0, none⟩) m gc) (.slice (some ⟨g2, 0, none⟩) m kc) I (fun d => rd = 7 → ∀ i, i < a + 1 → d i = true) (w'.setCell ⟨I, a, none⟩ (.bool true)) ∧ w'.frozen? ⟨I, a, none⟩ = false ∧ w'.cell? ⟨I, a, none⟩ = some (.bool false) ∧ w'.cell? ⟨g, a, none⟩ = some (.int .u64 ((adG q : Nat) : Int)) ∧ w'.cell? ⟨g2, a, none⟩ = some (.int .i64 (k : Int))) := fun w' h => by
                      obtain ⟨t', hp, _, hk⟩ := h
                      have hbr := GD.out.br.same (hk.block I GD.out.br.lt (NG.out I GD.out.ei.1))
                      refine hid ⟨⟨_, E, x, t', _, l0, _, GD.out.give a hla HDD.out q k HQ.out hp hk, fun e i hi => ?_⟩, hbr.froz a, by rw [hbr.cell a hla, HDD.out], hk.cell (p := ⟨g, a, none⟩) (NG.out g EA.out.1) d1, hk.cell (p := ⟨g2, a, none⟩) (NG.out g2 EA.out.2) d2⟩
                      show (if i = a then true else d i) = true
                      by_cases e2 : i = a
                      · rw [if_pos e2]
                      · rw [if_neg e2]; exact PD.out e i (by omega)
                    have FIN := hid fin
                    clear fin stay hm hq hd r1 r2 GO
                    rcases hgo with hc0 | h7
                    · as_aux_lemma =>
                      subst hc0
                      go_upto_region 28 with fail
                      go_region_held3 (fun w' => w'.cell? ⟨g, a, none⟩ = some (.int .u64 ((adG q : Nat) : Int)) ∧ w'.cell? ⟨g2, a, none⟩ = some (.int .i64 (k : Int))) ((refine ⟨?_, ?_⟩ <;> with_reducible assumption)) (first
                        | (go_at_call 9; (with_reducible refine GV.out.mono ?_); rintro e w6 ⟨rfl, h6⟩; have D6 := FIN.out w6 h6; obtain ⟨_, _, _, z1, z2⟩ := D6.out; clear h6)
                        | fail)
                      all_goals
                        obtain ⟨_, f6, c6, _, _⟩ := D6.out
                        have D := hid D6.out.1
                        clear d1 d2 z1 z2 b0 FIN GV D6
                        go_wp2_with fail
                        exact ⟨⟨a + 1, by omega, by simp, D⟩, by simp [intOf]; omega⟩
                    · as_aux_lemma =>
                      have h7b : ((rd : Int) == 7) = true := beq_iff_eq.2 (by omega)
                      clear h7
                      by_cases hc0 : c8 = 0
                      · subst hc0
                        go_upto_region 28 with fail
                        go_region_held3 (fun w' => w'.cell? ⟨g, a, none⟩ = some (.int .u64 ((adG q : Nat) : Int)) ∧ w'.cell? ⟨g2, a, none⟩ = some (.int .i64 (k : Int))) ((refine ⟨?_, ?_⟩ <;> with_reducible assumption)) (first
                          | (go_at_call 9; (with_reducible refine GV.out.mono ?_); rintro e w6 ⟨rfl, h6⟩; have D6 := FIN.out w6 h6; obtain ⟨_, _, _, z1, z2⟩ := D6.out; clear h6)
                          | fail)
                        all_goals
                          obtain ⟨_, f6, c6, _, _⟩ := D6.out
                          have D := hid D6.out.1
                          clear d1 d2 z1 z2 b0 FIN GV D6
                          go_wp2_with fail
                          exact ⟨⟨a + 1, by omega, by simp, D⟩, by simp [intOf]; omega⟩
                      · have hcb : (c8 == 0) = false := beq_eq_false_iff_ne.2 hc0
                        go_upto_region 28 with fail
                        go_region_held3 (fun w' => w'.cell? ⟨g, a, none⟩ = some (.int .u64 ((adG q : Nat) : Int)) ∧ w'.cell? ⟨g2, a, none⟩ = some (.int .i64 (k : Int))) ((refine ⟨?_, ?_⟩ <;> with_reducible assumption)) (first
                          | (go_at_call 9; (with_reducible refine GV.out.mono ?_); rintro e w6 ⟨rfl, h6⟩; have D6 := FIN.out w6 h6; obtain ⟨_, _, _, z1, z2⟩ := D6.out; clear h6)
                          | fail)
                        all_goals
                          obtain ⟨_, f6, c6, _, _⟩ := D6.out
                          have D := hid D6.out.1
                          clear d1 d2 z1 z2 b0 FIN GV D6
                          go_wp2_with fail
                          exact ⟨⟨a + 1, by omega, by simp, D⟩, by simp [intOf]; omega⟩
                  · as_aux_lemma =>
                    have hc0 : c8 ≠ 0 := fun e => hgo (.inl e)
                    have h7 : rd ≠ 7 := fun e => hgo (.inr e)
                    have D := stay hc0 h7
                    have hcb : (c8 == 0) = false := beq_eq_false_iff_ne.2 hc0
                    have h7b : ((rd : Int) == 7) = false := beq_eq_false_iff_ne.2 (by omega)
                    clear stay hgo GO
                    go_wp2_with fail
                    exact ⟨⟨a + 1, by omega, by simp, D⟩, by simp [intOf]; omega⟩
              · obtain rfl : a = m := by omega
                have hai : ¬ (a : Int) < (a : Int) := by omega
                have D := hid (show G2s W1 lw L o a (.slice ga a gc) (.slice ka a kc) I (fun d => rd + 1 = 8 → ∀ i, i < a → d i = true) wr from by
                  obtain ⟨d, E, x, t, fr, l0, ls, hG, hP⟩ := hI.out
                  exact ⟨d, E, x, t, fr, l0, ls, hG, fun e => hP (by omega)⟩)
                go_wp2_with fail
                exact ⟨⟨rd + 1, by omega, by simp, D⟩, by simp [intOf]; omega⟩
          · obtain rfl : rd = 8 := by omega
            have hri : ¬ ((8 : Nat) : Int) < 8 := by omega
            obtain ⟨d, E, x, t, fr, l0, ls, hG, hP⟩ := hI.out
            obtain rfl : ls = [] := hG.empty (hP rfl)
            have P0 := hid hG.pe.po
            have EQ := hid (And.intro hG.base (And.intro hG.lim hG.o))
            clear hG hP hI
            obtain ⟨_, _, _, _, ⟨r, hr, _⟩, _⟩ := P0.out.nums
            obtain ⟨w1', w2', w3'⟩ := P0.out.sf.whole hr
            have ALL := hid w1'
            have EMP := hid w2'
            have LEN := hid w3'
            have HR := hid hr
            clear w1' w2' w3' hr
            go_wp2_with fail
            refine (Space6 P0.out.pl).mono ?_
            rintro e w6 ⟨rfl, h6⟩
            replace h6 := h6.symm
            subst h6
            go_wp2_with fail
            refine (regions6 P0.out r HR.out).mono ?_
            rintro e w7 ⟨rfl, hk⟩
            have P7 := hid (P0.out.keep hk)
            clear hk P0
            have KD := hid ((Kept.refl none' w7).drew)
            have HC := hid (fun W' (k : Kept none' W1 W') => show W'.cell? ⟨cb, 2, none⟩ = some (.int .i64 (o : Int)) from by
              obtain ⟨_, _, c2⟩ := cfg3 ((k.block _ (heap_lt X1.out) (fun e => e)).trans X1.out)
              exact c2)
            have d2 := HC.out _ (none_trans P7.out.pl.kp KD.out)
            have BD := hid (Buddy6 (P7.out.keep KD.out).pl)
            have FR := hid (show Calls Try.prog 13 #[.pointer (some ⟨x.b, 0, none⟩), .int .i64 (o : Int)] w7.drew fun e w' => (∃ fa fc, e = .returned (.slice fa r fc)) ∧ Kept none' w7.drew w' from by
              have h1 := Free_yes x t x.o (Nat.le_refl _) w7.drew (P7.out.keep KD.out).pl.bd
              rw [EQ.out.2.2] at h1
              refine h1.mono ?_
              rintro e w' ⟨v, rfl, hv, hk, _⟩
              have h2 := hv.own
              obtain ⟨fa, fc, rfl⟩ := own_val h2
              refine ⟨⟨fa, fc, ?_⟩, hk⟩
              have h3 := P7.out.sf.words (k := x.o) (Nat.le_refl _)
              rw [EQ.out.2.2] at h3
              rw [h3, List.length_map, ← EQ.out.2.2, LEN.out])
            go_wp2_with fail
            go_region_held3 (fun w' => w'.cell? ⟨cb, 2, none⟩ = some (.int .i64 (o : Int))) (with_reducible assumption) (first
              | (go_at_call 13; (with_reducible refine FR.out.mono ?_); rintro e w8 ⟨⟨fa, fc, rfl⟩, hk8⟩; have K8 := hid (none_trans KD.out hk8); have a8 := HC.out _ (none_trans P7.out.pl.kp K8.out); clear hk8)
              | (go_at_call 12; (with_reducible refine BD.out.mono ?_); rintro e w8 ⟨rfl, h8⟩; replace h8 := h8.symm; subst h8)
              | fail)
            all_goals as_aux_lemma =>
              have P8 := hid (P7.out.keep K8.out)
              clear FR BD d2 a8
              go_wp2_with fail
              go_loopw [25] (fun i W' => ∃ a : Nat, a ≤ o ∧ i = .int .i64 a ∧ Hid (PO W1 W' lw x t fr [])) (fun i _ => o - (intOf i).toNat)
              case atStart => exact ⟨0, Nat.zero_le _, rfl, P8⟩
              case round =>
                clear P8 P7
                obtain ⟨a, ha, rfl, hP⟩ := hrel
                have c2 := HC.out _ hP.out.pl.kp
                by_cases hla : a < o
                · have hai : (a : Int) < (o : Int) := by omega
                  have FR := hid (show Calls Try.prog 13 #[.pointer (some ⟨x.b, 0, none⟩), .int .i64 (a : Int)] wr fun e w' => (∃ fa fc, e = .returned (.slice fa 0 fc)) ∧ Kept none' wr w' from by
                    have hao : a < x.o := by rw [EQ.out.2.2]; exact hla
                    have h1 := Free_yes x t a (Nat.le_of_lt hao) wr hP.out.pl.bd
                    refine h1.mono ?_
                    rintro e w' ⟨v, rfl, hv, hk, _⟩
                    have h2 := hv.own
                    obtain ⟨fa, fc, rfl⟩ := own_val h2
                    refine ⟨⟨fa, fc, ?_⟩, hk⟩
                    have h3 := hP.out.sf.words (k := a) (Nat.le_of_lt hao)
                    rw [h3, List.length_map, EMP.out a hao]
                    rfl)
                  go_wp2_with fail
                  refine (Buddy6 hP.out.pl).mono ?_
                  rintro e w9 ⟨rfl, h9⟩
                  replace h9 := h9.symm
                  subst h9
                  go_wp2_with fail
                  refine FR.out.mono ?_
                  rintro e w9 ⟨⟨fa2, fc2, rfl⟩, hk9⟩
                  have D := hid (hP.out.keep hk9)
                  clear hk9 FR c2
                  go_wp2_with fail
                  exact ⟨⟨a + 1, by omega, by simp, D⟩, by simp [intOf]; omega⟩
                · obtain rfl : a = o := by omega
                  have hai : ¬ (a : Int) < (a : Int) := by omega
                  have TR := hid (show Calls Try.prog 14 #[.pointer (some ⟨lw, 0, none⟩)] wr fun e w' => e = .returned (.int .i64 (r : Int)) ∧ ∃ x' t' fr', PO W1 w' lw x' t' fr' [] ∧ t'.m.n = 0 ∧ x'.o = x.o from by
                    have h1 := Trim_any hP.out r HR.out
                    rw [trF_all x.o r fr ALL.out] at h1
                    refine h1.mono ?_
                    rintro e w' ⟨rfl, x', t', hp, hs, hn, _, _⟩
                    exact ⟨rfl, x', t', _, hp, by rw [hn, Nat.sub_self, Nat.zero_mul], hs.o⟩)
                  go_wp2_with fail
                  refine TR.out.mono ?_
                  rintro e w9 ⟨rfl, x9, t9, fr9, hP9, hn9, ho9⟩
                  have P9 := hid hP9
                  have RG := hid (show Calls Try.prog 11 #[.pointer (some ⟨x9.s, 0, none⟩)] w9 fun e w' => e = .returned (.int .i64 0) ∧ Kept none' w9 w' from regions6 hP9 0 (by rw [hn9, Nat.zero_mul]))
                  have PG := hid (fun W' (k : Kept none' w9 W') => show Calls Try.prog 16 #[.pointer (some ⟨x9.m, 0, none⟩)] W' fun e w' => e = .returned (.int .i64 0) ∧ w' = W' from by
                    have := pages6 (hP9.keep k)
                    rw [hn9] at this
                    exact this)
                  clear hP9 hn9 ho9 TR c2
                  go_wp2_with fail
                  refine (Space6 P9.out.pl).mono ?_
                  rintro e w10 ⟨rfl, h10⟩
                  replace h10 := h10.symm
                  subst h10
                  go_wp2_with fail
                  refine RG.out.mono ?_
                  rintro e w11 ⟨rfl, hk11⟩
                  have K11 := hid hk11
                  clear hk11
                  go_wp2_with fail
                  refine (Map6 (P9.out.keep K11.out).pl).mono ?_
                  rintro e w12 ⟨rfl, h12⟩
                  replace h12 := h12.symm
                  subst h12
                  go_wp2_with fail
                  refine (PG.out _ K11.out).mono ?_
                  rintro e w12 ⟨rfl, h12⟩
                  replace h12 := h12.symm
                  subst h12
                  have D := hid (none_trans K1.out (P9.out.keep K11.out).pl.kp)
                  go_wp2_with fail
                  go_ret
                  exact ⟨rfl, D.out⟩
      · as_aux_lemma =>
        have hs0i : (0 : Int) < (st : Int) := by omega
        have hsti : (st : Int) ≤ 6 := by omega
        go_wp2_with fail
        clear hmk
        generalize wr.heap.size = I at *
        go_loopw [21] (fun r W' => ∃ rd : Nat, rd ≤ 8 ∧ r = .int .i64 rd ∧ Hid (G2s W1 lw L o m (.slice ga m gc) (.slice ka m kc) I (fun d => rd = 8 → ∀ i, i < m → d i = true) W')) (fun r _ => 8 - (intOf r).toNat)
        case atStart =>
          refine ⟨0, by omega, rfl, hid ?_⟩
          obtain ⟨d, E, x, t, fr, l0, ls, hG, _⟩ := HG.out
          exact ⟨d, E, x, t, fr, l0, ls, hG, fun e => by omega⟩
        case round =>
          clear HG
          obtain ⟨rd, hrd, rfl, hI⟩ := hrel
          by_cases hr8 : rd < 8
          · have hri : (rd : Int) < 8 := by omega
            have J0 := hid (show G2s W1 lw L o m (.slice ga m gc) (.slice ka m kc) I (fun d => rd = 7 → ∀ i, i < 0 → d i = true) wr from by
              obtain ⟨d, E, x, t, fr, l0, ls, hG, _⟩ := hI.out
              exact ⟨d, E, x, t, fr, l0, ls, hG, fun _ i hi => by omega⟩)
            clear hI
            go_wp2_with fail
            go_loopw [22] (fun i W' => ∃ a : Nat, a ≤ m ∧ i = .int .i64 a ∧ Hid (G2s W1 lw L o m (.slice ga m gc) (.slice ka m kc) I (fun d => rd = 7 → ∀ i, i < a → d i = true) W')) (fun i _ => m - (intOf i).toNat)
            case atStart => exact ⟨0, Nat.zero_le _, rfl, J0⟩
            case round =>
              clear J0
              obtain ⟨a, ha, rfl, hI⟩ := hrel
              by_cases hla : a < m
              · have hai : (a : Int) < (m : Int) := by omega
                obtain ⟨d, E, x, t, fr, l0, ls, hG, hP⟩ := hI.out
                have G := hid hG
                have PD := hid hP
                have b0 := hG.br.cell a hla
                clear hI hG hP
                cases hd : d a with
                | true =>
                  rw [hd] at b0
                  have D := hid (show G2s W1 lw L o m (.slice ga m gc) (.slice ka m kc) I (fun d => rd = 7 → ∀ i, i < a + 1 → d i = true) wr from ⟨d, E, x, t, fr, l0, ls, G.out, fun e i hi => by
                    by_cases e2 : i = a
                    · rw [e2]; exact hd
                    · exact PD.out e i (by omega)⟩)
                  go_wp2_with fail
                  exact ⟨⟨a + 1, by omega, by simp, D⟩, by simp [intOf]; omega⟩
                | false =>
                  rw [hd] at b0
                  obtain ⟨pr, hpr⟩ : ∃ pr : Nat, pr = a * (st + 3) := ⟨_, rfl⟩
                  have hpb : pr ≤ 9216 := by
                    rw [hpr]
                    exact Nat.le_trans (Nat.mul_le_mul (show a ≤ 1024 by omega) (show st + 3 ≤ 9 by omega)) (by decide)
                  have hmul : (a : Int) * ((st : Int) + 3) = (pr : Int) := by rw [hpr]; push_cast; rfl
                  have hprb : (pr : Int) ≤ 9216 := by omega
                  have hm1 : IntKind.i64.wrap ((a : Int) * ((st : Int) + 3)) = (pr : Int) := by rw [hmul, IntKind.wrap_i64]; omega
                  obtain ⟨c8, hc8⟩ : ∃ c8 : Int, Int.tmod ((pr : Int) + (rd : Int)) 8 = c8 := ⟨_, rfl⟩
                  clear hpr hpb
                  have GO := hid (show ∃ q k, l0.getD a (0, 0) = (q, k) from ⟨_, _, rfl⟩)
                  have stay : c8 ≠ 0 → rd ≠ 7 → Hid (G2s W1 lw L o m (.slice ga m gc) (.slice ka m kc) I (fun d => rd = 7 → ∀ i, i < a + 1 → d i = true) wr) := fun _ h7 => hid ⟨d, E, x, t, fr, l0, ls, G.out, fun e => absurd e h7⟩
                  by_cases hgo : c8 = 0 ∨ rd = 7
                  · obtain ⟨q, k, hq⟩ := GO.out
                    obtain ⟨g, g2, hga, hka, r1, r2⟩ := G.out.row a hla q k hq
                    subst hga hka
                    have hm : (q, k) ∈ ls := (G.out.mem q k).2 ⟨a, hla, hd, hq⟩
                    have KD := hid ((Kept.refl none' wr).drew)
                    have GD := hid (G.out.keep KD.out)
                    have GV := hid (Give6_yes GD.out.pe.po q k hm (adG q) (by unfold ad adG; rw [G.out.base]))
                    have HQ := hid hq
                    have HDD := hid hd
                    have d1 := KD.out.cell (fun e => e) r1
                    have d2 := KD.out.cell (fun e => e) r2
                    have NG := hid (show ∀ y, E y → ¬ bown x y from fun y e e2 => (G.out.pe.ex y e).2 (.inl e2))
                    have EA := hid (And.intro (G.out.ea g (by simp [Value.ownBlock])).1 (G.out.ek g2 (by simp [Value.ownBlock])).1)
                    have fin : ∀ w', (∃ t', PO W1 w' lw x t' (giveF x.o fr q k) (dropR ls q) ∧ t'.m.n = t.m.n ∧ Kept (bown x) wr.drew w') → Hid (G2s W1 lw L o m (.slice (some ⟨g, 0, none⟩) m gc) (.slice (some ⟨g2, 0, none⟩) m kc) I (fun d => rd = 7 → ∀ i, i < a + 1 → d i = true) (w'.setCell ⟨I, a, none⟩ (.bool true)) ∧ w'.frozen? ⟨I, a, none⟩ = false ∧ w'.cell? ⟨I, a, none⟩ = some (.bool false) ∧ w'.cell? ⟨g, a, none⟩ = some (.int .u64 ((adG q : Nat) : Int)) ∧ w'.cell? ⟨g2, a, none⟩ = some (.int .i64 (k : Int))) := fun w' h => by
                      obtain ⟨t', hp, _, hk⟩ := h
                      have hbr := GD.out.br.same (hk.block I GD.out.br.lt (NG.out I GD.out.ei.1))
                      refine hid ⟨⟨_, E, x, t', _, l0, _, GD.out.give a hla HDD.out q k HQ.out hp hk, fun e i hi => ?_⟩, hbr.froz a, by rw [hbr.cell a hla, HDD.out], hk.cell (p := ⟨g, a, none⟩) (NG.out g EA.out.1) d1, hk.cell (p := ⟨g2, a, none⟩) (NG.out g2 EA.out.2) d2⟩
                      show (if i = a then true else d i) = true
                      by_cases e2 : i = a
                      · rw [if_pos e2]
                      · rw [if_neg e2]; exact PD.out e i (by omega)
                    have FIN := hid fin
                    clear fin stay hm hq hd r1 r2 GO
                    rcases hgo with hc0 | h7
                    · as_aux_lemma =>
                      subst hc0
                      go_upto_region 28 with fail
                      go_region_held3 (fun w' => w'.cell? ⟨g, a, none⟩ = some (.int .u64 ((adG q : Nat) : Int)) ∧ w'.cell? ⟨g2, a, none⟩ = some (.int .i64 (k : Int))) ((refine ⟨?_, ?_⟩ <;> with_reducible assumption)) (first
                        | (go_at_call 9; (with_reducible refine GV.out.mono ?_); rintro e w6 ⟨rfl, h6⟩; have D6 := FIN.out w6 h6; obtain ⟨_, _, _, z1, z2⟩ := D6.out; clear h6)
                        | fail)
                      all_goals
                        obtain ⟨_, f6, c6, _, _⟩ := D6.out
                        have D := hid D6.out.1
                        clear d1 d2 z1 z2 b0 FIN GV D6
                        go_wp2_with fail
                        exact ⟨⟨a + 1, by omega, by simp, D⟩, by simp [intOf]; omega⟩
                    · as_aux_lemma =>
                      have h7b : ((rd : Int) == 7) = true := beq_iff_eq.2 (by omega)
                      clear h7
                      by_cases hc0 : c8 = 0
                      · subst hc0
                        go_upto_region 28 with fail
                        go_region_held3 (fun w' => w'.cell? ⟨g, a, none⟩ = some (.int .u64 ((adG q : Nat) : Int)) ∧ w'.cell? ⟨g2, a, none⟩ = some (.int .i64 (k : Int))) ((refine ⟨?_, ?_⟩ <;> with_reducible assumption)) (first
                          | (go_at_call 9; (with_reducible refine GV.out.mono ?_); rintro e w6 ⟨rfl, h6⟩; have D6 := FIN.out w6 h6; obtain ⟨_, _, _, z1, z2⟩ := D6.out; clear h6)
                          | fail)
                        all_goals
                          obtain ⟨_, f6, c6, _, _⟩ := D6.out
                          have D := hid D6.out.1
                          clear d1 d2 z1 z2 b0 FIN GV D6
                          go_wp2_with fail
                          exact ⟨⟨a + 1, by omega, by simp, D⟩, by simp [intOf]; omega⟩
                      · have hcb : (c8 == 0) = false := beq_eq_false_iff_ne.2 hc0
                        go_upto_region 28 with fail
                        go_region_held3 (fun w' => w'.cell? ⟨g, a, none⟩ = some (.int .u64 ((adG q : Nat) : Int)) ∧ w'.cell? ⟨g2, a, none⟩ = some (.int .i64 (k : Int))) ((refine ⟨?_, ?_⟩ <;> with_reducible assumption)) (first
                          | (go_at_call 9; (with_reducible refine GV.out.mono ?_); rintro e w6 ⟨rfl, h6⟩; have D6 := FIN.out w6 h6; obtain ⟨_, _, _, z1, z2⟩ := D6.out; clear h6)
                          | fail)
                        all_goals
                          obtain ⟨_, f6, c6, _, _⟩ := D6.out
                          have D := hid D6.out.1
                          clear d1 d2 z1 z2 b0 FIN GV D6
                          go_wp2_with fail
                          exact ⟨⟨a + 1, by omega, by simp, D⟩, by simp [intOf]; omega⟩
                  · as_aux_lemma =>
                    have hc0 : c8 ≠ 0 := fun e => hgo (.inl e)
                    have h7 : rd ≠ 7 := fun e => hgo (.inr e)
                    have D := stay hc0 h7
                    have hcb : (c8 == 0) = false := beq_eq_false_iff_ne.2 hc0
                    have h7b : ((rd : Int) == 7) = false := beq_eq_false_iff_ne.2 (by omega)
                    clear stay hgo GO
                    go_wp2_with fail
                    exact ⟨⟨a + 1, by omega, by simp, D⟩, by simp [intOf]; omega⟩
              · obtain rfl : a = m := by omega
                have hai : ¬ (a : Int) < (a : Int) := by omega
                have D := hid (show G2s W1 lw L o a (.slice ga a gc) (.slice ka a kc) I (fun d => rd + 1 = 8 → ∀ i, i < a → d i = true) wr from by
                  obtain ⟨d, E, x, t, fr, l0, ls, hG, hP⟩ := hI.out
                  exact ⟨d, E, x, t, fr, l0, ls, hG, fun e => hP (by omega)⟩)
                go_wp2_with fail
                exact ⟨⟨rd + 1, by omega, by simp, D⟩, by simp [intOf]; omega⟩
          · obtain rfl : rd = 8 := by omega
            have hri : ¬ ((8 : Nat) : Int) < 8 := by omega
            obtain ⟨d, E, x, t, fr, l0, ls, hG, hP⟩ := hI.out
            obtain rfl : ls = [] := hG.empty (hP rfl)
            have P0 := hid hG.pe.po
            have EQ := hid (And.intro hG.base (And.intro hG.lim hG.o))
            clear hG hP hI
            obtain ⟨_, _, _, _, ⟨r, hr, _⟩, _⟩ := P0.out.nums
            obtain ⟨w1', w2', w3'⟩ := P0.out.sf.whole hr
            have ALL := hid w1'
            have EMP := hid w2'
            have LEN := hid w3'
            have HR := hid hr
            clear w1' w2' w3' hr
            go_wp2_with fail
            refine (Space6 P0.out.pl).mono ?_
            rintro e w6 ⟨rfl, h6⟩
            replace h6 := h6.symm
            subst h6
            go_wp2_with fail
            refine (regions6 P0.out r HR.out).mono ?_
            rintro e w7 ⟨rfl, hk⟩
            have P7 := hid (P0.out.keep hk)
            clear hk P0
            have KD := hid ((Kept.refl none' w7).drew)
            have HC := hid (fun W' (k : Kept none' W1 W') => show W'.cell? ⟨cb, 2, none⟩ = some (.int .i64 (o : Int)) from by
              obtain ⟨_, _, c2⟩ := cfg3 ((k.block _ (heap_lt X1.out) (fun e => e)).trans X1.out)
              exact c2)
            have d2 := HC.out _ (none_trans P7.out.pl.kp KD.out)
            have BD := hid (Buddy6 (P7.out.keep KD.out).pl)
            have FR := hid (show Calls Try.prog 13 #[.pointer (some ⟨x.b, 0, none⟩), .int .i64 (o : Int)] w7.drew fun e w' => (∃ fa fc, e = .returned (.slice fa r fc)) ∧ Kept none' w7.drew w' from by
              have h1 := Free_yes x t x.o (Nat.le_refl _) w7.drew (P7.out.keep KD.out).pl.bd
              rw [EQ.out.2.2] at h1
              refine h1.mono ?_
              rintro e w' ⟨v, rfl, hv, hk, _⟩
              have h2 := hv.own
              obtain ⟨fa, fc, rfl⟩ := own_val h2
              refine ⟨⟨fa, fc, ?_⟩, hk⟩
              have h3 := P7.out.sf.words (k := x.o) (Nat.le_refl _)
              rw [EQ.out.2.2] at h3
              rw [h3, List.length_map, ← EQ.out.2.2, LEN.out])
            go_wp2_with fail
            go_region_held3 (fun w' => w'.cell? ⟨cb, 2, none⟩ = some (.int .i64 (o : Int))) (with_reducible assumption) (first
              | (go_at_call 13; (with_reducible refine FR.out.mono ?_); rintro e w8 ⟨⟨fa, fc, rfl⟩, hk8⟩; have K8 := hid (none_trans KD.out hk8); have a8 := HC.out _ (none_trans P7.out.pl.kp K8.out); clear hk8)
              | (go_at_call 12; (with_reducible refine BD.out.mono ?_); rintro e w8 ⟨rfl, h8⟩; replace h8 := h8.symm; subst h8)
              | fail)
            all_goals as_aux_lemma =>
              have P8 := hid (P7.out.keep K8.out)
              clear FR BD d2 a8
              go_wp2_with fail
              go_loopw [25] (fun i W' => ∃ a : Nat, a ≤ o ∧ i = .int .i64 a ∧ Hid (PO W1 W' lw x t fr [])) (fun i _ => o - (intOf i).toNat)
              case atStart => exact ⟨0, Nat.zero_le _, rfl, P8⟩
              case round =>
                clear P8 P7
                obtain ⟨a, ha, rfl, hP⟩ := hrel
                have c2 := HC.out _ hP.out.pl.kp
                by_cases hla : a < o
                · have hai : (a : Int) < (o : Int) := by omega
                  have FR := hid (show Calls Try.prog 13 #[.pointer (some ⟨x.b, 0, none⟩), .int .i64 (a : Int)] wr fun e w' => (∃ fa fc, e = .returned (.slice fa 0 fc)) ∧ Kept none' wr w' from by
                    have hao : a < x.o := by rw [EQ.out.2.2]; exact hla
                    have h1 := Free_yes x t a (Nat.le_of_lt hao) wr hP.out.pl.bd
                    refine h1.mono ?_
                    rintro e w' ⟨v, rfl, hv, hk, _⟩
                    have h2 := hv.own
                    obtain ⟨fa, fc, rfl⟩ := own_val h2
                    refine ⟨⟨fa, fc, ?_⟩, hk⟩
                    have h3 := hP.out.sf.words (k := a) (Nat.le_of_lt hao)
                    rw [h3, List.length_map, EMP.out a hao]
                    rfl)
                  go_wp2_with fail
                  refine (Buddy6 hP.out.pl).mono ?_
                  rintro e w9 ⟨rfl, h9⟩
                  replace h9 := h9.symm
                  subst h9
                  go_wp2_with fail
                  refine FR.out.mono ?_
                  rintro e w9 ⟨⟨fa2, fc2, rfl⟩, hk9⟩
                  have D := hid (hP.out.keep hk9)
                  clear hk9 FR c2
                  go_wp2_with fail
                  exact ⟨⟨a + 1, by omega, by simp, D⟩, by simp [intOf]; omega⟩
                · obtain rfl : a = o := by omega
                  have hai : ¬ (a : Int) < (a : Int) := by omega
                  have TR := hid (show Calls Try.prog 14 #[.pointer (some ⟨lw, 0, none⟩)] wr fun e w' => e = .returned (.int .i64 (r : Int)) ∧ ∃ x' t' fr', PO W1 w' lw x' t' fr' [] ∧ t'.m.n = 0 ∧ x'.o = x.o from by
                    have h1 := Trim_any hP.out r HR.out
                    rw [trF_all x.o r fr ALL.out] at h1
                    refine h1.mono ?_
                    rintro e w' ⟨rfl, x', t', hp, hs, hn, _, _⟩
                    exact ⟨rfl, x', t', _, hp, by rw [hn, Nat.sub_self, Nat.zero_mul], hs.o⟩)
                  go_wp2_with fail
                  refine TR.out.mono ?_
                  rintro e w9 ⟨rfl, x9, t9, fr9, hP9, hn9, ho9⟩
                  have P9 := hid hP9
                  have RG := hid (show Calls Try.prog 11 #[.pointer (some ⟨x9.s, 0, none⟩)] w9 fun e w' => e = .returned (.int .i64 0) ∧ Kept none' w9 w' from regions6 hP9 0 (by rw [hn9, Nat.zero_mul]))
                  have PG := hid (fun W' (k : Kept none' w9 W') => show Calls Try.prog 16 #[.pointer (some ⟨x9.m, 0, none⟩)] W' fun e w' => e = .returned (.int .i64 0) ∧ w' = W' from by
                    have := pages6 (hP9.keep k)
                    rw [hn9] at this
                    exact this)
                  clear hP9 hn9 ho9 TR c2
                  go_wp2_with fail
                  refine (Space6 P9.out.pl).mono ?_
                  rintro e w10 ⟨rfl, h10⟩
                  replace h10 := h10.symm
                  subst h10
                  go_wp2_with fail
                  refine RG.out.mono ?_
                  rintro e w11 ⟨rfl, hk11⟩
                  have K11 := hid hk11
                  clear hk11
                  go_wp2_with fail
                  refine (Map6 (P9.out.keep K11.out).pl).mono ?_
                  rintro e w12 ⟨rfl, h12⟩
                  replace h12 := h12.symm
                  subst h12
                  go_wp2_with fail
                  refine (PG.out _ K11.out).mono ?_
                  rintro e w12 ⟨rfl, h12⟩
                  replace h12 := h12.symm
                  subst h12
                  have D := hid (none_trans K1.out (P9.out.keep K11.out).pl.kp)
                  go_wp2_with fail
                  go_ret
                  exact ⟨rfl, D.out⟩
end Go.Proofs.Ytggieolknccabab
