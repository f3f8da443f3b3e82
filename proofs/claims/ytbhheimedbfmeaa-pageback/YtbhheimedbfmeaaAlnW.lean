/- PageAlone: the walk. -/
import Derived.Test.YtbhheimedbfmeaaOps
import Derived.Test.YtbhheimedbfmeaaSam
namespace Go.Proofs.Ytbhheimedbfmeaa
open Go.RowKit
set_option linter.unusedVariables false

theorem box5 {w : World} {z : Nat} {k p x y : Int} {l : Bool} (h : w.heap[z]? = some (opO k p x y l)) : w.cell? ⟨z, 0, none⟩ = some (.int .i64 k) ∧ w.cell? ⟨z, 1, none⟩ = some (.int .i64 p) ∧ w.cell? ⟨z, 2, none⟩ = some (.int .i64 x) ∧ w.cell? ⟨z, 3, none⟩ = some (.int .i64 y) ∧ w.cell? ⟨z, 4, none⟩ = some (.bool l) := by
  refine ⟨?_, ?_, ?_, ?_, ?_⟩ <;> simp [World.cell?, h]
theorem quietS {f : FuncId} {args : Array Value} {w : World} {q : Nat} {v : Value} (h : Calls Try.prog f args (w.drewN q) fun e w' => e = .returned v ∧ ∃ r, w' = (w.drewN q).drewN r) : Calls Try.prog f args (w.drewN q) fun e w' => e = .returned v ∧ ∃ r, w' = w.drewN r := by
  refine h.mono ?_
  rintro e w' ⟨he, r, hr⟩
  exact ⟨he, q + r, by rw [hr, World.drewN_drewN]⟩
theorem callE_in (m : Mp) (k p x y : Int) (l : Bool) (w : World) (b : Nat) (ho : m.o ≤ 8) (hE : callE m k p x y l = true) (h3 : 3 ≤ k) (h7 : k ≤ 7) : inR m.n p = true ∧ (k = 3 → 0 ≤ x ∧ x ≤ 8) := by
  have hk : k = 3 ∨ k = 4 ∨ k = 5 ∨ k = 6 ∨ k = 7 := by omega
  rcases hk with rfl | rfl | rfl | rfl | rfl
  · have hE2 : (runE m p x y == 0) = true := hE
    have hc : canRun m p x y = true := by
      cases hc : canRun m p x y with
      | true => rfl
      | false => simp [runE, hc] at hE2
    unfold canRun at hc
    simp at hc
    exact ⟨hc.2.1, fun _ => by omega⟩
  · have hE2 : (slabE m p x == 0) = true := hE
    refine ⟨?_, fun e => by omega⟩
    by_cases hc : inR m.n p = true ∧ 0 ≤ x ∧ x ≤ 7
    · exact hc.1
    · rw [show slabE m p x = 1 from if_neg hc] at hE2; simp at hE2
  · have hE2 : (ownE m p x l == 0) = true := hE
    refine ⟨?_, fun e => by omega⟩
    cases hc : canOwn m p x l with
    | true => unfold canOwn isCell at hc; simp at hc; exact hc.1.1
    | false => simp [ownE, hc] at hE2
  · have hE2 : (chainE m p x y == 0) = true := hE
    refine ⟨?_, fun e => by omega⟩
    cases hc : canChain m p x y with
    | true => unfold canChain at hc; simp at hc; exact hc.1
    | false => simp [chainE, hc] at hE2
  · have hE2 : (firstE m p x == 0) = true := hE
    refine ⟨?_, fun e => by omega⟩
    cases hc : canFirst m p x with
    | true => unfold canFirst at hc; simp at hc; exact hc.1
    | false => simp [firstE, hc] at hE2
theorem kept_box {a b : World} {z : Nat} {o : Obj} (k : Kept none' a b) (h : a.heap[z]? = some o) : b.heap[z]? = some o := (k.block z (heap_lt h) (fun x => x)).trans h
set_option maxRecDepth 6000 in
set_option maxHeartbeats 1000000 in
theorem alone_any (od : Int) (sv : Value) (n : Nat) (k p x y : Int) (l : Bool) (hk : N64 k) (hp : N64 p) (hx : N64 x) (w : World) (hS : OpsIn w sv n) :
    Calls Try.prog 7 #[.int .i64 od, sv, opV k p x y l] w fun e w' => e = .returned (.bool true) ∧ Kept none' w w' := by
  obtain ⟨hn63, oa, oc, rfl, hsv⟩ := hS
  have HSV := hid hsv
  clear hsv
  obtain ⟨w0, hw0⟩ : ∃ w0, w0 = w.alloc (opO k p x y l) := ⟨_, rfl⟩
  have K0 := hid (show Kept none' w w0 by rw [hw0]; exact (Kept.refl none' w).alloc _)
  have X0 := hid (show w0.heap[w.heap.size]? = some (opO k p x y l) by rw [hw0]; exact heap_new _ _)
  have hae := arr_eq
  go_enter Try.func7, Try.ntmps7
  go_wp2_with fail
  rw [← hw0]
  clear hw0
  refine (awake_any _).mono ?_
  rintro e w1 ⟨rfl, hK⟩
  have K1 := hid hK
  clear hK
  go_wp2_with fail
  refine (New_ks od w0 _ K1.out).mono ?_
  rintro e w2 ⟨b, rfl, hS⟩
  have H0 := hid (show ∃ m, KS w0 w2 b m from ⟨_, hS⟩)
  clear hS K1
  go_wp2_with fail
  go_loopw [8] (fun i W => ∃ j : Nat, j ≤ n ∧ i = .int .i64 j ∧ Hid (∃ m, KS w0 W b m)) (fun i _ => n - (intOf i).toNat)
  case atStart => exact ⟨0, by omega, rfl, H0⟩
  case round =>
    clear H0
    obtain ⟨j, hj, rfl, hH⟩ := hrel
    obtain ⟨m, hH⟩ := hH.out
    have HS := hid hH
    clear hH
    by_cases hlt : j < n
    · obtain ⟨bl, o, rfl, hbl, hrow⟩ := HSV.out.resolve_left (by omega)
      obtain ⟨k', p', x', y', l', h1, h2, h3, h4, g0, g1, g2, g3, g4⟩ := hrow j hlt
      have kk := none_trans K0.out HS.out.kp
      have g0 := kk.cell (fun x => x) g0
      have g1 := kk.cell (fun x => x) g1
      have g2 := kk.cell (fun x => x) g2
      have g3 := kk.cell (fun x => x) g3
      have g4 := kk.cell (fun x => x) g4
      have hji : (j : Int) < (n : Int) := by omega
      clear kk hrow h1 h2 h3 h4
      go_wp2_with fail
      first
        | (refine (call_ks b m k' p' x' y' l' w0 _ HS.out).mono ?_
           rintro e W2 ⟨rfl, hS2⟩)
        | (go_region_with ((go_at_call 27; refine (call_ks b m k' p' x' y' l' w0 _ (HS.out.keep (Kept.refl none' _).drew)).mono ?_; rintro e W2 ⟨rfl, hS2⟩)))
      all_goals
        have H2 := hid (show ∃ m, KS w0 W2 b m from ⟨_, hS2⟩)
        clear hS2
        go_wp2_with fail
        exact ⟨⟨j + 1, by omega, by simp, H2⟩, by simp [intOf]; omega⟩
    · have hji : ¬ (j : Int) < (n : Int) := by omega
      go_wp2_with fail
      have NBM := hid (show m.n ≤ 1024 from by obtain ⟨B, h1, _⟩ := HS.out; exact h1.n1)
      have NBO := hid (show m.o ≤ 8 from by obtain ⟨B, h1, _⟩ := HS.out; exact h1.o8)
      refine (Plain_kg b m w0 _ HS.out).mono ?_
      rintro e w4 ⟨gp, gq, rfl, hG⟩
      have G4 := hid hG
      obtain ⟨f0, f1, f2, f3, f4⟩ := box5 (kept_box hG.ks.kp X0.out)
      clear hG HS
      go_wp2_with fail
      refine (call_kg b m k p x y l gp m.n m.pg w0 _ G4.out).mono ?_
      rintro e w5 ⟨rfl, hG⟩
      have G5 := hid hG
      clear hG G4 f0 f1 f2 f3 f4
      go_wp2_with fail
      refine (Plain_kg2 b (callM m k p x y l) gp m.n m.pg w0 _ G5.out).mono ?_
      rintro e w6 ⟨ga, gb, rfl, hR, hR', hK⟩
      have RA := hid hR
      have RB := hid hR'
      have K6 := hid (none_trans K0.out hK)
      have X6 := hid (kept_box hK X0.out)
      have HN := hid (show m.n ≤ 1024 ∧ (callM m k p x y l).n ≤ 1024 from by
        obtain ⟨B, h1, _, _, _⟩ := G5.out
        exact ⟨NBM.out, h1.n1⟩)
      clear hR hR' hK G5 hji hj
      obtain ⟨f0, f1, f2, f3, f4⟩ := box5 X6.out
      by_cases hk1 : k = 1
      · subst hk1
        have hle := grow_n m
        have SP := hid (fun c c' q => quietS (SamePages_true gp ga m.n c c' m.n (growM m).n m.pg (growM m).pg HN.out.1 (Nat.le_refl _) hle (fun i hi => (grow_pg m i hi).symm) (w6.drewN q) (Row.kept RB.out ((Kept.refl none' w6).drewN q) (fun x => x)) (Row.kept RA.out ((Kept.refl none' w6).drewN q) (fun x => x))))
        rw [show callM m 1 p x y l = growM m from rfl, show callE m 1 p x y l = true from rfl]
        generalize (growM m).n = N2 at *
        generalize (growM m).o = O2 at *
        have hlt2 : ¬ N2 < m.n := by omega
        have hlei : ¬ (N2 : Int) < (m.n : Int) := by omega
        have hNN : m.n ≤ N2 := hle
        clear hle
        go_wp2_with fail
        go_quiet ((go_at_call 29; exact SP.out _ _ _))
        go_wp2_with fail
        go_ret
        exact ⟨rfl, K6.out.drewN _⟩
      by_cases hk2 : k = 2
      · subst hk2
        have hle : (shrinkM m x).n ≤ m.n := by
          unfold shrinkM
          split
          · exact Nat.sub_le _ _
          · exact Nat.le_refl _
        have hm10 := HN.out.1
        have SP := hid (fun c c' q => quietS (SamePages_true gp ga (shrinkM m x).n c c' m.n (shrinkM m x).n m.pg (shrinkM m x).pg (Nat.le_trans hle hm10) hle (Nat.le_refl _) (fun i hi => (shrink_pg m x i (Nat.lt_of_lt_of_le hi hle)).symm) (w6.drewN q) (Row.kept RB.out ((Kept.refl none' w6).drewN q) (fun x => x)) (Row.kept RA.out ((Kept.refl none' w6).drewN q) (fun x => x))))
        have HEQ := hid (shrink_n m x)
        rw [show callM m 2 p x y l = shrinkM m x from rfl, show callE m 2 p x y l = (shrinkE m x == 0) from rfl]
        generalize (shrinkM m x).n = N2 at *
        generalize (shrinkM m x).o = O2 at *
        generalize shrinkE m x = E2 at *
        by_cases hlt2 : N2 < m.n
        · have he : E2 = 0 := by
            by_cases he : E2 = 0
            · exact he
            · have := HEQ.out he; omega
          subst he
          have hlei : (N2 : Int) < (m.n : Int) := by omega
          clear HEQ hm10
          go_wp2_with fail
          go_quiet ((go_at_call 29; exact SP.out _ _ _))
          go_wp2_with fail
          go_ret
          exact ⟨rfl, K6.out.drewN _⟩
        · obtain rfl : N2 = m.n := by omega
          have hlei : ¬ (m.n : Int) < (m.n : Int) := by omega
          clear HEQ hm10
          by_cases he : E2 = 0
          · subst he
            go_wp2_with fail
            go_quiet ((go_at_call 29; exact SP.out _ _ _))
            go_wp2_with fail
            go_ret
            exact ⟨rfl, K6.out.drewN _⟩
          · have heb : (E2 == 0) = false := beq_eq_false_iff_ne.2 he
            clear he
            go_wp2_with fail
            go_quiet ((go_at_call 29; exact SP.out _ _ _))
            go_wp2_with fail
            go_ret
            exact ⟨rfl, K6.out.drewN _⟩
      have hMn := call_n m k p x y l hk1 hk2
      have CP := hid (call_pg m k p x y l hk1 hk2)
      rw [hMn] at RA
      rw [hMn]
      have ES := hid (show speaks m k p x y l = (if callE m k p x y l = true ∧ 3 ≤ k ∧ k ≤ 7 then (if k = 3 then 2 ^ x.toNat else 1) else 0) from rfl)
      have hb1 : (k == 1) = false := beq_eq_false_iff_ne.2 hk1
      have hb2 : (k == 2) = false := beq_eq_false_iff_ne.2 hk2
      have RN := hid (show callE m k p x y l = true → 3 ≤ k → k ≤ 7 → inR m.n p = true ∧ (k = 3 → 0 ≤ x ∧ x ≤ 8) from callE_in m k p x y l w6 b NBO.out)
      generalize (callM m k p x y l).o = O2 at *
      generalize (callM m k p x y l).pg = PG2 at *
      generalize hE : callE m k p x y l = E at *
      clear hMn hE hk1 hk2
      have hm10 := HN.out.1
      cases E
      · have SV := hid (show speaks m k p x y l = 0 by rw [ES.out]; simp)
        clear ES RN
        go_wp2_with fail
        go_loopw [16] (fun i W => ∃ a : Nat, a ≤ m.n ∧ i = .int .i64 a ∧ Hid (∃ q, W = w6.drewN q)) (fun i _ => m.n - (intOf i).toNat)
        case atStart => exact ⟨0, by omega, rfl, ⟨0, rfl⟩⟩
        case round =>
          obtain ⟨a, ha, rfl, hQ⟩ := hrel
          have kk : Kept none' w6 wr := by obtain ⟨q, hq⟩ := hQ.out; rw [hq]; exact (Kept.refl none' w6).drewN q
          have KK := hid kk
          obtain ⟨f0, f1, f2, f3, f4⟩ := box5 (kept_box kk X6.out)
          by_cases hlt : a < m.n
          · have hai : (a : Int) < (m.n : Int) := by omega
            have C0 := CP.out a (.inl SV.out)
            obtain ⟨d0, d1, d2, d3, d4, d5, d6, d7, d8, d9, d10⟩ := (Row.kept RB.out kk (fun x => x)).cell a hlt
            obtain ⟨e0, e1, e2, e3, e4, e5, e6, e7, e8, e9, e10⟩ := (Row.kept RA.out kk (fun x => x)).cell a hlt
            rw [C0] at e0 e1 e2 e3 e4 e5 e6 e7 e8 e9 e10
            clear kk C0
            go_wp2_with fail
            go_quiet (fail)
            go_wp2_with fail
            exact ⟨⟨a + 1, by omega, by simp, by obtain ⟨q, hq⟩ := hQ.out; exact ⟨q + nq, by rw [hq]; exact drewN_add w6 q nq⟩⟩, by simp [intOf]; omega⟩
          · have hai : ¬ (a : Int) < (m.n : Int) := by omega
            clear kk
            go_wp2_with fail
            go_ret
            exact ⟨rfl, none_trans K6.out KK.out⟩
      · by_cases hr : 3 ≤ k ∧ k ≤ 7
        · obtain ⟨hin, hx3⟩ := RN.out rfl hr.1 hr.2
          obtain ⟨pq, rfl, hpq⟩ := inR_nat hin
          have hpn := HN.out.1
          by_cases hk3 : k = 3
          · subst hk3
            obtain ⟨hx0, hx8⟩ := hx3 rfl
            obtain ⟨xq, rfl⟩ := Int.eq_ofNat_of_zero_le hx0
            have hxq : xq ≤ 8 := by omega
            obtain ⟨z, hz⟩ : ∃ z, z = 2 ^ xq := ⟨_, rfl⟩
            have SV := hid (show speaks m 3 (pq : Int) (xq : Int) y l = z by rw [ES.out, hz]; simp)
            have hz1 : 1 ≤ z := by rw [hz]; exact pw_pos xq
            have hz2 : z ≤ 256 := by rw [hz]; exact Nat.pow_le_pow_right (n := 2) (by decide) hxq
            have hzi : (2 : Int) ^ xq = (z : Int) := by rw [hz]; simp
            have hws1 : IntKind.i64.wrap ((pq : Int) + z) = (pq : Int) + z := by rw [IntKind.wrap_i64]; omega
            have hws2 : wrap64 ((pq : Int) + z) = (pq : Int) + z := by unfold wrap64; omega
            have hz0 : ((z : Int) == 0) = false := beq_eq_false_iff_ne.2 (by omega)
            clear ES RN hr hin hx3 hx0 hx8 hz
            go_wp2_with fail
            go_loopw [16] (fun i W => ∃ a : Nat, a ≤ m.n ∧ i = .int .i64 a ∧ Hid (∃ q, W = w6.drewN q)) (fun i _ => m.n - (intOf i).toNat)
            case atStart => exact ⟨0, by omega, rfl, ⟨0, rfl⟩⟩
            case round =>
              obtain ⟨a, ha, rfl, hQ⟩ := hrel
              have kk : Kept none' w6 wr := by obtain ⟨q, hq⟩ := hQ.out; rw [hq]; exact (Kept.refl none' w6).drewN q
              have KK := hid kk
              obtain ⟨f0, f1, f2, f3, f4⟩ := box5 (kept_box kk X6.out)
              by_cases hlt : a < m.n
              · have hai : (a : Int) < (m.n : Int) := by omega
                by_cases ho1 : (a : Int) < (pq : Int)
                · have hod : decide ((a : Int) < (pq : Int)) = true := decide_eq_true ho1
                  have hodn : decide (a < pq) = true := decide_eq_true (by omega)
                  have C0 := CP.out a (.inr (.inl ho1))
                  obtain ⟨d0, d1, d2, d3, d4, d5, d6, d7, d8, d9, d10⟩ := (Row.kept RB.out kk (fun x => x)).cell a hlt
                  obtain ⟨e0, e1, e2, e3, e4, e5, e6, e7, e8, e9, e10⟩ := (Row.kept RA.out kk (fun x => x)).cell a hlt
                  rw [C0] at e0 e1 e2 e3 e4 e5 e6 e7 e8 e9 e10
                  clear kk C0
                  go_wp2_with fail
                  go_quiet (fail)
                  go_wp2_with fail
                  exact ⟨⟨a + 1, by omega, by simp, by obtain ⟨q, hq⟩ := hQ.out; exact ⟨q + nq, by rw [hq]; exact drewN_add w6 q nq⟩⟩, by simp [intOf]; omega⟩
                · have hod : decide ((a : Int) < (pq : Int)) = false := decide_eq_false ho1
                  have hodn : decide (a < pq) = false := decide_eq_false (by omega)
                  by_cases ho2 : (pq : Int) + (z : Int) ≤ (a : Int)
                  · have hoe : decide ((pq : Int) + (z : Int) ≤ (a : Int)) = true := decide_eq_true ho2
                    have hoen : decide (pq + z ≤ a) = true := decide_eq_true (by omega)
                    have C0 := CP.out a (.inr (.inr (by rw [SV.out]; omega)))
                    obtain ⟨d0, d1, d2, d3, d4, d5, d6, d7, d8, d9, d10⟩ := (Row.kept RB.out kk (fun x => x)).cell a hlt
                    obtain ⟨e0, e1, e2, e3, e4, e5, e6, e7, e8, e9, e10⟩ := (Row.kept RA.out kk (fun x => x)).cell a hlt
                    rw [C0] at e0 e1 e2 e3 e4 e5 e6 e7 e8 e9 e10
                    clear kk C0
                    go_wp2_with fail
                    go_quiet (fail)
                    go_wp2_with fail
                    exact ⟨⟨a + 1, by omega, by simp, by obtain ⟨q, hq⟩ := hQ.out; exact ⟨q + nq, by rw [hq]; exact drewN_add w6 q nq⟩⟩, by simp [intOf]; omega⟩
                  · have hoe : decide ((pq : Int) + (z : Int) ≤ (a : Int)) = false := decide_eq_false ho2
                    have hoen : decide (pq + z ≤ a) = false := decide_eq_false (by omega)
                    clear kk
                    go_wp2_with fail
                    go_quiet (fail)
                    go_wp2_with fail
                    exact ⟨⟨a + 1, by omega, by simp, by obtain ⟨q, hq⟩ := hQ.out; exact ⟨q + nq, by rw [hq]; exact drewN_add w6 q nq⟩⟩, by simp [intOf]; omega⟩
              · have hai : ¬ (a : Int) < (m.n : Int) := by omega
                clear kk
                go_wp2_with fail
                go_ret
                exact ⟨rfl, none_trans K6.out KK.out⟩
          · have hk3b : (k == 3) = false := beq_eq_false_iff_ne.2 hk3
            have SV := hid (show speaks m k (pq : Int) x y l = 1 by rw [ES.out]; simp [hr, hk3])
            obtain ⟨hr1, hr2⟩ := hr
            have hws1 : IntKind.i64.wrap ((pq : Int) + 1) = (pq : Int) + 1 := by rw [IntKind.wrap_i64]; omega
            have hws2 : wrap64 ((pq : Int) + 1) = (pq : Int) + 1 := by unfold wrap64; omega
            clear ES RN hin hx3 hk3
            go_wp2_with fail
            go_loopw [16] (fun i W => ∃ a : Nat, a ≤ m.n ∧ i = .int .i64 a ∧ Hid (∃ q, W = w6.drewN q)) (fun i _ => m.n - (intOf i).toNat)
            case atStart => exact ⟨0, by omega, rfl, ⟨0, rfl⟩⟩
            case round =>
              obtain ⟨a, ha, rfl, hQ⟩ := hrel
              have kk : Kept none' w6 wr := by obtain ⟨q, hq⟩ := hQ.out; rw [hq]; exact (Kept.refl none' w6).drewN q
              have KK := hid kk
              obtain ⟨f0, f1, f2, f3, f4⟩ := box5 (kept_box kk X6.out)
              by_cases hlt : a < m.n
              · have hai : (a : Int) < (m.n : Int) := by omega
                by_cases ho1 : (a : Int) < (pq : Int)
                · have hod : decide ((a : Int) < (pq : Int)) = true := decide_eq_true ho1
                  have hodn : decide (a < pq) = true := decide_eq_true (by omega)
                  have C0 := CP.out a (.inr (.inl ho1))
                  obtain ⟨d0, d1, d2, d3, d4, d5, d6, d7, d8, d9, d10⟩ := (Row.kept RB.out kk (fun x => x)).cell a hlt
                  obtain ⟨e0, e1, e2, e3, e4, e5, e6, e7, e8, e9, e10⟩ := (Row.kept RA.out kk (fun x => x)).cell a hlt
                  rw [C0] at e0 e1 e2 e3 e4 e5 e6 e7 e8 e9 e10
                  clear kk C0
                  go_wp2_with fail
                  go_quiet (fail)
                  go_wp2_with fail
                  exact ⟨⟨a + 1, by omega, by simp, by obtain ⟨q, hq⟩ := hQ.out; exact ⟨q + nq, by rw [hq]; exact drewN_add w6 q nq⟩⟩, by simp [intOf]; omega⟩
                · have hod : decide ((a : Int) < (pq : Int)) = false := decide_eq_false ho1
                  have hodn : decide (a < pq) = false := decide_eq_false (by omega)
                  by_cases ho2 : (pq : Int) + 1 ≤ (a : Int)
                  · have hoe : decide ((pq : Int) + 1 ≤ (a : Int)) = true := decide_eq_true ho2
                    have hoen : decide (pq + 1 ≤ a) = true := decide_eq_true (by omega)
                    have C0 := CP.out a (.inr (.inr (by rw [SV.out]; omega)))
                    obtain ⟨d0, d1, d2, d3, d4, d5, d6, d7, d8, d9, d10⟩ := (Row.kept RB.out kk (fun x => x)).cell a hlt
                    obtain ⟨e0, e1, e2, e3, e4, e5, e6, e7, e8, e9, e10⟩ := (Row.kept RA.out kk (fun x => x)).cell a hlt
                    rw [C0] at e0 e1 e2 e3 e4 e5 e6 e7 e8 e9 e10
                    clear kk C0
                    go_wp2_with fail
                    go_quiet (fail)
                    go_wp2_with fail
                    exact ⟨⟨a + 1, by omega, by simp, by obtain ⟨q, hq⟩ := hQ.out; exact ⟨q + nq, by rw [hq]; exact drewN_add w6 q nq⟩⟩, by simp [intOf]; omega⟩
                  · have hoe : decide ((pq : Int) + 1 ≤ (a : Int)) = false := decide_eq_false ho2
                    have hoen : decide (pq + 1 ≤ a) = false := decide_eq_false (by omega)
                    clear kk
                    go_wp2_with fail
                    go_quiet (fail)
                    go_wp2_with fail
                    exact ⟨⟨a + 1, by omega, by simp, by obtain ⟨q, hq⟩ := hQ.out; exact ⟨q + nq, by rw [hq]; exact drewN_add w6 q nq⟩⟩, by simp [intOf]; omega⟩
              · have hai : ¬ (a : Int) < (m.n : Int) := by omega
                clear kk
                go_wp2_with fail
                go_ret
                exact ⟨rfl, none_trans K6.out KK.out⟩
        · have SV := hid (show speaks m k p x y l = 0 by rw [ES.out, if_neg (fun h => hr ⟨h.2.1, h.2.2⟩)])
          have hk3b : (k == 3) = false := beq_eq_false_iff_ne.2 (fun e => hr (by omega))
          clear ES RN
          by_cases hr1 : 3 ≤ k
          · have hr2 : ¬ k ≤ 7 := fun h => hr ⟨hr1, h⟩
            clear hr
            go_wp2_with fail
            go_loopw [16] (fun i W => ∃ a : Nat, a ≤ m.n ∧ i = .int .i64 a ∧ Hid (∃ q, W = w6.drewN q)) (fun i _ => m.n - (intOf i).toNat)
            case atStart => exact ⟨0, by omega, rfl, ⟨0, rfl⟩⟩
            case round =>
              obtain ⟨a, ha, rfl, hQ⟩ := hrel
              have kk : Kept none' w6 wr := by obtain ⟨q, hq⟩ := hQ.out; rw [hq]; exact (Kept.refl none' w6).drewN q
              have KK := hid kk
              obtain ⟨f0, f1, f2, f3, f4⟩ := box5 (kept_box kk X6.out)
              by_cases hlt : a < m.n
              · have hai : (a : Int) < (m.n : Int) := by omega
                have C0 := CP.out a (.inl SV.out)
                obtain ⟨d0, d1, d2, d3, d4, d5, d6, d7, d8, d9, d10⟩ := (Row.kept RB.out kk (fun x => x)).cell a hlt
                obtain ⟨e0, e1, e2, e3, e4, e5, e6, e7, e8, e9, e10⟩ := (Row.kept RA.out kk (fun x => x)).cell a hlt
                rw [C0] at e0 e1 e2 e3 e4 e5 e6 e7 e8 e9 e10
                clear kk C0
                go_wp2_with fail
                go_quiet (fail)
                go_wp2_with fail
                exact ⟨⟨a + 1, by omega, by simp, by obtain ⟨q, hq⟩ := hQ.out; exact ⟨q + nq, by rw [hq]; exact drewN_add w6 q nq⟩⟩, by simp [intOf]; omega⟩
              · have hai : ¬ (a : Int) < (m.n : Int) := by omega
                clear kk
                go_wp2_with fail
                go_ret
                exact ⟨rfl, none_trans K6.out KK.out⟩
          · clear hr
            go_wp2_with fail
            go_loopw [16] (fun i W => ∃ a : Nat, a ≤ m.n ∧ i = .int .i64 a ∧ Hid (∃ q, W = w6.drewN q)) (fun i _ => m.n - (intOf i).toNat)
            case atStart => exact ⟨0, by omega, rfl, ⟨0, rfl⟩⟩
            case round =>
              obtain ⟨a, ha, rfl, hQ⟩ := hrel
              have kk : Kept none' w6 wr := by obtain ⟨q, hq⟩ := hQ.out; rw [hq]; exact (Kept.refl none' w6).drewN q
              have KK := hid kk
              obtain ⟨f0, f1, f2, f3, f4⟩ := box5 (kept_box kk X6.out)
              by_cases hlt : a < m.n
              · have hai : (a : Int) < (m.n : Int) := by omega
                have C0 := CP.out a (.inl SV.out)
                obtain ⟨d0, d1, d2, d3, d4, d5, d6, d7, d8, d9, d10⟩ := (Row.kept RB.out kk (fun x => x)).cell a hlt
                obtain ⟨e0, e1, e2, e3, e4, e5, e6, e7, e8, e9, e10⟩ := (Row.kept RA.out kk (fun x => x)).cell a hlt
                rw [C0] at e0 e1 e2 e3 e4 e5 e6 e7 e8 e9 e10
                clear kk C0
                go_wp2_with fail
                go_quiet (fail)
                go_wp2_with fail
                exact ⟨⟨a + 1, by omega, by simp, by obtain ⟨q, hq⟩ := hQ.out; exact ⟨q + nq, by rw [hq]; exact drewN_add w6 q nq⟩⟩, by simp [intOf]; omega⟩
              · have hai : ¬ (a : Int) < (m.n : Int) := by omega
                clear kk
                go_wp2_with fail
                go_ret
                exact ⟨rfl, none_trans K6.out KK.out⟩
end Go.Proofs.Ytbhheimedbfmeaa
