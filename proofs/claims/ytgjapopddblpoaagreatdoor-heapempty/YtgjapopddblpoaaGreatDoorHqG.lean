import Derived.Test.YtgjapopddblpoaaGreatDoorRk
import Derived.Test.YtgjapopddblpoaaGreatDoorHtR
import Derived.Test.YtgjapopddblpoaaGreatDoorHnC
/- HeapEmpty: the walk. -/
namespace Go.Proofs.YtgjapopddblpoaaGreatDoor
open Go.RowKit
open Go.MuLone
open Go.Proofs.YtgjapopddblpoaaGreatDoor.M (RS Bounds mayB pow8)
set_option linter.unusedVariables false

abbrev scO (b : Nat) (l o : Int) (oa : Option Addr) (m oc : Nat) : Obj := .cells #[.int .u64 (b : Int), .int .i64 l, .int .i64 o, .slice oa m oc] 46
theorem scc {W : World} {y b : Nat} {l o : Int} {oa : Option Addr} {m oc : Nat} (h : W.heap[y]? = some (scO b l o oa m oc)) : W.cell? ⟨y, 0, none⟩ = some (.int .u64 (b : Int)) ∧ W.cell? ⟨y, 1, none⟩ = some (.int .i64 l) ∧ W.cell? ⟨y, 2, none⟩ = some (.int .i64 o) ∧ W.cell? ⟨y, 3, none⟩ = some (.slice oa m oc) := by
  refine ⟨?_, ?_, ?_, ?_⟩ <;> simp [World.cell?, h]
theorem sck {W W' : World} {y b : Nat} {l o : Int} {oa : Option Addr} {m oc : Nat} (h : W.heap[y]? = some (scO b l o oa m oc)) (k : Kept none' W W') : W'.heap[y]? = some (scO b l o oa m oc) := (k.block _ (heap_lt h) (fun e => e)).trans h
theorem New8P.ei {w1 w' : World} {base lim o : Nat} {e : Ending} (h : New8P w1 base lim o e w') : ∃ hb, e = .returned (.tuple #[.pointer (some ⟨hb, 0, none⟩), .int .i64 0]) ∧ EI w1 w' hb base lim o (4096 * 2 ^ o) [] (.slice none 0 0) := by
  obtain ⟨hb, sb, lw, x, rfl, H, e1, e2, e3, e4, e5⟩ := h
  exact ⟨hb, rfl, ⟨⟨sb, lw, x, _, _, _, _, H, e1, e3, e5, e2, fun g hg => by simp [Value.ownBlock] at hg⟩, GS.nil _ _ _ _ H.po.pl.kp⟩⟩
theorem call_at {w : World} {oa : Option Addr} {m oc : Nat} (h : Calls8 w (.slice oa m oc) m) {i : Nat} (hi : i < m) : ∃ bl o c g, oa = some ⟨bl, o, none⟩ ∧ CallIn w bl o i c g := by
  obtain ⟨h1, oa', oc', e, h2⟩ := h
  injection e with e1 e2 e3
  subst e1
  rcases h2 with h2 | ⟨bl, o, rfl, hb, h3⟩
  · omega
  · obtain ⟨c, g, h4⟩ := h3 i hi
    exact ⟨bl, o, c, g, rfl, h4⟩
theorem quiet_field {ops : Array Oper} {C : World → Prop} {Q : Act → Prop} {a : Act} {o : Oper} {rest : List Oper} (t : TypeId) (x : Operand) (i : Nat) (hop : o.op = .field t x i) (hgd : o.guard = none) (v : Value) (hv : ∀ w, (Instr.field t (a.eval x) i).run Tryz.prog w = .ok v w) (h : wpQuiet Tryz.prog ops C Q rest (a.put o.dst v)) : wpQuiet Tryz.prog ops C Q (o :: rest) a := by
  have hw : Region.wanted o (yielded ops a.tmps) = true := by simp [Region.wanted, hgd]
  unfold wpQuiet
  rw [if_pos hw]
  refine ⟨v, fun w _ => ?_, h⟩
  unfold Oper.quietAt execOp
  rw [hop]
  simp [hv, Oper.quietUpon]
theorem fd80 (h L B F : Int) (w : World) : Sem.run Tryz.prog (Instr.field 35 (.agg #[.int .u64 h, .int .u64 L, .int .i64 B, .int .i64 F]) 0) w = .ok (.int .u64 h) w := by kernel_rfl
theorem fds1 (e v : Int) (w : World) : Sem.run Tryz.prog (Instr.field 69 (.agg #[.int .i64 e, .int .u64 v, .slice none 0 0, .int .u64 0, .int .u64 0, .int .i64 0, .int .i64 0, .int .u64 0, .slice none 0 0]) 1) w = .ok (.int .u64 v) w := by kernel_rfl
theorem blV_get : ∀ (l : List (Nat × Nat)) (i : Nat) (b : Nat × Nat), l[i]? = some b → (blV l)[i * 2]? = some (.int .u64 (b.1 : Int))
  | [], i, b, h => by simp at h
  | c :: l, 0, b, h => by
    simp at h
    subst h
    rfl
  | c :: l, i + 1, b, h => by
    have h : l[i]? = some b := by simpa using h
    have := blV_get l i b h
    rw [show (i + 1) * 2 = i * 2 + 1 + 1 by omega]
    exact this
set_option maxRecDepth 20000 in
set_option maxHeartbeats 20000000 in
theorem empty_in (base : Nat) (hb64 : base < 18446744073709551616) (lim o : Nat) (hl1 : 1 ≤ lim) (hl2 : lim ≤ 64) (ho : o ≤ 8) (hmay : mayB base (lim : Int) (o : Int) = true) (oa : Option Addr) (m oc : Nat) (w : World) (hC : Calls8 w (.slice oa m oc) m) (hT : Tab w) :
    Calls Tryz.prog 6 #[.agg #[.int .u64 (base : Int), .int .i64 (lim : Int), .int .i64 (o : Int), .slice oa m oc]] w fun e w' => e = .returned (.bool true) ∧ Kept none' w w' := by
  have hP8 := pow8 o ho
  obtain ⟨R, hR⟩ : ∃ R, R = RS o := ⟨_, rfl⟩
  have hRv : R = 4096 * 2 ^ o := hR
  have hb3 : base ≠ 0 ∧ base % (4096 * 2 ^ o) = 0 := by
    unfold mayB at hmay
    rw [Bool.and_eq_true, Bool.and_eq_true, Bool.and_eq_true, Bool.and_eq_true] at hmay
    have := of_decide_eq_true hmay.2.1.2
    rw [Int.toNat_natCast] at this
    exact ⟨of_decide_eq_true hmay.2.1.1, this⟩
  obtain ⟨hb0, hbr⟩ := hb3
  have hm63 : m ≤ 9223372036854775807 := hC.1
  have K0 := hid ((Kept.refl none' w).alloc (scO base (lim : Int) (o : Int) oa m oc))
  have X0 := hid (heap_new w (scO base (lim : Int) (o : Int) oa m oc))
  have AW := hid (awake8 _ (fun j hj => K0.out.cell (fun e => e) (hT j hj)))
  have MY := hid (fun W => refMay_in base hb64 lim o ho hl1 hl2 W)
  rw [hmay] at MY
  have RR := hid (fun W => refR (base : Int) (lim : Int) o ho W)
  rw [← hR] at RR
  have CF := hid (fun W => config8 base (lim : Int) (o : Int) W)
  have NW := hid (fun W (k : Kept none' w W) => (New8_ok base hb64 lim o hl2 ho hmay hbr W (fun j hj => k.cell (fun e => e) (hT j hj))).mono fun e w' h => New8P.ei h)
  rw [← hRv] at NW
  have HC := hid hC
  have HH := hid (show base ≠ 0 ∧ R = 4096 * 2 ^ o ∧ o ≤ 8 ∧ lim ≤ 64 from ⟨hb0, hRv, ho, hl2⟩)
  have hRb : 4096 ≤ R ∧ R ≤ 1048576 := by
    have : 2 ^ o ≤ 2 ^ 8 := Nat.pow_le_pow_right (by decide) ho
    have : 0 < 2 ^ o := Nat.pow_pos (by decide)
    omega
  obtain ⟨hRb1, hRb2⟩ := hRb
  obtain ⟨c0, c1, c2, c3⟩ := scc X0.out
  clear hT hmay hbr hP8 hR hRv hb0 hC hl1 hl2
  go_enter Tryz.func6, Tryz.ntmps6
  go_wp2_with fail
  refine AW.out.mono ?_
  rintro e V1 ⟨rfl, hk⟩
  have K1 := hid (none_trans K0.out hk)
  have X1 := hid (sck X0.out hk)
  clear hk AW c0 c1 c2 c3 X0 K0
  obtain ⟨c0, c1, c2, c3⟩ := scc X1.out
  go_wp2_with fail
  refine (CF.out _).mono ?_
  rintro e V2 ⟨rfl, hk⟩
  have K2 := hid (none_trans K1.out hk)
  have X2 := hid (sck X1.out hk)
  clear hk CF c0 c1 c2 c3 X1 K1
  obtain ⟨c0, c1, c2, c3⟩ := scc X2.out
  go_wp2_with fail
  refine (NW.out _ K2.out).mono ?_
  rintro e V3 ⟨hb, rfl, hE⟩
  have E3 := hid hE
  have X3 := hid (sck X2.out hE.gs.kp)
  clear hE NW c0 c1 c2 c3
  obtain ⟨c0, c1, c2, c3⟩ := scc X3.out
  go_wp2_with fail
  refine (MY.out _).mono ?_
  rintro e V4 ⟨rfl, hk⟩
  have E4 := hid (E3.out.keep hk)
  have X4 := hid (sck X3.out hk)
  clear hk MY c0 c1 c2 c3 E3 X3
  obtain ⟨c0, c1, c2, c3⟩ := scc X4.out
  go_wp2_with fail
  clear c0 c1 c2 c3
  go_loopw [5, 6] (fun v c V => ∃ (i : Nat) (lr : List Nat), i ≤ m ∧ i ≤ 4000 ∧ c = .int .i64 (i : Int) ∧ lr.length = i ∧ Hid (EI V2 V hb base lim o R lr v)) (fun _ c _ => 4000 - (intOf c).toNat)
  case atStart => exact ⟨0, [], Nat.zero_le _, Nat.zero_le _, rfl, rfl, E4⟩
  case round =>
    clear E4 X4
    obtain ⟨i, lr, him, hi4, rfl, hlr, hE⟩ := hrel
    have X5 := hid (sck X2.out hE.out.gs.kp)
    obtain ⟨c0, c1, c2, c3⟩ := scc X5.out
    have hle5 : lr.length ≤ 5000 := by omega
    have hGG := hE.out.gs.own
    rw [hlr] at hGG
    obtain ⟨va, vc, rfl⟩ := own_val hGG
    have HLR := hid hlr
    have HL5 := hid hle5
    clear hGG hlr hle5
    by_cases hlt : i < m ∧ i < 4000
    · obtain ⟨h1, h2⟩ := hlt
      have h1i : (i : Int) < (m : Int) := by omega
      have h2i : (i : Int) < 4000 := by omega
      obtain ⟨bl, oo, ca, gg0, rfl, hCI⟩ := call_at HC.out h1
      have HCI := hid (hCI.keep (none_trans K2.out hE.out.gs.kp))
      have a0 : wr.cell? ⟨bl, oo + i * 7, none⟩ = some (.int .i64 ca.op) := HCI.out.c0
      have a1 := HCI.out.c1
      have a2 := HCI.out.c2
      have a3 := HCI.out.c3
      have a4 := HCI.out.c4
      have a5 := HCI.out.c5
      have a6 := HCI.out.c6
      have WK := hid (worked_h hE.out.gs (by have := HL5.out; omega) ca)
      obtain ⟨wp, hwp⟩ : ∃ wp, wp = wkP ca lr := ⟨_, rfl⟩
      rw [show wkC ca lr = (⟨ca.op, wp, ca.a, ca.b, ca.d, .slice ca.sa ca.sn ca.sc⟩ : Cl8) from by rw [hwp]; rfl] at WK
      have HWP := hid (show wp < 18446744073709551616 from by
        rw [hwp]
        unfold wkP
        split
        · exact Nat.mod_lt _ (by decide)
        · exact HCI.out.hp)
      clear hCI hwp
      go_wp2_with fail
      refine WK.out.mono ?_
      rintro e w5 ⟨rfl, hk5⟩
      have E6 := hid (hE.out.keep (hk5.alloc (clO (⟨ca.op, wp, ca.a, ca.b, ca.d, .slice ca.sa ca.sn ca.sc⟩ : Cl8))))
      have X6 := hid (heap_new w5 (clO (⟨ca.op, wp, ca.a, ca.b, ca.d, .slice ca.sa ca.sn ca.sc⟩ : Cl8)))
      have GV := hid (gives_h ca.op (w5.alloc (clO (⟨ca.op, wp, ca.a, ca.b, ca.d, .slice ca.sa ca.sn ca.sc⟩ : Cl8))))
      have HOP := hid (show (ca.op == 1 || ca.op == 2 || ca.op == 3 || ca.op == 4) = true ∨ (ca.op == 5) = true → ca.op = 1 ∨ ca.op = 2 ∨ ca.op = 3 ∨ ca.op = 4 ∨ ca.op = 5 from by
        simp only [Bool.or_eq_true, beq_iff_eq]
        omega)
      clear hk5 a0 a1 a2 a3 a4 a5 a6 WK hE X5 c0 c1 c2 c3
      go_upto_region 14 with fail
      generalize w5.alloc (clO (⟨ca.op, wp, ca.a, ca.b, ca.d, .slice ca.sa ca.sn ca.sc⟩ : Cl8)) = w6 at *
      generalize w5.heap.size = y6 at *
      obtain ⟨q0, q1, q2, q3, q4, q5⟩ := clc X6.out
      have q0 : w6.cell? ⟨y6, 0, none⟩ = some (.int .i64 ca.op) := q0
      obtain ⟨gb, hgb⟩ : ∃ gb, gb = (ca.op == 1 || ca.op == 2 || ca.op == 3 || ca.op == 4) := ⟨_, rfl⟩
      rw [← hgb] at GV HOP
      clear hgb
      go_wp2_with fail
      refine GV.out.mono ?_
      rintro e w7 ⟨rfl, h7⟩
      replace h7 := h7.symm
      subst h7
      cases gb with
      | true =>
          have D6 := hid (E6.out.done (⟨ca.op, wp, ca.a, ca.b, ca.d, .slice ca.sa ca.sn ca.sc⟩ : Cl8) (HOP.out (.inl rfl)) (HWP.out) HCI.out.ha HCI.out.hb)
          go_wp2_with fail
          refine D6.out.mono ?_
          rintro e w8 ⟨er, pp, rfl, hpp, hE8⟩
          have E8 := hid hE8
          clear hE8 D6 q0 q1 q2 q3 q4 q5
          go_wp2_with fail
          rw [fds1]
          obtain ⟨gg, cap, w9, HAP, E9⟩ := EI.push pp E8.out HL5.out
          rw [HLR.out] at HAP E9
          have HAP := hid HAP
          have E9 := hid E9
          go_wp2_with (at_builtin; refine Lib.wpList_append_run _ rfl _ _ _ _ rfl (.slice va i vc) (.slice (some ⟨w8.heap.size, 0, none⟩) 1 1) rfl rfl _ _ (HAP.out _) ?_)
          exact ⟨⟨i + 1, lr ++ [pp], by omega, by omega, by simp, by simp [HLR.out], E9⟩, by simp [intOf]; omega⟩
      | false =>
        cases h5 : (ca.op == 5) with
        | true =>
          have D6 := hid (E6.out.done (⟨ca.op, wp, ca.a, ca.b, ca.d, .slice ca.sa ca.sn ca.sc⟩ : Cl8) (HOP.out (.inr h5)) (HWP.out) HCI.out.ha HCI.out.hb)
          go_wp2_with fail
          refine D6.out.mono ?_
          rintro e w8 ⟨er, pp, rfl, hpp, hE8⟩
          have E8 := hid hE8
          clear hE8 D6 q0 q1 q2 q3 q4 q5
          go_wp2_with fail
          rw [fds1]
          obtain ⟨gg, cap, w9, HAP, E9⟩ := EI.push pp E8.out HL5.out
          rw [HLR.out] at HAP E9
          have HAP := hid HAP
          have E9 := hid E9
          go_wp2_with (at_builtin; refine Lib.wpList_append_run _ rfl _ _ _ _ rfl (.slice va i vc) (.slice (some ⟨w8.heap.size, 0, none⟩) 1 1) rfl rfl _ _ (HAP.out _) ?_)
          exact ⟨⟨i + 1, lr ++ [pp], by omega, by omega, by simp, by simp [HLR.out], E9⟩, by simp [intOf]; omega⟩
        | false =>
          clear q1 q2 q3 q4 q5
          obtain ⟨gg, cap, w9, HAP, E9⟩ := EI.push 0 E6.out HL5.out
          rw [HLR.out] at HAP E9
          have HAP := hid HAP
          have E9 := hid E9
          go_wp2_with (at_builtin; refine Lib.wpList_append_run _ rfl _ _ _ _ rfl (.slice va i vc) (.slice (some ⟨w6.heap.size, 0, none⟩) 1 1) rfl rfl _ _ (HAP.out _) ?_)
          exact ⟨⟨i + 1, lr ++ [0], by omega, by omega, by simp, by simp [HLR.out], E9⟩, by simp [intOf]; omega⟩
    · have hx : ¬ (i : Int) < (m : Int) ∨ ((i : Int) < (m : Int) ∧ ¬ (i : Int) < 4000) := by omega
      have LV := hid hE.out.live
      clear hlt HC HLR HL5 hE him hi4
      rcases hx with h1i | ⟨h1i, h2i⟩
      all_goals
        go_wp2_with fail
        refine LV.out.mono ?_
        rintro e w5 ⟨u, l, rfl, hrow, hlen, hrise, hbnd, nn, hF⟩
        obtain ⟨ua, uc, rfl⟩ := own_val hrow
        obtain ⟨n, hn⟩ : ∃ n, n = l.length := ⟨_, rfl⟩
        have HN := hid hn
        rw [← hn] at hlen ⊢
        have F5 := hid (And.intro hF (show w5.ownsRow 0 74 2 (.slice ua n uc) l.length (blV l) by rw [hn]; exact hrow))
        have HRI := hid hrise
        have HBN := hid hbnd
        clear hn hrow hrise hbnd hF LV c0 c1 c2 c3 X5
        go_wp2_with fail
        go_loopw [10] (fun c V => ∃ j : Nat, j ≤ n ∧ c = .int .i64 (j : Int) ∧ Hid (FI V2 V hb base lim o R nn (fun a z => (a, z) ∈ l.drop j) ∧ V.ownsRow 0 74 2 (.slice ua n uc) l.length (blV l))) (fun c _ => n - (intOf c).toNat)
        case atStart => exact ⟨0, Nat.zero_le _, rfl, F5⟩
        case round =>
          clear F5
          obtain ⟨j, hj, rfl, hJ⟩ := hrel
          by_cases hjn : j < n
          · have hji : (j : Int) < (n : Int) := by omega
            obtain ⟨b, hbj⟩ : ∃ b, l[j]? = some b := ⟨_, List.getElem?_eq_getElem (by rw [← HN.out]; exact hjn)⟩
            have hg := blV_get l j b hbj
            have hmem : b ∈ l := List.mem_of_getElem? hbj
            have hbn := HBN.out b hmem
            obtain ⟨a, z⟩ := b
            have FR := hid (hJ.out.1.free (Q' := fun a z => (a, z) ∈ l.drop (j + 1)) (a := a) (z := z) (by
              rw [List.drop_eq_getElem_cons (by rw [← HN.out]; exact hjn)]
              rw [(List.getElem?_eq_some_iff.1 hbj).2]
              exact List.mem_cons_self) hbn.1 (by have := HH.out.1; have := hbn.2; omega) (fun b c => rise_drop HRI.out hbj (b, c)) hJ.out.2)
            have hr2 := hJ.out.2
            rw [← HN.out] at hr2
            obtain ⟨g, rfl, hcell⟩ := own_get hr2 hg
            have hcell : wr.cell? ⟨g, j * 2, none⟩ = some (.int .u64 (a : Int)) := hcell
            clear hg hmem hbn hbj hr2 hJ
            go_wp2_with fail
            refine FR.out.mono ?_
            rintro e w6 ⟨rfl, hF6⟩
            have F6 := hid hF6
            clear hF6 FR hcell
            go_wp2_with fail
            exact ⟨⟨j + 1, by omega, by simp, F6⟩, by simp [intOf]; omega⟩
          · obtain rfl : j = n := by omega
            have hjj : ¬ (j : Int) < (j : Int) := by omega
            obtain ⟨rg, hrl, _, hGI⟩ := hJ.out.1.gi (fun a z h => by
              rw [List.drop_eq_nil_of_le (by rw [← HN.out]; exact Nat.le_refl _)] at h
              cases h)
            have GG := hid hGI
            have hrg : rg ≤ 64 := by have := HH.out.2.2.2; omega
            obtain ⟨HB, hHB⟩ : ∃ h, h = rg * R := ⟨_, rfl⟩
            obtain ⟨FP, hFP⟩ : ∃ h, h = rg * 2 ^ o := ⟨_, rfl⟩
            have ST := hid (fun W' (k : Kept none' wr W') => show Calls Tryz.prog 13 #[.pointer (some ⟨hb, 0, none⟩)] W' fun e w' => e = .returned (.agg #[.int .u64 (HB : Int), .int .u64 0, .int .i64 0, .int .i64 (FP : Int)]) ∧ Kept none' W' w' from by
              rw [hHB, hFP]
              exact (hGI.keep k).stats)
            have XS := hid (sck X2.out hGI.kp)
            have e1 : (HB : Int) / (R : Int) = (rg : Int) := by
              rw [hHB]
              simp
              exact Int.mul_ediv_cancel _ (by omega)
            have r0 : ¬ (R : Int) = 0 := by omega
            have r1 : ((R : Int) == 0) = false := by rw [beq_eq_false_iff_ne]; exact r0
            have hHb : HB ≤ 67108864 := by rw [hHB]; exact Nat.le_trans (Nat.mul_le_mul hrg hRb2) (by decide)
            have FD := fun (w : World) => fd80 (HB : Int) 0 0 (FP : Int) w
            have HHF := hid (And.intro hHB hFP)
            clear hGI hJ HBN HRI hrl HN hHB hFP
            go_upto_region 23 with fail
            have c0' := fun y : KW wr => (scc (sck XS.out y.k)).1
            have c1' := fun y : KW wr => (scc (sck XS.out y.k)).2.1
            have c2' := fun y : KW wr => (scc (sck XS.out y.k)).2.2.1
            refine wp_region_kept (by kernel_rfl) (by kernel_rfl) ?_
            repeat (go_big_quiet_step (first | (go_at_call 13; exact Calls.kept_of (ST.out _ (KW.k _))) | (go_at_call 25; exact Calls.kept_of (RR.out _))))
            refine wpQuiet_nil ?_
            intro y
            have G5 := hid (GG.out.keep y.k)
            have X5 := hid (sck XS.out y.k)
            obtain ⟨V5, hV5⟩ : ∃ V, V = y.v := ⟨_, rfl⟩
            have ST5 := hid (fun W' (k : Kept none' V5 W') => ST.out W' (none_trans (by rw [hV5]; exact y.k) k))
            rw [← hV5] at G5 X5 ⊢
            clear hV5 y ST XS GG FD e1 c0' c1' c2'
            have m1 : (rg : Int) * (R : Int) = (HB : Int) := by rw [HHF.out.1]; simp
            have m2 : (rg : Int) * 2 ^ o = (FP : Int) := by rw [HHF.out.2]; simp
            have hrgw : IntKind.u64.wrap (rg : Int) = (rg : Int) := by rw [wrap_u64]; omega
            have hFb : FP ≤ 16384 := by
              rw [HHF.out.2]
              exact Nat.le_trans (Nat.mul_le_mul hrg (Nat.pow_le_pow_right (by decide) HH.out.2.2.1)) (by decide)
            have m3 : wrap64 (FP : Int) = (FP : Int) := by
              rw [wrap64]
              omega
            go_upto_region 24 with fail
            have c0' := fun y : KW V5 => (scc (sck X5.out y.k)).1
            have c1' := fun y : KW V5 => (scc (sck X5.out y.k)).2.1
            have c2' := fun y : KW V5 => (scc (sck X5.out y.k)).2.2.1
            refine wp_region_kept (by kernel_rfl) (by kernel_rfl) ?_
            repeat (go_big_quiet_step (first | (go_at_call 13; exact Calls.kept_of (ST5.out _ (KW.k _))) | (go_at_call 25; exact Calls.kept_of (RR.out _))))
            refine wpQuiet_nil ?_
            intro y
            have G6 := hid (G5.out.keep y.k)
            have X6 := hid (sck X5.out y.k)
            obtain ⟨V6, hV6⟩ : ∃ V, V = y.v := ⟨_, rfl⟩
            rw [← hV6] at G6 X6 ⊢
            clear hV6 y ST5 X5 G5 c0' c1' c2' m1 m2 m3
            obtain ⟨c0, c1, c2, c3⟩ := scc X6.out
            go_wp2_with fail
            refine (RR.out _).mono ?_
            rintro e V7 ⟨rfl, hk⟩
            have G7 := hid (G6.out.keep hk)
            have MA := hid (G7.out.mal HH.out.2.1 HH.out.2.2.1 HH.out.1)
            clear hk c0 c1 c2 c3 X6 G6
            go_wp2_with fail
            refine MA.out.mono ?_
            rintro e V8 ⟨p, er, rfl, hM⟩
            clear MA G7
            rcases hM with ⟨hrg0, hp0, he0, hG8⟩ | ⟨hrg1, he0, hp0, hp64, hF8⟩
            · subst hrg0 hp0 he0
              have G9 := hid hG8
              have IS := hid (is8 0 2 0 2 V8)
              clear hG8
              go_wp2_with fail
              refine IS.out.mono ?_
              rintro e V9 ⟨rfl, hk⟩
              replace hk := hk.symm
              subst hk
              have TR := hid G9.out.trim
              go_wp2_with fail
              refine TR.out.mono ?_
              rintro e VA ⟨rfl, hGA⟩
              have SA := hid (hGA.stats)
              have GA := hid hGA
              rw [Nat.zero_mul, Nat.zero_mul] at SA
              clear hGA TR G9
              go_wp2_with fail
              refine SA.out.mono ?_
              rintro e VB ⟨rfl, hk⟩
              have LB := hid ((GA.out.keep hk).live0)
              have KB := hid (GA.out.keep hk).kp
              clear hk SA
              go_wp2_with fail
              refine LB.out.mono ?_
              rintro e VC ⟨⟨va', vc', rfl⟩, hk⟩
              have KC := hid (none_trans K2.out (none_trans KB.out hk))
              clear hk LB
              go_wp2_with fail
              go_ret
              exact ⟨rfl, KC.out⟩
            · subst he0
              have r2 : ¬ (rg : Int) = 0 := by omega
              have r3 : ((rg : Int) == 0) = false := by rw [beq_eq_false_iff_ne]; exact r2
              have r4 : (0 : Int) < (rg : Int) := by omega
              have FR := hid (hF8.free (Q' := fun _ _ => False) (a := p) (z := R) ⟨rfl, rfl⟩ hp64 hp0 (fun b c => ⟨fun h => h.2 h.1.1, fun h => h.elim⟩) (u := .slice none 0 0) (l := []) (World.ownsRow_nil _ _ _ _))
              clear hF8 hp0
              go_wp2_with fail
              refine FR.out.mono ?_
              rintro e V9 ⟨rfl, hF9, _⟩
              have G9 := hid (show GI V2 V9 hb base lim o R rg from by
                obtain ⟨rg', h1, h2, h3⟩ := hF9.gi (fun _ _ h => h)
                have : rg = rg' := Nat.eq_of_mul_eq_mul_right (by omega) h2
                rw [this]
                exact h3)
              clear hF9 FR
              have TR := hid G9.out.trim
              go_wp2_with fail
              refine TR.out.mono ?_
              rintro e VA ⟨rfl, hGA⟩
              have SA := hid (hGA.stats)
              have GA := hid hGA
              rw [Nat.zero_mul, Nat.zero_mul] at SA
              clear hGA TR G9
              go_wp2_with fail
              refine SA.out.mono ?_
              rintro e VB ⟨rfl, hk⟩
              have LB := hid ((GA.out.keep hk).live0)
              have KB := hid (GA.out.keep hk).kp
              clear hk SA
              go_wp2_with fail
              refine LB.out.mono ?_
              rintro e VC ⟨⟨va', vc', rfl⟩, hk⟩
              have KC := hid (none_trans K2.out (none_trans KB.out hk))
              clear hk LB
              go_wp2_with fail
              go_ret
              exact ⟨rfl, KC.out⟩
end Go.Proofs.YtgjapopddblpoaaGreatDoor
