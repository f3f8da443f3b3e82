import Derived.Test.YthjokkihlodapaaGreatXe
import Derived.Test.YthjokkihlodapaaGreatXh
set_option maxRecDepth 1000000
set_option maxHeartbeats 80000000
/- Rule 5. -/
namespace Go.Proofs.YthjokkihlodapaaGreat
open Go.RowKit
set_option linter.unusedVariables false

/-- The words of a page's cells. -/
abbrev wsP (p : Pg) : List Nat := [p.b0, p.b1, p.b2, p.b3]
/-- Rule 5 at a page. -/
def ok5 (p : Pg) : Bool := !decide (p.kd = 4) || ((decide (0 < p.lv) && decide (p.lv = (cntS (wsP p) : Int))) && decide (nxtN 256 (wsP p) (celN9 p.cl.toNat) = -1))
theorem ofW_page (p : Pg) (h : PgIn p) : ofW (wsP p) (fit 256) = wsP p := by
  have e : fit 256 = 256 := by decide
  rw [e]
  unfold ofW maskW
  rw [if_pos (by decide)]
  unfold over zeros
  rfl
theorem src_page {w : World} {g : Nat} {p : Pg} (h : w.heap[g]? = some (pgO p)) (hp : PgIn p) : Src w (.slice (some ⟨g, 7, none⟩) 4 4) (wsP p) := by
  refine ⟨fun i => ?_, some ⟨g, 7, none⟩, 4, rfl, .inr ⟨⟨g, 7, none⟩, rfl, heap_lt h, fun j hj => ?_⟩⟩
  · obtain ⟨-, -, -, -, -, -, -, h0, h1, h2, h3⟩ := hp
    match i with
    | 0 => exact h0
    | 1 => exact h1
    | 2 => exact h2
    | 3 => exact h3
    | n + 4 => simp
  · have hj4 : j < 4 := hj
    match j, hj4 with
    | 0, _ => simp [World.cell?, h, Addr.add]
    | 1, _ => simp [World.cell?, h, Addr.add]
    | 2, _ => simp [World.cell?, h, Addr.add]
    | 3, _ => simp [World.cell?, h, Addr.add]

set_option maxRecDepth 6000 in
set_option maxHeartbeats 8000000 in
theorem askCells_any (b : Nat) (I : Img) (V : ImV) (k r : Nat) (hS : Sn9 I k r) (w : World) (hI : ImAt w b I V) :
    Calls Tryz.prog 63 #[.pointer (some ⟨b, 0, none⟩)] w fun e w' => e = askE (fst1 I.np fun i => ok5 (I.pg i)) ∧ Kept none' w w' := by
  obtain ⟨-, ⟨pa, pc, hp⟩, -, -, -, -, bp, -, -⟩ := hI.d.sl
  obtain ⟨c0, c1, c2, c3, c4, c5, c6, c7, c8⟩ := hI.cells
  rw [hp] at c5
  obtain ⟨EE, hEE⟩ : ∃ EE, EE = askE (fst1 I.np fun i => ok5 (I.pg i)) := ⟨_, rfl⟩
  rw [← hEE]
  have HE := hid hEE
  have HI := hid hI
  have HS := hid hS
  have SP := hid hp
  have hnp := hS.np1
  obtain ⟨n, hn⟩ : ∃ n, n = I.np := ⟨_, rfl⟩
  rw [← hn] at hnp c5
  have HN := hid hn
  clear hEE hI hp hS hn bp
  go_enter Tryz.func63, Tryz.ntmps63
  go_wp2_with fail
  go_loopw [10] (fun i W => ∃ a : Nat, a ≤ n ∧ i = .int .i64 a ∧ Hid (Kept none' w W ∧ ∀ x, x < a → ok5 (I.pg x) = true)) (fun i _ => n - (intOf i).toNat)
  case atStart => exact ⟨0, Nat.zero_le _, rfl, hid ⟨Kept.refl _ _, fun x hx => by omega⟩⟩
  case round =>
    clear c0 c1 c2 c3 c4 c5 c6 c7 c8
    obtain ⟨a, ha, rfl, hR⟩ := hrel
    have A0 := hid (HI.out.keep hR.out.1)
    by_cases hlt : a < n
    · have hai : (a : Int) < (n : Int) := by omega
      have hlt' : a < I.np := by rw [← HN.out]; exact hlt
      obtain ⟨bl, o, oc', hv', hpi, hpc⟩ := A0.out.page a hlt'
      rw [SP.out] at hv'
      injection hv' with e1 e2 e3
      subst e1
      obtain ⟨kd, od, cc, ll, y1, y2, y3, y4, y5, y6, y7, y8, -⟩ := HS.out.pg a hlt'
      have FB := hid (show ok5 (I.pg a) = false → thrE (a : Int) = EE from fun h => by rw [HE.out, fst1_bad (ok := fun i => ok5 (I.pg i)) hlt' hR.out.2 h]; rfl)
      have GA := hid (show ok5 (I.pg a) = true → ∀ x, x < a + 1 → ok5 (I.pg x) = true from fun h x hx => by
        by_cases e : x = a
        · rw [e]; exact h
        · exact hR.out.2 x (by omega))
      have OK := hid (show ok5 (I.pg a) = (!decide ((I.pg a).kd = 4) || ((decide (0 < (I.pg a).lv) && decide ((I.pg a).lv = (cntS (wsP (I.pg a)) : Int))) && decide (nxtN 256 (wsP (I.pg a)) (celN9 (I.pg a).cl.toNat) = -1))) from rfl)
      rw [y5, Int.toNat_natCast] at OK
      have PB := hid (PbI.mk' (w := w) A0.out hR.out.1 (I.pg a))
      have SR := hid (src_page PB.out.pb hpi)
      have OW := hid (ofW_page (I.pg a) hpi)
      have HCE := hid (fun W => cells_any (I.pg a) cc y5 y6 W)
      have hcb := celN9_b cc y6
      generalize celN9 cc = cn at *
      obtain ⟨d0, d1, d2, d3, d4, d5, d6, d7, d8, d9, d10⟩ := hpc.c
      generalize ok5 (I.pg a) = okv at *
      generalize I.pg a = p at *
      clear hpi hpc e2 e3 y1 y2 y3 y4 y5 y6 y7 y8
      by_cases hk4 : p.kd = 4
      case neg =>
        have R2 := hid (show Kept none' w (wr.alloc (pgO p)) ∧ _ from ⟨hR.out.1.alloc _, GA.out (by rw [OK.out]; simp [hk4])⟩)
        have f2 : (p.kd != 4) = true := by rw [bne_iff_ne]; exact hk4
        clear hk4
        go_wp2_with fail
        go_round
        case rel => exact ⟨a + 1, by omega, by go_num, R2⟩
        case measure => simp [intOf]; omega
      have OK2 := hid (show okv = ((decide (0 < p.lv) && decide (p.lv = (cntS (wsP p) : Int))) && decide (nxtN 256 (wsP p) cn = -1)) by rw [OK.out, decide_eq_true hk4]; rfl)
      have f2 : (p.kd != 4) = false := by rw [bne_eq_false_iff_eq]; exact hk4
      clear hk4
      generalize hws : wsP p = ws at *
      clear hws
      go_wp2_with fail
      generalize wr.alloc (pgO p) = W1 at *
      generalize wr.heap.size = g at *
      refine (of_any (.slice (some ⟨g, 7, none⟩) 4 4) ws 256 (by decide) (by decide) W1 SR.out).mono ?_
      rintro e w1 ⟨rfl, hset, hk, hsz⟩
      rw [OW.out] at hset
      have PB1 := hid (PB.out.keep hk)
      have ST := hid hset
      generalize W1.heap.size + 1 = sb at *
      generalize W1.heap.size = sc at *
      obtain ⟨cw, hcw⟩ : ∃ cw, cw = cntS ws := ⟨_, rfl⟩
      have HCT := hid (fun (x : KW w1) => countS_any sb sc _ ws x.v (ST.out.kept x.k (fun x => x) (fun x => x)))
      rw [← hcw] at HCT
      have HNX := hid (fun (W : World) (hW : Kept none' w1 W) => next_any sb sc _ ws (cn : Int) (by omega) W (ST.out.kept hW (fun x => x) (fun x => x)))
      obtain ⟨nv, hnv⟩ : ∃ nv, nv = nxtN 256 ws cn := ⟨_, rfl⟩
      have HNE : nxt (fit 256) ws (cn : Int) = nv := by rw [hnv]; unfold nxt; rw [Int.toNat_natCast]; rfl
      rw [HNE] at HNX
      rw [← hcw, ← hnv] at OK2
      clear hset hk hsz hcw hnv HNE OK
      obtain ⟨p0, p1, p2, p3, p4, p5, p6, p7, p8, p9, p10⟩ := PB1.out.all
      clear d0 d1 d2 d3 d4 d5 d6 d7 d8 d9 d10
      by_cases g1 : 0 < p.lv
      case neg =>
        have R2 := hid (FB.out (by rw [OK2.out, decide_eq_false g1]; rfl))
        have f1 : decide (0 < p.lv) = false := decide_eq_false g1
        go_wp2_with fail
        refine wp_region_ends_kept (by kernel_rfl) (by kernel_rfl) (by exact List.cons_ne_nil _ _) ?_; dsimp only [List.dropLast, List.getLast]
        repeat (go_big_quiet_step (fail))
        refine wpQuiet_nil ?_
        refine ⟨rfl, ?_⟩
        rintro _ ⟨x, rfl⟩
        exact ends_must (p := (a : Int)) rfl rfl rfl fun _ hd => ⟨hd, R2.out, none_trans PB1.out.k x.k⟩
      have f1 : decide (0 < p.lv) = true := decide_eq_true g1
      by_cases g2 : p.lv = (cw : Int)
      case neg =>
        have R2 := hid (FB.out (by rw [OK2.out, decide_eq_false g2]; simp))
        have f3 : (p.lv == (cw : Int)) = false := by rw [beq_eq_false_iff_ne]; exact g2
        clear g2
        go_wp2_with fail
        refine wp_region_ends_kept (by kernel_rfl) (by kernel_rfl) (by exact List.cons_ne_nil _ _) ?_; dsimp only [List.dropLast, List.getLast]
        repeat (go_big_quiet_step (first | (go_at_call 96; exact Calls.kept_of ((HCT.out _).mono fun _ _ ⟨h1, h2⟩ => ⟨h1, h2 ▸ Kept.refl _ _⟩))))
        refine wpQuiet_nil ?_
        refine ⟨rfl, ?_⟩
        rintro _ ⟨x, rfl⟩
        exact ends_must (p := (a : Int)) rfl rfl rfl fun _ hd => ⟨hd, R2.out, none_trans PB1.out.k x.k⟩
      have OK3 := hid (show okv = decide (nv = -1) by rw [OK2.out, f1, decide_eq_true g2]; rfl)
      have f3 : (p.lv == (cw : Int)) = true := by rw [beq_iff_eq]; exact g2
      have HMY := hid (fun W => must_yes (a : Int) W)
      clear g2
      go_wp2_with fail
      refine wp_region_kept (by kernel_rfl) (by kernel_rfl) ?_
      repeat (go_big_quiet_step (first | (go_at_call 96; exact Calls.kept_of ((HCT.out _).mono fun _ _ ⟨h1, h2⟩ => ⟨h1, h2 ▸ Kept.refl _ _⟩)) | (go_at_call 91; exact Calls.kept_of ((HMY.out _).mono fun _ _ ⟨h1, h2⟩ => ⟨h1, h2 ▸ Kept.refl _ _⟩))))
      refine wpQuiet_nil ?_
      intro x
      go_wp2_with fail
      refine (HCE.out _).mono ?_
      rintro e w3 ⟨rfl, hk⟩
      have K3 := hid (none_trans PB1.out.k (none_trans x.k hk))
      have NX := hid (HNX.out w3 (none_trans x.k hk))
      clear p0 p1 p2 p3 p4 p5 p6 p7 p8 p9 p10 hk
      by_cases g3 : nv = -1
      case neg =>
        have R2 := hid (FB.out (by rw [OK3.out, decide_eq_false g3]))
        have f4 : (nv == -1) = false := by rw [beq_eq_false_iff_ne]; exact g3
        clear g3
        go_wp2_with fail
        refine NX.out.mono ?_
        rintro e w4 ⟨rfl, rfl⟩
        go_wp2_with fail
        refine (must_no _ _).mono ?_
        rintro e w5 ⟨rfl, rfl⟩
        exact ⟨rfl, R2.out, K3.out⟩
      have R2 := hid (show Kept none' w w3 ∧ _ from ⟨K3.out, GA.out (by rw [OK3.out, decide_eq_true g3])⟩)
      have f4 : (nv == -1) = true := by rw [beq_iff_eq]; exact g3
      clear g3
      go_wp2_with fail
      refine NX.out.mono ?_
      rintro e w4 ⟨rfl, rfl⟩
      go_wp2_with fail
      refine (must_yes _ _).mono ?_
      rintro e w5 ⟨rfl, rfl⟩
      go_wp2_with fail
      go_round
      case rel => exact ⟨a + 1, by omega, by go_num, R2⟩
      case measure => simp [intOf]; omega
    · obtain rfl : a = n := by omega
      have hai : ¬ (a : Int) < (a : Int) := by omega
      have E := hid (show Ending.returned (.tuple #[]) = EE by rw [HE.out, fst1_ok (fun x hx => hR.out.2 x (by rw [HN.out]; exact hx))]; rfl)
      go_wp2_with fail
      first | go_end0 | go_ret
      exact ⟨E.out, hR.out.1⟩
end Go.Proofs.YthjokkihlodapaaGreat
/- Words; pages at addresses; what is met. -/
namespace Go.Proofs.YthjokkihlodapaaGreat
open Go.RowKit
set_option linter.unusedVariables false

theorem SlIn.at {w : World} {a : Option Addr} {n c m : Nat} {C : Nat → Nat → Nat → Prop} (h : SlIn w (.slice a n c) m C) (i : Nat) (hi : i < m) : ∃ bl o, a = some ⟨bl, o, none⟩ ∧ bl < w.heap.size ∧ ∀ i, i < m → C bl o i := by
  obtain ⟨_, oa, oc, hv, h3⟩ := h
  injection hv with e1
  rcases h3 with h3 | ⟨bl, o, e, hl, hc⟩
  · omega
  · exact ⟨bl, o, by rw [e1, e], hl, hc⟩

set_option maxHeartbeats 4000000 in
theorem word_any (b : Nat) (I : Img) (V : ImV) (q : Nat) (w : World) (hI : ImAt w b I V) (hq : q + 8 ≤ I.nm) (hb : I.base + I.nm ≤ 9223372036854775808) :
    Calls Tryz.prog 103 #[.pointer (some ⟨b, 0, none⟩), .int .u64 ((I.base + q : Nat) : Int)] w fun e w' => e = .returned (.int .u64 ((M.word I.mem q : Nat) : Int)) ∧ ∃ m, w' = w.drewN m := by
  obtain ⟨⟨ma, mc, hm⟩, -⟩ := hI.d.sl
  have hMM := hI.d.mem
  have hcp := hI.d.mcp _ _ _ hm
  rw [hm] at hMM
  obtain ⟨bl, o, rfl, -, hc⟩ := hMM.at q (by omega)
  obtain ⟨c0, c1, c2, c3, c4, c5, c6, c7, c8⟩ := hI.cells
  rw [hm] at c4
  have HC := hid (fun i (hi : i < 8) => hc (q + i) (by omega))
  obtain ⟨B, hB⟩ : ∃ B, B = I.base := ⟨_, rfl⟩
  obtain ⟨nm, hnm⟩ : ∃ nm, nm = I.nm := ⟨_, rfl⟩
  rw [← hB] at c0 hb ⊢
  rw [← hnm] at c4 hb hq hcp
  obtain ⟨ad, had⟩ : ∃ ad, ad = B + q := ⟨_, rfl⟩
  rw [← had]
  have hsub : (ad : Int) - (B : Int) = (q : Int) := by omega
  have had1 : ad < 9223372036854775808 := by omega
  have hq1 : q < 9223372036854775808 := by omega
  obtain ⟨F, hF⟩ : ∃ F, F = I.mem := ⟨_, rfl⟩
  rw [← hF] at HC ⊢
  obtain ⟨RR, hRR⟩ : ∃ RR, RR = M.word F q := ⟨_, rfl⟩
  rw [← hRR]
  have HRR := hid hRR
  clear hB hnm had hI hm hMM hc hF hRR
  go_enter Tryz.func103, Tryz.ntmps103
  go_wp2_with fail
  go_quiet (fail)
  go_wp2_with fail
  have c4' : (w.drewN nq).cell? ⟨b, 4, none⟩ = some (.slice (some ⟨bl, o, none⟩) nm mc) := c4
  go_loop [5, 25] (fun v i => ∃ k : Nat, k ≤ 8 ∧ i = .int .i64 k ∧ v = .int .u64 ((M.wordTo (fun i => F (q + i)) k : Nat) : Int)) (fun _ i => 8 - (intOf i).toNat)
  case atStart => exact ⟨0, by omega, rfl, rfl⟩
  case round =>
    obtain ⟨k, hk, rfl, rfl⟩ := hrel
    by_cases hlt : k < 8
    · have hc := (HC.out k hlt).2
      rw [← Nat.add_assoc] at hc
      have E := hid (M.word_step (M.wordTo (fun i => F (q + i)) k) k (F (q + k)) hlt (HC.out k hlt).1 (M.wordTo_lt _ _ (fun i hi => (HC.out i (by omega)).1)))
      go_wp2
      refine ⟨⟨k + 1, by omega, by simp, ?_⟩, by simp [intOf]; omega⟩
      rw [E.out]
      rfl
    · obtain rfl : k = 8 := by omega
      go_wp2
      go_ret
      exact ⟨by rw [HRR.out]; rfl, _, rfl⟩

/-- The page that begins at an address. -/
def decP (I : Img) (p : Nat) : Option Nat := if I.base ≤ p ∧ p - I.base < I.nm ∧ (p - I.base) % 4096 = 0 then some ((p - I.base) / 4096) else none
def decI (x : Option Nat) : Int := match x with | some i => (i : Int) | none => -1
theorem pageAt_any (b : Nat) (I : Img) (V : ImV) (p : Nat) (hp : p < 18446744073709551616) (w : World) (hI : ImAt w b I V) (hb : I.base + I.nm ≤ 9223372036854775808) :
    Calls Tryz.prog 102 #[.pointer (some ⟨b, 0, none⟩), .int .u64 (p : Int)] w fun e w' => e = .returned (.int .i64 (decI (decP I p))) ∧ w' = w := by
  obtain ⟨⟨ma, mc, hm⟩, -⟩ := hI.d.sl
  obtain ⟨c0, c1, c2, c3, c4, c5, c6, c7, c8⟩ := hI.cells
  rw [hm] at c4
  obtain ⟨B, hB⟩ : ∃ B, B = I.base := ⟨_, rfl⟩
  obtain ⟨nm, hnm⟩ : ∃ nm, nm = I.nm := ⟨_, rfl⟩
  have hd : decP I p = if B ≤ p ∧ p - B < nm ∧ (p - B) % 4096 = 0 then some ((p - B) / 4096) else none := by rw [hB, hnm]; rfl
  rw [hd]
  rw [← hB] at c0 hb
  rw [← hnm] at c4 hb
  clear hB hnm hI hm hd
  by_cases h1 : p < B
  · rw [if_neg (by omega)]
    obtain ⟨x, hx⟩ : ∃ x, x = 18446744073709551616 - (B - p) := ⟨_, rfl⟩
    have hw : IntKind.u64.wrap ((p : Int) - (B : Int)) = (x : Int) := by rw [wrap_u64]; omega
    have h2 : ¬ (x : Int) < (nm : Int) := by omega
    have h3 : (nm : Int) ≤ (x : Int) := by omega
    have h4 : nm ≤ x := by omega
    clear hx
    go_enter Tryz.func102, Tryz.ntmps102
    go_wp2
    go_ret
    exact ⟨rfl, rfl⟩
  · obtain ⟨x, rfl⟩ : ∃ x, p = B + x := ⟨p - B, by omega⟩
    rw [Nat.add_sub_cancel_left]
    have hw : ((B + x : Nat) : Int) - (B : Int) = (x : Int) := by omega
    have hle : B ≤ B + x := by omega
    by_cases h2 : x < nm
    · by_cases h3 : x % 4096 = 0
      · rw [if_pos ⟨hle, h2, h3⟩]
        have f2 : ¬ (nm : Int) ≤ (x : Int) := by omega
        have f2' : ¬ nm ≤ x := by omega
        have f3 : ((x : Int) % 4096 != 0) = false := by rw [bne_eq_false_iff_eq]; omega
        have f4 : (x : Int) / 4096 = ((x / 4096 : Nat) : Int) := by omega
        have f5 : x / 4096 < 9223372036854775808 := by omega
        obtain ⟨y, hy⟩ : ∃ y, y = x / 4096 := ⟨_, rfl⟩
        rw [← hy] at f4 f5 ⊢
        generalize B + x = p at *
        clear h3 hy hle
        go_enter Tryz.func102, Tryz.ntmps102
        go_wp2
        go_ret
        exact ⟨rfl, rfl⟩
      · rw [if_neg (by omega)]
        have f2 : ¬ (nm : Int) ≤ (x : Int) := by omega
        have f2' : ¬ nm ≤ x := by omega
        have f3 : ((x : Int) % 4096 != 0) = true := by rw [bne_iff_ne]; omega
        generalize B + x = p at *
        clear h3 hle
        go_enter Tryz.func102, Tryz.ntmps102
        go_wp2
        go_ret
        exact ⟨rfl, rfl⟩
    · rw [if_neg (by omega)]
      have f2 : (nm : Int) ≤ (x : Int) := by omega
      have f2' : nm ≤ x := by omega
      generalize B + x = p at *
      clear hle
      go_enter Tryz.func102, Tryz.ntmps102
      go_wp2
      go_ret
      exact ⟨rfl, rfl⟩

theorem bit_putI {n : Nat} {ws : List Nat} (hl : ws.length = (n + 63) / 64) (i : Nat) (hi : i < n) (v : Bool) (j : Nat) : bit (putI n ws (i : Int) v) j = if j = i then v else bit ws j := by
  have hr : inR n (i : Int) = true := by unfold inR; exact decide_eq_true (by omega)
  have hs : inS n ws (i : Int) = bit ws i := by unfold inS; rw [hr, Int.toNat_natCast, Bool.true_and]
  unfold putI
  rw [hs]
  by_cases e : bit ws i = v
  · rw [if_pos e]
    by_cases ej : j = i
    · rw [if_pos ej, ej, e]
    · rw [if_neg ej]
  · rw [if_neg e]
    unfold flipI
    rw [if_pos hr, Int.toNat_natCast, bit_flip ws i j (by omega)]
    by_cases ej : j = i
    · rw [if_pos ej, if_pos ej]
      cases h : bit ws i <;> cases v <;> simp_all
    · rw [if_neg ej, if_neg ej]
theorem meet_no (sb sc n : Nat) (ws : List Nat) (i p : Int) (w : World) (h : SetAt w sb sc n ws) (hb : inS n ws i = false) :
    Calls Tryz.prog 101 #[.pointer (some ⟨sb, 0, none⟩), .int .i64 i, .int .i64 p] w fun e w' => e = thrE p ∧ w' = w := by
  have HG := hid (get_any sb sc n ws i w h)
  rw [hb] at HG
  clear h hb
  go_enter Tryz.func101, Tryz.ntmps101
  go_wp2_with fail
  refine HG.out.mono ?_
  rintro e w1 ⟨rfl, rfl⟩
  go_wp2_with fail
  refine (must_no _ _).mono ?_
  rintro e w2 ⟨rfl, rfl⟩
  exact ⟨rfl, rfl, rfl⟩
theorem meet_yes (sb sc n : Nat) (ws : List Nat) (i p : Int) (w : World) (h : SetAt w sb sc n ws) (hb : inS n ws i = true) :
    Calls Tryz.prog 101 #[.pointer (some ⟨sb, 0, none⟩), .int .i64 i, .int .i64 p] w fun e w' => e = .returned (.tuple #[]) ∧ SetAt w' sb sc n (putI n ws i false) ∧ Kept (fun x => x = sc) w w' ∧ w'.heap.size = w.heap.size := by
  have HG := hid (get_any sb sc n ws i w h)
  rw [hb] at HG
  have HP := hid (put_any sb sc n ws i false w h)
  clear h hb
  go_enter Tryz.func101, Tryz.ntmps101
  go_wp2_with fail
  refine HG.out.mono ?_
  rintro e w1 ⟨rfl, rfl⟩
  go_wp2_with fail
  refine (must_yes _ _).mono ?_
  rintro e w2 ⟨rfl, rfl⟩
  go_wp2_with fail
  refine HP.out.mono ?_
  rintro e w3 ⟨rfl, h1, h2, h3⟩
  have HH := hid (show SetAt w3 sb sc n (putI n ws i false) ∧ Kept (fun x => x = sc) w2 w3 ∧ w3.heap.size = w2.heap.size from ⟨h1, h2, h3⟩)
  clear h1 h2 h3
  go_wp2_with fail
  first | go_end0 | go_ret
  exact ⟨rfl, HH.out⟩
end Go.Proofs.YthjokkihlodapaaGreat
