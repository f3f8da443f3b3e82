import Derived.Test.YthjokkihlodapaaGreatXj
set_option maxRecDepth 1000000
set_option maxHeartbeats 80000000
/- Sets of cells; the next cell. -/
namespace Go.Proofs.YthjokkihlodapaaGreat
open Go.RowKit
set_option linter.unusedVariables false

set_option maxHeartbeats 4000000 in
theorem liveSet_any (p : Pg) (c : Nat) (hc : p.cl = (c : Int)) (h7 : c ≤ 7) (hp : PgIn p) (w : World) :
    Calls Tryz.prog 40 #[pgV p] w (PsP w (celN9 c) fun i => bit (wsP p) i) := by
  have hcb := celN9_b c h7
  have HC := hid (fun W => cells_any p c hc h7 W)
  have B0 := hid (show (w.alloc (pgO p)).heap[w.heap.size]? = some (pgO p) from heap_new _ _)
  have K0 := hid (show Kept none' w (w.alloc (pgO p)) from (Kept.refl _ _).alloc _)
  have HPI := hid hp
  have HOF := hid (fun (W : World) (h : W.heap[w.heap.size]? = some (pgO p)) => of_any (.slice (some ⟨w.heap.size, 7, none⟩) 4 4) (wsP p) ((celN9 c : Nat) : Int) (by omega) (by omega) W (src_page h hp))
  have hfit : fit ((celN9 c : Nat) : Int) = celN9 c := by unfold fit; split <;> (try split) <;> omega
  rw [hfit] at HOF
  have HBT := hid (show ∀ i, i < celN9 c → bit (ofW (wsP p) (celN9 c)) i = bit (wsP p) i from fun i hi => bit_ofW _ _ _ (src_page B0.out hp).1 hi)
  have GOAL := hid (show ∀ W sb sc, Kept none' w W → SetAt W sb sc (celN9 c) (ofW (wsP p) (celN9 c)) → w.heap.size ≤ sb → w.heap.size ≤ sc → PsP w (celN9 c) (fun i => bit (wsP p) i) (.returned (.pointer (some ⟨sb, 0, none⟩))) W from fun W sb sc h1 h2 h3 h4 => ⟨sb, sc, _, rfl, h2, h3, h4, HBT.out, h1⟩)
  generalize celN9 c = n at *
  clear hc hp hfit
  go_enter Tryz.func40, Tryz.ntmps40
  go_wp2_with fail
  have SZ := hid (show w.heap.size < (w.alloc (pgO p)).heap.size by simp)
  generalize w.alloc (pgO p) = W1 at *
  have GEQ := hid (Nat.le_refl w.heap.size)
  obtain ⟨g, hg⟩ : ∃ g, g = w.heap.size := ⟨_, rfl⟩
  rw [← hg] at B0 HOF SZ
  have HG := hid hg
  simp only [← hg]
  clear hg
  obtain ⟨y0, y1, y2, y3, y4, y5, y6, y7, y8, y9, y10⟩ := pgO_c (show W1.drew.heap[g]? = some (pgO p) from B0.out)
  have HC1 := hid (HC.out W1.drew)
  have BD := hid (show W1.drew.heap[g]? = some (pgO p) from B0.out)
  have SZD := hid (show g < W1.drew.heap.size from SZ.out)
  go_cut [2] (fun v W => ∃ sb sc : Nat, v = .pointer (some ⟨sb, 0, none⟩) ∧ Hid (SetAt W sb sc n (ofW (wsP p) n) ∧ g ≤ sb ∧ g ≤ sc ∧ Kept none' W1 W))
  case first =>
    go_region_held3 (fun w' => w'.cell? ⟨g, 0, none⟩ = some (.int .i64 p.kd) ∧ w'.cell? ⟨g, 1, none⟩ = some (.int .i64 p.od) ∧ w'.cell? ⟨g, 2, none⟩ = some (.int .i64 p.cl) ∧ w'.cell? ⟨g, 3, none⟩ = some (.int .i64 p.lv) ∧ w'.cell? ⟨g, 4, none⟩ = some (.int .i64 p.nx) ∧ w'.cell? ⟨g, 5, none⟩ = some (.int .i64 p.pv) ∧ w'.cell? ⟨g, 6, none⟩ = some (.int .i64 p.fs) ∧ w'.cell? ⟨g, 7, none⟩ = some (.int .u64 (p.b0 : Int)) ∧ w'.cell? ⟨g, 8, none⟩ = some (.int .u64 (p.b1 : Int)) ∧ w'.cell? ⟨g, 9, none⟩ = some (.int .u64 (p.b2 : Int)) ∧ w'.cell? ⟨g, 10, none⟩ = some (.int .u64 (p.b3 : Int))) (first | with_reducible exact ⟨y0, y1, y2, y3, y4, y5, y6, y7, y8, y9, y10⟩ | with_reducible exact Z2 | with_reducible exact Z3) (first | (go_at_call 71; with_reducible refine HC1.out.mono ?_; rintro e w2 ⟨rfl, hk2⟩; have B2 := hid ((hk2.block _ (heap_lt BD.out) (fun x => x)).trans BD.out); have Z2 := pgO_c B2.out; have K2 := hid hk2; have HO2 := hid (HOF.out w2 B2.out); clear hk2) | (go_at_call 70; with_reducible refine HO2.out.mono ?_; rintro e w3 ⟨rfl, h3⟩; have H3 := hid h3; have Z3 := pgO_c ((h3.2.1.block _ (heap_lt B2.out) (fun x => x)).trans B2.out); clear h3) | fail)
    all_goals
      have S3 := hid (show SetAt w3 (w2.heap.size + 1) w2.heap.size n (ofW (wsP p) n) ∧ g ≤ w2.heap.size + 1 ∧ g ≤ w2.heap.size ∧ Kept none' W1 w3 from ⟨H3.out.1, by have h1 := K2.out.size; have h2 := SZD.out; omega, by have h1 := K2.out.size; have h2 := SZD.out; omega, none_trans ((Kept.refl none' W1).drew) (none_trans K2.out H3.out.2.1)⟩)
      go_wp2_with fail
      go_meet
      exact ⟨_, _, rfl, S3⟩
  case rest =>
  obtain ⟨sb, sc, rfl, hH⟩ := hcut
  go_wp2_with fail
  go_ret
  exact GOAL.out _ sb sc (none_trans K0.out hH.out.2.2.2) hH.out.1 (by have := HG.out; have := hH.out.2.1; omega) (by have := HG.out; have := hH.out.2.2.1; omega)
end Go.Proofs.YthjokkihlodapaaGreat
/- Free cells; the next cell. -/
namespace Go.Proofs.YthjokkihlodapaaGreat
open Go.RowKit
set_option linter.unusedVariables false

theorem bit_flipI {n : Nat} {ws : List Nat} (hl : ws.length = (n + 63) / 64) (i : Nat) (hi : i < n) (j : Nat) : bit (flipI n ws (i : Int)) j = if j = i then !bit ws i else bit ws j := by
  have hr : inR n (i : Int) = true := by unfold inR; exact decide_eq_true (by omega)
  unfold flipI
  rw [if_pos hr, Int.toNat_natCast, bit_flip ws i j (by omega)]

set_option maxHeartbeats 4000000 in
theorem freeSet_any (p : Pg) (c : Nat) (hc : p.cl = (c : Int)) (h7 : c ≤ 7) (hp : PgIn p) (w : World) :
    Calls Tryz.prog 114 #[pgV p] w (PsP w (celN9 c) fun i => !bit (wsP p) i) := by
  have hcb := celN9_b c h7
  have HL := hid (fun W => liveSet_any p c hc h7 hp W)
  have K0 := hid (show Kept none' w (w.alloc (pgO p)) from (Kept.refl _ _).alloc _)
  have GOAL := hid (show ∀ W sb sc ws, Kept none' w W → SetAt W sb sc (celN9 c) ws → w.heap.size ≤ sb → w.heap.size ≤ sc → (∀ i, i < celN9 c → bit ws i = !bit (wsP p) i) → PsP w (celN9 c) (fun i => !bit (wsP p) i) (.returned (.pointer (some ⟨sb, 0, none⟩))) W from fun W sb sc ws h1 h2 h3 h4 h5 => ⟨sb, sc, _, rfl, h2, h3, h4, h5, h1⟩)
  generalize celN9 c = n at *
  clear hc hp
  go_enter Tryz.func114, Tryz.ntmps114
  go_wp2_with fail
  generalize w.alloc (pgO p) = W1 at *
  refine (HL.out W1).mono ?_
  rintro e w2 ⟨sb, sc, ws, rfl, hst, hg1, hg2, hbt, hk2⟩
  have K2 := hid (none_trans K0.out hk2)
  have G := hid (show w.heap.size ≤ sb ∧ w.heap.size ≤ sc from ⟨Nat.le_trans K0.out.size hg1, Nat.le_trans K0.out.size hg2⟩)
  have ST := hid hst
  have BT := hid hbt
  have HLN := hid (len_any sb sc n ws w2 hst)
  clear hst hg1 hg2 hbt hk2
  go_wp2_with fail
  refine HLN.out.mono ?_
  rintro e w3 ⟨rfl, rfl⟩
  go_wp2_with fail
  go_loopw [9] (fun i W => ∃ a : Nat, a ≤ n ∧ i = .int .i64 a ∧ Hid (Kept none' w W ∧ ∃ ws, SetAt W sb sc n ws ∧ (∀ j, j < a → bit ws j = !bit (wsP p) j) ∧ ∀ j, a ≤ j → j < n → bit ws j = bit (wsP p) j)) (fun i _ => n - (intOf i).toNat)
  case atStart => exact ⟨0, Nat.zero_le _, rfl, hid ⟨K2.out, ws, ST.out, fun j hj => by omega, fun j _ hj => BT.out j hj⟩⟩
  case round =>
    clear K2 ST BT HLN
    obtain ⟨a, ha, rfl, hR⟩ := hrel
    obtain ⟨hk, ws, hst, hb1, hb2⟩ := hR.out
    by_cases hlt : a < n
    · have hai : (a : Int) < (n : Int) := by omega
      have HF := hid (flip_any sb sc n ws (a : Int) wr hst)
      have HK := hid hk
      have BB := hid (show (∀ j, j < a → bit ws j = !bit (wsP p) j) ∧ ∀ j, a ≤ j → j < n → bit ws j = bit (wsP p) j from ⟨hb1, hb2⟩)
      have LN := hid hst.len
      clear hk hst hb1 hb2
      go_wp2_with fail
      refine HF.out.mono ?_
      rintro e w4 ⟨rfl, h1, h2, h3⟩
      have R2 := hid (show Kept none' w w4 ∧ ∃ ws, SetAt w4 sb sc n ws ∧ (∀ j, j < a + 1 → bit ws j = !bit (wsP p) j) ∧ ∀ j, a + 1 ≤ j → j < n → bit ws j = bit (wsP p) j from ⟨HK.out.trans h2 (fun _ _ x => x) (fun x hx e => by have := G.out.2; omega), _, h1, fun j hj => by
        rw [bit_flipI LN.out a hlt j]
        by_cases e : j = a
        · rw [if_pos e, e, BB.out.2 a (Nat.le_refl _) hlt]
        · rw [if_neg e]; exact BB.out.1 j (by omega), fun j hj hj2 => by
        rw [bit_flipI LN.out a hlt j, if_neg (by omega)]
        exact BB.out.2 j (by omega) hj2⟩)
      clear h1 h2 h3
      go_wp2_with fail
      go_round
      case rel => exact ⟨a + 1, by omega, by go_num, R2⟩
      case measure => simp [intOf]; omega
    · obtain rfl : a = n := by omega
      have hai : ¬ (a : Int) < (a : Int) := by omega
      go_wp2_with fail
      go_ret
      exact GOAL.out wr sb sc ws hk hst G.out.1 G.out.2 hb1

/-- The cell that a free cell's word leads to: -1 behind the last, none where it leads to no cell. -/
def nx9 (I : Img) (g c i : Nat) : Option Int :=
  if M.word I.mem (4096 * g + i * (16 * 2 ^ c)) = 0 then some (-1)
  else if I.base + g * 4096 ≤ M.word I.mem (4096 * g + i * (16 * 2 ^ c)) ∧ M.word I.mem (4096 * g + i * (16 * 2 ^ c)) - (I.base + g * 4096) < 4096 ∧ (M.word I.mem (4096 * g + i * (16 * 2 ^ c)) - (I.base + g * 4096)) % (16 * 2 ^ c) = 0
    then some (((M.word I.mem (4096 * g + i * (16 * 2 ^ c)) - (I.base + g * 4096)) / (16 * 2 ^ c) : Nat) : Int) else none
def nxE (g : Nat) : Option Int → Ending
  | none => thrE (g : Int)
  | some q => .returned (.int .i64 q)
theorem cel_all (c : Nat) (h : c ≤ 7) : celN9 c * (16 * 2 ^ c) = 4096 ∧ 16 ≤ 16 * 2 ^ c ∧ 16 * 2 ^ c ≤ 2048 := by
  match c, h with
  | 0, _ => decide
  | 1, _ => decide
  | 2, _ => decide
  | 3, _ => decide
  | 4, _ => decide
  | 5, _ => decide
  | 6, _ => decide
  | 7, _ => decide

set_option maxHeartbeats 8000000 in
theorem nextCell_any (b : Nat) (I : Img) (V : ImV) (k r : Nat) (hS : Sn9 I k r) (g c i : Nat) (hg : g < I.np) (hc : (I.pg g).cl = (c : Int)) (h7 : c ≤ 7) (hi : i < celN9 c) (w : World) (hI : ImAt w b I V) :
    Calls Tryz.prog 115 #[.pointer (some ⟨b, 0, none⟩), .int .i64 (g : Int), .int .i64 (i : Int)] w fun e w' => e = nxE g (nx9 I g c i) ∧ Kept none' w w' := by
  obtain ⟨hca, hs1, hs2⟩ := cel_all c h7
  obtain ⟨sz, hsz⟩ : ∃ sz, sz = 16 * 2 ^ c := ⟨_, rfl⟩
  have hnm := hS.nm
  have hbe := hS.be
  have hnp := hS.np1
  have him : i * sz + sz ≤ 4096 := by
    rw [← hca, ← hsz]
    have : (i + 1) * sz ≤ celN9 c * sz := Nat.mul_le_mul_right _ hi
    rwa [Nat.add_mul, Nat.one_mul] at this
  rw [← hsz] at hs1 hs2
  obtain ⟨fi, hfi⟩ : ∃ fi, fi = I.base + g * 4096 := ⟨_, rfl⟩
  have hfb : fi + 4096 ≤ 9223372036854775808 := by omega
  obtain ⟨m, hm⟩ : ∃ m, m = i * sz := ⟨_, rfl⟩
  have HAD := hid (fun (x : KW w) => address_any b I V g x.v (hI.keep x.k) (by omega))
  rw [← hfi] at HAD
  have HSZ := hid (fun W => cellSize_any (I.pg g) c hc h7 W)
  rw [← hsz] at HSZ
  have hq : 4096 * g + m + 8 ≤ I.nm := by rw [hm]; omega
  have HW := hid (fun (W : World) (hW : Kept none' w W) => word_any b I V (4096 * g + m) W (hI.keep hW) hq hbe)
  have e1 : ((I.base + (4096 * g + m) : Nat) : Int) = (fi : Int) + (m : Int) := by rw [hfi]; omega
  rw [e1] at HW
  have hxl := word_lt hI.d (4096 * g + m) hq
  have NX : nx9 I g c i = if M.word I.mem (4096 * g + m) = 0 then some (-1) else if fi ≤ M.word I.mem (4096 * g + m) ∧ M.word I.mem (4096 * g + m) - fi < 4096 ∧ (M.word I.mem (4096 * g + m) - fi) % sz = 0 then some (((M.word I.mem (4096 * g + m) - fi) / sz : Nat) : Int) else none := by
    unfold nx9
    rw [← hsz, ← hm, ← hfi]
  obtain ⟨EE, hEE⟩ : ∃ EE, EE = nxE g (nx9 I g c i) := ⟨_, rfl⟩
  rw [← hEE]
  rw [NX] at hEE
  generalize M.word I.mem (4096 * g + m) = x at *
  have E0 := hid (show x = 0 → Ending.returned (.int .i64 (-1)) = EE from fun h => by rw [hEE, if_pos h]; rfl)
  have E1 := hid (show ∀ q, x ≠ 0 → fi ≤ x → x - fi < 4096 → (x - fi) % sz = 0 → q = (x - fi) / sz → Ending.returned (.int .i64 (q : Int)) = EE from fun q h0 h1 h2 h3 h4 => by rw [hEE, if_neg h0, if_pos ⟨h1, h2, h3⟩, h4]; rfl)
  have E2 := hid (show x ≠ 0 → ¬ (fi ≤ x ∧ x - fi < 4096 ∧ (x - fi) % sz = 0) → thrE (g : Int) = EE from fun h0 h1 => by rw [hEE, if_neg h0, if_neg h1]; rfl)
  have hmi : (i : Int) * (sz : Int) = (m : Int) := by rw [hm]; simp
  have hml : m ≤ 4096 := by omega
  have hsz0 : ¬ (sz : Int) = 0 := by omega
  have hi256 : i < 256 := Nat.lt_of_lt_of_le hi (celN9_b c h7).2
  obtain ⟨-, ⟨pa, pc, hp⟩, -, -, -, -, bp, -, -⟩ := hI.d.sl
  obtain ⟨c0, c1, c2, c3, c4, c5, c6, c7, c8⟩ := hI.all
  rw [hp] at c5
  obtain ⟨bl, o, oc', hv', -, -⟩ := hI.page g hg
  rw [hp] at hv'
  injection hv' with e3 e4 e5
  subst e3
  obtain ⟨d0, d1, d2, d3, d4, d5, d6, d7, d8, d9, d10⟩ := pgCK (hI.pageK hp g hg)
  obtain ⟨n, hn⟩ : ∃ n, n = I.np := ⟨_, rfl⟩
  rw [← hn] at c5
  have hgn : (g : Int) < (n : Int) := by omega
  have hgl : g ≤ 1024 := by omega
  clear NX hEE hsz hm hfi e1 hq hca hc hI hp hn e4 e5 him hS hi hnm hbe
  go_enter Tryz.func115, Tryz.ntmps115
  go_wp2_with fail
  refine wp_region_kept (by kernel_rfl) (by kernel_rfl) ?_
  repeat (go_big_quiet_step (first | (go_at_call 18; exact Calls.kept_of ((HAD.out _).mono fun _ _ ⟨h1, h2⟩ => ⟨h1, h2 ▸ Kept.refl _ _⟩)) | (go_at_call 42; exact Calls.kept_of (HSZ.out _))))
  refine wpQuiet_nil ?_
  intro y
  clear c0 c1 c2 c3 c4 c5 c6 c7 c8 d0 d1 d2 d3 d4 d5 d6 d7 d8 d9 d10
  go_wp2_with fail
  refine (HW.out y.v y.k).mono ?_
  rintro e w2 ⟨rfl, m2, rfl⟩
  have KF := hid (none_trans y.k ((Kept.refl none' y.v).drewN m2))
  generalize y.v.drewN m2 = w2 at *
  by_cases hx0 : x = 0
  · have f0 : ((x : Int) == 0) = true := by rw [beq_iff_eq]; omega
    have E := hid (E0.out hx0)
    clear hx0
    go_wp2_with fail
    go_ret
    exact ⟨E.out, KF.out⟩
  · have f0 : ((x : Int) == 0) = false := by rw [beq_eq_false_iff_ne]; omega
    by_cases hlo : fi ≤ x
    · obtain ⟨d, hd⟩ : ∃ d, d = x - fi := ⟨_, rfl⟩
      have hw : (x : Int) - (fi : Int) = (d : Int) := by omega
      have hdl : d < 18446744073709551616 := by omega
      rw [← hd] at E1 E2
      by_cases h1 : d < 4096
      · have f1 : (d : Int) < 4096 := by omega
        by_cases h2 : d % sz = 0
        · have f2 : ((d : Int) % (sz : Int) == 0) = true := by rw [beq_iff_eq]; omega
          obtain ⟨q, hq⟩ : ∃ q, q = d / sz := ⟨_, rfl⟩
          have f3 : (d : Int) / (sz : Int) = (q : Int) := by rw [hq]; simp
          have hql : q ≤ 4096 := by rw [hq]; exact Nat.le_trans (Nat.div_le_self _ _) (by omega)
          have E := hid (E1.out q hx0 hlo h1 h2 hq)
          clear hx0 h2 hq hd
          go_wp2_with fail
          refine (must_yes _ _).mono ?_
          rintro e w3 ⟨rfl, rfl⟩
          go_wp2_with fail
          go_ret
          exact ⟨E.out, KF.out⟩
        · have f2 : ((d : Int) % (sz : Int) == 0) = false := by rw [beq_eq_false_iff_ne]; omega
          have E := hid (E2.out hx0 (fun h => h2 h.2.2))
          clear hx0 h2 hd
          go_wp2_with fail
          refine (must_no _ _).mono ?_
          rintro e w3 ⟨rfl, rfl⟩
          exact ⟨rfl, E.out, KF.out⟩
      · have f1 : ¬ (d : Int) < 4096 := by omega
        have f1d : decide ((d : Int) < 4096) = false := decide_eq_false f1
        have E := hid (E2.out hx0 (fun h => h1 h.2.1))
        clear hx0 hd
        go_wp2_with fail
        refine (must_no _ _).mono ?_
        rintro e w3 ⟨rfl, rfl⟩
        exact ⟨rfl, E.out, KF.out⟩
    · obtain ⟨d, hd⟩ : ∃ d, d = 18446744073709551616 - (fi - x) := ⟨_, rfl⟩
      have hw : IntKind.u64.wrap ((x : Int) - (fi : Int)) = (d : Int) := by rw [wrap_u64]; omega
      have f1 : ¬ (d : Int) < 4096 := by omega
      have f1' : ¬ d < 4096 := by omega
      have f1d : decide ((d : Int) < 4096) = false := decide_eq_false f1
      have E := hid (E2.out hx0 (fun h => hlo h.1))
      have hxf : (x : Int) < (fi : Int) := by omega
      clear hd hx0
      go_wp2_with fail
      refine (must_no _ _).mono ?_
      rintro e w3 ⟨rfl, rfl⟩
      exact ⟨rfl, E.out, KF.out⟩
end Go.Proofs.YthjokkihlodapaaGreat
/- Rule 9. -/
namespace Go.Proofs.YthjokkihlodapaaGreat
open Go.RowKit
set_option linter.unusedVariables false

/-- A list of cells is followed as long as there is something left. -/
def prg9 (nx : Nat → Option Int) : Nat → List Nat → Int → Bool
  | 0, _, _ => false
  | n + 1, l, p => if p = -1 then l.isEmpty else if 0 ≤ p ∧ p.toNat ∈ l then (match nx p.toNat with | none => false | some q => prg9 nx n (l.erase p.toNat) q) else false
theorem prg9_end {nx : Nat → Option Int} {l : List Nat} : prg9 nx (l.length + 1) l (-1) = l.isEmpty := by rw [prg9, if_pos rfl]
theorem prg9_no {nx : Nat → Option Int} {l : List Nat} {p : Int} (hp : p ≠ -1) (h : ¬ (0 ≤ p ∧ p.toNat ∈ l)) : prg9 nx (l.length + 1) l p = false := by rw [prg9, if_neg hp, if_neg h]
theorem prg9_bad {nx : Nat → Option Int} {l : List Nat} {i : Nat} (h : i ∈ l) (hn : nx i = none) : prg9 nx (l.length + 1) l (i : Int) = false := by
  rw [prg9, if_neg (by omega), if_pos ⟨by omega, by rw [Int.toNat_natCast]; exact h⟩, Int.toNat_natCast, hn]
theorem prg9_yes {nx : Nat → Option Int} {l : List Nat} {i : Nat} {q : Int} (h : i ∈ l) (hn : nx i = some q) : prg9 nx (l.length + 1) l (i : Int) = prg9 nx ((l.erase i).length + 1) (l.erase i) q := by
  rw [prg9, if_neg (by omega), if_pos ⟨by omega, by rw [Int.toNat_natCast]; exact h⟩, Int.toNat_natCast, hn, List.length_erase_of_mem h]
  have : l.length - 1 + 1 = l.length := by
    have := List.length_pos_of_mem h
    omega
  rw [this]
/-- The free cells of a page. -/
def frL (p : Pg) (n : Nat) : List Nat := (List.range n).filter fun i => !bit (wsP p) i
/-- Rule 9 at a slab page of class c. -/
def ok9c (I : Img) (g c : Nat) : Bool := prg9 (nx9 I g c) ((frL (I.pg g) (celN9 c)).length + 1) (frL (I.pg g) (celN9 c)) (I.pg g).fs
/-- Rule 9 at a page. -/
def ok9 (I : Img) (g : Nat) : Bool := !decide ((I.pg g).kd = 4) || ok9c I g (I.pg g).cl.toNat
/-- A list of cells is followed: what is left. -/
structure L9 (w W : World) (sb sc n : Nat) (ws : List Nat) (l : List Nat) : Prop where
  st : SetAt W sb sc n ws
  ge : w.heap.size ≤ sc
  k : Kept none' w W
  nd : l.Nodup
  mem : ∀ i, i < n → bit ws i = decide (i ∈ l)
  lt : ∀ i, i ∈ l → i < n
theorem L9.keep {w W W' : World} {sb sc n : Nat} {ws l : List Nat} (h : L9 w W sb sc n ws l) (hk : Kept none' W W') : L9 w W' sb sc n ws l :=
  ⟨h.st.kept hk (fun x => x) (fun x => x), h.ge, none_trans h.k hk, h.nd, h.mem, h.lt⟩
theorem L9.met {w W W' : World} {sb sc n i : Nat} {ws l : List Nat} (h : L9 w W sb sc n ws l) (hk : Kept (fun x => x = sc) W W') (hi : i ∈ l) (hs : SetAt W' sb sc n (putI n ws (i : Int) false)) : L9 w W' sb sc n (putI n ws (i : Int) false) (l.erase i) := by
  refine ⟨hs, h.ge, h.k.trans hk (fun _ _ x => x) (fun x hx e => by have := h.ge; omega), h.nd.erase i, fun j hj => ?_, fun j hj => h.lt j (List.mem_of_mem_erase hj)⟩
  rw [bit_putI h.st.len i (h.lt i hi) false j]
  by_cases e : j = i
  · rw [if_pos e, e]
    exact (decide_eq_false (fun hm => ((h.nd.mem_erase_iff).1 hm).1 rfl)).symm
  · rw [if_neg e, h.mem j hj, decide_eq_decide, h.nd.mem_erase_iff]
    exact ⟨fun hm => ⟨e, hm⟩, fun hm => hm.2⟩
theorem L9.ins {w W : World} {sb sc n : Nat} {ws l : List Nat} (h : L9 w W sb sc n ws l) (p : Int) : inS n ws p = decide (0 ≤ p ∧ p.toNat ∈ l) := by
  unfold inS inR
  by_cases hp : 0 ≤ p ∧ p < (n : Int)
  · rw [decide_eq_true hp, Bool.true_and, h.mem p.toNat (by omega), decide_eq_decide]
    exact ⟨fun hm => ⟨hp.1, hm⟩, fun hm => hm.2⟩
  · rw [decide_eq_false hp, Bool.false_and]
    refine (decide_eq_false fun hm => hp ⟨hm.1, ?_⟩).symm
    have := h.lt _ hm.2
    omega
theorem L9.empty {w W : World} {sb sc n : Nat} {ws l : List Nat} (h : L9 w W sb sc n ws l) : l.isEmpty = decide (cntS ws = 0) := by
  rw [Bool.eq_iff_iff, List.isEmpty_iff, decide_eq_true_eq, cntS_zero h.st]
  constructor
  · intro e j hj
    rw [h.mem j hj, e]; rfl
  · intro hz
    cases l with
    | nil => rfl
    | cons x t =>
      exfalso
      have hx := h.lt x List.mem_cons_self
      have := hz x hx
      rw [h.mem x hx, decide_eq_true List.mem_cons_self] at this
      cases this

set_option maxRecDepth 6000 in
set_option maxHeartbeats 8000000 in
theorem askCellList_any (b : Nat) (I : Img) (V : ImV) (k r : Nat) (hS : Sn9 I k r) (g c : Nat) (hg : g < I.np) (hc : (I.pg g).cl = (c : Int)) (h7 : c ≤ 7) (w : World) (hI : ImAt w b I V) :
    Calls Tryz.prog 104 #[.pointer (some ⟨b, 0, none⟩), .int .i64 (g : Int)] w fun e w' => e = askE (if ok9c I g c = true then none else some g) ∧ Kept none' w w' := by
  obtain ⟨-, ⟨pa, pc, hp⟩, -, -, -, -, bp, -, -⟩ := hI.d.sl
  obtain ⟨c0, c1, c2, c3, c4, c5, c6, c7, c8⟩ := hI.cells
  rw [hp] at c5
  obtain ⟨bl, o, oc', hv', hpi, hpc⟩ := hI.page g hg
  rw [hp] at hv'
  injection hv' with e1 e2 e3
  subst e1
  obtain ⟨EE, hEE⟩ : ∃ EE, EE = askE (if ok9c I g c = true then none else some g) := ⟨_, rfl⟩
  rw [← hEE]
  have FB := hid (show ok9c I g c = false → thrE (g : Int) = EE from fun h => by rw [hEE, if_neg (by rw [h]; decide)]; rfl)
  have FG := hid (show ok9c I g c = true → Ending.returned (.tuple #[]) = EE from fun h => by rw [hEE, if_pos h]; rfl)
  have OK := hid (show prg9 (nx9 I g c) ((frL (I.pg g) (celN9 c)).length + 1) (frL (I.pg g) (celN9 c)) (I.pg g).fs = ok9c I g c from rfl)
  generalize ok9c I g c = okv at *
  have HI := hid hI
  have HFR := hid (fun W => freeSet_any (I.pg g) c hc h7 hpi W)
  have HNX := hid (fun (i : Nat) (hi : i < celN9 c) (W : World) (hW : ImAt W b I V) => nextCell_any b I V k r hS g c i hg hc h7 hi W hW)
  have PB := hid (PbI.mk' (w := w) hI (Kept.refl _ w) (I.pg g))
  obtain ⟨d0, d1, d2, d3, d4, d5, d6, d7, d8, d9, d10⟩ := hpc.c
  obtain ⟨n, hn⟩ : ∃ n, n = I.np := ⟨_, rfl⟩
  rw [← hn] at c5
  have hgn : (g : Int) < (n : Int) := by omega
  have hnp := hS.np1
  rw [← hn] at hnp
  obtain ⟨nf, hnf⟩ : ∃ nf, nf = nx9 I g c := ⟨_, rfl⟩
  rw [← hnf] at OK
  have HNF := hid (show ∀ i, nx9 I g c i = nf i from fun i => by rw [hnf])
  generalize celN9 c = cn at *
  generalize hpp : I.pg g = p at *
  clear hEE hI hp hpi hpc e2 e3 hn hc bp hpp hnf
  go_enter Tryz.func104, Tryz.ntmps104
  go_wp2_with fail
  have SZ := hid (show w.heap.size < (w.alloc (pgO p)).heap.size by simp)
  generalize w.alloc (pgO p) = W1 at *
  generalize hgg : w.heap.size = gb at *
  have HGB := hid hgg
  clear hgg d0 d1 d2 d3 d4 d5 d6 d7 d8 d9 d10 c0 c1 c2 c3 c4 c5 c6 c7 c8
  refine (HFR.out W1).mono ?_
  rintro e w2 ⟨sb, sc, ws, rfl, hst, hg1, hg2, hbt, hk2⟩
  have PB2 := hid (PB.out.keep hk2)
  have LL := hid (show L9 w w2 sb sc cn ws (frL p cn) from ⟨hst, by have := SZ.out; have := HGB.out; omega, none_trans PB.out.k hk2, List.nodup_range.filter _, fun i hi => by
    rw [hbt i hi, Bool.eq_iff_iff, decide_eq_true_eq]
    simp [frL, hi], fun i hi => by simp [frL] at hi; exact hi.1⟩)
  obtain ⟨q0, q1, q2, q3, q4, q5, q6, -⟩ := pgO_c PB2.out.pb
  clear hst hg1 hg2 hbt hk2
  go_wp2_with fail
  clear q0 q1 q2 q3 q4 q5 q6
  go_loopw [6] (fun pv W => ∃ x : Int, pv = .int .i64 x ∧ Hid (∃ ws l, L9 w W sb sc cn ws l ∧ prg9 nf (l.length + 1) l x = okv)) (fun _ W => cntS (wsOf W sc))
  case atStart => exact ⟨p.fs, rfl, hid ⟨_, _, LL.out, OK.out⟩⟩
  case round =>
    clear LL OK PB2 PB SZ
    obtain ⟨x, rfl, hL⟩ := hrel
    obtain ⟨ws, l, hl, hok⟩ := hL.out
    have LL := hid hl
    have OK := hid hok
    clear hL hl hok
    by_cases hx : x = -1
    · have f0 : (x != -1) = false := by rw [hx]; rfl
      have OK2 := hid (show okv = decide (cntS ws = 0) by rw [← OK.out, hx, prg9_end, LL.out.empty])
      obtain ⟨cw, hcw⟩ : ∃ cw, cw = cntS ws := ⟨_, rfl⟩
      have HCT := hid (countS_any sb sc cn ws wr LL.out.st)
      rw [← hcw] at HCT OK2
      clear hx hcw
      by_cases g0 : cw = 0
      case neg =>
        have R2 := hid (FB.out (by rw [OK2.out, decide_eq_false g0]))
        have f4 : ((cw : Int) == 0) = false := by rw [beq_eq_false_iff_ne]; omega
        clear g0
        go_wp2_with fail
        refine HCT.out.mono ?_
        rintro e w3 ⟨rfl, rfl⟩
        go_wp2_with fail
        refine (must_no _ _).mono ?_
        rintro e w4 ⟨rfl, rfl⟩
        exact ⟨rfl, R2.out, LL.out.k⟩
      have R2 := hid (FG.out (by rw [OK2.out, decide_eq_true g0]))
      have f4 : ((cw : Int) == 0) = true := by rw [beq_iff_eq]; omega
      clear g0
      go_wp2_with fail
      refine HCT.out.mono ?_
      rintro e w3 ⟨rfl, rfl⟩
      go_wp2_with fail
      refine (must_yes _ _).mono ?_
      rintro e w4 ⟨rfl, rfl⟩
      go_wp2_with fail
      first | go_end0 | go_ret
      exact ⟨R2.out, LL.out.k⟩
    · have f0 : (x != -1) = true := by rw [bne_iff_ne]; exact hx
      have INS := hid (LL.out.ins x)
      cases hin : inS cn ws x with
      | false =>
        have R2 := hid (FB.out (by
          rw [← OK.out]
          refine prg9_no hx ?_
          have := INS.out
          rw [hin] at this
          exact of_decide_eq_false this.symm))
        have HME := hid (meet_no sb sc cn ws x (g : Int) wr LL.out.st hin)
        clear hin hx
        go_wp2_with fail
        refine HME.out.mono ?_
        rintro e w3 ⟨rfl, rfl⟩
        exact ⟨rfl, R2.out, LL.out.k⟩
      | true =>
        have hm : 0 ≤ x ∧ x.toNat ∈ l := by
          have := INS.out
          rw [hin] at this
          exact of_decide_eq_true this.symm
        obtain ⟨i, rfl⟩ := Int.eq_ofNat_of_zero_le hm.1
        have hil : i ∈ l := by have := hm.2; rwa [Int.toNat_natCast] at this
        have HIL := hid hil
        have HI1 := hid (LL.out.lt i hil)
        have HME := hid (meet_yes sb sc cn ws (i : Int) (g : Int) wr LL.out.st hin)
        clear hin hm hil hx
        go_wp2_with fail
        refine HME.out.mono ?_
        rintro e wc ⟨rfl, h1, h2, h3⟩
        have LM := hid (show L9 w wc sb sc cn (putI cn ws (i : Int) false) (l.erase i) from LL.out.met h2 HIL.out h1)
        have MSR := hid (show cntS (wsOf wc sc) < cntS (wsOf wr sc) by
          rw [wsOf_set LM.out.st, wsOf_set LL.out.st]
          have hb : bit ws i = true := by rw [LL.out.mem i HI1.out]; exact decide_eq_true HIL.out
          have := cnt_meet LL.out.st LM.out.st HI1.out hb
          omega)
        have IM2 := hid (HI.out.keep LM.out.k)
        have NC := hid (HNX.out i HI1.out wc IM2.out)
        rw [HNF.out i] at NC
        clear h1 h2 h3 HME
        cases hq : nf i with
        | none =>
          have R2 := hid (FB.out (by rw [← OK.out]; exact prg9_bad HIL.out hq))
          rw [hq] at NC
          clear hq
          go_wp2_with fail
          refine NC.out.mono ?_
          rintro e w4 ⟨rfl, hk4⟩
          exact ⟨rfl, R2.out, none_trans LM.out.k hk4⟩
        | some q =>
          have R2 := hid (show prg9 nf ((l.erase i).length + 1) (l.erase i) q = okv by rw [← OK.out]; exact (prg9_yes HIL.out hq).symm)
          rw [hq] at NC
          clear hq
          go_wp2_with fail
          refine NC.out.mono ?_
          rintro e w4 ⟨rfl, hk4⟩
          have R3 := hid (show ∃ ws l, L9 w w4 sb sc cn ws l ∧ prg9 nf (l.length + 1) l q = okv from ⟨_, _, LM.out.keep hk4, R2.out⟩)
          have MS2 := hid (show cntS (wsOf w4 sc) < cntS (wsOf wr sc) by
            rw [wsOf_set (LM.out.keep hk4).st, ← wsOf_set LM.out.st]
            exact MSR.out)
          clear hk4
          dsimp only [nxE]
          go_wp2_with fail
          go_round
          case rel => exact ⟨q, rfl, R3⟩
          case measure => exact MS2.out

set_option maxRecDepth 6000 in
set_option maxHeartbeats 8000000 in
theorem askCellLists_any (b : Nat) (I : Img) (V : ImV) (k r : Nat) (hS : Sn9 I k r) (w : World) (hI : ImAt w b I V) :
    Calls Tryz.prog 67 #[.pointer (some ⟨b, 0, none⟩)] w fun e w' => e = askE (fst1 I.np (ok9 I)) ∧ Kept none' w w' := by
  obtain ⟨-, ⟨pa, pc, hp⟩, -, -, -, -, bp, -, -⟩ := hI.d.sl
  obtain ⟨c0, c1, c2, c3, c4, c5, c6, c7, c8⟩ := hI.cells
  rw [hp] at c5
  obtain ⟨EE, hEE⟩ : ∃ EE, EE = askE (fst1 I.np (ok9 I)) := ⟨_, rfl⟩
  rw [← hEE]
  have HE := hid hEE
  have HI := hid hI
  have HS := hid hS
  have SP := hid hp
  have hnp := hS.np1
  obtain ⟨n, hn⟩ : ∃ n, n = I.np := ⟨_, rfl⟩
  rw [← hn] at hnp c5
  have HN := hid hn
  clear hEE hI hp hS hn bp
  go_enter Tryz.func67, Tryz.ntmps67
  go_wp2_with fail
  go_loopw [9] (fun i W => ∃ a : Nat, a ≤ n ∧ i = .int .i64 a ∧ Hid (Kept none' w W ∧ ∀ x, x < a → ok9 I x = true)) (fun i _ => n - (intOf i).toNat)
  case atStart => exact ⟨0, Nat.zero_le _, rfl, hid ⟨Kept.refl _ _, fun x hx => by omega⟩⟩
  case round =>
    clear c0 c1 c2 c3 c4 c5 c6 c7 c8
    obtain ⟨a, ha, rfl, hR⟩ := hrel
    have A0 := hid (HI.out.keep hR.out.1)
    by_cases hlt : a < n
    · have hai : (a : Int) < (n : Int) := by omega
      have hlt' : a < I.np := by rw [← HN.out]; exact hlt
      obtain ⟨bl, o, oc', hv', hpi, hpc⟩ := A0.out.page a hlt'
      rw [SP.out] at hv'
      injection hv' with e1 e2 e3
      subst e1
      obtain ⟨kd, od, cc, ll, y1, y2, y3, y4, y5, y6, y7, y8, -⟩ := HS.out.pg a hlt'
      have FB := hid (show ok9 I a = false → thrE (a : Int) = EE from fun h => by rw [HE.out, fst1_bad hlt' hR.out.2 h]; rfl)
      have GA := hid (show ok9 I a = true → ∀ x, x < a + 1 → ok9 I x = true from fun h x hx => by
        by_cases e : x = a
        · rw [e]; exact h
        · exact hR.out.2 x (by omega))
      have OK := hid (show ok9 I a = (!decide ((I.pg a).kd = 4) || ok9c I a cc) by unfold ok9; rw [y5, Int.toNat_natCast])
      have PB := hid (PbI.mk' (w := w) A0.out hR.out.1 (I.pg a))
      have HCL := hid (askCellList_any b I V k r HS.out a cc hlt' y5 y6 (wr.alloc (pgO (I.pg a))) PB.out.im)
      generalize ok9c I a cc = o9 at *
      generalize ok9 I a = okv at *
      obtain ⟨d0, d1, d2, d3, d4, d5, d6, d7, d8, d9, d10⟩ := hpc.c
      generalize I.pg a = p at *
      clear hpi hpc e2 e3 y1 y2 y3 y4 y5 y6 y7 y8
      by_cases hk4 : p.kd = 4
      case neg =>
        have R2 := hid (show Kept none' w (wr.alloc (pgO p)) ∧ _ from ⟨hR.out.1.alloc _, GA.out (by rw [OK.out]; simp [hk4])⟩)
        have f2 : (p.kd == 4) = false := by rw [beq_eq_false_iff_ne]; exact hk4
        clear hk4
        go_wp2_with fail
        go_round
        case rel => exact ⟨a + 1, by omega, by go_num, R2⟩
        case measure => simp [intOf]; omega
      have f2 : (p.kd == 4) = true := by rw [beq_iff_eq]; exact hk4
      have OK2 := hid (show okv = o9 by rw [OK.out, decide_eq_true hk4]; rfl)
      clear hk4
      cases o9 with
      | false =>
        have R2 := hid (FB.out OK2.out)
        rw [if_neg (by decide)] at HCL
        go_wp2_with fail
        refine HCL.out.mono ?_
        rintro e w3 ⟨rfl, hk3⟩
        exact ⟨rfl, R2.out, none_trans PB.out.k hk3⟩
      | true =>
        have R2 := hid (GA.out OK2.out)
        rw [if_pos rfl] at HCL
        go_wp2_with fail
        refine HCL.out.mono ?_
        rintro e w3 ⟨rfl, hk3⟩
        have R3 := hid (show Kept none' w w3 ∧ _ from ⟨none_trans PB.out.k hk3, R2.out⟩)
        clear hk3
        dsimp only [askE]
        go_wp2_with fail
        go_round
        case rel => exact ⟨a + 1, by omega, by go_num, R3⟩
        case measure => simp [intOf]; omega
    · obtain rfl : a = n := by omega
      have hai : ¬ (a : Int) < (a : Int) := by omega
      have E := hid (show Ending.returned (.tuple #[]) = EE by rw [HE.out, fst1_ok (fun x hx => hR.out.2 x (by rw [HN.out]; exact hx))]; rfl)
      go_wp2_with fail
      first | go_end0 | go_ret
      exact ⟨E.out, hR.out.1⟩
end Go.Proofs.YthjokkihlodapaaGreat
