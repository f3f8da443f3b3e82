import Derived.Test.YthjokkihlodapaaGreatWc
set_option maxRecDepth 1000000
set_option maxHeartbeats 80000000
/- croftref9, croftref4: Has, Word, Room. -/
namespace Go.Proofs.YthjokkihlodapaaGreat
open Go.RowKit
set_option linter.unusedVariables false
set_option maxHeartbeats 8000000
set_option maxRecDepth 6000
theorem bit9 (i : Nat) (hi : i ≤ 100000) (w : World) :
    Calls Tryz.prog 43 #[.int .i64 (i : Int)] w fun e w' => e = .returned (.int .u64 ((2 ^ (i % 64) : Nat) : Int)) ∧ w' = w := by
  obtain ⟨r, hr⟩ : ∃ r, r = i % 64 := ⟨_, rfl⟩
  have hri : (i : Int) % 64 = (r : Int) := by omega
  have hr64 : r < 64 := by omega
  rw [← hr]
  clear hr
  go_enter Tryz.func43, Tryz.ntmps43
  go_wp2_with fail
  go_loop [3, 4] (fun x i => ∃ k : Nat, k ≤ r ∧ i = .int .i64 k ∧ x = .int .u64 ((2 ^ k : Nat) : Int)) (fun _ i => r - (intOf i).toNat)
  case atStart => exact ⟨0, by omega, rfl, rfl⟩
  case round =>
    obtain ⟨k, hk, rfl, rfl⟩ := hrel
    by_cases hlt : k < r
    · have hki : (k : Int) < (r : Int) := by omega
      have hp : 2 ^ (k + 1) = 2 ^ k * 2 := Nat.pow_succ 2 k
      have hb : 2 ^ (k + 1) ≤ 2 ^ 63 := (pow_le _ _).2 (by omega)
      obtain ⟨z, hz⟩ : ∃ z, z = 2 ^ k := ⟨_, rfl⟩
      have HZ := hid (show 2 ^ (k + 1) = z * 2 by rw [hz, hp])
      have hzb : z * 2 ≤ 9223372036854775808 := by rw [HZ.out] at hb; exact hb
      rw [← hz]
      have hwp : ((z : Int) * 2) % 18446744073709551616 = ((z * 2 : Nat) : Int) := by omega
      clear hz hb hp
      go_wp2_with fail
      exact ⟨⟨k + 1, by omega, by simp, by rw [HZ.out]; simp⟩, by simp [intOf]; omega⟩
    · obtain rfl : k = r := by omega
      go_wp2_with fail
      go_ret
      exact ⟨rfl, rfl⟩
theorem ws_cell {w : World} {x : Nat} {p : Pg} (h : w.heap[x]? = some (pgO p)) (k : Nat) (hk : k < 4) : w.cell? ⟨x, 7 + k, none⟩ = some (.int .u64 (((wsP p).getD k 0 : Nat) : Int)) := by
  match k, hk with
  | 0, _ => simp [World.cell?, h]
  | 1, _ => simp [World.cell?, h]
  | 2, _ => simp [World.cell?, h]
  | 3, _ => simp [World.cell?, h]
  | _ + 4, hk => omega
theorem ws_lt {p : Pg} (ok : PgIn p) (k : Nat) : (wsP p).getD k 0 < 18446744073709551616 := by
  match k with
  | 0 => exact ok.b0
  | 1 => exact ok.b1
  | 2 => exact ok.b2
  | 3 => exact ok.b3
  | k + 4 => simp [List.getD]
/-- Is a cell live? -/
theorem Has9 (p : Pg) (ok : PgIn p) (c : Nat) (hc : c < 256) (w : World) :
    Calls Tryz.prog 22 #[pgV p, .int .i64 (c : Int)] w fun e w' => e = .returned (.bool (bit (wsP p) c)) ∧ Kept none' w w' := by
  obtain ⟨k, hk⟩ : ∃ k, k = c / 64 := ⟨_, rfl⟩
  obtain ⟨r, hr⟩ : ∃ r, r = c % 64 := ⟨_, rfl⟩
  obtain ⟨z, hz⟩ : ∃ z, z = 2 ^ r := ⟨_, rfl⟩
  obtain ⟨x, hx⟩ : ∃ x, x = (wsP p).getD k 0 := ⟨_, rfl⟩
  obtain ⟨y, hy⟩ : ∃ y, y = x / z := ⟨_, rfl⟩
  obtain ⟨b, hb⟩ : ∃ b, b = y % 2 := ⟨_, rfl⟩
  have hxl : x < 18446744073709551616 := by rw [hx]; exact ws_lt ok k
  have hz1 : 1 ≤ z := by rw [hz]; exact Nat.pow_pos (by decide)
  have hyx : y ≤ x := by rw [hy]; exact Nat.div_le_self _ _
  have hv : bit (wsP p) c = decide ((b : Int) = 1) := by
    have : bit (wsP p) c = (b == 1) := by unfold bit; rw [← hk, ← hr, ← hz, ← hx, ← hy, ← hb]
    rw [this]
    by_cases e : b = 1
    · simp [e]
    · have : ¬ (b : Int) = 1 := by omega
      simp [e, this]
  have K0 := hid ((Kept.refl none' w).alloc (pgO p))
  have X0 := hid (heap_new w (pgO p))
  have HZ := hid (show 2 ^ (c % 64) = z by rw [hz, hr])
  have HX := hid hx
  rw [hv]
  have hk4 : k < 4 := by omega
  have hki : (c : Int) / 64 = (k : Int) := by omega
  have hkt : (c : Int).tdiv 64 = (k : Int) := by rw [hk]; rfl
  have hyi : (x : Int) / (z : Int) = (y : Int) := by rw [hy]; simp
  have hyt : (x : Int).tdiv (z : Int) = (y : Int) := by rw [hy]; rfl
  have hbi : (y : Int) % 2 = (b : Int) := by omega
  have hbt : (y : Int).tmod 2 = (b : Int) := by rw [hb]; rfl
  have hz0 : ¬ (z : Int) = 0 := by omega
  have hkw : IntKind.i64.wrap (k : Int) = (k : Int) := by rw [IntKind.wrap_i64]; omega
  have hyw : IntKind.u64.wrap (y : Int) = (y : Int) := by rw [wrap_u64]; omega
  have hbw : IntKind.u64.wrap (b : Int) = (b : Int) := by rw [wrap_u64]; omega
  have hk4i : (k : Int) < 4 := by omega
  clear hv hk hr hz hx hy hb
  go_enter Tryz.func22, Tryz.ntmps22
  go_wp2_with fail
  generalize w.alloc (pgO p) = W1 at *
  have c7 := ws_cell X0.out k hk4
  rw [← HX.out] at c7
  have c7d : W1.drew.cell? ⟨w.heap.size, 7 + k, none⟩ = some (.int .u64 (x : Int)) := c7
  go_region_with (go_at_call 43; refine (bit9 c (by omega) _).mono ?_; rintro e w2 ⟨rfl, rfl⟩; rw [HZ.out])
  all_goals
    go_wp2_with fail
    go_ret
    exact ⟨rfl, K0.out.drew⟩
/-- The number that bytes are, from the last on. -/
def dnW (f : Nat → Nat) : Nat → Nat
  | 0 => 0
  | d + 1 => dnW f d * 256 + f (7 - d)
theorem dnW_lt (f : Nat → Nat) (h : ∀ i, i < 8 → f i < 256) : ∀ d, d ≤ 8 → dnW f d < 256 ^ d
  | 0, _ => by simp [dnW]
  | d + 1, hd => by
    have h1 := dnW_lt f h d (by omega)
    have h2 := h (7 - d) (by omega)
    rw [dnW, Nat.pow_succ]
    omega
theorem dnW_eq (f : Nat → Nat) : ∀ d e, d + e = 8 → dnW f d * 256 ^ e + M.wordTo f e = M.wordTo f 8
  | 0, e, h => by
    have : e = 8 := by omega
    rw [this]; simp [dnW]
  | d + 1, e, h => by
    rw [← dnW_eq f d (e + 1) (by omega), dnW, show 7 - d = e by omega, M.wordTo, Nat.add_mul, Nat.pow_succ, Nat.mul_assoc, Nat.mul_comm 256]
    omega
/-- Word at an offset. -/
theorem Word9 (I : Img) (V : ImV) (q : Nat) (hq : q + 8 ≤ I.nm) (hnm : I.nm ≤ 4194304) (w : World) (hI : ImD w I V) :
    Calls Tryz.prog 57 #[imA I V, .int .u64 (q : Int)] w fun e w' => e = .returned (.int .u64 ((M.word I.mem q : Nat) : Int)) ∧ Kept none' w w' := by
  obtain ⟨⟨ma, mc, hm⟩, ⟨pa, pc, hp⟩, ⟨ra, rc, hr⟩, ⟨ha, hc, hh⟩, ⟨ta, tc, ht⟩, -⟩ := hI.sl
  obtain ⟨vm, vp, vr, vh, vt⟩ := V
  dsimp only at hm hp hr hh ht
  subst hm hp hr hh ht
  have IM0 := hid (show ImAt (w.alloc (imO I _)) w.heap.size I _ from ⟨heap_new _ _, hI.keep ((Kept.refl _ w).alloc _)⟩)
  have K0 := hid (show Kept none' w (w.alloc (imO I _)) from (Kept.refl _ w).alloc (imO I ⟨.slice ma I.nm mc, .slice pa I.np pc, .slice ra I.no rc, .slice ha I.hd.length hc, .slice ta I.pt.length tc⟩))
  obtain ⟨c0, c1, c2, c3, c4, c5, c6, c7, c8⟩ := IM0.out.cells
  obtain ⟨F, hF⟩ : ∃ F, F = fun i => I.mem (q + i) := ⟨_, rfl⟩
  have HFE := hid (show ∀ i, F i = I.mem (q + i) from fun i => by rw [hF])
  obtain ⟨rr, hrr⟩ : ∃ rr, rr = M.word I.mem q := ⟨_, rfl⟩
  rw [← hrr]
  have RR := hid (show rr = M.wordTo F 8 by rw [hrr, hF]; rfl)
  have HQ := hid hq
  have HNM := hid hnm
  clear hI hrr hF hq hnm
  go_enter Tryz.func57, Tryz.ntmps57
  go_wp2_with fail
  clear c0 c1 c2 c3 c4 c5 c6 c7 c8
  generalize w.heap.size = ib at *
  generalize w.alloc (imO I ⟨.slice ma I.nm mc, .slice pa I.np pc, .slice ra I.no rc, .slice ha I.hd.length hc, .slice ta I.pt.length tc⟩) = W0 at *
  have F256 := hid (show ∀ i, i < 8 → F i < 256 from fun i hi => by
    obtain ⟨bl, o, e, -, hc⟩ := IM0.out.d.mem.at (q + i) (by have := HQ.out; omega)
    rw [HFE.out]
    exact (hc (q + i) (by have := HQ.out; omega)).1)
  go_loopw [5, 6] (fun v iv W => ∃ d e : Nat, d + e = 8 ∧ v = .int .u64 (dnW F d : Int) ∧ iv = .int .u64 (e : Int) ∧ Hid (Kept none' W0 W)) (fun _ iv _ => (intOf iv).toNat)
  case atStart => exact ⟨0, 8, rfl, rfl, rfl, hid (Kept.refl _ _)⟩
  case round =>
    obtain ⟨d, e, hde, rfl, rfl, hG⟩ := hrel
    have IMa := hid (IM0.out.keep hG.out)
    obtain ⟨c0, c1, c2, c3, c4, c5, c6, c7, c8⟩ := IMa.out.cells
    dsimp only at c4
    by_cases hlt : 0 < e
    · have hei : (0 : Int) < (e : Int) := by omega
      obtain ⟨e', rfl⟩ : ∃ e', e = e' + 1 := ⟨e - 1, by omega⟩
      obtain ⟨bl, o, e1, -, hc⟩ := IMa.out.d.mem.at (q + e') (by have := HQ.out; omega)
      obtain ⟨hx1, hx2⟩ := hc (q + e') (by have := HQ.out; omega)
      subst e1
      obtain ⟨D, hD⟩ : ∃ D, D = dnW F d := ⟨_, rfl⟩
      obtain ⟨x, hx⟩ : ∃ x, x = F e' := ⟨_, rfl⟩
      rw [← HFE.out, ← hx] at hx1 hx2
      have hDl := dnW_lt F F256.out d (by omega)
      rw [← hD] at hDl ⊢
      have hDl2 : D < 72057594037927936 := Nat.lt_of_lt_of_le hDl (by exact Nat.pow_le_pow_right (by decide) (show d ≤ 7 by omega))
      have DN := hid (show dnW F (d + 1) = D * 256 + x by rw [dnW, ← hD, show 7 - d = e' by omega, hx])
      obtain ⟨g, hg⟩ : ∃ g, g = q + e' := ⟨_, rfl⟩
      rw [← hg] at hx2
      obtain ⟨e2, he2⟩ : ∃ e2, e2 = e' + 1 := ⟨_, rfl⟩
      obtain ⟨g2, hg2⟩ : ∃ g2, g2 = g + 1 := ⟨_, rfl⟩
      have hgb : g2 ≤ 4194304 := by have := HQ.out; have := HNM.out; omega
      have hgm : g < I.nm := by have := HQ.out; omega
      have hgi : (g : Int) < (I.nm : Int) := by omega
      have s1 : IntKind.u64.wrap ((q : Int) + (e2 : Int)) = (g2 : Int) := by rw [wrap_u64]; omega
      have s1' : (q : Int) + (e2 : Int) = (g2 : Int) := by omega
      have s2 : IntKind.u64.wrap ((g2 : Int) - 1) = (g : Int) := by rw [wrap_u64]; omega
      have s2' : (g2 : Int) - 1 = (g : Int) := by omega
      have s3 : IntKind.u64.wrap ((e2 : Int) - 1) = (e' : Int) := by rw [wrap_u64]; omega
      have s3' : (e2 : Int) - 1 = (e' : Int) := by omega
      have s5 : IntKind.u64.wrap ((D : Int) * 256 + (x : Int)) = ((D * 256 + x : Nat) : Int) := by rw [wrap_u64]; omega
      have s6 : IntKind.u64.wrap (x : Int) = (x : Int) := by rw [wrap_u64]; omega
      rw [← he2]
      have hei2 : (0 : Int) < (e2 : Int) := by omega
      have EQ := hid (show d + 1 + e' = 8 ∧ e2 = e' + 1 from ⟨by omega, he2⟩)
      have S5 := hid s5
      have KG := hid hG.out
      clear hlt hei hde hc hDl hD hx hg he2 hg2 hgm hG s5
      go_wp2_with fail
      exact ⟨⟨d + 1, e', EQ.out.1, by rw [DN.out]; simp, rfl, KG⟩, by have := EQ.out.2; simp only [intOf, Int.toNat_natCast]; omega⟩
    · obtain rfl : e = 0 := by omega
      obtain rfl : d = 8 := by omega
      have er : rr = dnW F 8 := by have := dnW_eq F 8 0 rfl; rw [RR.out, ← this]; simp [M.wordTo]
      have ER := hid er
      clear er
      go_wp2_with fail
      go_ret
      exact ⟨congrArg (fun z : Nat => Ending.returned (.int .u64 (z : Int))) ER.out.symm, none_trans K0.out hG.out⟩
theorem Room9 (I : Img) (V : ImV) (g : Nat) (c cc : Nat) (hg : g < I.np) (hcl : (I.pg g).cl = (cc : Int)) (h7 : cc ≤ 7) (hlv : (I.pg g).kd = 4 → ∃ l : Nat, (I.pg g).lv = (l : Int) ∧ l ≤ celN9 cc) (w : World) (hI : ImD w I V) :
    Calls Tryz.prog 58 #[imA I V, .int .i64 (g : Int), .int .i64 (c : Int)] w fun e w' => e = .returned (.bool (prS (c : Int) (I.pg g))) ∧ Kept none' w w' := by
  obtain ⟨⟨ma, mc, hm⟩, ⟨pa, pc, hp⟩, ⟨ra, rc, hr⟩, ⟨ha, hc, hh⟩, ⟨ta, tc, ht⟩, -⟩ := hI.sl
  obtain ⟨vm, vp, vr, vh, vt⟩ := V
  dsimp only at hm hp hr hh ht
  subst hm hp hr hh ht
  have IM0 := hid (show ImAt (w.alloc (imO I _)) w.heap.size I _ from ⟨heap_new _ _, hI.keep ((Kept.refl _ w).alloc _)⟩)
  have K0 := hid (show Kept none' w (w.alloc (imO I _)) from (Kept.refl _ w).alloc (imO I ⟨.slice ma I.nm mc, .slice pa I.np pc, .slice ra I.no rc, .slice ha I.hd.length hc, .slice ta I.pt.length tc⟩))
  obtain ⟨c0, c1, c2, c3, c4, c5, c6, c7, c8⟩ := IM0.out.cells
  obtain ⟨bl, oo, oc, hv, -, hpc⟩ := IM0.out.page g hg
  cases hv
  obtain ⟨d0, d1, d2, d3, d4, d5, d6, d7, d8, d9, d10⟩ := hpc.c
  have hgi : (g : Int) < (I.np : Int) := by omega
  have CE := hid (fun W => Cells9 (I.pg g) cc hcl h7 W)
  obtain ⟨bb, hbb⟩ : ∃ bb, bb = prS (c : Int) (I.pg g) := ⟨_, rfl⟩
  rw [← hbb]
  have HB := hid (show bb = (decide ((I.pg g).kd = 4) && (decide ((I.pg g).cl = (c : Int)) && !decide ((I.pg g).lv = (celN9 cc : Int)))) by rw [hbb, prS, hcl, Int.toNat_natCast])
  have HLV := hid hlv
  have HC := hid hcl
  generalize I.pg g = p at *
  clear hI hpc hg hbb hlv hcl
  go_enter Tryz.func58, Tryz.ntmps58
  go_upto_region 2 with fail
  refine gen_world9 (P := fun W => Code.wp Tryz.prog _ _ _ W) _ ?_
  intro W1 hW
  have k1 : Kept none' (w.alloc (imO I ⟨.slice ma I.nm mc, .slice (some ⟨bl, oo, none⟩) I.np pc, .slice ra I.no rc, .slice ha I.hd.length hc, .slice ta I.pt.length tc⟩)) W1 := by subst hW; exact (Kept.refl _ _).alloc _
  have X1 : W1.heap[w.heap.size + 1]? = some (pgO p) := by subst hW; have := heap_new (w.alloc (imO I ⟨.slice ma I.nm mc, .slice (some ⟨bl, oo, none⟩) I.np pc, .slice ra I.no rc, .slice ha I.hd.length hc, .slice ta I.pt.length tc⟩)) (pgO p); rwa [World.size_alloc] at this
  have KE := hid (none_trans K0.out k1)
  generalize w.heap.size + 1 = pb at *
  have X : ∀ x : KW W1, x.v.heap[pb]? = some (pgO p) := fun x => (x.k.block _ (heap_lt X1) (fun y => y)).trans X1
  clear hW k1 X1 c0 c1 c2 c3 c4 c5 c6 c7 c8 d0 d1 d2 d3 d4 d5 d6 d7 d8 d9 d10 IM0
  have e0 : ∀ x : KW W1, x.v.cell? ⟨pb, 0, none⟩ = some (.int .i64 p.kd) := fun x => by simp [World.cell?, X x]
  have e1 : ∀ x : KW W1, x.v.cell? ⟨pb, 1, none⟩ = some (.int .i64 p.od) := fun x => by simp [World.cell?, X x]
  have e2 : ∀ x : KW W1, x.v.cell? ⟨pb, 2, none⟩ = some (.int .i64 p.cl) := fun x => by simp [World.cell?, X x]
  have e3 : ∀ x : KW W1, x.v.cell? ⟨pb, 3, none⟩ = some (.int .i64 p.lv) := fun x => by simp [World.cell?, X x]
  have e4 : ∀ x : KW W1, x.v.cell? ⟨pb, 4, none⟩ = some (.int .i64 p.nx) := fun x => by simp [World.cell?, X x]
  have e5 : ∀ x : KW W1, x.v.cell? ⟨pb, 5, none⟩ = some (.int .i64 p.pv) := fun x => by simp [World.cell?, X x]
  have e6 : ∀ x : KW W1, x.v.cell? ⟨pb, 6, none⟩ = some (.int .i64 p.fs) := fun x => by simp [World.cell?, X x]
  have e7 : ∀ x : KW W1, x.v.cell? ⟨pb, 7, none⟩ = some (.int .u64 (p.b0 : Int)) := fun x => by simp [World.cell?, X x]
  have e8 : ∀ x : KW W1, x.v.cell? ⟨pb, 8, none⟩ = some (.int .u64 (p.b1 : Int)) := fun x => by simp [World.cell?, X x]
  have e9 : ∀ x : KW W1, x.v.cell? ⟨pb, 9, none⟩ = some (.int .u64 (p.b2 : Int)) := fun x => by simp [World.cell?, X x]
  have e10 : ∀ x : KW W1, x.v.cell? ⟨pb, 10, none⟩ = some (.int .u64 (p.b3 : Int)) := fun x => by simp [World.cell?, X x]
  by_cases h1 : p.kd = 4
  case neg =>
    have q1 : (p.kd == 4) = false := by rw [beq_eq_false_iff_ne]; exact h1
    have eb : bb = false := by rw [HB.out, decide_eq_false h1]; rfl
    subst eb
    clear h1
    refine wp_region_kept (by kernel_rfl) (by kernel_rfl) ?_
    repeat (go_big_quiet_step (first | (go_at_call 21; exact Calls.kept_of (CE.out _))))
    refine wpQuiet_nil ?_
    intro y
    have YK := hid (none_trans KE.out y.k)
    clear e0 e1 e2 e3 e4 e5 e6 e7 e8 e9 e10 X
    generalize y.v = W6 at *
    go_wp2_with fail
    go_ret
    exact ⟨rfl, YK.out⟩
  have q1 : (p.kd == 4) = true := by rw [beq_iff_eq]; exact h1
  obtain ⟨l, hl, hle⟩ := HLV.out h1
  have HL := hid hl
  have HLE := hid hle
  by_cases h2 : p.cl = (c : Int)
  case neg =>
    have q2 : (p.cl == (c : Int)) = false := by rw [beq_eq_false_iff_ne]; exact h2
    have eb : bb = false := by rw [HB.out, decide_eq_false h2]; simp
    subst eb
    clear h1 h2 hl hle
    refine wp_region_kept (by kernel_rfl) (by kernel_rfl) ?_
    repeat (go_big_quiet_step (first | (go_at_call 21; exact Calls.kept_of (CE.out _))))
    refine wpQuiet_nil ?_
    intro y
    have YK := hid (none_trans KE.out y.k)
    clear e0 e1 e2 e3 e4 e5 e6 e7 e8 e9 e10 X
    generalize y.v = W6 at *
    go_wp2_with fail
    go_ret
    exact ⟨rfl, YK.out⟩
  have q2 : (p.cl == (c : Int)) = true := by rw [beq_iff_eq]; exact h2
  by_cases h3 : l = celN9 cc
  · have q3 : ¬ p.lv < (celN9 cc : Int) := by omega
    have q4 : decide (p.lv < (celN9 cc : Int)) = false := decide_eq_false q3
    have eb : bb = false := by rw [HB.out, hl, h3]; simp
    subst eb
    generalize celN9 cc = cn at *
    clear h1 h2 h3 hl hle HL HLE
    clear HLV HB
    refine wp_region_kept (by kernel_rfl) (by kernel_rfl) ?_
    repeat (go_big_quiet_step (first | (go_at_call 21; exact Calls.kept_of (CE.out _))))
    refine wpQuiet_nil ?_
    intro y
    have YK := hid (none_trans KE.out y.k)
    clear e0 e1 e2 e3 e4 e5 e6 e7 e8 e9 e10 X
    generalize y.v = W6 at *
    go_wp2_with fail
    go_ret
    exact ⟨rfl, YK.out⟩
  · have q3 : p.lv < (celN9 cc : Int) := by omega
    have q4 : decide (p.lv < (celN9 cc : Int)) = true := decide_eq_true q3
    have eb : bb = true := by
      rw [HB.out, decide_eq_true h1, decide_eq_true h2, decide_eq_false (by omega)]; rfl
    subst eb
    generalize celN9 cc = cn at *
    clear h1 h2 h3 hl hle HL HLE
    clear HLV HB
    refine wp_region_kept (by kernel_rfl) (by kernel_rfl) ?_
    repeat (go_big_quiet_step (first | (go_at_call 21; exact Calls.kept_of (CE.out _))))
    refine wpQuiet_nil ?_
    intro y
    have YK := hid (none_trans KE.out y.k)
    clear e0 e1 e2 e3 e4 e5 e6 e7 e8 e9 e10 X
    generalize y.v = W6 at *
    go_wp2_with fail
    go_ret
    exact ⟨rfl, YK.out⟩
end Go.Proofs.YthjokkihlodapaaGreat
