import Derived.Test.YthjokkihlodapaaGreatWa
import Derived.Test.YthjokkihlodapaaGreatXp
import Derived.Test.YthjokkihlodapaaGreatWc
set_option maxRecDepth 1000000
set_option maxHeartbeats 80000000
/- croftlaw9: is. -/
namespace Go.Proofs.YthjokkihlodapaaGreat
open Go.RowKit
set_option linter.unusedVariables false
set_option maxHeartbeats 8000000
set_option maxRecDepth 6000
theorem is_any (I : Img) (V : ImV) (r p : Int) (w : World) (hI : ImD w I V) (b : Bool) (hb : b = (decide (((chk I).1 : Int) = r) && decide (((chk I).2 : Int) = p))) :
    Calls Tryz.prog 7 #[imA I V, .int .i64 r, .int .i64 p] w fun e w' => e = .returned (.bool b) ∧ Kept none' w w' := by
  obtain ⟨⟨ma, mc, hm⟩, ⟨pa, pc, hp⟩, ⟨ra, rc, hr⟩, ⟨ha, hc, hh⟩, ⟨ta, tc, ht⟩, -⟩ := hI.sl
  have IM0 := hid (show ImAt (w.alloc (imO I V)) w.heap.size I V from ⟨heap_new _ _, hI.keep ((Kept.refl _ w).alloc _)⟩)
  have K0 := hid (show Kept none' w (w.alloc (imO I V)) from (Kept.refl _ w).alloc _)
  have HC := hid (Check_any I V (w.alloc (imO I V)) IM0.out.d)
  obtain ⟨vm, vp, vr, vh, vt⟩ := V
  dsimp only at hm hp hr hh ht
  subst hm hp hr hh ht
  generalize (chk I).1 = x at *
  generalize (chk I).2 = y at *
  clear IM0 hI
  by_cases h1 : (x : Int) = r
  · by_cases h2 : (y : Int) = p
    · obtain rfl : b = true := by rw [hb]; simp [h1, h2]
      clear hb
      subst h1 h2
      go_enter Tryz.func7, Tryz.ntmps7
      go_wp2_with fail
      refine HC.out.mono ?_
      rintro e w1 ⟨rfl, hk⟩
      have HK := hid (none_trans K0.out hk)
      clear hk
      go_wp2_with fail
      go_ret
      exact ⟨rfl, HK.out⟩
    · obtain rfl : b = false := by rw [hb]; simp [h2]
      clear hb
      subst h1
      have g2 : ((y : Int) == p) = false := by simpa using h2
      go_enter Tryz.func7, Tryz.ntmps7
      go_wp2_with fail
      refine HC.out.mono ?_
      rintro e w1 ⟨rfl, hk⟩
      have HK := hid (none_trans K0.out hk)
      clear hk
      go_wp2_with fail
      go_ret
      exact ⟨rfl, HK.out⟩
  · obtain rfl : b = false := by rw [hb]; simp [h1]
    clear hb
    have g2 : ((x : Int) == r) = false := by simpa using h1
    go_enter Tryz.func7, Tryz.ntmps7
    go_wp2_with fail
    refine HC.out.mono ?_
    rintro e w1 ⟨rfl, hk⟩
    have HK := hid (none_trans K0.out hk)
    clear hk
    go_wp2_with fail
    go_ret
    exact ⟨rfl, HK.out⟩
end Go.Proofs.YthjokkihlodapaaGreat
/- croftlaw9: malloc.New and malloc.Open of void. -/
namespace Go.Proofs.YthjokkihlodapaaGreat
open Go.RowKit
set_option linter.unusedVariables false
set_option maxHeartbeats 8000000
set_option maxRecDepth 6000
/-- What malloc.Open makes of its pages. -/
def voM : Mp := ⟨1, 2, voI.pg, fun j => if j < 1 then ofW [0] (2 / 2 ^ (j + 1)) else (H.resizeM (H.newM 1) 2).wd j⟩
theorem inP {p : Pg} (q : PgIn p) : H.PgIn p := ⟨q.kd, q.od, q.cl, q.lv, q.nx, q.pv, q.fs, q.b0, q.b1, q.b2, q.b3⟩
theorem openVoid {s : Nat} {w : World} {V : ImV} (h : VoK s w V) : Calls Tryz.prog 13 #[imA voI V] w (H.OkP w) := by
  obtain ⟨v1, v2, v3, v4, v5⟩ := V
  obtain ⟨bm, q1, rfl, m3⟩ := h.m.2
  obtain ⟨bp, q2, rfl, p3⟩ := h.p.2
  obtain ⟨u, ⟨br, q3, rfl, r3⟩, hu⟩ := h.r.2
  obtain ⟨bh, q4, rfl, h3⟩ := h.h.2
  obtain ⟨bt, q5, rfl, t3⟩ := h.t.2
  obtain ⟨bw, q6, rfl, w3⟩ := hu.2
  refine H.mallocOpen9 65536 2 1 (by decide) (by decide) (by decide) (by decide) 1 8192 2 (by decide) (by decide) (by decide) (by decide) (by decide) _ _ _ _ _ _ 1 (fun _ => 0) bh 2 [0, 65536] (fun i => ?_) rfl voM rfl rfl (by decide) w ?_ h3 (fun W hW => ?_) ⟨bt, 0, none⟩ 8 (fun _ => -1) (fun j hj => ?_)
  · match i with
    | 0 => decide
    | 1 => decide
    | i + 2 => simp
  · refine ⟨fun i hi => Nat.zero_lt_succ _, _, _, rfl, .inr ⟨_, rfl, heap_lt m3, fun j hj => ?_⟩⟩
    rw [show (⟨bm, 0, none⟩ : Addr).add j = ⟨bm, j, none⟩ by (unfold Addr.add; simp; intro e; exact e.symm)]
    have := zb_get 8192 j hj
    simp [World.cell?, m3, this]
  · have hx := h.keep hW
    have p4 := (hW.block _ (heap_lt p3) (fun x => x)).trans p3
    have r4 := (hW.block _ (heap_lt r3) (fun x => x)).trans r3
    have u4 := hu.1.kept hW (fun _ _ x => x)
    refine H.open_in (.slice (some ⟨bp, 0, none⟩) 2 2) (.slice (some ⟨br, 0, none⟩) 1 1) (fun _ => .slice (some ⟨bw, 0, none⟩) 1 1) ⟨1, 2, voI.pg, fun _ => [0]⟩ (by decide) (by decide) ⟨1, rfl⟩ W ⟨by decide, _, _, rfl, .inr ⟨_, _, rfl, heap_lt p4, fun i hi => ?_⟩⟩ ⟨by decide, _, _, rfl, .inr ⟨_, _, rfl, heap_lt r4, fun k hk => ⟨?_, u4⟩⟩⟩ (fun i hi => ?_) (fun k hk => ?_)
    · have hi : i < 2 := hi
      have : i = 0 ∨ i = 1 := by omega
      rcases this with rfl | rfl
      · exact ⟨inP (vo_ok.pg 0 (by decide)), by simp [H.PgC, World.cell?, p4, voI]⟩
      · exact ⟨inP (vo_ok.pg 1 (by decide)), by simp [H.PgC, World.cell?, p4, voI]⟩
    · have hk : k < 1 := hk
      obtain rfl : k = 0 := by omega
      simp [World.cell?, r4]
    · have hi : i < 2 := hi
      have : i = 0 ∨ i = 1 := by omega
      rcases this with rfl | rfl <;> exact ⟨rfl, ⟨by decide, by decide, by decide, by decide, by decide, by decide, by decide, by decide⟩⟩
    · have hk : k < 1 := hk
      obtain rfl : k = 0 := by omega
      rfl
  · rcases j with _|_|_|_|_|_|_|_|j
    all_goals first | omega | simp [World.cell?, Addr.add, t3]
theorem newVoid (w : World) : Calls Tryz.prog 12 #[.agg #[.int .u64 65536, .int .i64 2, .int .i64 1]] w (H.OkP w) :=
  H.mallocNew9 65536 2 1 (by decide) (by decide) (by decide) (by decide) (by decide) w
theorem chk_vo : chk voI = (0, 0) := by decide +kernel
theorem chk_sl : chk slI = (0, 0) := by decide +kernel
theorem chk_nil : chk { voI with nm := 0 } = (2, 1) := by decide +kernel
theorem blks_sl : blks slI = [(67584, 2048), (69632, 4096)] := by decide +kernel
end Go.Proofs.YthjokkihlodapaaGreat
/- croftlaw9: awake. -/
namespace Go.Proofs.YthjokkihlodapaaGreat
open Go.RowKit
set_option linter.unusedVariables false
set_option maxHeartbeats 8000000
set_option maxRecDepth 6000
/-- Void without its bytes. -/
def niI : Img := { voI with nm := 0 }
theorem VoK.nil {s : Nat} {w : World} {V : ImV} (h : VoK s w V) : ImD w niI ⟨.slice none 0 0, V.p, V.r, V.h, V.t⟩ :=
  ⟨by decide, by decide, by decide, by decide, ⟨by decide, _, _, rfl, .inl rfl⟩, fun a n c e => by cases e; exact Nat.le_refl _, h.p.1, h.r.1, h.h.1, h.t.1⟩
theorem awake_any (w : World) : Calls Tryz.prog 5 #[] w fun e w' => e = .returned (.bool true) ∧ Kept none' w w' := by
  have VD := hid (fun W => void_any W)
  have NW := hid (fun W => newVoid W)
  have SL := hid (fun W => slabbed_any W)
  go_enter Tryz.func5, Tryz.ntmps5
  go_wp2_with fail
  refine (VD.out _).mono ?_
  rintro e w1 ⟨V, rfl, hV, hK⟩
  have HK := hid hK
  have HV := hid hV
  obtain ⟨v1, v2, v3, v4, v5⟩ := V
  obtain ⟨bm, q1, g1, m3⟩ := hV.m.2
  obtain ⟨bp, q2, g2, p3⟩ := hV.p.2
  obtain ⟨u, ⟨br, q3, g3, r3⟩, hu⟩ := hV.r.2
  obtain ⟨bh, q4, g4, h3⟩ := hV.h.2
  obtain ⟨bt, q5, g5, t3⟩ := hV.t.2
  dsimp only at g1 g2 g3 g4 g5
  subst g1 g2 g3 g4 g5
  clear hV hK q1 m3 q2 p3 q3 r3 hu q4 h3 q5 t3
  go_upto_region 3 with fail
  refine gen_world (P := fun W => Code.wp Tryz.prog _ _ _ W) _ ?_
  intro W hW
  have IA : ImAt W w1.heap.size niI ⟨.slice none 0 0, .slice (some ⟨bp, 0, none⟩) 2 2, .slice (some ⟨br, 0, none⟩) 1 1, .slice (some ⟨bh, 0, none⟩) 2 2, .slice (some ⟨bt, 0, none⟩) 8 8⟩ := by
    subst hW
    exact ⟨heap_new _ _, HV.out.nil.keep ((Kept.refl _ w1).alloc _)⟩
  have K1 : Kept none' w W := by
    subst hW
    exact HK.out.alloc _
  clear hW
  have HIA := hid IA
  have HK1 := hid K1
  obtain ⟨c0, c1, c2, -⟩ := IA.cells
  clear IA K1 HK HV
  generalize w1.heap.size = ib at *
  go_wp2_with fail
  refine (NW.out _).mono ?_
  rintro e w2 ⟨h2, rfl, k2⟩
  have HK2 := hid (none_trans HK1.out k2)
  have HI2 := hid (HIA.out.keep k2)
  clear k2 c0 c1 c2 HIA HK1
  go_wp2_with fail
  refine (VD.out _).mono ?_
  rintro e w3 ⟨V3, rfl, hV3, k3⟩
  have HK3 := hid (none_trans HK2.out k3)
  have HI3 := hid (HI2.out.keep k3)
  have OP := hid (openVoid hV3)
  clear k3 hV3 HI2 HK2
  go_wp2_with fail
  refine OP.out.mono ?_
  rintro e w4 ⟨h4, rfl, k4⟩
  have HK4 := hid (none_trans HK3.out k4)
  have HI4 := hid (HI3.out.keep k4)
  clear k4 HI3 HK3 OP
  go_wp2_with fail
  refine (VD.out _).mono ?_
  rintro e w5 ⟨V5, rfl, hV5, k5⟩
  have HK5 := hid (none_trans HK4.out k5)
  have HI5 := hid (HI4.out.keep k5)
  have IS := hid (is_any voI V5 0 0 w5 hV5.d true (by rw [chk_vo]; rfl))
  clear k5 hV5 HI4 HK4
  go_wp2_with fail
  refine IS.out.mono ?_
  rintro e w6 ⟨rfl, k6⟩
  have HK6 := hid (none_trans HK5.out k6)
  have HI6 := hid (HI5.out.keep k6)
  have IS6 := hid (is_any niI _ 2 1 w6 HI6.out.d true (by rw [show chk niI = (2, 1) from chk_nil]; rfl))
  obtain ⟨c0, c1, c2, c3, c4, c5, c6, c7, c8⟩ := HI6.out.cells
  clear k6 HI5 HK5 IS
  go_wp2_with fail
  refine IS6.out.mono ?_
  rintro e w7 ⟨rfl, k7⟩
  have HK7 := hid (none_trans HK6.out k7)
  clear k7 HI6 HK6 IS6 c0 c1 c2 c3 c4 c5 c6 c7 c8
  go_wp2_with fail
  refine (SL.out _).mono ?_
  rintro e w8 ⟨V8, ws8, rfl, hV8, k8⟩
  have HK8 := hid (none_trans HK7.out k8)
  have BL := hid (Blocks_any slI V8 w8 hV8.d)
  clear k8 hV8 HK7
  go_wp2_with fail
  refine BL.out.mono ?_
  rintro e w9 ⟨v9, rfl, hB⟩
  have HK9 := hid (none_trans HK8.out hB.kp)
  obtain ⟨a9, c9, q9⟩ : ∃ a c, v9 = .slice a 2 c := by
    have := hB.own.2
    rw [blks_sl] at this
    rcases this with ⟨_, h⟩ | ⟨g, cap, cur, rfl, _⟩
    · exact absurd h (by decide)
    · exact ⟨_, _, rfl⟩
  subst q9
  clear hB HK8 BL
  go_wp2_with fail
  go_ret
  exact ⟨rfl, HK9.out⟩
end Go.Proofs.YthjokkihlodapaaGreat
/- WalkApart, the walk. -/
namespace Go.Proofs.YthjokkihlodapaaGreat
open Go.RowKit
set_option linter.unusedVariables false
set_option maxHeartbeats 8000000
set_option maxRecDepth 6000
theorem pow_8 (j : Nat) (h : j ≤ 8) : 2 ^ j ≤ 256 := Nat.pow_le_pow_right (by decide) h (n := 2)
theorem R9_any (base lim : Int) (k : Nat) (hk : k ≤ 8) (w : World) :
    Calls Tryz.prog 53 #[.agg #[.int .u64 base, .int .i64 lim, .int .i64 (k : Int)]] w fun e w' => e = .returned (.int .u64 ((M.RS k : Nat) : Int)) ∧ Kept none' w w' := by
  go_enter Tryz.func53, Tryz.ntmps53
  go_wp2
  go_loop [3, 4] (fun r i => ∃ j : Nat, j ≤ k ∧ i = .int .i64 j ∧ r = .int .u64 ((4096 * 2 ^ j : Nat) : Int)) (fun _ i => k - (intOf i).toNat)
  case atStart => exact ⟨0, by omega, rfl, by simp⟩
  case round =>
    obtain ⟨j, hj, rfl, rfl⟩ := hrel
    obtain ⟨P, hP⟩ : ∃ P, P = 2 ^ j := ⟨_, rfl⟩
    have hP8 := pow_8 j (by omega)
    rw [← hP] at hP8 ⊢
    obtain ⟨R, hR⟩ : ∃ R, R = 4096 * P := ⟨_, rfl⟩
    have hR1 : R ≤ 1048576 := by omega
    rw [← hR]
    by_cases hlt : j < k
    · have hN2 := hid (show 4096 * 2 ^ (j + 1) = R * 2 from by rw [hR, hP, Nat.pow_succ, Nat.mul_assoc])
      have hji : (j : Int) < (k : Int) := by omega
      clear hP hR
      go_wp2
      refine ⟨⟨j + 1, by omega, by simp, ?_⟩, by simp [intOf]; omega⟩
      rw [hN2.out]; simp
    · obtain rfl : j = k := by omega
      have E := hid (show M.RS j = R by rw [hR, hP]; rfl)
      clear hP hR
      go_wp2
      go_ret
      exact ⟨ret_int (by rw [E.out]), (Kept.refl _ w).alloc _⟩

/-- A row of blocks that can be read. -/
def RBk (w : World) (v : Value) (l : List (Nat × Nat)) : Prop := ∃ oa oc, v = .slice oa l.length oc ∧ (l = [] ∨ ∃ g, oa = some ⟨g, 0, none⟩ ∧ g < w.heap.size ∧ ∀ j, j < l.length → w.cell? ⟨g, j * 2, none⟩ = some (.int .u64 ((l.getD j (0, 0)).1 : Int)) ∧ w.cell? ⟨g, j * 2 + 1, none⟩ = some (.int .u64 ((l.getD j (0, 0)).2 : Int)))
theorem blV_get : ∀ (l : List (Nat × Nat)) (j : Nat), j < l.length → (blV l)[j * 2]? = some (.int .u64 ((l.getD j (0, 0)).1 : Int)) ∧ (blV l)[j * 2 + 1]? = some (.int .u64 ((l.getD j (0, 0)).2 : Int))
  | [], j, h => by simp at h
  | b :: l, 0, _ => by simp [blV]
  | b :: l, j + 1, h => by
    have := blV_get l j (by simpa using h)
    rw [show (j + 1) * 2 = j * 2 + 1 + 1 by omega]
    simpa [blV] using this
theorem GB.rb {w0 W : World} {v : Value} {l : List (Nat × Nat)} (h : GB w0 W v l) : RBk W v l := by
  obtain ⟨h1, h2⟩ := h.own
  rcases h2 with ⟨rfl, h0⟩ | ⟨g, cap, cur, rfl, _, hg, _, _, hs, ht⟩
  · exact ⟨none, 0, by rw [h0], .inl (List.eq_nil_of_length_eq_zero h0)⟩
  · refine ⟨_, _, rfl, .inr ⟨g, rfl, heap_lt hg, fun j hj => ?_⟩⟩
    obtain ⟨e1, e2⟩ := blV_get l j hj
    rw [← ht, List.getElem?_take_of_lt (by omega)] at e1 e2
    rw [Array.getElem?_toList] at e1 e2
    exact ⟨by simp [World.cell?, hg, e1], by simp [World.cell?, hg, e2]⟩
theorem RBk.keep {w W : World} {v : Value} {l : List (Nat × Nat)} (h : RBk w v l) (hk : Kept none' w W) : RBk W v l := by
  obtain ⟨oa, oc, h1, h2⟩ := h
  refine ⟨oa, oc, h1, ?_⟩
  rcases h2 with h2 | ⟨g, e, hg, hc⟩
  · exact .inl h2
  · exact .inr ⟨g, e, Nat.lt_of_lt_of_le hg hk.size, fun j hj => ⟨hk.cell (fun x => x) (hc j hj).1, hk.cell (fun x => x) (hc j hj).2⟩⟩
end Go.Proofs.YthjokkihlodapaaGreat
/- croftref9.Same of rows that are the same. -/
namespace Go.Proofs.YthjokkihlodapaaGreat
open Go.RowKit
set_option linter.unusedVariables false
set_option maxHeartbeats 8000000
set_option maxRecDepth 6000
theorem drewN_kept (w : World) (q : Nat) : Kept none' w (w.drewN q) := (Kept.refl none' w).drewN q
theorem Same9_yes (v u : Value) (l : List (Nat × Nat)) (w : World) (hl : l.length ≤ 9223372036854775807) (hv : RBk w v l) (hu : RBk w u l) :
    Calls Tryz.prog 8 #[v, u] w fun e w' => e = .returned (.bool true) ∧ Kept none' w w' := by
  have HV := hid hv
  have HU := hid hu
  obtain ⟨va, vc, hv1, -⟩ := hv
  obtain ⟨ua, uc, hu1, -⟩ := hu
  obtain ⟨n, hn⟩ : ∃ n, n = l.length := ⟨_, rfl⟩
  rw [← hn] at hl hv1 hu1
  obtain ⟨P, hP⟩ : ∃ P : Nat → Nat, P = fun j => (l.getD j (0, 0)).1 := ⟨_, rfl⟩
  obtain ⟨S, hS⟩ : ∃ S : Nat → Nat, S = fun j => (l.getD j (0, 0)).2 := ⟨_, rfl⟩
  have RW := hid (show ∀ W, Kept none' w W → ∀ j, j < n → ∃ g k, va = some ⟨g, 0, none⟩ ∧ ua = some ⟨k, 0, none⟩ ∧ (W.cell? ⟨g, j * 2, none⟩ = some (.int .u64 (P j : Int)) ∧ W.cell? ⟨g, j * 2 + 1, none⟩ = some (.int .u64 (S j : Int))) ∧ (W.cell? ⟨k, j * 2, none⟩ = some (.int .u64 (P j : Int)) ∧ W.cell? ⟨k, j * 2 + 1, none⟩ = some (.int .u64 (S j : Int))) from fun W hW j hj => by
    obtain ⟨oa, oc, q1, q2⟩ := HV.out
    obtain ⟨ob, od, p1, p2⟩ := HU.out
    rw [hv1] at q1
    rw [hu1] at p1
    cases q1
    cases p1
    subst hP hS
    rcases q2 with q2 | ⟨g, rfl, hg, hc⟩
    · rw [hn, q2] at hj; simp at hj
    rcases p2 with p2 | ⟨k, rfl, hk, hd⟩
    · rw [hn, p2] at hj; simp at hj
    exact ⟨g, k, rfl, rfl, ⟨hW.cell (fun x => x) (hc j (by omega)).1, hW.cell (fun x => x) (hc j (by omega)).2⟩, ⟨hW.cell (fun x => x) (hd j (by omega)).1, hW.cell (fun x => x) (hd j (by omega)).2⟩⟩)
  clear hP hS HV HU hn
  subst hv1 hu1
  go_enter Tryz.func8, Tryz.ntmps8
  go_wp2_with fail
  go_loopw [5] (fun iv W => ∃ a : Nat, a ≤ n ∧ iv = .int .i64 a ∧ Hid (Kept none' w W)) (fun iv _ => n - (intOf iv).toNat)
  case atStart => exact ⟨0, Nat.zero_le _, rfl, hid (Kept.refl _ _)⟩
  case round =>
    obtain ⟨a, ha, rfl, hK⟩ := hrel
    by_cases hlt : a < n
    · have hai : (a : Int) < (n : Int) := by omega
      obtain ⟨g, k, rfl, rfl, ⟨r0, r1⟩, ⟨s0, s1⟩⟩ := RW.out wr hK.out a hlt
      go_wp2_with fail
      go_quiet (fail)
      go_wp2_with fail
      exact ⟨⟨a + 1, by omega, by simp, hid (none_trans hK.out (drewN_kept wr nq))⟩, by simp [intOf]; omega⟩
    · have hai : ¬ (a : Int) < (n : Int) := by omega
      go_wp2_with fail
      go_ret
      exact ⟨rfl, hK.out⟩
end Go.Proofs.YthjokkihlodapaaGreat
