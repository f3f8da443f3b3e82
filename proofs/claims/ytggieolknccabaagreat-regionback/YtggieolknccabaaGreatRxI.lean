/- RegionPlays: croftref6.New, Address; croftlaw6.which. -/
import Derived.Test.YtggieolknccabaaGreatRxH
namespace Go.Proofs.YtggieolknccabaaGreat
open Go.RowKit
set_option linter.unusedVariables false

theorem info_isl : (Tryz.prog.info? 89).map (fun i => (i.zero, i.size, i.bytes)) = some (some (.slice none 0 0), 1, 24) := by kernel_rfl
theorem push_islK {w0 W : World} {v : Value} {n : Nat} {xs : List Value} (h : GS w0 W 89 1 v n xs) (hn : n ≤ 2000) :
    ∃ g cap w', (∀ ty, (Builtin.append_ #[32, 32] ty #[v, .slice (some ⟨W.heap.size, 0, none⟩) 1 1]).run Tryz.prog (W.alloc (.cells #[.slice none 0 0] 89)) = .ok (.slice (some ⟨g, 0, none⟩) (n + 1) cap) w') ∧ GS w0 w' 89 1 (.slice (some ⟨g, 0, none⟩) (n + 1) cap) (n + 1) (xs ++ [.slice none 0 0]) ∧ w0.heap.size ≤ g := by
  obtain ⟨i, hi, hzz⟩ := Option.map_eq_some_iff.1 info_isl
  simp only [Prod.mk.injEq] at hzz
  have ka := (Kept.refl none' W).alloc (.cells #[.slice none 0 0] 89)
  obtain ⟨g, cap, w', h1, h2, h5, _⟩ := (h.keep ka).pushK 32 i (.slice none 0 0) 24 Tryz.underlying32 hi hzz.1 hzz.2.1 hzz.2.2 rfl (by decide) ⟨W.heap.size, 0, none⟩ 1 [.slice none 0 0] rfl (fun j u hj => cells_new (cs := #[.slice none 0 0]) j u hj) (by simp [Value.oneCell']) (by simp only [maxLen]; omega) (by omega)
  exact ⟨g, cap, w', h1, h2, h5⟩
theorem FL.new {W : World} {va : Option Addr} {vc o : Nat} (h : W.ownsRow 0 89 1 (.slice va (o + 1) vc) (o + 1) (List.replicate (o + 1) (.slice none 0 0))) : FL W va vc o (fun _ => []) := by
  refine ⟨fun _ => none, fun _ => 0, ?_, fun k hk => NL.nil W⟩
  have e : slv (fun _ => none) (fun _ => 0) (fun _ => []) (o + 1) = List.replicate (o + 1) (Value.slice none 0 0) := by
    unfold slv
    exact List.eq_replicate_iff.2 ⟨by simp, fun b hb => by obtain ⟨_, _, rfl⟩ := List.mem_map.1 hb; rfl⟩
  rw [e]
  exact h
/-- What New answers. -/
def New6Q (w : World) (b l o : Nat) (e : Ending) (w' : World) : Prop := ∃ g0 fc, e = .returned (r6V b (l : Int) (o : Int) 0 (.slice (some ⟨g0, 0, none⟩) (o + 1) fc) (.slice none 0 0)) ∧ Kept none' w w' ∧ R6 w.heap.size w' g0 fc o (fun _ => []) none 0 []
set_option maxRecDepth 4000 in
set_option maxHeartbeats 1000000 in
theorem New6r (b l o : Nat) (ho : o ≤ 8) (w : World) :
    Calls Tryz.prog 9 #[cfgV b (l : Int) (o : Int)] w fun e w' => New6Q w b l o e w' := by
  have T2 := two5 w (cfgO b (l : Int) (o : Int)) r6Z
  have K0 := hid T2.1
  have X0 := hid T2.2.1
  have Y0 := hid T2.2.2
  clear T2
  go_enter Tryz.func9, Tryz.ntmps9
  go_wp2_with fail
  generalize (w.alloc (cfgO b (l : Int) (o : Int))).alloc r6Z = W0 at *
  go_loopw [3, 4] (fun v i W => ∃ k : Nat, k ≤ o + 1 ∧ i = .int .i64 k ∧ ∃ va vc, v = .slice va k vc ∧ Hid (GS W0 W 89 1 (.slice va k vc) k (List.replicate k (.slice none 0 0)) ∧ (0 < k → ∃ g, va = some ⟨g, 0, none⟩ ∧ W0.heap.size ≤ g))) (fun _ i _ => o + 1 - (intOf i).toNat)
  case atStart => exact ⟨0, by omega, rfl, none, 0, rfl, hid ⟨GS.nil _ _ _ _ (Kept.refl none' W0), fun e => absurd e (by decide)⟩⟩
  case round =>
    obtain ⟨k, hk, rfl, va, vc, rfl, hR⟩ := hrel
    have hx := (hR.out.1.kp.block _ (heap_lt X0.out) (fun e => e)).trans X0.out
    have hy := (hR.out.1.kp.block _ (heap_lt Y0.out) (fun e => e)).trans Y0.out
    obtain ⟨x0, x1, x2⟩ := cfg3 hx
    by_cases hlt : k ≤ o
    · have hki : (k : Int) ≤ (o : Int) := by omega
      obtain ⟨g, cap, w', hap, hg2, hge⟩ := push_islK hR.out.1 (by omega)
      have D := hid (show GS W0 w' 89 1 (.slice (some ⟨g, 0, none⟩) (k + 1) cap) (k + 1) (List.replicate (k + 1) (.slice none 0 0)) ∧ (0 < k + 1 → ∃ g', (some (⟨g, 0, none⟩ : Addr)) = some ⟨g', 0, none⟩ ∧ W0.heap.size ≤ g') from ⟨by rw [List.replicate_succ']; exact hg2, fun _ => ⟨g, rfl, hge⟩⟩)
      have HAP := hid hap
      clear hap hg2 hge hx hy
      go_wp2_with (at_builtin; refine Lib.wpList_append_run _ rfl _ _ _ _ rfl (.slice va k vc) (.slice (some ⟨wr.heap.size, 0, none⟩) 1 1) rfl rfl _ _ (HAP.out _) ?_)
      exact ⟨⟨k + 1, by omega, by simp, _, _, rfl, D⟩, by simp [intOf]; omega⟩
    · have hko : k = o + 1 := by omega
      subst hko
      have hki : ¬ ((o + 1 : Nat) : Int) ≤ (o : Int) := by omega
      have hki2 : ¬ (o : Int) + 1 ≤ (o : Int) := by omega
      obtain ⟨g, rfl, hge⟩ := hR.out.2 (by omega)
      have hsz := K0.out.size
      have R1 := hid (show R6 w.heap.size wr g vc o (fun _ => []) none 0 [] from ⟨FL.new hR.out.1.own, World.ownsRow_nil _ _ _ _, by omega, fun y e => by cases e⟩)
      have K1 := hid (none_trans K0.out hR.out.1.kp)
      obtain ⟨y0, y1, y2, y3, y4, y5, yf⟩ := r6c (b := 0) (l := 0) (o := 0) (r := 0) hy
      have FIN := hid (fun u0 u1 u2 u3 u4 u5 => And.intro (set6_kept K1.out (w.heap.size + 1) (by omega) u0 u1 u2 u3 u4 u5) (R1.out.box hy (set6_in _ _ u0 u1 u2 u3 u4 u5)))
      clear hx hy hge
      go_wp2_with fail
      exact ⟨rfl, r6V b (l : Int) (o : Int) 0 (.slice (some ⟨g, 0, none⟩) (o + 1) vc) (.slice none 0 0), by simp [results, Tryz.results9, go_sem, y0, y1, y2, y3, y4, y5], g, vc, rfl, (FIN.out _ _ _ _ _ _).1, (FIN.out _ _ _ _ _ _).2⟩
set_option maxRecDepth 4000 in
theorem Address6 (b : Nat) (l o : Int) (p : Nat) (hp : p ≤ 1024) (hb : b + 4096 * p < 18446744073709551616) (w : World) :
    Calls Tryz.prog 31 #[cfgV b l o, .int .i64 (p : Int)] w fun e w' => e = .returned (.int .u64 ((b + 4096 * p : Nat) : Int)) ∧ Kept none' w w' := by
  have K0 := hid ((Kept.refl none' w).alloc (cfgO b l o))
  obtain ⟨x0, x1, x2⟩ := cfg3 (heap_new w (cfgO b l o))
  obtain ⟨q, hq⟩ : ∃ q, q = b + 4096 * p := ⟨_, rfl⟩
  have hqi : (b : Int) + 4096 * (p : Int) = (q : Int) := by omega
  have HQ := hid hq
  rw [← hq] at hb ⊢
  clear hq
  go_enter Tryz.func31, Tryz.ntmps31
  go_wp2_with fail
  go_ret
  exact ⟨rfl, K0.out⟩
/-- What which answers. -/
def Wh6P (w : World) (ls : List (Nat × Nat)) (e : Ending) (w' : World) : Prop := ∃ p k : Nat, (p, k) ∈ ls ∧ e = .returned (.agg #[.int .i64 (p : Int), .int .i64 (k : Int)]) ∧ Kept none' w w'
theorem getD_mem {ls : List (Nat × Nat)} {i : Nat} (h : i < ls.length) : ls.getD i (0, 0) ∈ ls := by
  rw [List.getD_eq_getElem?_getD, List.getElem?_eq_getElem h]
  exact List.getElem_mem h
set_option maxRecDepth 4000 in
set_option maxHeartbeats 1000000 in
theorem which6 (b : Nat) (l r : Int) (o : Nat) (fv : Value) (va : Option Addr) (vc : Nat) (ls : List (Nat × Nat)) (hls : ls.length ≤ 1100) (h0 : 0 < ls.length) (x : Int) (w : World) (h : RN w (.slice va ls.length vc) ls) :
    Calls Tryz.prog 32 #[r6V b l (o : Int) r fv (.slice va ls.length vc), .int .i64 x] w fun e w' => Wh6P w ls e w' := by
  obtain ⟨n, hn⟩ : ∃ n, n = ls.length := ⟨_, rfl⟩
  have T2 := two5 w (r6O b l (o : Int) r fv (.slice va n vc)) (.cells #[.int .i64 0, .int .i64 0] 82)
  have K0 := hid T2.1
  have X0 := hid T2.2.1
  have Y0 := hid T2.2.2
  have R0 := hid (h.keep T2.1)
  rw [← hn] at hls h0 ⊢
  have HN := hid hn
  have hni : ¬ (n : Int) = 0 := by omega
  have ht1 : -(n : Int) < x.tmod (n : Int) := by have h5 := Int.tmod_lt_of_pos (-x) (show (0 : Int) < (n : Int) by omega); have h6 := Int.neg_tmod x (n : Int); omega
  have ht2 : x.tmod (n : Int) < (n : Int) := Int.tmod_lt_of_pos _ (by omega)
  obtain ⟨t, ht⟩ : ∃ t, t = x.tmod (n : Int) := ⟨_, rfl⟩
  rw [← ht] at ht1 ht2
  replace ht := ht.symm
  have htw : IntKind.i64.wrap t = t := by rw [IntKind.wrap_i64]; omega
  clear T2 h hn
  go_enter Tryz.func32, Tryz.ntmps32
  go_upto_region 1 with fail
  generalize (w.alloc (r6O b l (o : Int) r fv (.slice va n vc))).alloc (.cells #[.int .i64 0, .int .i64 0] 82) = W0 at *
  obtain ⟨x0, x1, x2, x3, x4, x5, xf⟩ := r6c X0.out
  have y0 : W0.cell? ⟨w.heap.size + 1, 0, none⟩ = some (.int .i64 0) := by simp [World.cell?, Y0.out]
  have y1 : W0.cell? ⟨w.heap.size + 1, 1, none⟩ = some (.int .i64 0) := by simp [World.cell?, Y0.out]
  have yf : ∀ j, W0.frozen? ⟨w.heap.size + 1, j, none⟩ = false := fun j => by simp [World.frozen?, Y0.out]
  have FIN := hid (fun u0 u1 => show Kept none' w ((W0.setCell ⟨w.heap.size + 1, 0, none⟩ u0).setCell ⟨w.heap.size + 1, 1, none⟩ u1) from (K0.out.setNew (p := ⟨w.heap.size + 1, 0, none⟩) (fun e => absurd e (by simp)) u0).setNew (p := ⟨w.heap.size + 1, 1, none⟩) (fun e => absurd e (by simp)) u1)
  by_cases hneg : t < 0
  · have hd : decide (t < 0) = true := decide_eq_true hneg
    obtain ⟨i, hi⟩ : ∃ i : Nat, t + (n : Int) = (i : Int) := ⟨(t + (n : Int)).toNat, by omega⟩
    have hin : (i : Int) < (n : Int) := by omega
    have hil : i < ls.length := by rw [← HN.out]; omega
    obtain ⟨g2, hA, r2, r3⟩ := R0.out.get hil
    have HM := hid (getD_mem hil)
    subst hA
    clear hil
    generalize ls.getD i (0, 0) = q at *
    obtain ⟨q1, q2⟩ := q
    dsimp only at *
    go_wp2_with fail
    exact ⟨rfl, .agg #[.int .i64 (q1 : Int), .int .i64 (q2 : Int)], by simp [results, Tryz.results32, go_sem, y0, y1], q1, q2, HM.out, rfl, FIN.out _ _⟩
  · have hd : decide (t < 0) = false := decide_eq_false hneg
    obtain ⟨i, rfl⟩ : ∃ i : Nat, t = (i : Int) := ⟨t.toNat, by omega⟩
    have hin : (i : Int) < (n : Int) := by omega
    have hil : i < ls.length := by rw [← HN.out]; omega
    obtain ⟨g2, hA, r2, r3⟩ := R0.out.get hil
    have HM := hid (getD_mem hil)
    subst hA
    clear hil
    generalize ls.getD i (0, 0) = q at *
    obtain ⟨q1, q2⟩ := q
    dsimp only at *
    go_wp2_with fail
    exact ⟨rfl, .agg #[.int .i64 (q1 : Int), .int .i64 (q2 : Int)], by simp [results, Tryz.results32, go_sem, y0, y1], q1, q2, HM.out, rfl, FIN.out _ _⟩
end Go.Proofs.YtggieolknccabaaGreat
