/- RegionPlays: croftref6.Need, where no block is free. -/
import Derived.Test.YtggieolknccabaaGreatRxF
namespace Go.Proofs.YtggieolknccabaaGreat
open Go.RowKit
set_option linter.unusedVariables false

theorem Tk6Q.call {w b l r o N g0 fc va n vc ls fr fr' W W'} (h : Tk6Q w b l r o N g0 fc va n vc ls fr W) (hr : R6 N W' g0 fc o fr' va vc ls) (k : Kept (S6 g0 va) W W') : Tk6Q w b l r o N g0 fc va n vc ls fr' W' :=
  ⟨h.kp.trans k (fun _ _ e => e) (fun _ _ e => e), (k.block _ (heap_lt h.x0) (h.r6.nS h.x0)).trans h.x0, (k.block _ (heap_lt h.y0) (h.r6.nS h.y0)).trans h.y0, hr⟩
/-- The first box is written. -/
theorem Tk6Q.box {w b l r o N g0 fc va n vc ls fr W} (h : Tk6Q w b l r o N g0 fc va n vc ls fr W) (r' : Int) : Tk6Q w b l r' o N g0 fc va n vc ls fr (set6 W w.heap.size (.int .u64 (b : Int)) (.int .i64 l) (.int .i64 (o : Int)) (.int .i64 r') (.slice (some ⟨g0, 0, none⟩) (o + 1) fc) (.slice va n vc)) := by
  have k := set6_in W w.heap.size (.int .u64 (b : Int)) (.int .i64 l) (.int .i64 (o : Int)) (.int .i64 r') (.slice (some ⟨g0, 0, none⟩) (o + 1) fc) (.slice va n vc)
  exact ⟨set6_kept h.kp _ (Nat.le_refl _) _ _ _ _ _ _, set6_heap h.x0 _ _ _ _ _ _, (k.block _ (heap_lt h.y0) (by omega)).trans h.y0, h.r6.box h.x0 k⟩
theorem Tk6Q.reg {w b l r o N g0 fc va n vc ls fr W} (h : Tk6Q w b l r o N g0 fc va n vc ls fr W) (r' : Int) : Tk6Q w b l r' o N g0 fc va n vc ls fr (W.setCell ⟨w.heap.size, 3, none⟩ (.int .i64 r')) := by
  have k : Kept (fun y => y = w.heap.size) W (W.setCell ⟨w.heap.size, 3, none⟩ (.int .i64 r')) := (Kept.refl (fun y => y = w.heap.size) W).setCell (p := ⟨w.heap.size, 3, none⟩) rfl _
  exact ⟨h.kp.setNew (p := ⟨w.heap.size, 3, none⟩) (fun e => absurd e (Nat.lt_irrefl _)) _, heap_set h.x0 3 _, (k.block _ (heap_lt h.y0) (by omega)).trans h.y0, h.r6.box h.x0 k⟩
set_option maxRecDepth 4000 in
set_option maxHeartbeats 2000000 in
theorem Need6_stuck (b l r : Nat) (o : Nat) (ho : o ≤ 8) (N g0 fc : Nat) (fr : Nat → List Nat) (va : Option Addr) (vc : Nat) (ls : List (Nat × Nat)) (k : Nat) (hk : k ≤ o) (hz : ∀ a, k ≤ a → a ≤ o → fr a = []) (d : Bool) (hd : d = true ∨ l ≤ r) (w : World) (h : R6 N w g0 fc o fr va vc ls) :
    Calls Tryz.prog 30 #[r6V b (l : Int) (o : Int) (r : Int) (.slice (some ⟨g0, 0, none⟩) (o + 1) fc) (.slice va ls.length vc), .int .i64 (k : Int), .bool d] w fun e w' => Nd6P w b l r o N g0 fc fr va ls (-1) false e w' := by
  obtain ⟨n, hn⟩ : ∃ n, n = ls.length := ⟨_, rfl⟩
  have T2 := two5 w (r6O b (l : Int) (o : Int) (r : Int) (.slice (some ⟨g0, 0, none⟩) (o + 1) fc) (.slice va n vc)) r6Z
  have Q0 := hid (show Tk6Q w b (l : Int) (r : Int) o N g0 fc va n vc ls fr ((w.alloc (r6O b (l : Int) (o : Int) (r : Int) (.slice (some ⟨g0, 0, none⟩) (o + 1) fc) (.slice va n vc))).alloc r6Z) from ⟨T2.1.mono (fun _ _ e => e.elim), T2.2.1, T2.2.2, h.keep T2.1⟩)
  have TK := hid (Take6_no b (l : Int) (r : Int) o ho N g0 fc fr va vc ls k hk hz _ Q0.out.r6)
  rw [← hn] at TK ⊢
  have HN := hid hn
  have hk0 : ¬ (k : Int) < 0 := by omega
  have d0 : decide ((k : Int) < 0) = false := decide_eq_false hk0
  have hk1 : ¬ (o : Int) < (k : Int) := by omega
  clear T2 h hn hz
  go_enter Tryz.func30, Tryz.ntmps30
  go_wp2_with fail
  generalize (w.alloc (r6O b (l : Int) (o : Int) (r : Int) (.slice (some ⟨g0, 0, none⟩) (o + 1) fc) (.slice va n vc))).alloc r6Z = W0 at *
  refine TK.out.mono ?_
  rintro e w2 ⟨rfl, hk2⟩
  have ka := none_trans hk2 ((Kept.refl none' w2).alloc (r6O b (l : Int) (o : Int) (r : Int) (.slice (some ⟨g0, 0, none⟩) (o + 1) fc) (.slice va n vc)))
  have Q2 := hid (Q0.out.keep ka)
  clear hk2 ka TK
  go_upto_region 4 with fail
  generalize w2.alloc (r6O b (l : Int) (o : Int) (r : Int) (.slice (some ⟨g0, 0, none⟩) (o + 1) fc) (.slice va n vc)) = W3 at *
  obtain ⟨x0, x1, x2, x3, x4, x5, xf⟩ := r6c Q2.out.x0
  obtain ⟨y0, y1, y2, y3, y4, y5, yf⟩ := r6c (b := 0) (l := 0) (o := 0) (r := 0) Q2.out.y0
  have FIN := hid (fun u0 u1 u2 u3 u4 u5 => And.intro (set6_kept Q2.out.kp (w.heap.size + 1) (by omega) u0 u1 u2 u3 u4 u5) (Q2.out.r6.box Q2.out.y0 (set6_in _ _ u0 u1 u2 u3 u4 u5)))
  cases d with
  | true =>
    go_wp2_with fail
    exact ⟨rfl, .tuple #[r6V b (l : Int) (o : Int) (r : Int) (.slice (some ⟨g0, 0, none⟩) (o + 1) fc) (.slice va n vc), .int .i64 (-1), .bool false], by simp [results, Tryz.results30, go_sem, y0, y1, y2, y3, y4, y5], va, vc, by rw [HN.out], (FIN.out _ _ _ _ _ _).2, (FIN.out _ _ _ _ _ _).1⟩
  | false =>
    have hlr : (l : Int) ≤ (r : Int) := by
      rcases hd with e | e
      · cases e
      · omega
    clear hd
    go_wp2_with fail
    exact ⟨rfl, .tuple #[r6V b (l : Int) (o : Int) (r : Int) (.slice (some ⟨g0, 0, none⟩) (o + 1) fc) (.slice va n vc), .int .i64 (-1), .bool false], by simp [results, Tryz.results30, go_sem, y0, y1, y2, y3, y4, y5], va, vc, by rw [HN.out], (FIN.out _ _ _ _ _ _).2, (FIN.out _ _ _ _ _ _).1⟩
set_option maxRecDepth 4000 in
set_option maxHeartbeats 3000000 in
theorem Need6_grew (b l r : Nat) (o : Nat) (ho : o ≤ 8) (hr1 : r < l) (hl : l ≤ 64) (hlo : l * 2 ^ o ≤ 1024) (N g0 fc : Nat) (fr : Nat → List Nat) (va : Option Addr) (vc : Nat) (ls : List (Nat × Nat)) (hls : ls.length ≤ 1100) (hf : ∀ j, j ≤ o → (fr j).length ≤ 1023) (k : Nat) (hk : k ≤ o) (hz : ∀ a, k ≤ a → a ≤ o → fr a = []) (q : Nat) (hq : q = r * 2 ^ o) (w : World) (hN : N ≤ w.heap.size) (h : R6 N w g0 fc o fr va vc ls) :
    Calls Tryz.prog 30 #[r6V b (l : Int) (o : Int) (r : Int) (.slice (some ⟨g0, 0, none⟩) (o + 1) fc) (.slice va ls.length vc), .int .i64 (k : Int), .bool false] w fun e w' => Nd6P w b l (r + 1) o N g0 fc (cutF fr q o k) va (ls ++ [(q, k)]) (q : Int) true e w' := by
  obtain ⟨n, hn⟩ : ∃ n, n = ls.length := ⟨_, rfl⟩
  have T2 := two5 w (r6O b (l : Int) (o : Int) (r : Int) (.slice (some ⟨g0, 0, none⟩) (o + 1) fc) (.slice va n vc)) r6Z
  have Q0 := hid (show Tk6Q w b (l : Int) (r : Int) o N g0 fc va n vc ls fr ((w.alloc (r6O b (l : Int) (o : Int) (r : Int) (.slice (some ⟨g0, 0, none⟩) (o + 1) fc) (.slice va n vc))).alloc r6Z) from ⟨T2.1.mono (fun _ _ e => e.elim), T2.2.1, T2.2.2, h.keep T2.1⟩)
  have TK := hid (Take6_no b (l : Int) (r : Int) o ho N g0 fc fr va vc ls k hk hz _ Q0.out.r6)
  rw [← hn] at TK
  have hqb : q ≤ 1024 := by
    rw [hq]
    exact Nat.le_trans (Nat.mul_le_mul_right _ (Nat.le_of_lt hr1)) hlo
  obtain ⟨z, hzz⟩ : ∃ z, z = 2 ^ o := ⟨_, rfl⟩
  have hqm : q % 2 ^ o = 0 := by rw [hq]; exact Nat.mul_mod_left _ _
  have hz2 : z ≤ 256 := by
    rw [hzz]
    exact Nat.pow_le_pow_right (n := 2) (by decide) ho
  have hqz : (r : Int) * (z : Int) = (q : Int) := by rw [hq, hzz]; simp
  have hqw : IntKind.i64.wrap (q : Int) = (q : Int) := by rw [IntKind.wrap_i64]; omega
  have hfo : fr o = [] := hz o hk (Nat.le_refl _)
  have HF2 := hid (show ∀ j, j ≤ o → (giveF o fr q o j).length ≤ 1024 from fun j hj => by
    rw [giveF_top]
    unfold frU
    by_cases e : j = o
    · rw [if_pos e, List.length_cons]; have := hf o (Nat.le_refl _); omega
    · rw [if_neg e]; have := hf j hj; omega)
  have HC := hid (show ∀ a, a ≤ o → cutF fr q o k a = cutF (frU (giveF o fr q o) o (M.dropL (giveF o fr q o o) q)) q o k a from fun a ha => by
    rw [giveF_top]
    unfold cutF
    by_cases ea : k ≤ a ∧ a < o
    · rw [if_pos ea, if_pos ea]
      unfold frU
      rw [if_neg (by omega), if_neg (by omega)]
    · rw [if_neg ea, if_neg ea]
      unfold frU
      by_cases eo : a = o
      · rw [if_pos eo, if_pos rfl, eo, hfo]
        simp [M.dropL]
      · rw [if_neg eo, if_neg eo])
  have EN := hid (fun W (R : R6 N W g0 fc o fr va vc ls) => enter6 b (l : Int) (r : Int) o ho N g0 fc fr va vc ls n (fun j hj => by have := hf j hj; omega) o q (Nat.le_refl _) hqb hqm W R)
  have TY := hid (fun W (hW : N ≤ W.heap.size) (R : R6 N W g0 fc o (giveF o fr q o) va vc ls) => Take6_yes b (l : Int) ((r : Int) + 1) o ho N g0 fc (giveF o fr q o) va vc ls hls HF2.out k o q [] hk (Nat.le_refl _) (fun a h1 h2 => by rw [giveF_top]; unfold frU; rw [if_neg (by omega)]; exact hz a h1 (by omega)) (by rw [giveF_top]; unfold frU; rw [if_pos rfl, hfo]) hqb W hW R)
  have PW := hid (fun W => Power6 o (by omega) W)
  rw [← hzz] at PW
  rw [← hn] at TY ⊢
  have HN := hid hn
  have hk0 : ¬ (k : Int) < 0 := by omega
  have d0 : decide ((k : Int) < 0) = false := decide_eq_false hk0
  have hk1 : ¬ (o : Int) < (k : Int) := by omega
  have hlr : ¬ (l : Int) ≤ (r : Int) := by omega
  clear T2 h hn hz hfo hf hq hzz hqm
  go_enter Tryz.func30, Tryz.ntmps30
  go_wp2_with fail
  generalize (w.alloc (r6O b (l : Int) (o : Int) (r : Int) (.slice (some ⟨g0, 0, none⟩) (o + 1) fc) (.slice va n vc))).alloc r6Z = W0 at *
  refine TK.out.mono ?_
  rintro e w2 ⟨rfl, hk2⟩
  have ka := none_trans hk2 ((Kept.refl none' w2).alloc (r6O b (l : Int) (o : Int) (r : Int) (.slice (some ⟨g0, 0, none⟩) (o + 1) fc) (.slice va n vc)))
  have Q2 := hid (Q0.out.keep ka)
  have Z2 := hid (heap_new w2 (r6O b (l : Int) (o : Int) (r : Int) (.slice (some ⟨g0, 0, none⟩) (o + 1) fc) (.slice va n vc)))
  have ZN := hid (show w.heap.size + 1 < w2.heap.size from Nat.lt_of_lt_of_le (heap_lt Q0.out.y0) hk2.size)
  clear hk2 ka TK
  go_upto_region 4 with fail
  generalize w2.alloc (r6O b (l : Int) (o : Int) (r : Int) (.slice (some ⟨g0, 0, none⟩) (o + 1) fc) (.slice va n vc)) = W3 at *
  generalize w2.heap.size = zb at *
  obtain ⟨x0, x1, x2, x3, x4, x5, xf⟩ := r6c Q2.out.x0
  go_upto_region 8 with fail
  have Q3 := hid (Q2.out.keep (Kept.refl none' W3).drew)
  have d0 := r6c Q3.out.x0
  obtain ⟨d0, d1, d2, d3, d4, d5, df⟩ := d0
  go_cut [41] (fun s41 wx => Hid (Tk6Q w b (l : Int) (r : Int) o N g0 fc va n vc ls (giveF o fr q o) wx ∧ wx.heap[zb]? = some (r6O b (l : Int) (o : Int) (r : Int) (.slice (some ⟨g0, 0, none⟩) (o + 1) fc) (.slice va n vc))))
  case first =>
    rename_i KK hKK J KK2 hJ hM
    clear hKK KK
    go_wp2_with fail
    go_region_held3 (fun w' => w'.cell? ⟨w.heap.size, 0, none⟩ = some (.int .u64 (b : Int)) ∧ w'.cell? ⟨w.heap.size, 1, none⟩ = some (.int .i64 (l : Int)) ∧ w'.cell? ⟨w.heap.size, 2, none⟩ = some (.int .i64 (o : Int)) ∧ w'.cell? ⟨w.heap.size, 3, none⟩ = some (.int .i64 (r : Int)) ∧ w'.cell? ⟨w.heap.size, 4, none⟩ = some (.slice (some ⟨g0, 0, none⟩) (o + 1) fc) ∧ w'.cell? ⟨w.heap.size, 5, none⟩ = some (.slice va n vc)) ((refine ⟨?_, ?_, ?_, ?_, ?_, ?_⟩ <;> with_reducible assumption)) (first
      | (go_at_call 35; (with_reducible refine (PW.out _).mono ?_); rintro e w4 ⟨rfl, h4⟩; replace h4 := h4.symm; subst h4)
      | (go_at_call 58; (with_reducible refine (EN.out _ Q3.out.r6).mono ?_); rintro e w5 ⟨rfl, hr5, hk5⟩; have Q5 := hid (Q3.out.call hr5 hk5); have Z5 := hid ((hk5.block _ (heap_lt Z2.out) (Q3.out.r6.nS Z2.out)).trans Z2.out); obtain ⟨e0, e1, e2, e3, e4, e5, ef⟩ := r6c Q5.out.x0; have Q6 := hid (Q5.out.box (r : Int)); obtain ⟨s0, s1, s2, s3, s4, s5, sf⟩ := r6c Q6.out.x0; unfold set6 at s0 s1 s2 s3 s4 s5; clear hr5 hk5 sf)
      | fail)
    all_goals
      have Z6 := hid (((set6_in w5 w.heap.size (.int .u64 (b : Int)) (.int .i64 (l : Int)) (.int .i64 (o : Int)) (.int .i64 (r : Int)) (.slice (some ⟨g0, 0, none⟩) (o + 1) fc) (.slice va n vc)).block _ (heap_lt Z5.out) (by have := ZN.out; omega)).trans Z5.out)
      go_wp2_with fail
      go_meet
      case rel => exact hid ⟨Q6.out, Z6.out⟩
  case rest =>
  clear x0 x1 x2 x3 x4 x5 xf d0 d1 d2 d3 d4 d5 df Q0 Q2 Q3 Z2 PW EN
  obtain ⟨hq4, hz4⟩ := hcut.out
  have Q4 := hid (hq4.reg ((r : Int) + 1))
  have hks : Kept (fun y => y = w.heap.size) wc (wc.setCell ⟨w.heap.size, 3, none⟩ (.int .i64 ((r : Int) + 1))) := (Kept.refl (fun y => y = w.heap.size) wc).setCell (p := ⟨w.heap.size, 3, none⟩) rfl _
  have Z4 := hid ((hks.block _ (heap_lt hz4) (by have := ZN.out; omega)).trans hz4)
  obtain ⟨x0, x1, x2, x3, x4, x5, xf⟩ := r6c hq4.x0
  have hrw : (r : Int) + 1 ≤ 65 := by omega
  clear hq4 hz4 hks hcut
  go_upto_region 10 with fail
  generalize wc.setCell ⟨w.heap.size, 3, none⟩ (.int .i64 ((r : Int) + 1)) = W5 at *
  clear x0 x1 x2 x3 x4 x5 xf
  obtain ⟨x0, x1, x2, x3, x4, x5, xf⟩ := r6c Q4.out.x0
  go_wp2_with fail
  refine (TY.out _ (by have := Q4.out.kp.size; omega) Q4.out.r6).mono ?_
  rintro e w6 ⟨va', vc', rfl, hr6, hk6⟩
  obtain ⟨m, hm⟩ : ∃ m, m = (ls ++ [(q, k)]).length := ⟨_, rfl⟩
  rw [← hm]
  have HM := hid hm
  have hx6 := (hk6.block _ (heap_lt Q4.out.x0) (Q4.out.r6.nS Q4.out.x0)).trans Q4.out.x0
  have hy6 := (hk6.block _ (heap_lt Q4.out.y0) (Q4.out.r6.nS Q4.out.y0)).trans Q4.out.y0
  have hz6 := (hk6.block _ (heap_lt Z4.out) (Q4.out.r6.nS Z4.out)).trans Z4.out
  have K6 := hid (Q4.out.kp.trans hk6 (fun _ _ e => e) (fun _ _ e => e))
  have ks := set6_in w6 zb (.int .u64 (b : Int)) (.int .i64 (l : Int)) (.int .i64 (o : Int)) (.int .i64 ((r : Int) + 1)) (.slice (some ⟨g0, 0, none⟩) (o + 1) fc) (.slice va' m vc')
  have R7 := hid (hr6.box hz6 ks)
  have Y7 := hid ((ks.block _ (heap_lt hy6) (by have := ZN.out; omega)).trans hy6)
  have Z7 := hid (set6_heap hz6 b (l : Int) (o : Int) ((r : Int) + 1) (.slice (some ⟨g0, 0, none⟩) (o + 1) fc) (.slice va' m vc'))
  have K7 := hid (set6_kept K6.out zb (by have := ZN.out; omega) (.int .u64 (b : Int)) (.int .i64 (l : Int)) (.int .i64 (o : Int)) (.int .i64 ((r : Int) + 1)) (.slice (some ⟨g0, 0, none⟩) (o + 1) fc) (.slice va' m vc'))
  obtain ⟨z0, z1, z2, z3, z4, z5, zf⟩ := r6c hz6
  unfold set6 at R7 Y7 Z7 K7
  clear hm hr6 hk6 hx6 hy6 hz6 ks x0 x1 x2 x3 x4 x5 xf TY
  go_upto_region 11 with fail
  generalize (((((w6.setCell ⟨zb, 0, none⟩ (.int .u64 (b : Int))).setCell ⟨zb, 1, none⟩ (.int .i64 (l : Int))).setCell ⟨zb, 2, none⟩ (.int .i64 (o : Int))).setCell ⟨zb, 3, none⟩ (.int .i64 ((r : Int) + 1))).setCell ⟨zb, 4, none⟩ (.slice (some ⟨g0, 0, none⟩) (o + 1) fc)).setCell ⟨zb, 5, none⟩ (.slice va' m vc') = W7 at *
  clear z0 z1 z2 z3 z4 z5 zf
  obtain ⟨z0, z1, z2, z3, z4, z5, zf⟩ := r6c Z7.out
  obtain ⟨y0, y1, y2, y3, y4, y5, yf⟩ := r6c (b := 0) (l := 0) (o := 0) (r := 0) Y7.out
  have FIN := hid (fun u0 u1 u2 u3 u4 u5 => And.intro (set6_kept K7.out (w.heap.size + 1) (by omega) u0 u1 u2 u3 u4 u5) (R7.out.box Y7.out (set6_in _ _ u0 u1 u2 u3 u4 u5)))
  go_wp2_with fail
  exact ⟨rfl, .tuple #[r6V b (l : Int) (o : Int) ((r : Int) + 1) (.slice (some ⟨g0, 0, none⟩) (o + 1) fc) (.slice va' m vc'), .int .i64 (q : Int), .bool true], by simp [results, Tryz.results30, go_sem, y0, y1, y2, y3, y4, y5], va', vc', by rw [HM.out]; rfl, (FIN.out _ _ _ _ _ _).2.congr HC.out, (FIN.out _ _ _ _ _ _).1⟩
end Go.Proofs.YtggieolknccabaaGreat
