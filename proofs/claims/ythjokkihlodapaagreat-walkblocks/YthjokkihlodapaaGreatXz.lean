import Derived.Test.YthjokkihlodapaaGreatXy
set_option maxRecDepth 1000000
set_option maxHeartbeats 80000000
/- croftlaw9: void, the walk. -/
namespace Go.Proofs.YthjokkihlodapaaGreat
open Go.RowKit
set_option linter.unusedVariables false
set_option maxHeartbeats 16000000
set_option maxRecDepth 6000
theorem void_any (w : World) : Calls Tryz.prog 11 #[] w fun e w' => ∃ V, e = .returned (imA voI V) ∧ VoK w.heap.size w' V ∧ Kept none' w w' := by
  go_enter Tryz.func11, Tryz.ntmps11
  go_wp2_with fail
  rename_i K hK
  refine wp_region_inv (by kernel_rfl) (fun ls a W => ∃ v5 v6 v7 v8 v9 v10 v11 v12 v13 v14, IV w.heap.size (voW w).drew K ls a W v5 v6 v7 v8 v9 v10 v11 v12 v13 v14) ?_ ?_ ?_
  · refine ⟨_, _, _, _, _, _, _, _, _, _, rfl, by simp, fun _ => Kept.refl _ _, ?_, ?_, ?_, ?_, ?_, ?_, ?_, ?_, ?_, ?_, ?_⟩ <;> simp
  · rintro ls a W i ⟨v5, v6, v7, v8, v9, v10, v11, v12, v13, v14, h⟩ hi
    obtain ⟨hn, o, ho, hd⟩ := mem_ready.1 hi
    have ha := h.ea
    subst ha
    have hi' : i < 11 := by
      rcases Nat.lt_or_ge i 11 with h1 | h1
      · exact h1
      · rw [Array.getElem?_eq_none (by simpa using h1)] at ho
        cases ho
    have L10 : ls.getD 10 false = false := by
      cases h10 : ls.getD 10 false with
      | false => rfl
      | true =>
        have hf := getD_ff hn
        rcases Nat.lt_or_ge i 10 with h1 | h1
        · rw [(h.s10 h10).1 i h1] at hf; cases hf
        · have : i = 10 := by omega
          subst this
          rw [h10] at hf; cases hf
    have kk := h.k L10
    have b1 : W.heap[w.heap.size + 1]? = some (pgX frP) := (kk.block _ (heap_lt (vo_1 w)) (fun x => x)).trans (vo_1 w)
    have b2 : W.heap[w.heap.size + 1 + 1]? = some (pgX reP) := (kk.block _ (heap_lt (vo_2 w)) (fun x => x)).trans (vo_2 w)
    have b0 : W.heap[w.heap.size]? = some imZ := (kk.block _ (heap_lt (vo_0 w)) (fun x => x)).trans (vo_0 w)
    have nS : w.heap.size < W.heap.size := heap_lt b0
    rcases i with _|_|_|_|_|_|_|_|_|_|_|i
    case zero =>
      refine wpOp_of_list rfl ?_
      go_wp2_with fail
      refine ⟨_, _, _, _, _, _, _, _, _, _, h.put hn (by omega) (Kept.refl _ _) ?_ ?_ ?_ ?_ ?_ ?_ ?_ ?_ ?_ ?_ ?_ ?_ ?_ ?_ ?_ ?_ ?_ ?_ ?_ ?_⟩
      all_goals first | (intro _; rfl) | (intro e; omega) | skip
    case succ.succ.zero =>
      refine wpOp_of_list rfl ?_
      have c0 : W.cell? ⟨w.heap.size + 1, 0, none⟩ = some ((frP : Pg).fld 0) := by simp [World.cell?, b1, Pg.fld]
      have c1 : W.cell? ⟨w.heap.size + 1, 1, none⟩ = some ((frP : Pg).fld 1) := by simp [World.cell?, b1, Pg.fld]
      have c2 : W.cell? ⟨w.heap.size + 1, 2, none⟩ = some ((frP : Pg).fld 2) := by simp [World.cell?, b1, Pg.fld]
      have c3 : W.cell? ⟨w.heap.size + 1, 3, none⟩ = some ((frP : Pg).fld 3) := by simp [World.cell?, b1, Pg.fld]
      have c4 : W.cell? ⟨w.heap.size + 1, 4, none⟩ = some ((frP : Pg).fld 4) := by simp [World.cell?, b1, Pg.fld]
      have c5 : W.cell? ⟨w.heap.size + 1, 5, none⟩ = some ((frP : Pg).fld 5) := by simp [World.cell?, b1, Pg.fld]
      have c6 : W.cell? ⟨w.heap.size + 1, 6, none⟩ = some ((frP : Pg).fld 6) := by simp [World.cell?, b1, Pg.fld]
      have c7 : W.cell? ⟨w.heap.size + 1, 7, none⟩ = some ((frP : Pg).fld 7) := by simp [World.cell?, b1, Pg.fld]
      have c8 : W.cell? ⟨w.heap.size + 1, 8, none⟩ = some ((frP : Pg).fld 8) := by simp [World.cell?, b1, Pg.fld]
      have c9 : W.cell? ⟨w.heap.size + 1, 9, none⟩ = some ((frP : Pg).fld 9) := by simp [World.cell?, b1, Pg.fld]
      have c10 : W.cell? ⟨w.heap.size + 1, 10, none⟩ = some ((frP : Pg).fld 10) := by simp [World.cell?, b1, Pg.fld]
      simp only [Pg.fld] at c0 c1 c2 c3 c4 c5 c6 c7 c8 c9 c10
      go_wp2_with fail
      refine ⟨_, _, _, _, _, _, _, _, _, _, h.put hn (by omega) (Kept.refl _ _) ?_ ?_ ?_ ?_ ?_ ?_ ?_ ?_ ?_ ?_ ?_ ?_ ?_ ?_ ?_ ?_ ?_ ?_ ?_ ?_⟩
      all_goals first | (intro _; rfl) | (intro e; omega) | skip
    case succ.succ.succ.zero =>
      refine wpOp_of_list rfl ?_
      have c0 : W.cell? ⟨w.heap.size + 1 + 1, 0, none⟩ = some ((reP : Pg).fld 0) := by simp [World.cell?, b2, Pg.fld]
      have c1 : W.cell? ⟨w.heap.size + 1 + 1, 1, none⟩ = some ((reP : Pg).fld 1) := by simp [World.cell?, b2, Pg.fld]
      have c2 : W.cell? ⟨w.heap.size + 1 + 1, 2, none⟩ = some ((reP : Pg).fld 2) := by simp [World.cell?, b2, Pg.fld]
      have c3 : W.cell? ⟨w.heap.size + 1 + 1, 3, none⟩ = some ((reP : Pg).fld 3) := by simp [World.cell?, b2, Pg.fld]
      have c4 : W.cell? ⟨w.heap.size + 1 + 1, 4, none⟩ = some ((reP : Pg).fld 4) := by simp [World.cell?, b2, Pg.fld]
      have c5 : W.cell? ⟨w.heap.size + 1 + 1, 5, none⟩ = some ((reP : Pg).fld 5) := by simp [World.cell?, b2, Pg.fld]
      have c6 : W.cell? ⟨w.heap.size + 1 + 1, 6, none⟩ = some ((reP : Pg).fld 6) := by simp [World.cell?, b2, Pg.fld]
      have c7 : W.cell? ⟨w.heap.size + 1 + 1, 7, none⟩ = some ((reP : Pg).fld 7) := by simp [World.cell?, b2, Pg.fld]
      have c8 : W.cell? ⟨w.heap.size + 1 + 1, 8, none⟩ = some ((reP : Pg).fld 8) := by simp [World.cell?, b2, Pg.fld]
      have c9 : W.cell? ⟨w.heap.size + 1 + 1, 9, none⟩ = some ((reP : Pg).fld 9) := by simp [World.cell?, b2, Pg.fld]
      have c10 : W.cell? ⟨w.heap.size + 1 + 1, 10, none⟩ = some ((reP : Pg).fld 10) := by simp [World.cell?, b2, Pg.fld]
      simp only [Pg.fld] at c0 c1 c2 c3 c4 c5 c6 c7 c8 c9 c10
      go_wp2_with fail
      refine ⟨_, _, _, _, _, _, _, _, _, _, h.put hn (by omega) (Kept.refl _ _) ?_ ?_ ?_ ?_ ?_ ?_ ?_ ?_ ?_ ?_ ?_ ?_ ?_ ?_ ?_ ?_ ?_ ?_ ?_ ?_⟩
      all_goals first | (intro _; rfl) | (intro e; omega) | skip
    case succ.zero =>
      refine wpOp_of_list rfl (wpList_plain rfl fun _ hK => wp_bytes rfl (hK _ _ ?_))
      show ∃ _, _
      refine ⟨_, _, _, _, _, _, _, _, _, _, h.put hn (by omega) ((Kept.refl _ _).alloc _) ?_ ?_ ?_ ?_ ?_ ?_ ?_ ?_ ?_ ?_ ?_ ?_ ?_ ?_ ?_ ?_ ?_ ?_ ?_ ?_⟩
      all_goals first | (intro _; rfl) | (intro e; omega) | (intro _; exact st_m nS)
    case succ.succ.succ.succ.zero =>
      have d2 := hd
      cases ho
      obtain rfl := h.s2 L10 (hd ⟨2, .data⟩ (by simp) rfl)
      obtain rfl := h.s3 L10 (hd ⟨3, .data⟩ (by simp) rfl)
      refine wpOp_of_list rfl ?_
      go_wp2_with fail
      refine ⟨_, _, _, _, _, _, _, _, _, _, h.put hn (by omega) ((Kept.refl _ _).alloc _) ?_ ?_ ?_ ?_ ?_ ?_ ?_ ?_ ?_ ?_ ?_ ?_ ?_ ?_ ?_ ?_ ?_ ?_ ?_ ?_⟩
      all_goals first | (intro _; rfl) | (intro e; omega) | (intro _; exact st_p nS)
    case succ.succ.succ.succ.succ.zero =>
      refine wpOp_of_list rfl ?_
      go_wp2_with fail
      refine ⟨_, _, _, _, _, _, _, _, _, _, h.put hn (by omega) ((Kept.refl _ _).alloc _) ?_ ?_ ?_ ?_ ?_ ?_ ?_ ?_ ?_ ?_ ?_ ?_ ?_ ?_ ?_ ?_ ?_ ?_ ?_ ?_⟩
      all_goals first | (intro _; rfl) | (intro e; omega) | (intro _; exact st_w nS)
    case succ.succ.succ.succ.succ.succ.zero =>
      cases ho
      have g5 := h.s5 L10 (hd ⟨5, .data⟩ (by simp) rfl)
      obtain ⟨q1, ao, cap, q2, q3⟩ := g5.at.1
      have q4 : v10 = .slice ao 1 cap := q2
      clear q2
      subst q4
      refine wpOp_of_list rfl ?_
      go_wp2_with fail
      refine ⟨_, _, _, _, _, _, _, _, _, _, h.put hn (by omega) ((Kept.refl _ _).alloc _) ?_ ?_ ?_ ?_ ?_ ?_ ?_ ?_ ?_ ?_ ?_ ?_ ?_ ?_ ?_ ?_ ?_ ?_ ?_ ?_⟩
      all_goals first | (intro _; rfl) | (intro e; omega) | (intro _; exact st_r nS g5)
    case succ.succ.succ.succ.succ.succ.succ.zero =>
      refine wpOp_of_list rfl ?_
      go_wp2_with fail
      refine ⟨_, _, _, _, _, _, _, _, _, _, h.put hn (by omega) ((Kept.refl _ _).alloc _) ?_ ?_ ?_ ?_ ?_ ?_ ?_ ?_ ?_ ?_ ?_ ?_ ?_ ?_ ?_ ?_ ?_ ?_ ?_ ?_⟩
      all_goals first | (intro _; rfl) | (intro e; omega) | (intro _; exact st_h nS)
    case succ.succ.succ.succ.succ.succ.succ.succ.zero =>
      refine wpOp_of_list rfl ?_
      go_wp2_with fail
      refine ⟨_, _, _, _, _, _, _, _, _, _, h.put hn (by omega) ((Kept.refl _ _).alloc _) ?_ ?_ ?_ ?_ ?_ ?_ ?_ ?_ ?_ ?_ ?_ ?_ ?_ ?_ ?_ ?_ ?_ ?_ ?_ ?_⟩
      all_goals first | (intro _; rfl) | (intro e; omega) | (intro _; exact st_t nS)
    case succ.succ.succ.succ.succ.succ.succ.succ.succ.zero =>
      cases ho
      have l0 := hd ⟨0, .data⟩ (by simp) rfl
      have l1 := hd ⟨1, .data⟩ (by simp) rfl
      have l4 := hd ⟨4, .data⟩ (by simp) rfl
      have l6 := hd ⟨6, .data⟩ (by simp) rfl
      have l7 := hd ⟨7, .data⟩ (by simp) rfl
      have l8 := hd ⟨8, .data⟩ (by simp) rfl
      obtain rfl := h.s0 L10 l0
      have g1 := h.s1 L10 l1
      have g4 := h.s4 L10 l4
      have g6 := h.s6 L10 l6
      have g7 := h.s7 L10 l7
      have g8 := h.s8 L10 l8
      obtain ⟨_, a1, c1, q1, _⟩ := g1.at.1.1
      obtain ⟨_, a4, c4, q4, _⟩ := g4.at.1
      obtain ⟨_, _, a6, c6, q6, _⟩ := g6.at.1
      obtain ⟨_, a7, c7, q7, _⟩ := g7.at.1
      obtain ⟨_, a8, c8, q8, _⟩ := g8.at.1
      subst q1 q4 q6 q7 q8
      refine wpOp_of_list rfl ?_
      go_wp2_with fail
      have all : ∀ j, j < 9 → j ≠ 2 → j ≠ 3 → j ≠ 5 → ls.getD j false = true := by
        intro j hj a1 a2 a3
        match j, hj with
        | 0, _ => exact l0
        | 1, _ => exact l1
        | 4, _ => exact l4
        | 6, _ => exact l6
        | 7, _ => exact l7
        | 8, _ => exact l8
        | 2, _ => omega
        | 3, _ => omega
        | 5, _ => omega
      refine ⟨_, _, _, _, _, _, _, _, _, _, h.put hn (by omega) (Kept.refl _ _) ?_ ?_ ?_ ?_ ?_ ?_ ?_ ?_ ?_ ?_ ?_ ?_ ?_ ?_ ?_ ?_ ?_ ?_ ?_ ?_⟩
      all_goals first | (intro _; rfl) | (intro e; omega) | (intro _; exact ⟨all, fun V hV => ⟨g1 V hV, g4 V hV, g6 V hV, g7 V hV, g8 V hV⟩, rfl⟩)
    case succ.succ.succ.succ.succ.succ.succ.succ.succ.succ.zero =>
      cases ho
      have l9 := hd ⟨9, .data⟩ (by simp) rfl
      have ll : ∀ j, j < 10 → ls.getD j false = true := by
        intro j hj
        match j, hj with
        | 0, _ => exact hd ⟨0, .phase⟩ (by simp) rfl
        | 1, _ => exact hd ⟨1, .phase⟩ (by simp) rfl
        | 2, _ => exact hd ⟨2, .phase⟩ (by simp) rfl
        | 3, _ => exact hd ⟨3, .phase⟩ (by simp) rfl
        | 4, _ => exact hd ⟨4, .phase⟩ (by simp) rfl
        | 5, _ => exact hd ⟨5, .phase⟩ (by simp) rfl
        | 6, _ => exact hd ⟨6, .phase⟩ (by simp) rfl
        | 7, _ => exact hd ⟨7, .phase⟩ (by simp) rfl
        | 8, _ => exact hd ⟨8, .phase⟩ (by simp) rfl
        | 9, _ => exact l9
      obtain ⟨_, g, q⟩ := h.s9 L10 l9
      subst q
      obtain ⟨_, a1, d1, q1, _⟩ := g.at.d.mem
      obtain ⟨_, a4, d4, q4, _⟩ := g.at.d.pgs
      obtain ⟨_, _, a6, d6, q6, _⟩ := g.at.d.prs
      obtain ⟨_, a7, d7, q7, _⟩ := g.at.d.hds
      obtain ⟨_, a8, d8, q8, _⟩ := g.at.d.pts
      dsimp only at q1 q4 q6 q7 q8
      subst q1 q4 q6 q7 q8
      have c0 : W.cell? ⟨w.heap.size, 0, none⟩ = some (.int .u64 0) := by simp [World.cell?, b0]
      have z0 : W.frozen? ⟨w.heap.size, 0, none⟩ = false := by simp [World.frozen?, b0]
      have c1 : W.cell? ⟨w.heap.size, 1, none⟩ = some (.int .i64 0) := by simp [World.cell?, b0]
      have z1 : W.frozen? ⟨w.heap.size, 1, none⟩ = false := by simp [World.frozen?, b0]
      have c2 : W.cell? ⟨w.heap.size, 2, none⟩ = some (.int .i64 0) := by simp [World.cell?, b0]
      have z2 : W.frozen? ⟨w.heap.size, 2, none⟩ = false := by simp [World.frozen?, b0]
      have c3 : W.cell? ⟨w.heap.size, 3, none⟩ = some (.int .i64 0) := by simp [World.cell?, b0]
      have z3 : W.frozen? ⟨w.heap.size, 3, none⟩ = false := by simp [World.frozen?, b0]
      have c4 : W.cell? ⟨w.heap.size, 4, none⟩ = some (.slice none 0 0) := by simp [World.cell?, b0]
      have z4 : W.frozen? ⟨w.heap.size, 4, none⟩ = false := by simp [World.frozen?, b0]
      have c5 : W.cell? ⟨w.heap.size, 5, none⟩ = some (.slice none 0 0) := by simp [World.cell?, b0]
      have z5 : W.frozen? ⟨w.heap.size, 5, none⟩ = false := by simp [World.frozen?, b0]
      have c6 : W.cell? ⟨w.heap.size, 6, none⟩ = some (.slice none 0 0) := by simp [World.cell?, b0]
      have z6 : W.frozen? ⟨w.heap.size, 6, none⟩ = false := by simp [World.frozen?, b0]
      have c7 : W.cell? ⟨w.heap.size, 7, none⟩ = some (.slice none 0 0) := by simp [World.cell?, b0]
      have z7 : W.frozen? ⟨w.heap.size, 7, none⟩ = false := by simp [World.frozen?, b0]
      have c8 : W.cell? ⟨w.heap.size, 8, none⟩ = some (.slice none 0 0) := by simp [World.cell?, b0]
      have z8 : W.frozen? ⟨w.heap.size, 8, none⟩ = false := by simp [World.frozen?, b0]
      refine wpOp_of_list rfl ?_
      go_wp2_with fail
      refine ⟨_, _, _, _, _, _, _, _, _, _, rfl, by simpa using h.n, ?_, ?_, ?_, ?_, ?_, ?_, ?_, ?_, ?_, ?_, ?_, ?_⟩
      all_goals first | (intro e; rw [getD_tt (by rw [h.n]; decide)] at e; cases e) | skip
      refine ⟨fun j hj => by rw [Go.getD_set_ne _ (by omega)]; exact ll j hj, hK _ _ ?_⟩
      have kn := none_trans (vo_k w) kk
      have kS := (((((((((Kept.refl (fun b => b = w.heap.size) W).setCell (p := ⟨w.heap.size, 0, none⟩) rfl (.int .u64 (voI.base : Int))).setCell (p := ⟨w.heap.size, 1, none⟩) rfl (.int .i64 voI.lim)).setCell (p := ⟨w.heap.size, 2, none⟩) rfl (.int .i64 voI.ord)).setCell (p := ⟨w.heap.size, 3, none⟩) rfl (.int .i64 voI.reg)).setCell (p := ⟨w.heap.size, 4, none⟩) rfl (.slice a1 voI.nm d1)).setCell (p := ⟨w.heap.size, 5, none⟩) rfl (.slice a4 voI.np d4)).setCell (p := ⟨w.heap.size, 6, none⟩) rfl (.slice a6 voI.no d6)).setCell (p := ⟨w.heap.size, 7, none⟩) rfl (.slice a7 voI.hd.length d7)).setCell (p := ⟨w.heap.size, 8, none⟩) rfl (.slice a8 voI.pt.length d8)
      have k0 : Kept none' w _ := kn.trans kS (fun _ _ x => x) (fun x hx e => absurd hx (by omega))
      go_wp2_with fail
      refine bodyPost_ret (results_cell_row rfl _ _ _ _ _ _ _ rfl (st9 b0 _ _ _ _ _ _ _ _ _) Tryz.underlying31 rfl (by kernel_rfl)) rfl ?_
      exact ⟨⟨_, _, _, _, _⟩, rfl, g _ kS, k0⟩
    case _ => omega
  · rintro ls a W ⟨v5, v6, v7, v8, v9, v10, v11, v12, v13, v14, h⟩ hr
    have l0 := getD_of hr rfl (by rw [h.n]; decide) (i := 0) (by simp)
    have l1 := getD_of hr rfl (by rw [h.n]; decide) (i := 1) (by simp)
    have l2 := getD_of hr rfl (by rw [h.n]; decide) (i := 2) (by simp)
    have l3 := getD_of hr rfl (by rw [h.n]; decide) (i := 3) (by simp)
    have l5 := getD_of hr rfl (by rw [h.n]; decide) (i := 5) (by simp)
    have l7 := getD_of hr rfl (by rw [h.n]; decide) (i := 7) (by simp)
    have l8 := getD_of hr rfl (by rw [h.n]; decide) (i := 8) (by simp)
    have l4 := getD_of hr rfl (by rw [h.n]; decide) (i := 4) (by intro e he; simp at he; rcases he with rfl | rfl <;> assumption)
    have l6 := getD_of hr rfl (by rw [h.n]; decide) (i := 6) (by intro e he; simp at he; rcases he with rfl <;> assumption)
    have l9 := getD_of hr rfl (by rw [h.n]; decide) (i := 9) (by intro e he; simp at he; rcases he with rfl | rfl | rfl | rfl | rfl | rfl <;> assumption)
    have l10 := getD_of hr rfl (by rw [h.n]; decide) (i := 10) (by intro e he; simp at he; rcases he with rfl | rfl | rfl | rfl | rfl | rfl | rfl | rfl | rfl | rfl | rfl <;> assumption)
    exact (h.s10 l10).2
end Go.Proofs.YthjokkihlodapaaGreat
