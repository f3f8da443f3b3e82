/- through; PagePlays. -/
import Derived.Test.YtbhheimedbfmeaaPlO
namespace Go.Proofs.Ytbhheimedbfmeaa
open Go.RowKit
set_option linter.unusedVariables false

theorem setM_box {W : World} {X : Nat} {cs : Array Value} (hx : W.heap[X]? = some (.cells cs 51 (0, 0))) (hc : cs.size = 3) (u0 u1 u2 : Value) : (setM W X u0 u1 u2).heap[X]? = some (.cells #[u0, u1, u2] 51 (0, 0)) := by
  have := heap_set (heap_set (heap_set hx 0 u0) 1 u1) 2 u2
  rw [this]
  obtain ⟨l⟩ := cs
  match l, hc with
  | [a, b, c], _ => rfl
set_option maxRecDepth 6000 in
set_option maxHeartbeats 4000000 in
theorem through_any (b : Nat) (v : Value) (sv : Value) (n : Nat) (w w0 : World) (hS : OpsIn w sv n) (h : PRS (fun _ _ => False) w w0 b v) :
    Calls Try.prog 24 #[.pointer (some ⟨b, 0, none⟩), v, sv] w0 fun e w' => e = .returned (.bool true) ∧ Kept none' w w' := by
  obtain ⟨hn63, oa, oc, rfl, hsv⟩ := hS
  have HSV := hid hsv
  obtain ⟨o, g, nn, cp, qa, qc, rfl⟩ := h.val
  have H0 := hid ((h.more (ro o g nn cp (.slice qa o qc))).mono (E' := E1 w0.heap.size (ro o g nn cp (.slice qa o qc))) (fun x u e => .inr e))
  have HX := hid h.kp.size
  clear hsv h
  go_enter Try.func24, Try.ntmps24
  go_wp2_with fail
  go_loopw [7] (fun i W => ∃ j : Nat, j ≤ n ∧ i = .int .i64 j ∧ Hid (∃ o g nn cp qa qc, PRS (E1 w0.heap.size (ro o g nn cp (.slice qa o qc))) w W b (rv o g nn cp (.slice qa o qc)))) (fun i _ => n - (intOf i).toNat)
  case atStart => exact ⟨0, by omega, rfl, ⟨_, _, _, _, _, _, H0.out⟩⟩
  case round =>
    clear H0
    obtain ⟨j, hj, rfl, hH⟩ := hrel
    obtain ⟨o, g, nn, cp, qa, qc, hH⟩ := hH.out
    have HS := hid hH
    clear hH
    by_cases hlt : j < n
    · obtain ⟨bl, oo, rfl, hbl, hrow⟩ := HSV.out.resolve_left (by omega)
      obtain ⟨k', p', x', y', l', h1, h2, h3, h4, g0, g1, g2, g3, g4⟩ := hrow j hlt
      have OP := hid (show ∀ W, Kept none' w W → W.cell? ⟨bl, oo + j * 5, none⟩ = some (.int .i64 k') ∧ W.cell? ⟨bl, oo + j * 5 + 1, none⟩ = some (.int .i64 p') ∧ W.cell? ⟨bl, oo + j * 5 + 2, none⟩ = some (.int .i64 x') ∧ W.cell? ⟨bl, oo + j * 5 + 3, none⟩ = some (.int .i64 y') ∧ W.cell? ⟨bl, oo + j * 5 + 4, none⟩ = some (.bool l') from fun W k => ⟨k.cell (fun x => x) g0, k.cell (fun x => x) g1, k.cell (fun x => x) g2, k.cell (fun x => x) g3, k.cell (fun x => x) g4⟩)
      have hji : (j : Int) < (n : Int) := by omega
      have HBL := hid hbl
      clear hrow h1 h2 h3 h4 g0 g1 g2 g3 g4 hbl
      have D0 := hid (HS.out.keep (Kept.refl none' wr).drew)
      have DB := hid ((HS.out.more roZ).keep (Kept.refl none' _).drew)
      have HU := hid (show w0.heap.size < wr.heap.size from heap_lt (HS.out.box ⟨rfl, rfl⟩))
      obtain ⟨t0, t1, t2⟩ := box3 (D0.out.box ⟨rfl, rfl⟩)
      obtain ⟨g0, g1, g2, g3, g4⟩ := OP.out _ D0.out.kp
      obtain ⟨tb0, tb1, tb2⟩ := box3 (DB.out.box (.inl ⟨rfl, rfl⟩))
      obtain ⟨gb0, gb1, gb2, gb3, gb4⟩ := OP.out _ DB.out.kp
      go_wp2_with fail
      go_region_held3 (fun w' => w'.cell? ⟨w0.heap.size, 0, none⟩ = some (.int .i64 (o : Int)) ∧ w'.cell? ⟨w0.heap.size, 1, none⟩ = some (.slice (adr g) nn cp) ∧ w'.cell? ⟨w0.heap.size, 2, none⟩ = some (.slice qa o qc) ∧ w'.cell? ⟨bl, oo + j * 5, none⟩ = some (.int .i64 k') ∧ w'.cell? ⟨bl, oo + j * 5 + 1, none⟩ = some (.int .i64 p') ∧ w'.cell? ⟨bl, oo + j * 5 + 2, none⟩ = some (.int .i64 x') ∧ w'.cell? ⟨bl, oo + j * 5 + 3, none⟩ = some (.int .i64 y') ∧ w'.cell? ⟨bl, oo + j * 5 + 4, none⟩ = some (.bool l')) (first
        | with_reducible exact ⟨t0, t1, t2, g0, g1, g2, g3, g4⟩
        | with_reducible exact ⟨tb0, tb1, tb2, gb0, gb1, gb2, gb3, gb4⟩
        | with_reducible exact ⟨alloc_cell t0, alloc_cell t1, alloc_cell t2, alloc_cell g0, alloc_cell g1, alloc_cell g2, alloc_cell g3, alloc_cell g4⟩
        | with_reducible exact ⟨setM_cell (by have := HU.out; omega) t0, setM_cell (by have := HU.out; omega) t1, setM_cell (by have := HU.out; omega) t2, setM_cell (by have := HU.out; have := HBL.out; have := HX.out; omega) g0, setM_cell (by have := HU.out; have := HBL.out; have := HX.out; omega) g1, setM_cell (by have := HU.out; have := HBL.out; have := HX.out; omega) g2, setM_cell (by have := HU.out; have := HBL.out; have := HX.out; omega) g3, setM_cell (by have := HU.out; have := HBL.out; have := HX.out; omega) g4⟩) (first
        | (go_at_call 46; refine (played_any b (rv o g nn cp (.slice qa o qc)) k' p' x' y' l' _ w _ D0.out).mono ?_; rintro e W2 ⟨v', rfl, hP⟩; obtain ⟨o2, g2', n2, cp2, qa2, qc2, rfl⟩ := hP.val; have D2 := hid hP; clear hP t0 t1 t2 g0 g1 g2 g3 g4 tb0 tb1 tb2 gb0 gb1 gb2 gb3 gb4; obtain ⟨t0, t1, t2⟩ := box3 (D2.out.box ⟨rfl, rfl⟩); obtain ⟨g0, g1, g2, g3, g4⟩ := OP.out _ D2.out.kp)
        | (go_at_call 46; refine (played_any b (rv o g nn cp (.slice qa o qc)) k' p' x' y' l' _ w _ DB.out).mono ?_; rintro e W2 ⟨v', rfl, hP⟩; obtain ⟨o2, g2', n2, cp2, qa2, qc2, rfl⟩ := hP.val; have D2 := hid hP; clear hP t0 t1 t2 g0 g1 g2 g3 g4 tb0 tb1 tb2 gb0 gb1 gb2 gb3 gb4; obtain ⟨t0, t1, t2⟩ := box3 (D2.out.box (.inl ⟨rfl, rfl⟩)); obtain ⟨g0, g1, g2, g3, g4⟩ := OP.out _ D2.out.kp; have y3 := D2.out.box (.inr ⟨rfl, rfl⟩); obtain ⟨y0, y1, y2⟩ := boxZ y3; have fz : ∀ i, W2.frozen? ⟨wr.heap.size, i, none⟩ = false := (fun i => by simp [World.frozen?, y3]); clear y3))
      · have D3 := hid (D2.out.keep ((Kept.refl none' W2).alloc (ro o2 g2' n2 cp2 (.slice qa2 o2 qc2))))
        have U3 := hid (heap_new W2 (ro o2 g2' n2 cp2 (.slice qa2 o2 qc2)))
        obtain ⟨W3, hW3⟩ : ∃ W3, W3 = W2.alloc (ro o2 g2' n2 cp2 (.slice qa2 o2 qc2)) := ⟨_, rfl⟩
        obtain ⟨U, hU⟩ : ∃ U, U = W2.heap.size := ⟨_, rfl⟩
        rw [← hW3] at D3 U3 ⊢
        rw [← hU] at U3 ⊢
        clear hW3 hU t0 t1 t2 g0 g1 g2 g3 g4 D2
        obtain ⟨t0, t1, t2⟩ := box3 (D3.out.box ⟨rfl, rfl⟩)
        obtain ⟨u0, u1, u2⟩ := box3 U3.out
        have fx : ∀ i, W3.frozen? ⟨w0.heap.size, i, none⟩ = false := fun i => by simp [World.frozen?, D3.out.box (X := w0.heap.size) ⟨rfl, rfl⟩]
        have F3 := hid (fun (u0 u1 u2 : Value) => D3.out.turn (o' := .cells #[u0, u1, u2] 51) ⟨rfl, rfl⟩ (setM_only W3 w0.heap.size u0 u1 u2) HX.out (setM_box (D3.out.box ⟨rfl, rfl⟩) rfl u0 u1 u2))
        go_wp2_with fail
        exact ⟨⟨j + 1, by omega, by simp, ⟨o2, g2', n2, cp2, qa2, qc2, F3.out _ _ _⟩⟩, by simp [intOf]; omega⟩
      · have D3 := hid (((D2.out.side (Y := wr.heap.size) (.inr ⟨rfl, rfl⟩) (setM_only W2 wr.heap.size (.int .i64 (o2 : Int)) (.slice (adr g2') n2 cp2) (.slice qa2 o2 qc2)) (by have := HX.out; have := HU.out; omega)).mono (E' := E1 w0.heap.size (ro o g nn cp (.slice qa o qc))) (fun x u e => ⟨.inl e, by have := HU.out; have := e.1; omega⟩)))
        have U3 := hid (show (setM W2 wr.heap.size (.int .i64 (o2 : Int)) (.slice (adr g2') n2 cp2) (.slice qa2 o2 qc2)).heap[wr.heap.size]? = some (ro o2 g2' n2 cp2 (.slice qa2 o2 qc2)) from setM_box (D2.out.box (.inr ⟨rfl, rfl⟩)) rfl _ _ _)
        obtain ⟨W3, hW3⟩ : ∃ W3, W3 = ((W2.setCell ⟨wr.heap.size, 0, none⟩ (.int .i64 (o2 : Int))).setCell ⟨wr.heap.size, 1, none⟩ (.slice (adr g2') n2 cp2)).setCell ⟨wr.heap.size, 2, none⟩ (.slice qa2 o2 qc2) := ⟨_, rfl⟩
        have D3' := hid (show PRS (E1 w0.heap.size (ro o g nn cp (.slice qa o qc))) w W3 b (rv o2 g2' n2 cp2 (.slice qa2 o2 qc2)) by rw [hW3]; exact D3.out)
        have U3' := hid (show W3.heap[wr.heap.size]? = some (ro o2 g2' n2 cp2 (.slice qa2 o2 qc2)) by rw [hW3]; exact U3.out)
        rw [← hW3]
        clear D3 U3
        have D3 := D3'
        have U3 := U3'
        clear D3' U3' hW3 t0 t1 t2 g0 g1 g2 g3 g4 D2 y0 y1 y2 fz
        obtain ⟨t0, t1, t2⟩ := box3 (D3.out.box ⟨rfl, rfl⟩)
        obtain ⟨u0, u1, u2⟩ := box3 U3.out
        have fx : ∀ i, W3.frozen? ⟨w0.heap.size, i, none⟩ = false := fun i => by simp [World.frozen?, D3.out.box (X := w0.heap.size) ⟨rfl, rfl⟩]
        have F3 := hid (fun (u0 u1 u2 : Value) => D3.out.turn (o' := .cells #[u0, u1, u2] 51) ⟨rfl, rfl⟩ (setM_only W3 w0.heap.size u0 u1 u2) HX.out (setM_box (D3.out.box ⟨rfl, rfl⟩) rfl u0 u1 u2))
        go_wp2_with fail
        exact ⟨⟨j + 1, by omega, by simp, ⟨o2, g2', n2, cp2, qa2, qc2, F3.out _ _ _⟩⟩, by simp [intOf]; omega⟩
    · have hji : ¬ (j : Int) < (n : Int) := by omega
      obtain ⟨m, B, g', cp', q', R, hv, hp⟩ := HS.out
      have e0 : Value.int .i64 (o : Int) = .int .i64 (m.o : Int) := congrArg (fun v => v.cells[0]!) hv
      have e1 : Value.slice (adr g) nn cp = .slice (adr g') m.n cp' := congrArg (fun v => v.cells[1]!) hv
      have e2 : Value.slice qa o qc = q' := congrArg (fun v => v.cells[2]!) hv
      obtain ⟨qa', qc', hq'⟩ := hp.rf.val
      have X0 := hid (show wr.heap[w0.heap.size]? = some (ro m.o g' m.n cp' q') by rw [HS.out.box (X := w0.heap.size) ⟨rfl, rfl⟩, ro, e0, e1, e2])
      subst hq'
      have hp' := hid hp
      have hn1 := hp.rf.n1
      clear e0 e1 e2 hv hp HS
      go_wp2_with fail
      refine (Plain_any b B m _ hp'.out.mp).mono ?_
      rintro e W6 ⟨gp, gq, D, rfl, hT⟩
      have D6 := hid (And.intro (hp'.out.keep hT.kp) hT)
      have X6 := hid ((hT.kp.block _ (heap_lt X0.out) (fun x => x)).trans X0.out)
      clear hT X0 hp'
      obtain ⟨t0, t1, t2⟩ := box3 X6.out
      go_wp2_with fail
      refine (SamePages_ref gp g' cp' m.n m.pg hn1 _ D6.out.2.row D6.out.1.rf.rq).mono ?_
      rintro e W1 ⟨rfl, q9, hq9⟩
      have hk : Kept none' W6 W1 := by rw [hq9]; exact (Kept.refl none' _).drewN q9
      have D1 := hid (And.intro (D6.out.1.keep hk) (D6.out.2.keep hk))
      have X1 := hid ((hk.block _ (heap_lt X6.out) (fun x => x)).trans X6.out)
      clear hk hq9 t0 t1 t2 D6 X6
      obtain ⟨t0, t1, t2⟩ := box3 X1.out
      go_wp2_with fail
      refine (SameWords_told b B g' cp' (.slice qa' m.o qc') R m gp gq D _ _ _ D1.out.1.mp D1.out.1.rf D1.out.2).mono ?_
      rintro e W2 ⟨rfl, hk⟩
      have K2 := hid (none_trans D1.out.1.kp hk)
      clear hk
      go_wp2_with fail
      go_ret
      exact ⟨rfl, K2.out⟩
set_option maxRecDepth 6000 in
set_option maxHeartbeats 2000000 in
theorem plays_any (od : Int) (sv : Value) (n : Nat) (w : World) (hS : OpsIn w sv n) :
    Calls Try.prog 4 #[.int .i64 od, sv] w fun e w' => e = .returned (.bool true) ∧ Kept none' w w' := by
  have HS := hid hS
  clear hS
  go_enter Try.func4, Try.ntmps4
  go_wp2_with fail
  refine (awake_any _).mono ?_
  rintro e w1 ⟨rfl, hK⟩
  have K1 := hid hK
  clear hK
  go_wp2_with fail
  refine (new_any od _).mono ?_
  rintro e w2 ⟨b, B, rfl, hM, hK, hN⟩
  have HM := hid hM
  have HK := hid hK
  have HN := hid hN
  clear hM hK hN
  go_wp2_with fail
  refine (New_ref od _).mono ?_
  rintro e w3 ⟨q, rfl, R, hA⟩
  have PS := hid (show PRS (fun _ _ => False) w w3 b (rv (ordN od) none 0 0 q) from ⟨newM (ordN od), B, none, 0, q, R, rfl, HM.out.keep hA.kp, hA.ref, fun x hx => Nat.le_trans K1.out.size (HN.out x hx), fun x hx => (hA.own x hx).elim (fun e => by cases e) (fun e => Nat.le_trans (none_trans K1.out HK.out).size e), fun x hx hy => (hA.own x hy).elim (fun e => by cases e) (fun e => by have := HM.out.own_lt x hx; omega), none_trans (none_trans K1.out HK.out) hA.kp, fun X o e => e.elim⟩)
  clear hA HM HK HN K1
  go_wp2_with fail
  refine (through_any b _ sv n w _ HS.out PS.out).mono ?_
  rintro e w4 ⟨rfl, hK⟩
  have K4 := hid hK
  clear hK
  go_wp2_with fail
  go_ret
  exact ⟨rfl, K4.out⟩
end Go.Proofs.Ytbhheimedbfmeaa
