/- pagemap: Open refuses a page out of range. -/
import Derived.Test.YtbhheimedbfmeabPgP
import Derived.Test.YtbhheimedbfmeabPgU
import Derived.Test.YtbhheimedbfmeabKs
import Derived.Test.YtbhheimedbfmeabPgV
import Derived.Test.YtbhheimedbfmeabPgQ
namespace Go.Proofs.Ytbhheimedbfmeab
open Go.RowKit
set_option linter.unusedVariables false

set_option maxRecDepth 6000 in
set_option maxHeartbeats 8000000 in
theorem open_gone (gp gq : Nat) (m : Mp) (D : Nat → Nat) (ho : m.o ≤ 8) (hn : m.n ≤ 1024) (hd : ∃ r, m.n = r * 2 ^ m.o) (W0 w : World) (h : Told W0 w gp gq m m.o D) (hok : ∀ i, i < m.n → PgOk (m.pg i)) (a : Nat) (ha : a < m.n) (hlo : ∀ i, i < a → clampP m (m.pg i) = m.pg i) (hbad : ∃ x y, clampP m (m.pg a) = { m.pg a with nx := x, pv := y } ∧ (x ≠ (m.pg a).nx ∨ y ≠ (m.pg a).pv)) :
    Calls Try.prog 9 #[.int .i64 (m.o : Int), .slice (some ⟨gp, 0, none⟩) m.n m.n, .slice (some ⟨gq, 0, none⟩) m.o m.o] w fun e w' => e = .returned (.tuple #[.pointer none, .int .i64 7]) ∧ Kept none' w w' := by
  have HT := hid h
  have HD := hid hd
  have OK := hid hok
  have LO := hid hlo
  have BD := hid hbad
  clear hok hlo hbad
  have ho1 : ¬ (m.o : Int) < 0 := by omega
  have ho2 : ¬ (8 : Int) < (m.o : Int) := by omega
  have hn1 : ¬ (1024 : Int) < (m.n : Int) := by omega
  obtain ⟨z, hz⟩ : ∃ z, z = 2 ^ m.o := ⟨_, rfl⟩
  have hzi : (2 : Int) ^ m.o = (z : Int) := by rw [hz]; simp
  have hz1 : 1 ≤ z := by rw [hz]; exact pw_pos _
  have hz2 : z ≤ 256 := by rw [hz]; exact Nat.pow_le_pow_right (n := 2) (by decide) ho
  have hmz : (m.n : Int) % (z : Int) = 0 := by
    have := dv_mod hd
    rw [← hz] at this
    omega
  have hae := arr_eq
  have HZ := hid hz
  clear h hd hz
  go_enter Try.func9, Try.ntmps9
  go_wp2_with fail
  refine (new_a m.o ho w).mono ?_
  rintro e w1 ⟨b, B, rfl, hM, hK, hN⟩
  have M1 := hid hM
  have K1 := hid hK
  have N1 := hid hN
  clear hM hK hN
  go_wp2_with fail
  refine (mresize_any b B (newM m.o) m.n hn HD.out w1 M1.out).mono ?_
  rintro e w2 ⟨rfl, B2, hM, hK, hF⟩
  have M2 := hid hM
  have K2 := hid (show Kept none' w w2 from K1.out.trans hK (fun _ _ x => x) (fun x hx e => absurd (N1.out x e) (by omega)))
  have N2 := hid (show ∀ x, mown b B2 m.o x → w.heap.size ≤ x from fun x hx => (hF x hx).elim (fun h => N1.out x h) (fun h => Nat.le_trans K1.out.size h))
  clear hM hK hF M1 K1 N1
  go_wp2_with fail
  go_loopw [9, 10, 46] (fun x y i W => ∃ k : Nat, k ≤ a ∧ i = .int .i64 k ∧ Hid (∃ pg, MapAt W b B2 ⟨m.o, m.n, pg, (resizeM (newM m.o) m.n).wd⟩ ∧ (∀ j, j < k → pg j = m.pg j) ∧ Kept none' w W)) (fun _ _ i _ => m.n - (intOf i).toNat)
  case atStart => exact ⟨0, by omega, rfl, ⟨_, M2.out, fun j hj => absurd hj (by omega), K2.out⟩⟩
  case round =>
    clear M2 K2
    obtain ⟨k, hk, rfl, hR⟩ := hrel
    obtain ⟨pg, hM, hE, hK⟩ := hR.out
    have M3 := hid hM
    have E3 := hid hE
    have K3 := hid hK
    clear hM hE hK
    have hlt : k < m.n := by omega
    by_cases ek : ¬ k = a
    · have hka : k < a := by omega
      have hki : (k : Int) < (m.n : Int) := by omega
      obtain ⟨d0, d1, d2, d3, d4, d5, d6, d7, d8, d9, d10⟩ := (Row.kept HT.out.row K3.out (fun x => x)).cell k hlt
      obtain ⟨p, hp⟩ : ∃ p, p = m.pg k := ⟨_, rfl⟩
      rw [← hp] at d0 d1 d2 d3 d4 d5 d6 d7 d8 d9 d10
      have HP := hid hp
      have HLT := hid hlt
      have CL := hid (fun W (h : MapAt W b B2 ⟨m.o, m.n, pg, (resizeM (newM m.o) m.n).wd⟩) => clamped_any b B2 ⟨m.o, m.n, pg, (resizeM (newM m.o) m.n).wd⟩ p W h)
      rw [show clampP ⟨m.o, m.n, pg, (resizeM (newM m.o) m.n).wd⟩ p = p from by rw [hp]; exact LO.out k hka] at CL
      clear hp
      go_wp2_with fail
      obtain ⟨W5, hW5⟩ : ∃ W5, W5 = wr.alloc (.cells #[.int .i64 p.kd, .int .i64 p.od, .int .i64 p.cl, .int .i64 p.lv, .int .i64 p.nx, .int .i64 p.pv, .int .i64 p.fs, .int .u64 (p.b0 : Int), .int .u64 (p.b1 : Int), .int .u64 (p.b2 : Int), .int .u64 (p.b3 : Int)] 40) := ⟨_, rfl⟩
      rw [← hW5]
      have KW := hid (show Kept none' wr W5 by rw [hW5]; exact (Kept.refl none' wr).alloc _)
      have XP := hid (show W5.heap[wr.heap.size]? = some (pobj p) by rw [hW5]; exact heap_new _ _)
      have M5 := hid (M3.out.keep KW.out)
      clear hW5 d0 d1 d2 d3 d4 d5 d6 d7 d8 d9 d10
      obtain ⟨x0, x1, x2, x3, x4, x5, x6, x7, x8, x9, x10⟩ := box11 XP.out
      go_region_held3 (fun w' => w'.cell? ⟨wr.heap.size, 0, none⟩ = some (.int .i64 p.kd) ∧ w'.cell? ⟨wr.heap.size, 1, none⟩ = some (.int .i64 p.od) ∧ w'.cell? ⟨wr.heap.size, 2, none⟩ = some (.int .i64 p.cl) ∧ w'.cell? ⟨wr.heap.size, 3, none⟩ = some (.int .i64 p.lv) ∧ w'.cell? ⟨wr.heap.size, 4, none⟩ = some (.int .i64 p.nx) ∧ w'.cell? ⟨wr.heap.size, 5, none⟩ = some (.int .i64 p.pv) ∧ w'.cell? ⟨wr.heap.size, 6, none⟩ = some (.int .i64 p.fs) ∧ w'.cell? ⟨wr.heap.size, 7, none⟩ = some (.int .u64 (p.b0 : Int)) ∧ w'.cell? ⟨wr.heap.size, 8, none⟩ = some (.int .u64 (p.b1 : Int)) ∧ w'.cell? ⟨wr.heap.size, 9, none⟩ = some (.int .u64 (p.b2 : Int)) ∧ w'.cell? ⟨wr.heap.size, 10, none⟩ = some (.int .u64 (p.b3 : Int))) (first | with_reducible assumption | exact ⟨x0, x1, x2, x3, x4, x5, x6, x7, x8, x9, x10⟩) ((go_at_call 24; refine (CL.out _ (M5.out.keep (Kept.refl none' _).drew)).mono ?_; rintro e w6 ⟨rfl, hK6⟩; have K6 := hid (none_trans (Kept.refl none' W5).drew hK6); obtain ⟨x0, x1, x2, x3, x4, x5, x6, x7, x8, x9, x10⟩ := box11 (kept_boxQ K6.out XP.out); clear hK6))
      all_goals
        go_wp2_with fail
        have M6 := hid (M5.out.keep K6.out)
        obtain ⟨g, hg, hr⟩ := M6.out.has_row (show 0 < m.n by omega)
        have R6 := hid (show Row w6 g m.n pg from hr)
        have c1 := M6.out.c1 hg
        obtain ⟨d0, d1, d2, d3, d4, d5, d6, d7, d8, d9, d10⟩ := R6.out.cell k HLT.out
        have zz := RowC.froz R6.out
        have HG := hid hg
        have KK := hid (none_trans K3.out (none_trans KW.out K6.out))
        have M7 := hid (show MapAt (setP w6 g k p) b B2 ⟨m.o, m.n, upp pg k p, (resizeM (newM m.o) m.n).wd⟩ from M6.out.pages hg (setP_kept w6 g k p) (R6.out.put k HLT.out p) (fun i hi => by
          unfold upp
          split
          · rw [HP.out]; exact OK.out k HLT.out
          · exact M6.out.ok i hi))
        have K7 := hid (show Kept none' w (setP w6 g k p) from KK.out.trans (setP_kept w6 g k p) (fun _ _ x => x) (fun x hx e => absurd (N2.out x (.inr (.inl (e ▸ HG.out)))) (by omega)))
        clear hg hr
        go_region
        all_goals
          generalize hW7 : setP w6 g k p = W7 at M7 K7
          unfold setP at hW7
          rw [hW7]
          clear hW7 d0 d1 d2 d3 d4 d5 d6 d7 d8 d9 d10 zz c1
          go_wp2_with fail
          exact ⟨⟨k + 1, by omega, by simp, ⟨_, M7.out.keep (Kept.refl none' _).drew, fun j hj => by
            unfold upp
            by_cases e : j = k
            · rw [if_pos e, e]; exact HP.out
            · rw [if_neg e]; exact E3.out j (by omega), K7.out.drew⟩⟩, by simp [intOf]; omega⟩
    · obtain rfl : k = a := by omega
      clear ek
      have hki : (k : Int) < (m.n : Int) := by omega
      obtain ⟨d0, d1, d2, d3, d4, d5, d6, d7, d8, d9, d10⟩ := (Row.kept HT.out.row K3.out (fun x => x)).cell k hlt
      obtain ⟨p, hp⟩ : ∃ p, p = m.pg k := ⟨_, rfl⟩
      rw [← hp] at d0 d1 d2 d3 d4 d5 d6 d7 d8 d9 d10
      have HP := hid hp
      have HLT := hid hlt
      have CL := hid (fun W (h : MapAt W b B2 ⟨m.o, m.n, pg, (resizeM (newM m.o) m.n).wd⟩) => clamped_any b B2 ⟨m.o, m.n, pg, (resizeM (newM m.o) m.n).wd⟩ p W h)
      obtain ⟨x', y', hb1, hb2⟩ := BD.out
      rw [← hp] at hb1 hb2
      rw [show clampP ⟨m.o, m.n, pg, (resizeM (newM m.o) m.n).wd⟩ p = { p with nx := x', pv := y' } from hb1] at CL
      clear hb1
      clear hp
      go_wp2_with fail
      obtain ⟨W5, hW5⟩ : ∃ W5, W5 = wr.alloc (.cells #[.int .i64 p.kd, .int .i64 p.od, .int .i64 p.cl, .int .i64 p.lv, .int .i64 p.nx, .int .i64 p.pv, .int .i64 p.fs, .int .u64 (p.b0 : Int), .int .u64 (p.b1 : Int), .int .u64 (p.b2 : Int), .int .u64 (p.b3 : Int)] 40) := ⟨_, rfl⟩
      rw [← hW5]
      have KW := hid (show Kept none' wr W5 by rw [hW5]; exact (Kept.refl none' wr).alloc _)
      have XP := hid (show W5.heap[wr.heap.size]? = some (pobj p) by rw [hW5]; exact heap_new _ _)
      have M5 := hid (M3.out.keep KW.out)
      clear hW5 d0 d1 d2 d3 d4 d5 d6 d7 d8 d9 d10
      obtain ⟨x0, x1, x2, x3, x4, x5, x6, x7, x8, x9, x10⟩ := box11 XP.out
      by_cases e1 : p.nx = x'
      · subst e1
        have e2 : ¬ p.pv = y' := fun e => hb2.elim (fun h => h rfl) (fun h => h e.symm)
        clear hb2
        go_region_held3 (fun w' => w'.cell? ⟨wr.heap.size, 0, none⟩ = some (.int .i64 p.kd) ∧ w'.cell? ⟨wr.heap.size, 1, none⟩ = some (.int .i64 p.od) ∧ w'.cell? ⟨wr.heap.size, 2, none⟩ = some (.int .i64 p.cl) ∧ w'.cell? ⟨wr.heap.size, 3, none⟩ = some (.int .i64 p.lv) ∧ w'.cell? ⟨wr.heap.size, 4, none⟩ = some (.int .i64 p.nx) ∧ w'.cell? ⟨wr.heap.size, 5, none⟩ = some (.int .i64 p.pv) ∧ w'.cell? ⟨wr.heap.size, 6, none⟩ = some (.int .i64 p.fs) ∧ w'.cell? ⟨wr.heap.size, 7, none⟩ = some (.int .u64 (p.b0 : Int)) ∧ w'.cell? ⟨wr.heap.size, 8, none⟩ = some (.int .u64 (p.b1 : Int)) ∧ w'.cell? ⟨wr.heap.size, 9, none⟩ = some (.int .u64 (p.b2 : Int)) ∧ w'.cell? ⟨wr.heap.size, 10, none⟩ = some (.int .u64 (p.b3 : Int))) (first | with_reducible assumption | exact ⟨x0, x1, x2, x3, x4, x5, x6, x7, x8, x9, x10⟩) ((go_at_call 24; refine (CL.out _ (M5.out.keep (Kept.refl none' _).drew)).mono ?_; rintro e w6 ⟨rfl, hK6⟩; have K6 := hid (none_trans (Kept.refl none' W5).drew hK6); obtain ⟨x0, x1, x2, x3, x4, x5, x6, x7, x8, x9, x10⟩ := box11 (kept_boxQ K6.out XP.out); clear hK6))
        all_goals
          have K9 := hid (none_trans K3.out (none_trans KW.out K6.out))
          go_wp2_with fail
          exact ⟨rfl, .tuple #[.pointer none, .int .i64 7], by simp [results, Try.results9, go_sem], rfl, K9.out⟩
      · clear hb2
        go_region_held3 (fun w' => w'.cell? ⟨wr.heap.size, 0, none⟩ = some (.int .i64 p.kd) ∧ w'.cell? ⟨wr.heap.size, 1, none⟩ = some (.int .i64 p.od) ∧ w'.cell? ⟨wr.heap.size, 2, none⟩ = some (.int .i64 p.cl) ∧ w'.cell? ⟨wr.heap.size, 3, none⟩ = some (.int .i64 p.lv) ∧ w'.cell? ⟨wr.heap.size, 4, none⟩ = some (.int .i64 p.nx) ∧ w'.cell? ⟨wr.heap.size, 5, none⟩ = some (.int .i64 p.pv) ∧ w'.cell? ⟨wr.heap.size, 6, none⟩ = some (.int .i64 p.fs) ∧ w'.cell? ⟨wr.heap.size, 7, none⟩ = some (.int .u64 (p.b0 : Int)) ∧ w'.cell? ⟨wr.heap.size, 8, none⟩ = some (.int .u64 (p.b1 : Int)) ∧ w'.cell? ⟨wr.heap.size, 9, none⟩ = some (.int .u64 (p.b2 : Int)) ∧ w'.cell? ⟨wr.heap.size, 10, none⟩ = some (.int .u64 (p.b3 : Int))) (first | with_reducible assumption | exact ⟨x0, x1, x2, x3, x4, x5, x6, x7, x8, x9, x10⟩) ((go_at_call 24; refine (CL.out _ (M5.out.keep (Kept.refl none' _).drew)).mono ?_; rintro e w6 ⟨rfl, hK6⟩; have K6 := hid (none_trans (Kept.refl none' W5).drew hK6); obtain ⟨x0, x1, x2, x3, x4, x5, x6, x7, x8, x9, x10⟩ := box11 (kept_boxQ K6.out XP.out); clear hK6))
        all_goals
          have K9 := hid (none_trans K3.out (none_trans KW.out K6.out))
          go_wp2_with fail
          exact ⟨rfl, .tuple #[.pointer none, .int .i64 7], by simp [results, Try.results9, go_sem], rfl, K9.out⟩
end Go.Proofs.Ytbhheimedbfmeab
