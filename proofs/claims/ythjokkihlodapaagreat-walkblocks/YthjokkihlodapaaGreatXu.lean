import Derived.Test.YthjokkihlodapaaGreatXt
set_option maxRecDepth 1000000
set_option maxHeartbeats 80000000
/- pagemap: Open of data that came in. pagemap: Open refuses by numbers alone. pagemap: Open of data that came in: a pair row of another length. pagemap: Open of data that came in: a page out of range. -/
namespace Go.Proofs.YthjokkihlodapaaGreat.H
open Go.RowKit
set_option linter.unusedVariables false

set_option maxRecDepth 6000 in
set_option maxHeartbeats 8000000 in
theorem open_in (pv qv : Value) (ws : Nat → Value) (m : Mp) (ho : m.o ≤ 8) (hn : m.n ≤ 1024) (hd : ∃ r, m.n = r * 2 ^ m.o) (w : World) (hP : PagesIn w pv m.n m.pg) (hQ : PairsIn w qv m.o ws m.wd) (hok : ∀ i, i < m.n → clampP m (m.pg i) = m.pg i ∧ PgOk (m.pg i)) (hwd : ∀ k, k < m.o → (m.wd k).length = (m.n / 2 ^ (k + 1) + 63) / 64) :
    Calls Tryz.prog 48 #[.int .i64 (m.o : Int), pv, qv] w fun e w' => ∃ b, e = .returned (.tuple #[.pointer (some ⟨b, 0, none⟩), .int .i64 0]) ∧ Hid (∃ B', MapAt w' b B' ⟨m.o, m.n, m.pg, fun j => if j < m.o then ofW (m.wd j) (m.n / 2 ^ (j + 1)) else (resizeM (newM m.o) m.n).wd j⟩ ∧ (∀ x, mown b B' m.o x → w.heap.size ≤ x) ∧ Kept none' w w') := by
  obtain ⟨_, oa, oc, rfl, hpv⟩ := hP
  obtain ⟨_, oq, ocq, rfl, hqv⟩ := hQ
  have HPV := hid hpv
  have HQV := hid hqv
  have HD := hid hd
  have OK := hid hok
  have WD := hid hwd
  clear hok hwd
  have ho1 : ¬ (m.o : Int) < 0 := by omega
  have ho2 : ¬ (8 : Int) < (m.o : Int) := by omega
  have hn1 : ¬ (1024 : Int) < (m.n : Int) := by omega
  obtain ⟨z, hz⟩ : ∃ z, z = 2 ^ m.o := ⟨_, rfl⟩
  have hzi : (2 : Int) ^ m.o = (z : Int) := by rw [hz]; simp
  have hz1 : 1 ≤ z := by rw [hz]; exact pw_pos _
  have hz2 : z ≤ 256 := by rw [hz]; exact Nat.pow_le_pow_right (n := 2) (by decide) ho
  have hmz : (m.n : Int) % (z : Int) = 0 := by
    have := dv_mod hd
    rw [← hz] at this
    omega
  have hae := arr_eq
  have HZ := hid hz
  clear hd hz hpv hqv
  go_enter Tryz.func48, Tryz.ntmps48
  go_wp2_with fail
  refine (new_a m.o ho w).mono ?_
  rintro e w1 ⟨b, B, rfl, hM, hK, hN⟩
  have M1 := hid hM
  have K1 := hid hK
  have N1 := hid hN
  clear hM hK hN
  go_wp2_with fail
  refine (mresize_any b B (newM m.o) m.n hn HD.out w1 M1.out).mono ?_
  rintro e w2 ⟨rfl, B2, hM, hK, hF⟩
  have M2 := hid hM
  have K2 := hid (show Kept none' w w2 from K1.out.trans hK (fun _ _ x => x) (fun x hx e => absurd (N1.out x e) (by omega)))
  have N2 := hid (show ∀ x, mown b B2 m.o x → w.heap.size ≤ x from fun x hx => (hF x hx).elim (fun h => N1.out x h) (fun h => Nat.le_trans K1.out.size h))
  clear hM hK hF M1 K1 N1
  go_wp2_with fail
  go_loopw [9, 10, 46] (fun x y i W => ∃ k : Nat, k ≤ m.n ∧ i = .int .i64 k ∧ Hid (∃ pg, MapAt W b B2 ⟨m.o, m.n, pg, (resizeM (newM m.o) m.n).wd⟩ ∧ (∀ j, j < k → pg j = m.pg j) ∧ Kept none' w W)) (fun _ _ i _ => m.n - (intOf i).toNat)
  case atStart => exact ⟨0, by omega, rfl, ⟨_, M2.out, fun j hj => absurd hj (by omega), K2.out⟩⟩
  case round =>
    clear M2 K2
    obtain ⟨k, hk, rfl, hR⟩ := hrel
    obtain ⟨pg, hM, hE, hK⟩ := hR.out
    have M3 := hid hM
    have E3 := hid hE
    have K3 := hid hK
    clear hM hE hK
    by_cases hlt : k < m.n
    · have hki : (k : Int) < (m.n : Int) := by omega
      obtain ⟨bl, off, rfl, _, hrow⟩ := HPV.out.resolve_left (by omega)
      obtain ⟨d0, d1, d2, d3, d4, d5, d6, d7, d8, d9, d10⟩ := ((hrow k hlt).2).kept K3.out
      clear hrow
      obtain ⟨p, hp⟩ : ∃ p, p = m.pg k := ⟨_, rfl⟩
      rw [← hp] at d0 d1 d2 d3 d4 d5 d6 d7 d8 d9 d10
      have HP := hid hp
      have HLT := hid hlt
      have CL := hid (fun W (h : MapAt W b B2 ⟨m.o, m.n, pg, (resizeM (newM m.o) m.n).wd⟩) => clamped_any b B2 ⟨m.o, m.n, pg, (resizeM (newM m.o) m.n).wd⟩ p W h)
      rw [show clampP ⟨m.o, m.n, pg, (resizeM (newM m.o) m.n).wd⟩ p = p from by rw [hp]; exact (OK.out k hlt).1] at CL
      clear hp
      go_wp2_with fail
      obtain ⟨W5, hW5⟩ : ∃ W5, W5 = wr.alloc (.cells #[.int .i64 p.kd, .int .i64 p.od, .int .i64 p.cl, .int .i64 p.lv, .int .i64 p.nx, .int .i64 p.pv, .int .i64 p.fs, .int .u64 (p.b0 : Int), .int .u64 (p.b1 : Int), .int .u64 (p.b2 : Int), .int .u64 (p.b3 : Int)] 52) := ⟨_, rfl⟩
      rw [← hW5]
      have KW := hid (show Kept none' wr W5 by rw [hW5]; exact (Kept.refl none' wr).alloc _)
      have XP := hid (show W5.heap[wr.heap.size]? = some (pobj p) by rw [hW5]; exact heap_new _ _)
      have M5 := hid (M3.out.keep KW.out)
      clear hW5 d0 d1 d2 d3 d4 d5 d6 d7 d8 d9 d10
      obtain ⟨x0, x1, x2, x3, x4, x5, x6, x7, x8, x9, x10⟩ := box11 XP.out
      go_region_held3 (fun w' => w'.cell? ⟨wr.heap.size, 0, none⟩ = some (.int .i64 p.kd) ∧ w'.cell? ⟨wr.heap.size, 1, none⟩ = some (.int .i64 p.od) ∧ w'.cell? ⟨wr.heap.size, 2, none⟩ = some (.int .i64 p.cl) ∧ w'.cell? ⟨wr.heap.size, 3, none⟩ = some (.int .i64 p.lv) ∧ w'.cell? ⟨wr.heap.size, 4, none⟩ = some (.int .i64 p.nx) ∧ w'.cell? ⟨wr.heap.size, 5, none⟩ = some (.int .i64 p.pv) ∧ w'.cell? ⟨wr.heap.size, 6, none⟩ = some (.int .i64 p.fs) ∧ w'.cell? ⟨wr.heap.size, 7, none⟩ = some (.int .u64 (p.b0 : Int)) ∧ w'.cell? ⟨wr.heap.size, 8, none⟩ = some (.int .u64 (p.b1 : Int)) ∧ w'.cell? ⟨wr.heap.size, 9, none⟩ = some (.int .u64 (p.b2 : Int)) ∧ w'.cell? ⟨wr.heap.size, 10, none⟩ = some (.int .u64 (p.b3 : Int))) (first | with_reducible assumption | exact ⟨x0, x1, x2, x3, x4, x5, x6, x7, x8, x9, x10⟩) ((go_at_call 84; refine (CL.out _ (M5.out.keep (Kept.refl none' _).drew)).mono ?_; rintro e w6 ⟨rfl, hK6⟩; have K6 := hid (none_trans (Kept.refl none' W5).drew hK6); obtain ⟨x0, x1, x2, x3, x4, x5, x6, x7, x8, x9, x10⟩ := box11 (kept_boxQ K6.out XP.out); clear hK6))
      all_goals
        go_wp2_with fail
        have M6 := hid (M5.out.keep K6.out)
        obtain ⟨g, hg, hr⟩ := M6.out.has_row (show 0 < m.n by omega)
        have R6 := hid (show Row w6 g m.n pg from hr)
        have c1 := M6.out.c1 hg
        obtain ⟨d0, d1, d2, d3, d4, d5, d6, d7, d8, d9, d10⟩ := R6.out.cell k HLT.out
        have zz := RowC.froz R6.out
        have HG := hid hg
        have KK := hid (none_trans K3.out (none_trans KW.out K6.out))
        have M7 := hid (show MapAt (setP w6 g k p) b B2 ⟨m.o, m.n, upp pg k p, (resizeM (newM m.o) m.n).wd⟩ from M6.out.pages hg (setP_kept w6 g k p) (R6.out.put k HLT.out p) (fun i hi => by
          unfold upp
          split
          · rw [HP.out]; exact (OK.out k HLT.out).2
          · exact M6.out.ok i hi))
        have K7 := hid (show Kept none' w (setP w6 g k p) from KK.out.trans (setP_kept w6 g k p) (fun _ _ x => x) (fun x hx e => absurd (N2.out x (.inr (.inl (e ▸ HG.out)))) (by omega)))
        clear hg hr
        go_region
        all_goals
          generalize hW7 : setP w6 g k p = W7 at M7 K7
          unfold setP at hW7
          rw [hW7]
          clear hW7 d0 d1 d2 d3 d4 d5 d6 d7 d8 d9 d10 zz c1
          go_wp2_with fail
          exact ⟨⟨k + 1, by omega, by simp, ⟨_, M7.out.keep (Kept.refl none' _).drew, fun j hj => by
            unfold upp
            by_cases e : j = k
            · rw [if_pos e, e]; exact HP.out
            · rw [if_neg e]; exact E3.out j (by omega), K7.out.drew⟩⟩, by simp [intOf]; omega⟩
    · have hki : ¬ (k : Int) < (m.n : Int) := by omega
      have M4 := hid (show MapAt wr b B2 ⟨m.o, m.n, m.pg, (resizeM (newM m.o) m.n).wd⟩ from MapAt.congr (pg' := m.pg) M3.out (fun i hi => E3.out i (by have h1 : i < m.n := hi; omega)))
      have I0 := hid (show ∃ B', MapAt wr b B' ⟨m.o, m.n, m.pg, fun j => if j < 0 then ofW (m.wd j) (m.n / 2 ^ (j + 1)) else (resizeM (newM m.o) m.n).wd j⟩ ∧ (∀ x, mown b B' m.o x → w.heap.size ≤ x) ∧ Kept none' w wr from ⟨B2, by simpa using M4.out, N2.out, K3.out⟩)
      clear M3 E3 K3 M4 N2 hR
      go_wp2_with fail
      go_loopw [11, 12, 66] (fun x y i W => ∃ a : Nat, a ≤ m.o ∧ i = .int .i64 a ∧ Hid (∃ B', MapAt W b B' ⟨m.o, m.n, m.pg, fun j => if j < a then ofW (m.wd j) (m.n / 2 ^ (j + 1)) else (resizeM (newM m.o) m.n).wd j⟩ ∧ (∀ x, mown b B' m.o x → w.heap.size ≤ x) ∧ Kept none' w W)) (fun _ _ i _ => m.o - (intOf i).toNat)
      case atStart => exact ⟨0, by omega, rfl, I0⟩
      case round =>
        clear I0
        obtain ⟨a, ha, rfl, hR⟩ := hrel
        obtain ⟨B3, hM, hN, hK⟩ := hR.out
        have M3 := hid hM
        have N3 := hid hN
        have K3 := hid hK
        clear hM hN hK
        by_cases hlt2 : a < m.o
        · have hai : (a : Int) < (m.o : Int) := by omega
          obtain ⟨bl2, f2, rfl, _, hrow2⟩ := HQV.out.resolve_left (by omega)
          obtain ⟨hwc0, hsrc⟩ := hrow2 a hlt2
          have SR0 := hid hsrc
          obtain ⟨_, ao, acp, hws, _⟩ := hsrc
          rw [hws] at SR0
          have hwc : wr.cell? ⟨bl2, f2 + a, none⟩ = some (.slice ao (m.wd a).length acp) := by rw [← hws]; exact K3.out.cell (fun x => x) hwc0
          clear hrow2 hwc0 hws
          obtain ⟨q, hq, cp⟩ := M3.out.cp a hlt2
          obtain ⟨cq, c2⟩ := M3.out.c2 hq
          obtain ⟨cw, hcw⟩ : ∃ cw, cw = (resizeM (newM m.o) m.n).wd a := ⟨_, rfl⟩
          have S3 := hid (show SetAt wr (B3.S a) (B3.C a) (m.n / 2 ^ (a + 1)) cw from by
            have := M3.out.set a hlt2
            simp only [Nat.lt_irrefl, if_false] at this
            rw [hcw]; exact this)
          have hL : cw.length = (m.wd a).length := by rw [S3.out.len, (WD.out a hlt2)]
          have HLT2 := hid hlt2
          have HQ := hid hq
          have SR := hid (SR0.out.kept K3.out (fun _ _ x => x))
          clear hcw hlt2 hq
          go_wp2_with fail
          refine (words_any (B3.S a) (B3.C a) _ cw wr S3.out).mono ?_
          rintro e w4 ⟨rfl, -, hK, hsz⟩
          rw [hL]
          have K4 := hid (show Kept none' wr w4 from hK)
          have M4 := hid (M3.out.keep hK)
          have S4 := hid (S3.out.kept hK (fun x => x) (fun x => x))
          have SR4 := hid (SR.out.kept hK (fun _ _ x => x))
          have cp4 := K4.out.cell (fun x => x) cp
          have c24 := K4.out.cell (fun x => x) c2
          clear hK hsz hL cp c2 hwc
          go_wp2_with fail
          obtain ⟨d, hd⟩ : ∃ d, d = m.n / 2 ^ (a + 1) := ⟨_, rfl⟩
          have hdl : d ≤ 1024 := by rw [hd]; exact Nat.le_trans (Nat.div_le_self _ _) hn
          rw [← hd] at S4
          have HDD := hid hd
          clear hd
          have hbq : b ≠ q := by
            obtain ⟨cq', hb', hp'⟩ := M4.out.hb
            rw [HQ.out] at hp'
            obtain ⟨ds, hqd, _⟩ := hp'
            exact ty_ne hb' hqd (by decide)
          have zq : ∀ W, Kept none' w4 W → W.frozen? ⟨q, a, none⟩ = false := fun W kk => by
            obtain ⟨cq', hb', hp'⟩ := (M4.out.keep kk).hb
            rw [HQ.out] at hp'
            obtain ⟨ds, hqd, _⟩ := hp'
            simp [World.frozen?, hqd]
          have ZQ := hid zq
          have LN := hid (fun W (kk : Kept none' w4 W) => len_any (B3.S a) (B3.C a) d cw W (S4.out.kept kk (fun x => x) (fun x => x)))
          have OF := hid (fun W (kk : Kept none' w4 W) => of_any _ (m.wd a) (d : Int) (by omega) (by omega) W (SR4.out.kept kk (fun _ _ x => x)))
          rw [fit_nat d (by omega)] at OF
          clear zq
          have c2d : w4.drew.cell? ⟨b, 2, none⟩ = some (.slice (some ⟨q, 0, none⟩) m.o cq) := c24
          have FIN := hid (show ∀ w5, Kept none' w4 w5 → SetAt w5 (w4.heap.size + 1) w4.heap.size d (ofW (m.wd a) d) → ∃ B', MapAt (w5.setCell ⟨q, a, none⟩ (.pointer (some ⟨w4.heap.size + 1, 0, none⟩))) b B' ⟨m.o, m.n, m.pg, fun j => if j < a + 1 then ofW (m.wd j) (m.n / 2 ^ (j + 1)) else (resizeM (newM m.o) m.n).wd j⟩ ∧ (∀ x, mown b B' m.o x → w.heap.size ≤ x) ∧ Kept none' w (w5.setCell ⟨q, a, none⟩ (.pointer (some ⟨w4.heap.size + 1, 0, none⟩))) from fun w5 k5 s5 => by
            have hz4 : w.heap.size ≤ w4.heap.size := Nat.le_trans K3.out.size K4.out.size
            have hwq : w.heap.size ≤ q := N3.out q (.inr (.inr (.inl HQ.out)))
            have mn := M4.out.newset (k := a) HLT2.out HQ.out k5 (HDD.out ▸ s5)
            refine ⟨⟨B3.g, B3.P, upn B3.S a (w4.heap.size + 1), upn B3.C a w4.heap.size⟩, ?_, ?_, (none_trans K3.out (none_trans K4.out k5)).setNew (p := ⟨q, a, none⟩) (fun e => absurd e (Nat.not_lt.2 hwq)) _⟩
            · have e : (upw (fun j => if j < a then ofW (m.wd j) (m.n / 2 ^ (j + 1)) else (resizeM (newM m.o) m.n).wd j) a (ofW (m.wd a) (m.n / 2 ^ (a + 1)))) = (fun j => if j < a + 1 then ofW (m.wd j) (m.n / 2 ^ (j + 1)) else (resizeM (newM m.o) m.n).wd j) := by
                funext j
                unfold upw
                by_cases e1 : j = a
                · subst e1
                  rw [if_pos rfl, if_pos (by omega)]
                · rw [if_neg e1]
                  show (if j < a then ofW (m.wd j) (m.n / 2 ^ (j + 1)) else (resizeM (newM m.o) m.n).wd j) = _
                  by_cases e2 : j < a
                  · rw [if_pos e2, if_pos (by omega)]
                  · rw [if_neg e2, if_neg (by omega)]
              rw [← e]
              exact mn
            · rintro x (e | e | e | ⟨j, hj, e | e⟩)
              · exact N3.out x (.inl e)
              · exact N3.out x (.inr (.inl e))
              · exact N3.out x (.inr (.inr (.inl e)))
              · have e : x = upn B3.S a (w4.heap.size + 1) j := e
                unfold upn at e
                by_cases e1 : j = a
                · rw [if_pos e1] at e; omega
                · rw [if_neg e1] at e; exact N3.out x (.inr (.inr (.inr ⟨j, hj, .inl e⟩)))
              · have e : x = upn B3.C a w4.heap.size j := e
                unfold upn at e
                by_cases e1 : j = a
                · rw [if_pos e1] at e; omega
                · rw [if_neg e1] at e; exact N3.out x (.inr (.inr (.inr ⟨j, hj, .inr e⟩))))
          go_region_with (first | (go_at_call 86; refine (LN.out _ (Kept.refl none' w4).drew).mono ?_; rintro e w' ⟨rfl, rfl⟩) | (go_at_call 70; refine (OF.out _ (Kept.refl none' w4).drew).mono ?_; rintro e w5 ⟨rfl, hS5, hK5, hsz5⟩; have K5 := hid (show Kept none' w4 w5 from (Kept.refl none' w4).drew.trans hK5 (fun _ _ x => x) (fun _ _ x => x)); have c25 := K5.out.cell (fun x => x) c24; have cp5 := K5.out.cell (fun x => x) cp4; have zq5 := ZQ.out w5 K5.out; have HS5 := hid hS5; clear hS5 hK5 hsz5))
          all_goals
            have F5 := hid (FIN.out w5 K5.out HS5.out)
            generalize hW8 : w5.setCell ⟨q, a, none⟩ (.pointer (some ⟨w4.heap.size + 1, 0, none⟩)) = W8 at F5
            try rw [hW8]
            clear hW8
            go_wp2_with fail
            exact ⟨⟨a + 1, by omega, by simp, F5⟩, by simp [intOf]; omega⟩
        · have hai : ¬ (a : Int) < (m.o : Int) := by omega
          go_wp2_with fail
          have ea : a = m.o := by omega
          have M9 := M3.out
          rw [ea] at M9
          have PO := hid (show ∃ B', MapAt wr b B' ⟨m.o, m.n, m.pg, fun j => if j < m.o then ofW (m.wd j) (m.n / 2 ^ (j + 1)) else (resizeM (newM m.o) m.n).wd j⟩ ∧ (∀ x, mown b B' m.o x → w.heap.size ≤ x) ∧ Kept none' w wr from ⟨B3, M9, N3.out, K3.out⟩)
          first
            | exact ⟨rfl, .tuple #[.pointer (some ⟨b, 0, none⟩), .int .i64 0], by simp [results, Tryz.results48, go_sem], b, rfl, PO⟩
            | exact ⟨rfl, .tuple #[.pointer (some ⟨b, 0, none⟩), .int .i64 0], by simp [results, Tryz.results48, go_sem], ⟨b, rfl⟩, PO⟩
            | exact ⟨rfl, .tuple #[.pointer (some ⟨b, 0, none⟩), .int .i64 0], by simp [results, Tryz.results48, go_sem], b, PO, rfl⟩
/-- The numbers that Open asks of. -/
def numsOk (od : Int) (n no : Nat) : Prop := 0 ≤ od ∧ od ≤ 8 ∧ n ≤ 1024 ∧ n % 2 ^ od.toNat = 0 ∧ (no : Int) = od
set_option maxRecDepth 6000 in
set_option maxHeartbeats 2000000 in
theorem open_nums (od : Int) (n no : Nat) (pa qa : Option Addr) (pc qc : Nat) (hn : n ≤ 9223372036854775807) (hno : no ≤ 9223372036854775807) (h : ¬ numsOk od n no) (w : World) :
    Calls Tryz.prog 48 #[.int .i64 od, .slice pa n pc, .slice qa no qc] w fun e w' => e = .returned (.tuple #[.pointer none, .int .i64 7]) ∧ Kept none' w w' := by
  by_cases h1 : od < 0
  · clear h
    go_enter Tryz.func48, Tryz.ntmps48
    go_wp2_with fail
    exact ⟨rfl, .tuple #[.pointer none, .int .i64 7], by simp [results, Tryz.results48, go_sem], rfl, Kept.refl none' _⟩
  by_cases h2 : 8 < od
  · clear h
    go_enter Tryz.func48, Tryz.ntmps48
    go_wp2_with fail
    exact ⟨rfl, .tuple #[.pointer none, .int .i64 7], by simp [results, Tryz.results48, go_sem], rfl, Kept.refl none' _⟩
  by_cases h3 : 1024 < (n : Int)
  · clear h
    go_enter Tryz.func48, Tryz.ntmps48
    go_wp2_with fail
    exact ⟨rfl, .tuple #[.pointer none, .int .i64 7], by simp [results, Tryz.results48, go_sem], rfl, Kept.refl none' _⟩
  obtain ⟨o, rfl⟩ := Int.eq_ofNat_of_zero_le (show 0 ≤ od by omega)
  obtain ⟨z, hz⟩ : ∃ z, z = 2 ^ o := ⟨_, rfl⟩
  have hzi : (2 : Int) ^ o = (z : Int) := by rw [hz]; simp
  have hz1 : 1 ≤ z := by rw [hz]; exact pw_pos _
  have hz2 : z ≤ 256 := by rw [hz]; exact Nat.le_trans (Nat.pow_le_pow_right (n := 2) (by decide) (show o ≤ 8 by omega)) (by decide)
  obtain ⟨r, hr⟩ : ∃ r, r = n % z := ⟨_, rfl⟩
  have hri : (n : Int) % (z : Int) = (r : Int) := by rw [hr]; simp
  have hc : ¬ (r : Int) = 0 ∨ ((r : Int) = 0 ∧ ¬ (no : Int) = (o : Int)) := by
    by_cases e : r = 0
    · right
      refine ⟨by omega, fun e2 => h ⟨by omega, by omega, by omega, ?_, e2⟩⟩
      rw [Int.toNat_natCast, ← hz, ← hr]
      exact e
    · left; omega
  clear h hz hr
  rcases hc with h4 | ⟨h4, h5⟩
  all_goals
    go_enter Tryz.func48, Tryz.ntmps48
    go_wp2_with fail
    exact ⟨rfl, .tuple #[.pointer none, .int .i64 7], by simp [results, Tryz.results48, go_sem], rfl, Kept.refl none' _⟩
set_option maxRecDepth 6000 in
set_option maxHeartbeats 8000000 in
theorem open_row (pv qv : Value) (ws : Nat → Value) (m : Mp) (ho : m.o ≤ 8) (hn : m.n ≤ 1024) (hd : ∃ r, m.n = r * 2 ^ m.o) (w : World) (hP : PagesIn w pv m.n m.pg) (hQ : PairsIn w qv m.o ws m.wd) (hok : ∀ i, i < m.n → clampP m (m.pg i) = m.pg i ∧ PgOk (m.pg i)) (t : Nat) (ht : t < m.o) (hwd : ∀ k, k < t → (m.wd k).length = (m.n / 2 ^ (k + 1) + 63) / 64) (hbad : ¬ (m.wd t).length = (m.n / 2 ^ (t + 1) + 63) / 64) :
    Calls Tryz.prog 48 #[.int .i64 (m.o : Int), pv, qv] w fun e w' => e = .returned (.tuple #[.pointer none, .int .i64 7]) ∧ Kept none' w w' := by
  obtain ⟨_, oa, oc, rfl, hpv⟩ := hP
  obtain ⟨_, oq, ocq, rfl, hqv⟩ := hQ
  have HPV := hid hpv
  have HQV := hid hqv
  have HD := hid hd
  have OK := hid hok
  have WD := hid hwd
  have BD := hid hbad
  clear hok hwd hbad
  have ho1 : ¬ (m.o : Int) < 0 := by omega
  have ho2 : ¬ (8 : Int) < (m.o : Int) := by omega
  have hn1 : ¬ (1024 : Int) < (m.n : Int) := by omega
  obtain ⟨z, hz⟩ : ∃ z, z = 2 ^ m.o := ⟨_, rfl⟩
  have hzi : (2 : Int) ^ m.o = (z : Int) := by rw [hz]; simp
  have hz1 : 1 ≤ z := by rw [hz]; exact pw_pos _
  have hz2 : z ≤ 256 := by rw [hz]; exact Nat.pow_le_pow_right (n := 2) (by decide) ho
  have hmz : (m.n : Int) % (z : Int) = 0 := by
    have := dv_mod hd
    rw [← hz] at this
    omega
  have hae := arr_eq
  have HZ := hid hz
  clear hd hz hpv hqv
  go_enter Tryz.func48, Tryz.ntmps48
  go_wp2_with fail
  refine (new_a m.o ho w).mono ?_
  rintro e w1 ⟨b, B, rfl, hM, hK, hN⟩
  have M1 := hid hM
  have K1 := hid hK
  have N1 := hid hN
  clear hM hK hN
  go_wp2_with fail
  refine (mresize_any b B (newM m.o) m.n hn HD.out w1 M1.out).mono ?_
  rintro e w2 ⟨rfl, B2, hM, hK, hF⟩
  have M2 := hid hM
  have K2 := hid (show Kept none' w w2 from K1.out.trans hK (fun _ _ x => x) (fun x hx e => absurd (N1.out x e) (by omega)))
  have N2 := hid (show ∀ x, mown b B2 m.o x → w.heap.size ≤ x from fun x hx => (hF x hx).elim (fun h => N1.out x h) (fun h => Nat.le_trans K1.out.size h))
  clear hM hK hF M1 K1 N1
  go_wp2_with fail
  go_loopw [9, 10, 46] (fun x y i W => ∃ k : Nat, k ≤ m.n ∧ i = .int .i64 k ∧ Hid (∃ pg, MapAt W b B2 ⟨m.o, m.n, pg, (resizeM (newM m.o) m.n).wd⟩ ∧ (∀ j, j < k → pg j = m.pg j) ∧ Kept none' w W)) (fun _ _ i _ => m.n - (intOf i).toNat)
  case atStart => exact ⟨0, by omega, rfl, ⟨_, M2.out, fun j hj => absurd hj (by omega), K2.out⟩⟩
  case round =>
    clear M2 K2
    obtain ⟨k, hk, rfl, hR⟩ := hrel
    obtain ⟨pg, hM, hE, hK⟩ := hR.out
    have M3 := hid hM
    have E3 := hid hE
    have K3 := hid hK
    clear hM hE hK
    by_cases hlt : k < m.n
    · have hki : (k : Int) < (m.n : Int) := by omega
      obtain ⟨bl, off, rfl, _, hrow⟩ := HPV.out.resolve_left (by omega)
      obtain ⟨d0, d1, d2, d3, d4, d5, d6, d7, d8, d9, d10⟩ := ((hrow k hlt).2).kept K3.out
      clear hrow
      obtain ⟨p, hp⟩ : ∃ p, p = m.pg k := ⟨_, rfl⟩
      rw [← hp] at d0 d1 d2 d3 d4 d5 d6 d7 d8 d9 d10
      have HP := hid hp
      have HLT := hid hlt
      have CL := hid (fun W (h : MapAt W b B2 ⟨m.o, m.n, pg, (resizeM (newM m.o) m.n).wd⟩) => clamped_any b B2 ⟨m.o, m.n, pg, (resizeM (newM m.o) m.n).wd⟩ p W h)
      rw [show clampP ⟨m.o, m.n, pg, (resizeM (newM m.o) m.n).wd⟩ p = p from by rw [hp]; exact (OK.out k hlt).1] at CL
      clear hp
      go_wp2_with fail
      obtain ⟨W5, hW5⟩ : ∃ W5, W5 = wr.alloc (.cells #[.int .i64 p.kd, .int .i64 p.od, .int .i64 p.cl, .int .i64 p.lv, .int .i64 p.nx, .int .i64 p.pv, .int .i64 p.fs, .int .u64 (p.b0 : Int), .int .u64 (p.b1 : Int), .int .u64 (p.b2 : Int), .int .u64 (p.b3 : Int)] 52) := ⟨_, rfl⟩
      rw [← hW5]
      have KW := hid (show Kept none' wr W5 by rw [hW5]; exact (Kept.refl none' wr).alloc _)
      have XP := hid (show W5.heap[wr.heap.size]? = some (pobj p) by rw [hW5]; exact heap_new _ _)
      have M5 := hid (M3.out.keep KW.out)
      clear hW5 d0 d1 d2 d3 d4 d5 d6 d7 d8 d9 d10
      obtain ⟨x0, x1, x2, x3, x4, x5, x6, x7, x8, x9, x10⟩ := box11 XP.out
      go_region_held3 (fun w' => w'.cell? ⟨wr.heap.size, 0, none⟩ = some (.int .i64 p.kd) ∧ w'.cell? ⟨wr.heap.size, 1, none⟩ = some (.int .i64 p.od) ∧ w'.cell? ⟨wr.heap.size, 2, none⟩ = some (.int .i64 p.cl) ∧ w'.cell? ⟨wr.heap.size, 3, none⟩ = some (.int .i64 p.lv) ∧ w'.cell? ⟨wr.heap.size, 4, none⟩ = some (.int .i64 p.nx) ∧ w'.cell? ⟨wr.heap.size, 5, none⟩ = some (.int .i64 p.pv) ∧ w'.cell? ⟨wr.heap.size, 6, none⟩ = some (.int .i64 p.fs) ∧ w'.cell? ⟨wr.heap.size, 7, none⟩ = some (.int .u64 (p.b0 : Int)) ∧ w'.cell? ⟨wr.heap.size, 8, none⟩ = some (.int .u64 (p.b1 : Int)) ∧ w'.cell? ⟨wr.heap.size, 9, none⟩ = some (.int .u64 (p.b2 : Int)) ∧ w'.cell? ⟨wr.heap.size, 10, none⟩ = some (.int .u64 (p.b3 : Int))) (first | with_reducible assumption | exact ⟨x0, x1, x2, x3, x4, x5, x6, x7, x8, x9, x10⟩) ((go_at_call 84; refine (CL.out _ (M5.out.keep (Kept.refl none' _).drew)).mono ?_; rintro e w6 ⟨rfl, hK6⟩; have K6 := hid (none_trans (Kept.refl none' W5).drew hK6); obtain ⟨x0, x1, x2, x3, x4, x5, x6, x7, x8, x9, x10⟩ := box11 (kept_boxQ K6.out XP.out); clear hK6))
      all_goals
        go_wp2_with fail
        have M6 := hid (M5.out.keep K6.out)
        obtain ⟨g, hg, hr⟩ := M6.out.has_row (show 0 < m.n by omega)
        have R6 := hid (show Row w6 g m.n pg from hr)
        have c1 := M6.out.c1 hg
        obtain ⟨d0, d1, d2, d3, d4, d5, d6, d7, d8, d9, d10⟩ := R6.out.cell k HLT.out
        have zz := RowC.froz R6.out
        have HG := hid hg
        have KK := hid (none_trans K3.out (none_trans KW.out K6.out))
        have M7 := hid (show MapAt (setP w6 g k p) b B2 ⟨m.o, m.n, upp pg k p, (resizeM (newM m.o) m.n).wd⟩ from M6.out.pages hg (setP_kept w6 g k p) (R6.out.put k HLT.out p) (fun i hi => by
          unfold upp
          split
          · rw [HP.out]; exact (OK.out k HLT.out).2
          · exact M6.out.ok i hi))
        have K7 := hid (show Kept none' w (setP w6 g k p) from KK.out.trans (setP_kept w6 g k p) (fun _ _ x => x) (fun x hx e => absurd (N2.out x (.inr (.inl (e ▸ HG.out)))) (by omega)))
        clear hg hr
        go_region
        all_goals
          generalize hW7 : setP w6 g k p = W7 at M7 K7
          unfold setP at hW7
          rw [hW7]
          clear hW7 d0 d1 d2 d3 d4 d5 d6 d7 d8 d9 d10 zz c1
          go_wp2_with fail
          exact ⟨⟨k + 1, by omega, by simp, ⟨_, M7.out.keep (Kept.refl none' _).drew, fun j hj => by
            unfold upp
            by_cases e : j = k
            · rw [if_pos e, e]; exact HP.out
            · rw [if_neg e]; exact E3.out j (by omega), K7.out.drew⟩⟩, by simp [intOf]; omega⟩
    · have hki : ¬ (k : Int) < (m.n : Int) := by omega
      have M4 := hid (show MapAt wr b B2 ⟨m.o, m.n, m.pg, (resizeM (newM m.o) m.n).wd⟩ from MapAt.congr (pg' := m.pg) M3.out (fun i hi => E3.out i (by have h1 : i < m.n := hi; omega)))
      have I0 := hid (show ∃ B', MapAt wr b B' ⟨m.o, m.n, m.pg, fun j => if j < 0 then ofW (m.wd j) (m.n / 2 ^ (j + 1)) else (resizeM (newM m.o) m.n).wd j⟩ ∧ (∀ x, mown b B' m.o x → w.heap.size ≤ x) ∧ Kept none' w wr from ⟨B2, by simpa using M4.out, N2.out, K3.out⟩)
      clear M3 E3 K3 M4 N2 hR
      go_wp2_with fail
      go_loopw [11, 12, 66] (fun x y i W => ∃ a : Nat, a ≤ t ∧ i = .int .i64 a ∧ Hid (∃ B', MapAt W b B' ⟨m.o, m.n, m.pg, fun j => if j < a then ofW (m.wd j) (m.n / 2 ^ (j + 1)) else (resizeM (newM m.o) m.n).wd j⟩ ∧ (∀ x, mown b B' m.o x → w.heap.size ≤ x) ∧ Kept none' w W)) (fun _ _ i _ => m.o - (intOf i).toNat)
      case atStart => exact ⟨0, by omega, rfl, I0⟩
      case round =>
        clear I0
        obtain ⟨a, ha, rfl, hR⟩ := hrel
        obtain ⟨B3, hM, hN, hK⟩ := hR.out
        have M3 := hid hM
        have N3 := hid hN
        have K3 := hid hK
        clear hM hN hK
        by_cases ea : ¬ a = t
        · have hlt2 : a < m.o := by omega
          have hai : (a : Int) < (m.o : Int) := by omega
          obtain ⟨bl2, f2, rfl, _, hrow2⟩ := HQV.out.resolve_left (by omega)
          obtain ⟨hwc0, hsrc⟩ := hrow2 a hlt2
          have SR0 := hid hsrc
          obtain ⟨_, ao, acp, hws, _⟩ := hsrc
          rw [hws] at SR0
          have hwc : wr.cell? ⟨bl2, f2 + a, none⟩ = some (.slice ao (m.wd a).length acp) := by rw [← hws]; exact K3.out.cell (fun x => x) hwc0
          clear hrow2 hwc0 hws
          obtain ⟨q, hq, cp⟩ := M3.out.cp a hlt2
          obtain ⟨cq, c2⟩ := M3.out.c2 hq
          obtain ⟨cw, hcw⟩ : ∃ cw, cw = (resizeM (newM m.o) m.n).wd a := ⟨_, rfl⟩
          have S3 := hid (show SetAt wr (B3.S a) (B3.C a) (m.n / 2 ^ (a + 1)) cw from by
            have := M3.out.set a hlt2
            simp only [Nat.lt_irrefl, if_false] at this
            rw [hcw]; exact this)
          have hL : cw.length = (m.wd a).length := by rw [S3.out.len, (WD.out a (by omega))]
          have HLT2 := hid hlt2
          have HQ := hid hq
          have SR := hid (SR0.out.kept K3.out (fun _ _ x => x))
          clear hcw hlt2 hq
          go_wp2_with fail
          refine (words_any (B3.S a) (B3.C a) _ cw wr S3.out).mono ?_
          rintro e w4 ⟨rfl, -, hK, hsz⟩
          rw [hL]
          have K4 := hid (show Kept none' wr w4 from hK)
          have M4 := hid (M3.out.keep hK)
          have S4 := hid (S3.out.kept hK (fun x => x) (fun x => x))
          have SR4 := hid (SR.out.kept hK (fun _ _ x => x))
          have cp4 := K4.out.cell (fun x => x) cp
          have c24 := K4.out.cell (fun x => x) c2
          clear hK hsz hL cp c2 hwc
          go_wp2_with fail
          obtain ⟨d, hd⟩ : ∃ d, d = m.n / 2 ^ (a + 1) := ⟨_, rfl⟩
          have hdl : d ≤ 1024 := by rw [hd]; exact Nat.le_trans (Nat.div_le_self _ _) hn
          rw [← hd] at S4
          have HDD := hid hd
          clear hd
          have hbq : b ≠ q := by
            obtain ⟨cq', hb', hp'⟩ := M4.out.hb
            rw [HQ.out] at hp'
            obtain ⟨ds, hqd, _⟩ := hp'
            exact ty_ne hb' hqd (by decide)
          have zq : ∀ W, Kept none' w4 W → W.frozen? ⟨q, a, none⟩ = false := fun W kk => by
            obtain ⟨cq', hb', hp'⟩ := (M4.out.keep kk).hb
            rw [HQ.out] at hp'
            obtain ⟨ds, hqd, _⟩ := hp'
            simp [World.frozen?, hqd]
          have ZQ := hid zq
          have LN := hid (fun W (kk : Kept none' w4 W) => len_any (B3.S a) (B3.C a) d cw W (S4.out.kept kk (fun x => x) (fun x => x)))
          have OF := hid (fun W (kk : Kept none' w4 W) => of_any _ (m.wd a) (d : Int) (by omega) (by omega) W (SR4.out.kept kk (fun _ _ x => x)))
          rw [fit_nat d (by omega)] at OF
          clear zq
          have c2d : w4.drew.cell? ⟨b, 2, none⟩ = some (.slice (some ⟨q, 0, none⟩) m.o cq) := c24
          have FIN := hid (show ∀ w5, Kept none' w4 w5 → SetAt w5 (w4.heap.size + 1) w4.heap.size d (ofW (m.wd a) d) → ∃ B', MapAt (w5.setCell ⟨q, a, none⟩ (.pointer (some ⟨w4.heap.size + 1, 0, none⟩))) b B' ⟨m.o, m.n, m.pg, fun j => if j < a + 1 then ofW (m.wd j) (m.n / 2 ^ (j + 1)) else (resizeM (newM m.o) m.n).wd j⟩ ∧ (∀ x, mown b B' m.o x → w.heap.size ≤ x) ∧ Kept none' w (w5.setCell ⟨q, a, none⟩ (.pointer (some ⟨w4.heap.size + 1, 0, none⟩))) from fun w5 k5 s5 => by
            have hz4 : w.heap.size ≤ w4.heap.size := Nat.le_trans K3.out.size K4.out.size
            have hwq : w.heap.size ≤ q := N3.out q (.inr (.inr (.inl HQ.out)))
            have mn := M4.out.newset (k := a) HLT2.out HQ.out k5 (HDD.out ▸ s5)
            refine ⟨⟨B3.g, B3.P, upn B3.S a (w4.heap.size + 1), upn B3.C a w4.heap.size⟩, ?_, ?_, (none_trans K3.out (none_trans K4.out k5)).setNew (p := ⟨q, a, none⟩) (fun e => absurd e (Nat.not_lt.2 hwq)) _⟩
            · have e : (upw (fun j => if j < a then ofW (m.wd j) (m.n / 2 ^ (j + 1)) else (resizeM (newM m.o) m.n).wd j) a (ofW (m.wd a) (m.n / 2 ^ (a + 1)))) = (fun j => if j < a + 1 then ofW (m.wd j) (m.n / 2 ^ (j + 1)) else (resizeM (newM m.o) m.n).wd j) := by
                funext j
                unfold upw
                by_cases e1 : j = a
                · subst e1
                  rw [if_pos rfl, if_pos (by omega)]
                · rw [if_neg e1]
                  show (if j < a then ofW (m.wd j) (m.n / 2 ^ (j + 1)) else (resizeM (newM m.o) m.n).wd j) = _
                  by_cases e2 : j < a
                  · rw [if_pos e2, if_pos (by omega)]
                  · rw [if_neg e2, if_neg (by omega)]
              rw [← e]
              exact mn
            · rintro x (e | e | e | ⟨j, hj, e | e⟩)
              · exact N3.out x (.inl e)
              · exact N3.out x (.inr (.inl e))
              · exact N3.out x (.inr (.inr (.inl e)))
              · have e : x = upn B3.S a (w4.heap.size + 1) j := e
                unfold upn at e
                by_cases e1 : j = a
                · rw [if_pos e1] at e; omega
                · rw [if_neg e1] at e; exact N3.out x (.inr (.inr (.inr ⟨j, hj, .inl e⟩)))
              · have e : x = upn B3.C a w4.heap.size j := e
                unfold upn at e
                by_cases e1 : j = a
                · rw [if_pos e1] at e; omega
                · rw [if_neg e1] at e; exact N3.out x (.inr (.inr (.inr ⟨j, hj, .inr e⟩))))
          go_region_with (first | (go_at_call 86; refine (LN.out _ (Kept.refl none' w4).drew).mono ?_; rintro e w' ⟨rfl, rfl⟩) | (go_at_call 70; refine (OF.out _ (Kept.refl none' w4).drew).mono ?_; rintro e w5 ⟨rfl, hS5, hK5, hsz5⟩; have K5 := hid (show Kept none' w4 w5 from (Kept.refl none' w4).drew.trans hK5 (fun _ _ x => x) (fun _ _ x => x)); have c25 := K5.out.cell (fun x => x) c24; have cp5 := K5.out.cell (fun x => x) cp4; have zq5 := ZQ.out w5 K5.out; have HS5 := hid hS5; clear hS5 hK5 hsz5))
          all_goals
            have F5 := hid (FIN.out w5 K5.out HS5.out)
            generalize hW8 : w5.setCell ⟨q, a, none⟩ (.pointer (some ⟨w4.heap.size + 1, 0, none⟩)) = W8 at F5
            try rw [hW8]
            clear hW8
            go_wp2_with fail
            exact ⟨⟨a + 1, by omega, by simp, F5⟩, by simp [intOf]; omega⟩
        · obtain rfl : a = t := by omega
          have hlt2 : a < m.o := ht
          have hai : (a : Int) < (m.o : Int) := by omega
          obtain ⟨bl2, f2, rfl, _, hrow2⟩ := HQV.out.resolve_left (by omega)
          obtain ⟨hwc0, hsrc⟩ := hrow2 a hlt2
          have SR0 := hid hsrc
          obtain ⟨_, ao, acp, hws, _⟩ := hsrc
          rw [hws] at SR0
          have hwc : wr.cell? ⟨bl2, f2 + a, none⟩ = some (.slice ao (m.wd a).length acp) := by rw [← hws]; exact K3.out.cell (fun x => x) hwc0
          clear hrow2 hwc0 hws
          obtain ⟨q, hq, cp⟩ := M3.out.cp a hlt2
          obtain ⟨cq, c2⟩ := M3.out.c2 hq
          obtain ⟨cw, hcw⟩ : ∃ cw, cw = (resizeM (newM m.o) m.n).wd a := ⟨_, rfl⟩
          have S3 := hid (show SetAt wr (B3.S a) (B3.C a) (m.n / 2 ^ (a + 1)) cw from by
            have := M3.out.set a hlt2
            simp only [Nat.lt_irrefl, if_false] at this
            rw [hcw]; exact this)
          have hL : ¬ ((m.wd a).length : Int) = (cw.length : Int) := by
            have h1 := S3.out.len
            have h2 := BD.out
            omega
          have hcw16 : cw.length ≤ 16 := by
            have h1 := S3.out.len
            have h2 : m.n / 2 ^ (a + 1) ≤ 1024 := Nat.le_trans (Nat.div_le_self _ _) hn
            omega
          have HLT2 := hid hlt2
          have HQ := hid hq
          have SR := hid (SR0.out.kept K3.out (fun _ _ x => x))
          clear hcw hlt2 hq
          go_wp2_with fail
          refine (words_any (B3.S a) (B3.C a) _ cw wr S3.out).mono ?_
          rintro e w4 ⟨rfl, -, hK, hsz⟩
          have K4 := hid (none_trans K3.out (show Kept none' wr w4 from hK))
          clear hK hsz
          go_wp2_with fail
          exact ⟨rfl, .tuple #[.pointer none, .int .i64 7], by simp [results, Tryz.results48, go_sem], rfl, K4.out⟩
set_option maxRecDepth 6000 in
set_option maxHeartbeats 16000000 in
theorem open_bad (pv qv : Value) (m : Mp) (qa : Option Addr) (qc : Nat) (hqv : qv = .slice qa m.o qc) (ho : m.o ≤ 8) (hn : m.n ≤ 1024) (hd : ∃ r, m.n = r * 2 ^ m.o) (w : World) (hP : PagesIn w pv m.n m.pg) (a : Nat) (ha : a < m.n) (hok : ∀ i, i < a → clampP m (m.pg i) = m.pg i ∧ PgOk (m.pg i))
    (hbad : ∃ c0 c1 c2 c3 c4 c5 c6, clampP m (m.pg a) = { m.pg a with kd := c0, od := c1, cl := c2, lv := c3, nx := c4, pv := c5, fs := c6 } ∧ ((¬ (m.pg a).kd = c0) ∨ ((m.pg a).kd = c0 ∧ ¬ (m.pg a).od = c1) ∨ ((m.pg a).kd = c0 ∧ (m.pg a).od = c1 ∧ ¬ (m.pg a).cl = c2) ∨ ((m.pg a).kd = c0 ∧ (m.pg a).od = c1 ∧ (m.pg a).cl = c2 ∧ ¬ (m.pg a).lv = c3) ∨ ((m.pg a).kd = c0 ∧ (m.pg a).od = c1 ∧ (m.pg a).cl = c2 ∧ (m.pg a).lv = c3 ∧ ¬ (m.pg a).nx = c4) ∨ ((m.pg a).kd = c0 ∧ (m.pg a).od = c1 ∧ (m.pg a).cl = c2 ∧ (m.pg a).lv = c3 ∧ (m.pg a).nx = c4 ∧ ¬ (m.pg a).pv = c5) ∨ ((m.pg a).kd = c0 ∧ (m.pg a).od = c1 ∧ (m.pg a).cl = c2 ∧ (m.pg a).lv = c3 ∧ (m.pg a).nx = c4 ∧ (m.pg a).pv = c5 ∧ ¬ (m.pg a).fs = c6))) :
    Calls Tryz.prog 48 #[.int .i64 (m.o : Int), pv, qv] w fun e w' => e = .returned (.tuple #[.pointer none, .int .i64 7]) ∧ Kept none' w w' := by
  subst hqv
  obtain ⟨_, oa, oc, rfl, hpv⟩ := hP
  have HPV := hid hpv
  have HD := hid hd
  have OK := hid hok
  have BD := hid hbad
  clear hok hbad
  have ho1 : ¬ (m.o : Int) < 0 := by omega
  have ho2 : ¬ (8 : Int) < (m.o : Int) := by omega
  have hn1 : ¬ (1024 : Int) < (m.n : Int) := by omega
  obtain ⟨z, hz⟩ : ∃ z, z = 2 ^ m.o := ⟨_, rfl⟩
  have hzi : (2 : Int) ^ m.o = (z : Int) := by rw [hz]; simp
  have hz1 : 1 ≤ z := by rw [hz]; exact pw_pos _
  have hz2 : z ≤ 256 := by rw [hz]; exact Nat.pow_le_pow_right (n := 2) (by decide) ho
  have hmz : (m.n : Int) % (z : Int) = 0 := by
    have := dv_mod hd
    rw [← hz] at this
    omega
  have hae := arr_eq
  have HZ := hid hz
  clear hd hz hpv
  go_enter Tryz.func48, Tryz.ntmps48
  go_wp2_with fail
  refine (new_a m.o ho w).mono ?_
  rintro e w1 ⟨b, B, rfl, hM, hK, hN⟩
  have M1 := hid hM
  have K1 := hid hK
  have N1 := hid hN
  clear hM hK hN
  go_wp2_with fail
  refine (mresize_any b B (newM m.o) m.n hn HD.out w1 M1.out).mono ?_
  rintro e w2 ⟨rfl, B2, hM, hK, hF⟩
  have M2 := hid hM
  have K2 := hid (show Kept none' w w2 from K1.out.trans hK (fun _ _ x => x) (fun x hx e => absurd (N1.out x e) (by omega)))
  have N2 := hid (show ∀ x, mown b B2 m.o x → w.heap.size ≤ x from fun x hx => (hF x hx).elim (fun h => N1.out x h) (fun h => Nat.le_trans K1.out.size h))
  clear hM hK hF M1 K1 N1
  go_wp2_with fail
  go_loopw [9, 10, 46] (fun x y i W => ∃ k : Nat, k ≤ a ∧ i = .int .i64 k ∧ Hid (∃ pg, MapAt W b B2 ⟨m.o, m.n, pg, (resizeM (newM m.o) m.n).wd⟩ ∧ (∀ j, j < k → pg j = m.pg j) ∧ Kept none' w W)) (fun _ _ i _ => m.n - (intOf i).toNat)
  case atStart => exact ⟨0, by omega, rfl, ⟨_, M2.out, fun j hj => absurd hj (by omega), K2.out⟩⟩
  case round =>
    clear M2 K2
    obtain ⟨k, hk, rfl, hR⟩ := hrel
    obtain ⟨pg, hM, hE, hK⟩ := hR.out
    have M3 := hid hM
    have E3 := hid hE
    have K3 := hid hK
    clear hM hE hK
    have hlt : k < m.n := by omega
    by_cases ek : ¬ k = a
    · have hka : k < a := by omega
      have hki : (k : Int) < (m.n : Int) := by omega
      obtain ⟨bl, off, rfl, _, hrow⟩ := HPV.out.resolve_left (by omega)
      obtain ⟨d0, d1, d2, d3, d4, d5, d6, d7, d8, d9, d10⟩ := ((hrow k hlt).2).kept K3.out
      clear hrow
      obtain ⟨p, hp⟩ : ∃ p, p = m.pg k := ⟨_, rfl⟩
      rw [← hp] at d0 d1 d2 d3 d4 d5 d6 d7 d8 d9 d10
      have HP := hid hp
      have HLT := hid hlt
      have CL := hid (fun W (h : MapAt W b B2 ⟨m.o, m.n, pg, (resizeM (newM m.o) m.n).wd⟩) => clamped_any b B2 ⟨m.o, m.n, pg, (resizeM (newM m.o) m.n).wd⟩ p W h)
      rw [show clampP ⟨m.o, m.n, pg, (resizeM (newM m.o) m.n).wd⟩ p = p from by rw [hp]; exact (OK.out k hka).1] at CL
      clear hp
      go_wp2_with fail
      obtain ⟨W5, hW5⟩ : ∃ W5, W5 = wr.alloc (.cells #[.int .i64 p.kd, .int .i64 p.od, .int .i64 p.cl, .int .i64 p.lv, .int .i64 p.nx, .int .i64 p.pv, .int .i64 p.fs, .int .u64 (p.b0 : Int), .int .u64 (p.b1 : Int), .int .u64 (p.b2 : Int), .int .u64 (p.b3 : Int)] 52) := ⟨_, rfl⟩
      rw [← hW5]
      have KW := hid (show Kept none' wr W5 by rw [hW5]; exact (Kept.refl none' wr).alloc _)
      have XP := hid (show W5.heap[wr.heap.size]? = some (pobj p) by rw [hW5]; exact heap_new _ _)
      have M5 := hid (M3.out.keep KW.out)
      clear hW5 d0 d1 d2 d3 d4 d5 d6 d7 d8 d9 d10
      obtain ⟨x0, x1, x2, x3, x4, x5, x6, x7, x8, x9, x10⟩ := box11 XP.out
      go_region_held3 (fun w' => w'.cell? ⟨wr.heap.size, 0, none⟩ = some (.int .i64 p.kd) ∧ w'.cell? ⟨wr.heap.size, 1, none⟩ = some (.int .i64 p.od) ∧ w'.cell? ⟨wr.heap.size, 2, none⟩ = some (.int .i64 p.cl) ∧ w'.cell? ⟨wr.heap.size, 3, none⟩ = some (.int .i64 p.lv) ∧ w'.cell? ⟨wr.heap.size, 4, none⟩ = some (.int .i64 p.nx) ∧ w'.cell? ⟨wr.heap.size, 5, none⟩ = some (.int .i64 p.pv) ∧ w'.cell? ⟨wr.heap.size, 6, none⟩ = some (.int .i64 p.fs) ∧ w'.cell? ⟨wr.heap.size, 7, none⟩ = some (.int .u64 (p.b0 : Int)) ∧ w'.cell? ⟨wr.heap.size, 8, none⟩ = some (.int .u64 (p.b1 : Int)) ∧ w'.cell? ⟨wr.heap.size, 9, none⟩ = some (.int .u64 (p.b2 : Int)) ∧ w'.cell? ⟨wr.heap.size, 10, none⟩ = some (.int .u64 (p.b3 : Int))) (first | with_reducible assumption | exact ⟨x0, x1, x2, x3, x4, x5, x6, x7, x8, x9, x10⟩) ((go_at_call 84; refine (CL.out _ (M5.out.keep (Kept.refl none' _).drew)).mono ?_; rintro e w6 ⟨rfl, hK6⟩; have K6 := hid (none_trans (Kept.refl none' W5).drew hK6); obtain ⟨x0, x1, x2, x3, x4, x5, x6, x7, x8, x9, x10⟩ := box11 (kept_boxQ K6.out XP.out); clear hK6))
      all_goals
        go_wp2_with fail
        have M6 := hid (M5.out.keep K6.out)
        obtain ⟨g, hg, hr⟩ := M6.out.has_row (show 0 < m.n by omega)
        have R6 := hid (show Row w6 g m.n pg from hr)
        have c1 := M6.out.c1 hg
        obtain ⟨d0, d1, d2, d3, d4, d5, d6, d7, d8, d9, d10⟩ := R6.out.cell k HLT.out
        have zz := RowC.froz R6.out
        have HG := hid hg
        have KK := hid (none_trans K3.out (none_trans KW.out K6.out))
        have M7 := hid (show MapAt (setP w6 g k p) b B2 ⟨m.o, m.n, upp pg k p, (resizeM (newM m.o) m.n).wd⟩ from M6.out.pages hg (setP_kept w6 g k p) (R6.out.put k HLT.out p) (fun i hi => by
          unfold upp
          split
          · rw [HP.out]; exact (OK.out k hka).2
          · exact M6.out.ok i hi))
        have K7 := hid (show Kept none' w (setP w6 g k p) from KK.out.trans (setP_kept w6 g k p) (fun _ _ x => x) (fun x hx e => absurd (N2.out x (.inr (.inl (e ▸ HG.out)))) (by omega)))
        clear hg hr
        go_region
        all_goals
          generalize hW7 : setP w6 g k p = W7 at M7 K7
          unfold setP at hW7
          rw [hW7]
          clear hW7 d0 d1 d2 d3 d4 d5 d6 d7 d8 d9 d10 zz c1
          go_wp2_with fail
          exact ⟨⟨k + 1, by omega, by simp, ⟨_, M7.out.keep (Kept.refl none' _).drew, fun j hj => by
            unfold upp
            by_cases e : j = k
            · rw [if_pos e, e]; exact HP.out
            · rw [if_neg e]; exact E3.out j (by omega), K7.out.drew⟩⟩, by simp [intOf]; omega⟩
    · obtain rfl : k = a := by omega
      clear ek
      have hki : (k : Int) < (m.n : Int) := by omega
      obtain ⟨bl, off, rfl, _, hrow⟩ := HPV.out.resolve_left (by omega)
      obtain ⟨d0, d1, d2, d3, d4, d5, d6, d7, d8, d9, d10⟩ := ((hrow k hlt).2).kept K3.out
      clear hrow
      obtain ⟨p, hp⟩ : ∃ p, p = m.pg k := ⟨_, rfl⟩
      rw [← hp] at d0 d1 d2 d3 d4 d5 d6 d7 d8 d9 d10
      have HP := hid hp
      have HLT := hid hlt
      have CL := hid (fun W (h : MapAt W b B2 ⟨m.o, m.n, pg, (resizeM (newM m.o) m.n).wd⟩) => clamped_any b B2 ⟨m.o, m.n, pg, (resizeM (newM m.o) m.n).wd⟩ p W h)
      obtain ⟨c0, c1, c2, c3, c4, c5, c6, hb1, hb2⟩ := BD.out
      rw [← hp] at hb1 hb2
      rw [show clampP ⟨m.o, m.n, pg, (resizeM (newM m.o) m.n).wd⟩ p = { p with kd := c0, od := c1, cl := c2, lv := c3, nx := c4, pv := c5, fs := c6 } from hb1] at CL
      clear hb1
      clear hp
      go_wp2_with fail
      obtain ⟨W5, hW5⟩ : ∃ W5, W5 = wr.alloc (.cells #[.int .i64 p.kd, .int .i64 p.od, .int .i64 p.cl, .int .i64 p.lv, .int .i64 p.nx, .int .i64 p.pv, .int .i64 p.fs, .int .u64 (p.b0 : Int), .int .u64 (p.b1 : Int), .int .u64 (p.b2 : Int), .int .u64 (p.b3 : Int)] 52) := ⟨_, rfl⟩
      rw [← hW5]
      have KW := hid (show Kept none' wr W5 by rw [hW5]; exact (Kept.refl none' wr).alloc _)
      have XP := hid (show W5.heap[wr.heap.size]? = some (pobj p) by rw [hW5]; exact heap_new _ _)
      have M5 := hid (M3.out.keep KW.out)
      clear hW5 d0 d1 d2 d3 d4 d5 d6 d7 d8 d9 d10
      obtain ⟨x0, x1, x2, x3, x4, x5, x6, x7, x8, x9, x10⟩ := box11 XP.out
      rcases hb2 with ne | ⟨e0, ne⟩ | ⟨e0, e1, ne⟩ | ⟨e0, e1, e2, ne⟩ | ⟨e0, e1, e2, e3, ne⟩ | ⟨e0, e1, e2, e3, e4, ne⟩ | ⟨e0, e1, e2, e3, e4, e5, ne⟩
      · have hne := ne
        clear ne
        go_region_held3 (fun w' => w'.cell? ⟨wr.heap.size, 0, none⟩ = some (.int .i64 p.kd) ∧ w'.cell? ⟨wr.heap.size, 1, none⟩ = some (.int .i64 p.od) ∧ w'.cell? ⟨wr.heap.size, 2, none⟩ = some (.int .i64 p.cl) ∧ w'.cell? ⟨wr.heap.size, 3, none⟩ = some (.int .i64 p.lv) ∧ w'.cell? ⟨wr.heap.size, 4, none⟩ = some (.int .i64 p.nx) ∧ w'.cell? ⟨wr.heap.size, 5, none⟩ = some (.int .i64 p.pv) ∧ w'.cell? ⟨wr.heap.size, 6, none⟩ = some (.int .i64 p.fs) ∧ w'.cell? ⟨wr.heap.size, 7, none⟩ = some (.int .u64 (p.b0 : Int)) ∧ w'.cell? ⟨wr.heap.size, 8, none⟩ = some (.int .u64 (p.b1 : Int)) ∧ w'.cell? ⟨wr.heap.size, 9, none⟩ = some (.int .u64 (p.b2 : Int)) ∧ w'.cell? ⟨wr.heap.size, 10, none⟩ = some (.int .u64 (p.b3 : Int))) (first | with_reducible assumption | exact ⟨x0, x1, x2, x3, x4, x5, x6, x7, x8, x9, x10⟩) ((go_at_call 84; refine (CL.out _ (M5.out.keep (Kept.refl none' _).drew)).mono ?_; rintro e w6 ⟨rfl, hK6⟩; have K6 := hid (none_trans (Kept.refl none' W5).drew hK6); obtain ⟨x0, x1, x2, x3, x4, x5, x6, x7, x8, x9, x10⟩ := box11 (kept_boxQ K6.out XP.out); clear hK6))
        all_goals
          have K9 := hid (none_trans K3.out (none_trans KW.out K6.out))
          go_wp2_with fail
          exact ⟨rfl, .tuple #[.pointer none, .int .i64 7], by simp [results, Tryz.results48, go_sem], rfl, K9.out⟩
      · subst e0
        have hne := ne
        clear ne
        go_region_held3 (fun w' => w'.cell? ⟨wr.heap.size, 0, none⟩ = some (.int .i64 p.kd) ∧ w'.cell? ⟨wr.heap.size, 1, none⟩ = some (.int .i64 p.od) ∧ w'.cell? ⟨wr.heap.size, 2, none⟩ = some (.int .i64 p.cl) ∧ w'.cell? ⟨wr.heap.size, 3, none⟩ = some (.int .i64 p.lv) ∧ w'.cell? ⟨wr.heap.size, 4, none⟩ = some (.int .i64 p.nx) ∧ w'.cell? ⟨wr.heap.size, 5, none⟩ = some (.int .i64 p.pv) ∧ w'.cell? ⟨wr.heap.size, 6, none⟩ = some (.int .i64 p.fs) ∧ w'.cell? ⟨wr.heap.size, 7, none⟩ = some (.int .u64 (p.b0 : Int)) ∧ w'.cell? ⟨wr.heap.size, 8, none⟩ = some (.int .u64 (p.b1 : Int)) ∧ w'.cell? ⟨wr.heap.size, 9, none⟩ = some (.int .u64 (p.b2 : Int)) ∧ w'.cell? ⟨wr.heap.size, 10, none⟩ = some (.int .u64 (p.b3 : Int))) (first | with_reducible assumption | exact ⟨x0, x1, x2, x3, x4, x5, x6, x7, x8, x9, x10⟩) ((go_at_call 84; refine (CL.out _ (M5.out.keep (Kept.refl none' _).drew)).mono ?_; rintro e w6 ⟨rfl, hK6⟩; have K6 := hid (none_trans (Kept.refl none' W5).drew hK6); obtain ⟨x0, x1, x2, x3, x4, x5, x6, x7, x8, x9, x10⟩ := box11 (kept_boxQ K6.out XP.out); clear hK6))
        all_goals
          have K9 := hid (none_trans K3.out (none_trans KW.out K6.out))
          go_wp2_with fail
          exact ⟨rfl, .tuple #[.pointer none, .int .i64 7], by simp [results, Tryz.results48, go_sem], rfl, K9.out⟩
      · subst e0 e1
        have hne := ne
        clear ne
        go_region_held3 (fun w' => w'.cell? ⟨wr.heap.size, 0, none⟩ = some (.int .i64 p.kd) ∧ w'.cell? ⟨wr.heap.size, 1, none⟩ = some (.int .i64 p.od) ∧ w'.cell? ⟨wr.heap.size, 2, none⟩ = some (.int .i64 p.cl) ∧ w'.cell? ⟨wr.heap.size, 3, none⟩ = some (.int .i64 p.lv) ∧ w'.cell? ⟨wr.heap.size, 4, none⟩ = some (.int .i64 p.nx) ∧ w'.cell? ⟨wr.heap.size, 5, none⟩ = some (.int .i64 p.pv) ∧ w'.cell? ⟨wr.heap.size, 6, none⟩ = some (.int .i64 p.fs) ∧ w'.cell? ⟨wr.heap.size, 7, none⟩ = some (.int .u64 (p.b0 : Int)) ∧ w'.cell? ⟨wr.heap.size, 8, none⟩ = some (.int .u64 (p.b1 : Int)) ∧ w'.cell? ⟨wr.heap.size, 9, none⟩ = some (.int .u64 (p.b2 : Int)) ∧ w'.cell? ⟨wr.heap.size, 10, none⟩ = some (.int .u64 (p.b3 : Int))) (first | with_reducible assumption | exact ⟨x0, x1, x2, x3, x4, x5, x6, x7, x8, x9, x10⟩) ((go_at_call 84; refine (CL.out _ (M5.out.keep (Kept.refl none' _).drew)).mono ?_; rintro e w6 ⟨rfl, hK6⟩; have K6 := hid (none_trans (Kept.refl none' W5).drew hK6); obtain ⟨x0, x1, x2, x3, x4, x5, x6, x7, x8, x9, x10⟩ := box11 (kept_boxQ K6.out XP.out); clear hK6))
        all_goals
          have K9 := hid (none_trans K3.out (none_trans KW.out K6.out))
          go_wp2_with fail
          exact ⟨rfl, .tuple #[.pointer none, .int .i64 7], by simp [results, Tryz.results48, go_sem], rfl, K9.out⟩
      · subst e0 e1 e2
        have hne := ne
        clear ne
        go_region_held3 (fun w' => w'.cell? ⟨wr.heap.size, 0, none⟩ = some (.int .i64 p.kd) ∧ w'.cell? ⟨wr.heap.size, 1, none⟩ = some (.int .i64 p.od) ∧ w'.cell? ⟨wr.heap.size, 2, none⟩ = some (.int .i64 p.cl) ∧ w'.cell? ⟨wr.heap.size, 3, none⟩ = some (.int .i64 p.lv) ∧ w'.cell? ⟨wr.heap.size, 4, none⟩ = some (.int .i64 p.nx) ∧ w'.cell? ⟨wr.heap.size, 5, none⟩ = some (.int .i64 p.pv) ∧ w'.cell? ⟨wr.heap.size, 6, none⟩ = some (.int .i64 p.fs) ∧ w'.cell? ⟨wr.heap.size, 7, none⟩ = some (.int .u64 (p.b0 : Int)) ∧ w'.cell? ⟨wr.heap.size, 8, none⟩ = some (.int .u64 (p.b1 : Int)) ∧ w'.cell? ⟨wr.heap.size, 9, none⟩ = some (.int .u64 (p.b2 : Int)) ∧ w'.cell? ⟨wr.heap.size, 10, none⟩ = some (.int .u64 (p.b3 : Int))) (first | with_reducible assumption | exact ⟨x0, x1, x2, x3, x4, x5, x6, x7, x8, x9, x10⟩) ((go_at_call 84; refine (CL.out _ (M5.out.keep (Kept.refl none' _).drew)).mono ?_; rintro e w6 ⟨rfl, hK6⟩; have K6 := hid (none_trans (Kept.refl none' W5).drew hK6); obtain ⟨x0, x1, x2, x3, x4, x5, x6, x7, x8, x9, x10⟩ := box11 (kept_boxQ K6.out XP.out); clear hK6))
        all_goals
          have K9 := hid (none_trans K3.out (none_trans KW.out K6.out))
          go_wp2_with fail
          exact ⟨rfl, .tuple #[.pointer none, .int .i64 7], by simp [results, Tryz.results48, go_sem], rfl, K9.out⟩
      · subst e0 e1 e2 e3
        have hne := ne
        clear ne
        go_region_held3 (fun w' => w'.cell? ⟨wr.heap.size, 0, none⟩ = some (.int .i64 p.kd) ∧ w'.cell? ⟨wr.heap.size, 1, none⟩ = some (.int .i64 p.od) ∧ w'.cell? ⟨wr.heap.size, 2, none⟩ = some (.int .i64 p.cl) ∧ w'.cell? ⟨wr.heap.size, 3, none⟩ = some (.int .i64 p.lv) ∧ w'.cell? ⟨wr.heap.size, 4, none⟩ = some (.int .i64 p.nx) ∧ w'.cell? ⟨wr.heap.size, 5, none⟩ = some (.int .i64 p.pv) ∧ w'.cell? ⟨wr.heap.size, 6, none⟩ = some (.int .i64 p.fs) ∧ w'.cell? ⟨wr.heap.size, 7, none⟩ = some (.int .u64 (p.b0 : Int)) ∧ w'.cell? ⟨wr.heap.size, 8, none⟩ = some (.int .u64 (p.b1 : Int)) ∧ w'.cell? ⟨wr.heap.size, 9, none⟩ = some (.int .u64 (p.b2 : Int)) ∧ w'.cell? ⟨wr.heap.size, 10, none⟩ = some (.int .u64 (p.b3 : Int))) (first | with_reducible assumption | exact ⟨x0, x1, x2, x3, x4, x5, x6, x7, x8, x9, x10⟩) ((go_at_call 84; refine (CL.out _ (M5.out.keep (Kept.refl none' _).drew)).mono ?_; rintro e w6 ⟨rfl, hK6⟩; have K6 := hid (none_trans (Kept.refl none' W5).drew hK6); obtain ⟨x0, x1, x2, x3, x4, x5, x6, x7, x8, x9, x10⟩ := box11 (kept_boxQ K6.out XP.out); clear hK6))
        all_goals
          have K9 := hid (none_trans K3.out (none_trans KW.out K6.out))
          go_wp2_with fail
          exact ⟨rfl, .tuple #[.pointer none, .int .i64 7], by simp [results, Tryz.results48, go_sem], rfl, K9.out⟩
      · subst e0 e1 e2 e3 e4
        have hne := ne
        clear ne
        go_region_held3 (fun w' => w'.cell? ⟨wr.heap.size, 0, none⟩ = some (.int .i64 p.kd) ∧ w'.cell? ⟨wr.heap.size, 1, none⟩ = some (.int .i64 p.od) ∧ w'.cell? ⟨wr.heap.size, 2, none⟩ = some (.int .i64 p.cl) ∧ w'.cell? ⟨wr.heap.size, 3, none⟩ = some (.int .i64 p.lv) ∧ w'.cell? ⟨wr.heap.size, 4, none⟩ = some (.int .i64 p.nx) ∧ w'.cell? ⟨wr.heap.size, 5, none⟩ = some (.int .i64 p.pv) ∧ w'.cell? ⟨wr.heap.size, 6, none⟩ = some (.int .i64 p.fs) ∧ w'.cell? ⟨wr.heap.size, 7, none⟩ = some (.int .u64 (p.b0 : Int)) ∧ w'.cell? ⟨wr.heap.size, 8, none⟩ = some (.int .u64 (p.b1 : Int)) ∧ w'.cell? ⟨wr.heap.size, 9, none⟩ = some (.int .u64 (p.b2 : Int)) ∧ w'.cell? ⟨wr.heap.size, 10, none⟩ = some (.int .u64 (p.b3 : Int))) (first | with_reducible assumption | exact ⟨x0, x1, x2, x3, x4, x5, x6, x7, x8, x9, x10⟩) ((go_at_call 84; refine (CL.out _ (M5.out.keep (Kept.refl none' _).drew)).mono ?_; rintro e w6 ⟨rfl, hK6⟩; have K6 := hid (none_trans (Kept.refl none' W5).drew hK6); obtain ⟨x0, x1, x2, x3, x4, x5, x6, x7, x8, x9, x10⟩ := box11 (kept_boxQ K6.out XP.out); clear hK6))
        all_goals
          have K9 := hid (none_trans K3.out (none_trans KW.out K6.out))
          go_wp2_with fail
          exact ⟨rfl, .tuple #[.pointer none, .int .i64 7], by simp [results, Tryz.results48, go_sem], rfl, K9.out⟩
      · subst e0 e1 e2 e3 e4 e5
        have hne := ne
        clear ne
        go_region_held3 (fun w' => w'.cell? ⟨wr.heap.size, 0, none⟩ = some (.int .i64 p.kd) ∧ w'.cell? ⟨wr.heap.size, 1, none⟩ = some (.int .i64 p.od) ∧ w'.cell? ⟨wr.heap.size, 2, none⟩ = some (.int .i64 p.cl) ∧ w'.cell? ⟨wr.heap.size, 3, none⟩ = some (.int .i64 p.lv) ∧ w'.cell? ⟨wr.heap.size, 4, none⟩ = some (.int .i64 p.nx) ∧ w'.cell? ⟨wr.heap.size, 5, none⟩ = some (.int .i64 p.pv) ∧ w'.cell? ⟨wr.heap.size, 6, none⟩ = some (.int .i64 p.fs) ∧ w'.cell? ⟨wr.heap.size, 7, none⟩ = some (.int .u64 (p.b0 : Int)) ∧ w'.cell? ⟨wr.heap.size, 8, none⟩ = some (.int .u64 (p.b1 : Int)) ∧ w'.cell? ⟨wr.heap.size, 9, none⟩ = some (.int .u64 (p.b2 : Int)) ∧ w'.cell? ⟨wr.heap.size, 10, none⟩ = some (.int .u64 (p.b3 : Int))) (first | with_reducible assumption | exact ⟨x0, x1, x2, x3, x4, x5, x6, x7, x8, x9, x10⟩) ((go_at_call 84; refine (CL.out _ (M5.out.keep (Kept.refl none' _).drew)).mono ?_; rintro e w6 ⟨rfl, hK6⟩; have K6 := hid (none_trans (Kept.refl none' W5).drew hK6); obtain ⟨x0, x1, x2, x3, x4, x5, x6, x7, x8, x9, x10⟩ := box11 (kept_boxQ K6.out XP.out); clear hK6))
        all_goals
          have K9 := hid (none_trans K3.out (none_trans KW.out K6.out))
          go_wp2_with fail
          exact ⟨rfl, .tuple #[.pointer none, .int .i64 7], by simp [results, Tryz.results48, go_sem], rfl, K9.out⟩
end Go.Proofs.YthjokkihlodapaaGreat.H
