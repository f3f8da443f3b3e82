/- RegionBack: croftlaw6.again. -/
import Derived.Test.YtggieolknccabaaGreatRyB
import Derived.Deep.RegionHeld3
import Derived.Deep.DeepCutAuto
import Derived.Deep.CutBlock
namespace Go.Proofs.YtggieolknccabaaGreat
open Go.RowKit
set_option linter.unusedVariables false

theorem bit_ofWY (zs : List Nat) (N j : Nat) (hz : ∀ i, zs.getD i 0 < 2 ^ 64) (hj : j < N) : bit (ofW zs N) j = bit zs j := by
  rw [bit_tb, bit_tb, ofW_get zs N (j / 64) hz (by omega), Nat.testBit_mod_two_pow]
  have : j % 64 < min 64 (N - 64 * (j / 64)) := by omega
  simp [this]
theorem MapAt.w64 {w b B m} (h : MapAt w b B m) (k : Nat) (hk : k < m.o) : (m.wd k).length = (m.n / 2 ^ (k + 1) + 63) / 64 ∧ ∀ i, (m.wd k).getD i 0 < 2 ^ 64 := by
  have hs := h.set k hk
  refine ⟨hs.len, fun i => ?_⟩
  by_cases hi : i < (m.wd k).length
  · exact Nat.lt_of_lt_of_le (hs.ok i hi) (Nat.pow_le_pow_right (by decide) (by omega))
  · rw [List.getD_eq_getElem?_getD, List.getElem?_eq_none (by omega)]
    decide
/-- All bytes of a pool are read. -/
theorem read6 {w W lw x t fr ls} (h : PO w W lw x t fr ls) (a nb : Nat) (ha : a = x.base) (hnb : nb = x.n) :
    Calls Tryz.prog 21 #[.pointer (some ⟨x.s, 0, none⟩), .int .u64 (a : Int), .int .u64 (nb : Int)] W fun e w' => ∃ g, e = .returned (.tuple #[.slice (some ⟨g, 0, none⟩) nb nb, .int .i64 0]) ∧ M.Bytes w' (.slice (some ⟨g, 0, none⟩) nb nb) nb t.f ∧ Kept none' W w' := by
  subst ha
  rcases Nat.eq_zero_or_pos nb with rfl | h0
  · refine (M.Read_zero x.s (x.base : Int) W).mono ?_
    rintro e w' ⟨rfl, hk, _⟩
    exact ⟨_, rfl, ⟨fun i hi => by omega, _, _, rfl, .inl rfl⟩, toK hk⟩
  · obtain ⟨g, hg⟩ := space_someY h.pl.bd.sp (by omega)
    have hs := h.pl.bd.sp
    rw [hg] at hs
    refine (M.Read_in x.s g x.base x.R x.lim x.n t.f x.base nb W hs h0 ⟨Nat.le_refl _, by omega⟩).mono ?_
    rintro e w' ⟨rfl, hB, hk⟩
    have hB2 := hB.bytes nb
    rw [show (fun i => t.f (x.base - x.base + i)) = t.f by funext i; rw [Nat.sub_self, Nat.zero_add]] at hB2
    exact ⟨_, rfl, hB2, toK hk⟩
theorem hd64 {w W lw x t fr ls} (h : PO w W lw x t fr ls) (i : Nat) : (headsL x t).getD i 0 < 18446744073709551616 := by
  by_cases hi : i < x.o + 1
  · have e : (headsL x t).getD i 0 = t.hd i := by
      unfold headsL
      rw [List.getD_eq_getElem?_getD, List.getElem?_map, List.getElem?_range hi]
      rfl
    rw [e, h.sf.hd (by omega)]
    obtain ⟨_, n2, _, n4, _⟩ := h.nums
    cases hf : fr i with
    | nil => show (0 : Nat) < _; decide
    | cons q l =>
      show ad x q < _
      have hq := h.sf.le (k := i) (q := q) (by omega) (by rw [hf]; exact List.mem_cons_self ..)
      have hl := h.sf.lt (k := i) (q := q) (by omega) (by rw [hf]; exact List.mem_cons_self ..)
      have hst := h.st
      have hz : 0 < 2 ^ i := Nat.pow_pos (by decide)
      unfold ad
      omega
  · rw [List.getD_eq_getElem?_getD, List.getElem?_eq_none (by rw [headsL_len]; omega)]
    decide
/-- Newer than an elder world, too. -/
theorem PO.older {w0 w W lw x t fr ls} (h : PO w W lw x t fr ls) (k : Kept none' w0 w) : PO w0 W lw x t fr ls := ⟨⟨h.pl.box, h.pl.bd, fun y hy => Nat.le_trans k.size (h.pl.nw y hy), none_trans k h.pl.kp⟩, h.sf, h.st, h.bm⟩
/-- What again answers. -/
def AgP (W : World) (b l o : Nat) (n : Nat) (fr : Nat → List Nat) (ls : List (Nat × Nat)) (e : Ending) (w' : World) : Prop := ∃ lw x t, e = .returned (.pointer (some ⟨lw, 0, none⟩)) ∧ PO W w' lw x t fr ls ∧ x.base = b ∧ x.lim = l ∧ x.o = o ∧ t.m.n = n
set_option maxRecDepth 4000 in
set_option maxHeartbeats 4000000 in
theorem again6 {w W lw x t fr ls} (h : PO w W lw x t fr ls) (b l r o : Nat) (hm : M.mayB b (l : Int) (o : Int) = true) (hb64 : b < 18446744073709551616) (eb : x.base = b) (el : x.lim = l) (eo : x.o = o) (er : t.m.n = r * 2 ^ o) :
    Calls Tryz.prog 12 #[.pointer (some ⟨lw, 0, none⟩), cfgV b (l : Int) (o : Int)] W fun e w' => AgP W b l o t.m.n fr ls e w' := by
  obtain ⟨n1, n2, n3, n4, ⟨r', n5, n6, n7⟩, n8, n9⟩ := h.nums
  rw [eo] at n1 n5 n9
  rw [el] at n6 n8 n9
  have hz0 : 0 < 2 ^ o := Nat.pow_pos (by decide)
  obtain rfl : r' = r := by
    rw [er] at n5
    exact (Nat.eq_of_mul_eq_mul_right hz0 n5).symm
  have hR := h.pl.bd.hR
  rw [eo] at hR
  rw [hR] at n7
  have hz9 : 2 ^ o ≤ 2 ^ 8 := Nat.pow_le_pow_right (by decide) n1
  have hRb : 4096 * 2 ^ o ≤ 1048576 := by omega
  obtain ⟨nb, hnb⟩ : ∃ nb, nb = r' * (4096 * 2 ^ o) := ⟨_, rfl⟩
  have hnbb : nb ≤ 67108864 := by
    rw [hnb]
    exact Nat.le_trans (Nat.mul_le_mul (show r' ≤ 64 by omega) hRb) (by decide)
  have hnbi : (r' : Int) * ((4096 * 2 ^ o : Nat) : Int) = (nb : Int) := by rw [hnb]; simp
  have K0 := hid ((Kept.refl none' W).alloc (cfgO b (l : Int) (o : Int)))
  have X0 := hid (heap_new W (cfgO b (l : Int) (o : Int)))
  have H0 := hid (h.keep K0.out)
  have HNB := hid (show nb = x.n by rw [hnb, n7])
  have HX := hid (fun (W' : World) (k : Kept none' (W.alloc (cfgO b (l : Int) (o : Int))) W') => cfg3 ((k.block _ (heap_lt X0.out) (fun e => e)).trans X0.out))
  have RR := hid (fun W => M.R_any (b : Int) (l : Int) o n1 W)
  obtain ⟨R, hRR⟩ : ∃ R, R = 4096 * 2 ^ o := ⟨_, rfl⟩
  rw [show M.RS o = R by rw [hRR]; rfl] at RR
  rw [← hRR] at hnbi hRb
  have HM := hid hm
  have HE := hid (And.intro er (And.intro n6 (And.intro n1 (And.intro eb (And.intro el (And.intro eo n8))))))
  have hr64 : r' ≤ 64 := by omega
  clear h hm n2 n3 n4 n5 n7 n9 hz0 hz9 hnb hRR hR er n6
  go_enter Tryz.func12, Tryz.ntmps12
  go_upto_region 1 with fail
  generalize W.alloc (cfgO b (l : Int) (o : Int)) = W0 at *
  obtain ⟨c0, c1, c2⟩ := H0.out.pl.c
  go_wp2_with fail
  refine (Space6 H0.out.pl).mono ?_
  rintro e w1 ⟨rfl, h1⟩
  replace h1 := h1.symm
  subst h1
  go_wp2_with fail
  refine (regions6 H0.out r' (by rw [HE.out.2.2.2.2.2.1]; exact HE.out.1)).mono ?_
  rintro e w2 ⟨rfl, hk2⟩
  have K2 := hid hk2
  have H2 := hid (H0.out.keep hk2)
  clear hk2 c0 c1 c2
  clear eb el eo n8
  go_upto_region 2 with fail
  go_cut [6, 7, 17] (fun s6 s7 s17 wx => ∃ g, s6 = .slice (some ⟨g, 0, none⟩) nb nb ∧ s7 = .int .i64 0 ∧ Hid (M.Bytes wx (.slice (some ⟨g, 0, none⟩) nb nb) nb t.f ∧ Kept none' W0 wx))
  case first =>
    rename_i KK hKK J KK2 hJ hM
    clear hKK KK
    have KD := hid ((Kept.refl none' w2).drew)
    obtain ⟨d0, d1, d2⟩ := HX.out _ (none_trans K2.out KD.out)
    have hrw : IntKind.u64.wrap (r' : Int) = (r' : Int) := by rw [wrap_u64]; omega
    have hnw : IntKind.u64.wrap (nb : Int) = (nb : Int) := by rw [wrap_u64]; omega
    go_wp2_with fail
    go_region_held3 (fun w' => w'.cell? ⟨W.heap.size, 0, none⟩ = some (.int .u64 (b : Int)) ∧ w'.cell? ⟨W.heap.size, 1, none⟩ = some (.int .i64 (l : Int)) ∧ w'.cell? ⟨W.heap.size, 2, none⟩ = some (.int .i64 (o : Int))) ((refine ⟨?_, ?_, ?_⟩ <;> with_reducible assumption)) (first
      | (go_at_call 21; (with_reducible refine (read6 (H2.out.keep K4.out) b nb HE.out.2.2.2.1.symm HNB.out).mono ?_); rintro e w5 ⟨g5, rfl, hb5, hk5⟩; have B5 := hid hb5; have K5 := hid (none_trans K2.out (none_trans K4.out hk5)); obtain ⟨h0, h1, h2⟩ := HX.out _ K5.out; clear hb5 hk5)
      | (go_at_call 38; (with_reducible refine (RR.out _).mono ?_); rintro e w4 ⟨rfl, hk4⟩; have K4 := hid (none_trans KD.out (toK hk4)); obtain ⟨f0, f1, f2⟩ := HX.out _ (none_trans K2.out K4.out); clear hk4)
      | (go_at_call 17; (with_reducible refine (Space6 (H2.out.keep K4.out).pl).mono ?_); rintro e w3 ⟨rfl, h3⟩; replace h3 := h3.symm; subst h3)
      | (go_at_call 17; (with_reducible refine (Space6 (H2.out.keep KD.out).pl).mono ?_); rintro e w3 ⟨rfl, h3⟩; replace h3 := h3.symm; subst h3)
      | fail)
    all_goals
      go_wp2_with fail
      go_meet
      case rel => exact ⟨g5, rfl, rfl, hid ⟨B5.out, K5.out⟩⟩
  case rest =>
  obtain ⟨g5, rfl, rfl, hC⟩ := hcut
  have B5 := hid hC.out.1
  have K5 := hid hC.out.2
  have H5 := hid (H0.out.keep K5.out)
  clear hC K2 H2 RR
  obtain ⟨c0, c1, c2⟩ := H5.out.pl.c
  go_wp2_with fail
  refine (Map6 H5.out.pl).mono ?_
  rintro e w6 ⟨rfl, h6⟩
  replace h6 := h6.symm
  subst h6
  go_wp2_with fail
  refine (Plain_any x.m x.B t.m _ H5.out.pl.bd.mp).mono ?_
  rintro e w7 ⟨gp, gq, D, rfl, hT⟩
  have T7 := hid hT
  have K7 := hid (none_trans K5.out hT.kp)
  have H7 := hid (H5.out.keep hT.kp)
  have B7 := hid (B5.out.keep (ofK hT.kp))
  obtain ⟨mn, hmn⟩ : ∃ mn, mn = t.m.n := ⟨_, rfl⟩
  have hmo : t.m.o = o := H7.out.pl.bd.mo.trans HE.out.2.2.2.2.2.1
  rw [← hmn, hmo]
  have HMN := hid hmn
  have HMO := hid hmo
  clear hT c0 c1 c2 hmn hmo B5 H5
  go_upto_region 4 with fail
  have KD := hid ((Kept.refl none' w7).drew)
  obtain ⟨d0, d1, d2⟩ := HX.out _ (none_trans K7.out KD.out)
  have HD := hid (fun W' (k : Kept none' w7 W') => show Calls Tryz.prog 40 #[.pointer (some ⟨x.b, 0, none⟩)] W' fun e w' => ∃ g, e = .returned (.slice (some ⟨g, 0, none⟩) (o + 1) (o + 1)) ∧ w'.heap[g]? = some (.cells (wcells (headsL x t)) 22 (0, 0)) ∧ Kept none' W' w' from by
    have := heads6 (H7.out.keep k)
    rw [HE.out.2.2.2.2.2.1] at this
    exact this)
  have OP := hid (fun W' (k : Kept none' w7 W') (g : Nat) (hg : W'.heap[g]? = some (.cells (wcells (headsL x t)) 22 (0, 0))) => show Calls Tryz.prog 26 #[cfgV b (l : Int) (o : Int), .int .i64 (r' : Int), .slice (some ⟨g5, 0, none⟩) nb nb, .slice (some ⟨gp, 0, none⟩) mn mn, .slice (some ⟨gq, 0, none⟩) o o, .slice (some ⟨g, 0, none⟩) (o + 1) (o + 1)] W' fun e w' => ∃ lw' x' t', e = .returned (.tuple #[.pointer (some ⟨lw', 0, none⟩), .int .i64 0]) ∧ PO W' w' lw' x' t' fr ls ∧ x'.base = b ∧ x'.lim = l ∧ x'.o = o ∧ t'.m.n = t.m.n from by
    obtain ⟨er, n6, n1', eb, el, eo, n8⟩ := HE.out
    have hmn := HMN.out
    have hmo := HMO.out
    have hnum := H7.out.nums
    have hst := H7.out.st
    have hbm := H7.out.bm
    rw [eb] at hbm
    have hw := fun k hk => H7.out.pl.bd.mp.w64 k hk
    refine (Open6_yes b hb64 l o n8 n1' HM.out r' nb mn n6 (by rw [hmn, er]) (by rw [hmn]; have := HNB.out; omega) (some ⟨g5, 0, none⟩) (some ⟨gp, 0, none⟩) (some ⟨gq, 0, none⟩) nb mn o o t.f g (o + 1) (headsL x t) (hd64 H7.out) (by rw [headsL_len, eo]) ⟨t.m.o, t.m.n, t.m.pg, fun j => if j < t.m.o then ofW (t.m.wd j) (t.m.n / 2 ^ (j + 1)) else (resizeM (newM t.m.o) t.m.n).wd j⟩ hmo W' (B7.out.keep (ofK k)) hg (fun V kv => ?_)).mono ?_
    · have h1 := open_told gp gq t.m D (by rw [hmo]; exact n1') hnum.2.1 ⟨r', by rw [hmo]; exact er⟩ _ V (T7.out.keep (none_trans k kv)) (fun i hi => H7.out.sf.in_range i hi) (fun j hj => hw j hj)
      rw [← hmn, hmo] at h1
      rw [← hmn, hmo]
      exact h1
    · rintro e w' ⟨lw', x', f', rfl, hP, e1, e2, e3, e4, e5, e6⟩
      have hxn : x'.n = x.n := by rw [e4, ← HNB.out, show nb = r' * (4096 * 2 ^ o) by
        have := HNB.out
        rw [this, ← hst, er, Nat.mul_assoc, Nat.mul_comm (2 ^ o) 4096]]
      refine ⟨lw', x', _, rfl, ⟨hP, H7.out.sf.opened x' _ (e5.trans eo.symm) (e1.trans eb.symm) hxn rfl rfl (fun i hi => rfl) (fun j hj => ?_) (fun j hj i hi => ?_) (fun i hi => e6 i (by rw [hxn]; exact hi)) (fun j hj => ?_), by rw [hxn]; exact hst, by rw [e1]; exact hbm⟩, e1, e3, e5, rfl⟩
      · have hj' : j < t.m.o := by rw [hmo, ← eo]; exact hj
        show (if j < t.m.o then ofW (t.m.wd j) (t.m.n / 2 ^ (j + 1)) else _).length = _
        rw [if_pos hj', ofW_len, (hw j hj').1]
      · have hj' : j < t.m.o := by rw [hmo, ← eo]; exact hj
        show bit (if j < t.m.o then ofW (t.m.wd j) (t.m.n / 2 ^ (j + 1)) else _) i = _
        rw [if_pos hj', bit_ofWY _ _ _ (hw j hj').2 hi]
      · show (headsL x t).getD j 0 = t.hd j
        unfold headsL
        rw [List.getD_eq_getElem?_getD, List.getElem?_map, List.getElem?_range (by omega)]
        rfl)
  go_cut [10, 11, 40] (fun s10 s11 s40 wx => ∃ lw', s10 = .pointer (some ⟨lw', 0, none⟩) ∧ s11 = .int .i64 0 ∧ Hid (AgP W b l o t.m.n fr ls (.returned (.pointer (some ⟨lw', 0, none⟩))) wx))
  case first =>
    rename_i KK hKK J KK2 hJ hM
    clear hKK KK
    go_wp2_with fail
    go_region_held3 (fun w' => w'.cell? ⟨W.heap.size, 0, none⟩ = some (.int .u64 (b : Int)) ∧ w'.cell? ⟨W.heap.size, 1, none⟩ = some (.int .i64 (l : Int)) ∧ w'.cell? ⟨W.heap.size, 2, none⟩ = some (.int .i64 (o : Int))) ((refine ⟨?_, ?_, ?_⟩ <;> with_reducible assumption)) (first
      | (go_at_call 26; (with_reducible refine (OP.out _ K9.out g9 G9.out).mono ?_); rintro e w10 ⟨lw', x', t', rfl, hP, e1, e2, e3, e4⟩; have A10 := hid (show AgP W b l o t.m.n fr ls (.returned (.pointer (some ⟨lw', 0, none⟩))) w10 from ⟨lw', x', t', rfl, hP.older (none_trans K0.out (none_trans K7.out K9.out)), e1, e2, e3, e4⟩); obtain ⟨h0, h1, h2⟩ := HX.out _ (none_trans (none_trans K7.out K9.out) hP.pl.kp); clear hP e1 e2 e3 e4)
      | (go_at_call 40; (with_reducible refine (HD.out _ KD.out).mono ?_); rintro e w9 ⟨g9, rfl, hg9, hk9⟩; have K9 := hid (none_trans KD.out hk9); have G9 := hid hg9; obtain ⟨f0, f1, f2⟩ := HX.out _ (none_trans K7.out K9.out); clear hg9 hk9)
      | (go_at_call 25; (with_reducible refine (Buddy6 (H7.out.keep KD.out).pl).mono ?_); rintro e w8 ⟨rfl, h8⟩; replace h8 := h8.symm; subst h8)
      | fail)
    all_goals
      go_wp2_with fail
      go_meet
      case rel => exact ⟨lw', rfl, rfl, A10⟩
  case rest =>
  obtain ⟨lw', rfl, rfl, hA⟩ := hcut
  go_wp2_with fail
  go_ret
  exact hA.out
end Go.Proofs.YtggieolknccabaaGreat
