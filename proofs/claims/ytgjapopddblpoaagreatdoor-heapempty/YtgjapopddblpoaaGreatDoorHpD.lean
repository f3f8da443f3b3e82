import Derived.Test.YtgjapopddblpoaaGreatDoorHpC
/- Package malloc: the block in which an address lies. -/
namespace Go.Proofs.YtgjapopddblpoaaGreatDoor
open Go.RowKit
set_option linter.unusedVariables false

theorem cell_far2 {W : World} {y : Nat} {a : Addr} {v : Value} (h : W.cell? a = some v) (hne : a.block ≠ y) (u0 u1 : Value) : ((W.setCell ⟨y, 0, none⟩ u0).setCell ⟨y, 1, none⟩ u1).cell? a = some v :=
  (((Kept.refl (fun z => z = y) W).setCell (p := ⟨y, 0, none⟩) rfl u0).setCell (p := ⟨y, 1, none⟩) rfl u1).cell hne h
theorem kept2 {S : Nat → Prop} {a W : World} (h : Kept S a W) {y : Nat} (hy : y < a.heap.size → S y) (u0 u1 : Value) : Kept S a ((W.setCell ⟨y, 0, none⟩ u0).setCell ⟨y, 1, none⟩ u1) := (h.setNew (p := ⟨y, 0, none⟩) hy u0).setNew (p := ⟨y, 1, none⟩) hy u1
theorem isP_cell {k : Nat} : isP (szC k) = true := (isP_iff _).2 ⟨4 + k, by unfold szC; rw [Nat.pow_add]⟩
section
variable {w W W' : World} {hb sb lw : Nat} {x : Bx} {t : Bt} {fr : Nat → List Nat} {ls : List (Nat × Nat)} {S : Sb} {s : Int}
/-- What the page says of an address. -/
inductive Ak (w W : World) (sb : Nat) (x : Bx) (ls : List (Nat × Nat)) (S : Sb) (p g : Nat) (q : Pg) : Prop where
  | big (a k : Nat) (hk : k ≤ 8) (hq : q.kd = 2 ∨ q.kd = 3) (ho : q.od = (k : Int)) (ha : a ≤ 1024) (hh : ∀ W', Kept none' W W' → Calls Tryz.prog 125 #[.pointer (some ⟨x.m, 0, none⟩), .int .i64 (g : Int)] W' fun e w' => e = .returned (.int .i64 (a : Int)) ∧ w' = W') (ar : ArP x ls S p (x.base + 4096 * a) (4096 * 2 ^ k) true)
  | cell (a k z : Nat) (l : Bool) (hk : k < 8) (hq : q.kd = 4) (hc : q.cl = (k : Int)) (ha : a < 18446744073709551616) (hd : downV p (szC k) = a) (hs : ∀ W', Kept none' W W' → Calls Tryz.prog 111 #[.pointer (some ⟨sb, 0, none⟩), .int .u64 (a : Int)] W' fun e w' => e = .returned (.int .u64 (z : Int)) ∧ Kept none' W' w') (hz : ((z : Int) != 0) = l) (ar : ArP x ls S p a (szC k) l)
  | none (hq : q.kd = 0 ∨ q.kd = 1) (ar : ArP x ls S p 0 0 false)
theorem around_k (H : HW w W hb sb lw x t fr ls S s) (p : Nat) (hp : p < 18446744073709551616) : Ak w W sb x ls S p (offS x p / 4096) (atP t.m ((offS x p / 4096 : Nat) : Int)) := by
  obtain ⟨h, o⟩ := H.so
  have n2 := H.po.nums.2.1
  have n1 := H.po.nums.1
  have n4 := H.po.nums.2.2.2.1
  by_cases hg : offS x p / 4096 < t.m.n
  · rw [show atP t.m ((offS x p / 4096 : Nat) : Int) = t.m.pg (offS x p / 4096) by
      unfold atP
      rw [if_pos (inR_yes hg), Int.toNat_natCast]]
    cases o.kind hg with
    | free q j hm hj hc h1 h2 hpg =>
      refine .none ?_ (o.ar_free hm hj h1 h2 hc 0 0)
      rw [hpg]
      show (if _ then (0 : Int) else 1) = 0 ∨ (if _ then (0 : Int) else 1) = 1
      split <;> simp
    | big q k hm hc hgn h1 h2 hpg =>
      obtain ⟨a1, a2, a3⟩ := o.al hm
      refine .big q k (by omega) ?_ (by rw [hpg]; rfl) (by omega) (fun W' kp => ?_) (o.ar_big hp hg hm hc h1 h2)
      · rw [hpg]
        show (if _ then (2 : Int) else 3) = 2 ∨ (if _ then (2 : Int) else 3) = 3
        split <;> simp
      · have := HeadB_any x.m x.B t.m ((offS x p / 4096 : Nat) : Int) W' (H.keep kp).po.pl.bd.mp
        rw [show headV t.m ((offS x p / 4096 : Nat) : Int) = (q : Int) by
          unfold headV
          rw [if_pos (inR_yes hg), Int.toNat_natCast, hpg]
          show (((offS x p / 4096) / 2 ^ (k : Int).toNat * 2 ^ (k : Int).toNat : Nat) : Int) = (q : Int)
          rw [Int.toNat_natCast]
          have hz : 0 < 2 ^ k := Nat.pow_pos (by decide)
          obtain ⟨c, hc2⟩ : ∃ c, q = c * 2 ^ k := ⟨q / 2 ^ k, (Nat.div_mul_cancel (Nat.dvd_of_mod_eq_zero a2)).symm⟩
          have : offS x p / 4096 / 2 ^ k = c := by
            rw [Nat.div_eq_iff hz]
            rw [hc2] at h1 h2
            omega
          rw [this, ← hc2]] at this
        exact this
    | slab k hc =>
      obtain ⟨hk, sp⟩ := o.si.pg _ k hc
      obtain ⟨i, i1, i2, i3, i4⟩ := o.down_at hp rfl hc
      have hm := o.mem hc
      have hof := off_cell (x := x) (p := offS x p / 4096) hk i1 (by omega)
      have hz := szC_le hk
      have hlv := o.cell_liv hc i1
      have ar := o.ar_cell (p := p) rfl hc i1 i3 i4
      cases hl : decide (i ∉ S.fl (offS x p / 4096)) with
      | true =>
        rw [hl] at hlv ar
        refine .cell _ k (szC k) true hk sp.kd sp.cl hof.2.2 (by rw [downV_yes _ _ isP_cell]; exact i2) (fun W' kp => ?_) (by rw [bne_iff_ne]; omega) ar
        obtain ⟨h', o'⟩ := (H.keep kp).so
        have := Size_yes o'.sw _ hof.2.2 hlv
        rw [show atQ x t (caN x (offS x p / 4096) k i) = t.m.pg (offS x p / 4096) from (at_cell (x := x) (t := t) hk i1 (by omega) hm.2.1 sp.kd sp.cl).2.2.1, sp.cl, Int.toNat_natCast] at this
        exact this
      | false =>
        rw [hl] at hlv ar
        refine .cell _ k 0 false hk sp.kd sp.cl hof.2.2 (by rw [downV_yes _ _ isP_cell]; exact i2) (fun W' kp => ?_) rfl ar
        obtain ⟨h', o'⟩ := (H.keep kp).so
        exact Size_no o'.sw _ hof.2.2 hlv
  · rw [show atP t.m ((offS x p / 4096 : Nat) : Int) = zeroP by
      unfold atP
      rw [if_neg]
      intro e
      obtain ⟨k, e1, e2⟩ := inR_nat e
      omega]
    exact .none (.inl rfl) (o.ar_far hg 0 0)
set_option maxRecDepth 4000 in
set_option maxHeartbeats 4000000 in
theorem around_h (H : HW w W hb sb lw x t fr ls S s) (p : Nat) (hp : p < 18446744073709551616) :
    Calls Tryz.prog 78 #[.pointer (some ⟨hb, 0, none⟩), .int .u64 (p : Int)] W fun e w' => ∃ a z l, e = .returned (.tuple #[bkV a z, .bool l]) ∧ ArP x ls S p a z l ∧ Kept none' W w' := by
  have CS := hid (around_k H p hp)
  have n4 := H.po.nums.2.2.2.1
  have K0 := hid ((Kept.refl none' W).alloc bkZ)
  have X0 := hid (show (W.alloc bkZ).heap[W.heap.size]? = some (bkO 0 0) from heap_new W bkZ)
  obtain ⟨c0, c2, c3, c4, c5, c6⟩ := (H.keep K0.out).c
  have hbb : x.base < 18446744073709551616 := by omega
  have hw := page_wrap p x.base hp hbb
  obtain ⟨d, hd⟩ : ∃ d, d = offS x p := ⟨_, rfl⟩
  rw [show (p + 18446744073709551616 - x.base) % 18446744073709551616 = d from hd.symm] at hw
  have hdb : d < 18446744073709551616 := by rw [hd]; exact Nat.mod_lt _ (by decide)
  obtain ⟨g, hg⟩ : ∃ g, g = d / 4096 := ⟨_, rfl⟩
  have hqi : (d : Int) / 4096 = (g : Int) := by omega
  have hgb : g < 4503599627370496 := by omega
  rw [← hd, ← hg] at CS
  obtain ⟨q, hq⟩ : ∃ q, q = atP t.m (g : Int) := ⟨_, rfl⟩
  obtain ⟨r, hr⟩ : ∃ r, r = inR t.m.n (g : Int) := ⟨_, rfl⟩
  rw [← hq] at CS
  have MP := hid (fun W' (k : Kept none' W W') => Map6 (H.keep k).po.pl)
  have HA := hid (show ∀ W', Kept none' W W' → Calls Tryz.prog 42 #[.pointer (some ⟨x.m, 0, none⟩), .int .i64 (g : Int)] W' fun e w' => e = .returned (.tuple #[pval q, .bool r]) ∧ Kept none' W' w' from fun W' k => by
    rw [hr, hq]
    exact at_any x.m x.B t.m (g : Int) W' (H.keep k).po.pl.bd.mp)
  have AD := hid (fun n (hn : n ≤ 1024) W' (k : Kept none' W W') => address_h (H.keep k) n hn)
  have CB := hid (fun W' (k : Kept none' W W') => (H.keep k).c)
  clear H n4 hd hdb hg hq hr hbb
  go_enter Tryz.func78, Tryz.ntmps78
  go_wp2_with fail
  refine (MP.out _ K0.out).mono ?_
  rintro e w1 ⟨rfl, h1⟩
  subst h1
  go_wp2_with fail
  refine (HA.out _ K0.out).mono ?_
  rintro e w2 ⟨rfl, hk⟩
  have K3 := hid (none_trans K0.out (hk.alloc (pobj q)))
  have X7 := hid (heap_new w2 (pobj q))
  have X4 := hid (show (w2.alloc (pobj q)).heap[W.heap.size]? = some (bkO 0 0) from ((hk.alloc (pobj q)).block _ (heap_lt X0.out) (fun e => e)).trans X0.out)
  have hne7 : w2.heap.size ≠ W.heap.size := by
    have h1 := hk.size
    rw [World.size_alloc] at h1
    omega
  clear hk K0 X0 c0 c2 c3 c4 c5 c6 hw
  obtain ⟨c0, c2, c3, c4, c5, c6⟩ := CB.out _ K3.out
  have hne5 : hb ≠ W.heap.size := by
    obtain ⟨k0, _⟩ := CB.out _ (Kept.refl _ _)
    exact Nat.ne_of_lt (lt_of_cell k0)
  obtain ⟨z0, z1, zf⟩ := bkc X4.out
  have FC := hid (fun W' (kk : Kept none' (w2.alloc (pobj q)) W') => And.intro (CB.out _ (none_trans K3.out kk)).2.2.2.2.1 (And.intro (CB.out _ (none_trans K3.out kk)).2.2.2.2.2 (box11 ((kk.block _ (heap_lt X7.out) (fun e => e)).trans X7.out))))
  have ZC := hid (fun W' (kk : Kept none' (w2.alloc (pobj q)) W') => bkc ((kk.block _ (heap_lt X4.out) (fun e => e)).trans X4.out))
  have KD := hid ((Kept.refl none' (w2.alloc (pobj q))).drew)
  have D0 := hid (none_trans K3.out KD.out)
  obtain ⟨f5, f6, x0, x1, x2, x3, x4, x5, x6, x7, x8, x9, x10⟩ := FC.out _ (Kept.refl _ _)
  clear c0 c2 c3 c4 c5 c6
  cases CS.out with
  | none hq ar =>
    have AR := hid ar
    have D := hid (kept2 K3.out (y := W.heap.size) (fun e => absurd e (Nat.lt_irrefl _)) (.int .u64 0) (.int .u64 0))
    have q2 : (q.kd == 2) = false := by rw [beq_eq_false_iff_ne]; omega
    have q3 : (q.kd == 3) = false := by rw [beq_eq_false_iff_ne]; omega
    have q4 : (q.kd == 4) = false := by rw [beq_eq_false_iff_ne]; omega
    clear CS ar hq FC ZC KD D0
    go_wp2_with fail
    exact ⟨rfl, .tuple #[bkV 0 0, .bool false], by simp [results, Tryz.results78, go_sem, z0, z1], 0, 0, false, rfl, AR.out, D.out⟩
  | big a k hk hq ho ha hh ar =>
    have AR := hid ar
    have HH := hid hh
    have RN := hid (fun W' => run_h k hk q ho W')
    have AA := hid (AD.out a ha)
    obtain ⟨m, hm⟩ : ∃ m, m = x.base + 4096 * a := ⟨_, rfl⟩
    obtain ⟨z, hz⟩ : ∃ z, z = 4096 * 2 ^ k := ⟨_, rfl⟩
    rw [← hm] at AA AR
    rw [← hz] at RN AR
    have HQ := hid hq
    clear CS ar hq hh AD hm hz hk ho ha
    rcases HQ.out with hq | hq
    all_goals
      first
      | (have q2 : (q.kd == 2) = true := by rw [beq_iff_eq]; exact hq)
      | (have q2 : (q.kd == 2) = false := by rw [beq_eq_false_iff_ne]; omega
         have q3 : (q.kd == 3) = true := by rw [beq_iff_eq]; exact hq)
      clear hq
      go_wp2_with fail
      obtain ⟨d5, d6, y0, y1, y2, y3, y4, y5, y6, y7, y8, y9, y10⟩ := FC.out _ KD.out
      go_region_held3 (fun w' => w'.cell? ⟨hb, 5, none⟩ = some (.pointer (some ⟨lw, 0, none⟩)) ∧ w'.cell? ⟨hb, 6, none⟩ = some (.pointer (some ⟨sb, 0, none⟩)) ∧ w'.cell? ⟨w2.heap.size, 0, none⟩ = some (.int .i64 q.kd) ∧ w'.cell? ⟨w2.heap.size, 1, none⟩ = some (.int .i64 q.od) ∧ w'.cell? ⟨w2.heap.size, 2, none⟩ = some (.int .i64 q.cl) ∧ w'.cell? ⟨w2.heap.size, 3, none⟩ = some (.int .i64 q.lv) ∧ w'.cell? ⟨w2.heap.size, 4, none⟩ = some (.int .i64 q.nx) ∧ w'.cell? ⟨w2.heap.size, 5, none⟩ = some (.int .i64 q.pv) ∧ w'.cell? ⟨w2.heap.size, 6, none⟩ = some (.int .i64 q.fs) ∧ w'.cell? ⟨w2.heap.size, 7, none⟩ = some (.int .u64 (q.b0 : Int)) ∧ w'.cell? ⟨w2.heap.size, 8, none⟩ = some (.int .u64 (q.b1 : Int)) ∧ w'.cell? ⟨w2.heap.size, 9, none⟩ = some (.int .u64 (q.b2 : Int)) ∧ w'.cell? ⟨w2.heap.size, 10, none⟩ = some (.int .u64 (q.b3 : Int))) ((refine ⟨?_, ?_, ?_, ?_, ?_, ?_, ?_, ?_, ?_, ?_, ?_, ?_, ?_⟩ <;> first | with_reducible assumption | with_reducible exact cell_far2 (by with_reducible assumption) (by with_reducible assumption) _ _)) (first
        | (go_at_call 40; (first | with_reducible refine (MP.out _ D0.out).mono ?_ | with_reducible refine (MP.out _ D4.out).mono ?_); rintro e w5 ⟨rfl, h5⟩; replace h5 := h5.symm; subst h5)
        | (go_at_call 125; (first | with_reducible refine (HH.out _ D0.out).mono ?_ | with_reducible refine (HH.out _ D4.out).mono ?_); rintro e w5 ⟨rfl, h5⟩; replace h5 := h5.symm; subst h5)
        | (go_at_call 68; (first | with_reducible refine (AA.out _ D0.out).mono ?_ | with_reducible refine (AA.out _ D4.out).mono ?_); rintro e w5 ⟨rfl, h5⟩; replace h5 := h5.symm; subst h5)
        | (go_at_call 43; (with_reducible refine (RN.out _).mono ?_); rintro e w4 ⟨rfl, hk4⟩; have K4 := hid (none_trans KD.out hk4); have D4 := hid (none_trans K3.out K4.out); obtain ⟨e5, e6, v0, v1, v2, v3, v4, v5, v6, v7, v8, v9, v10⟩ := FC.out _ K4.out; obtain ⟨u0, u1, uf⟩ := ZC.out _ K4.out; clear hk4)
        | fail)
      all_goals
        have D := hid (kept2 D4.out (y := W.heap.size) (fun e => absurd e (Nat.lt_irrefl _)) (.int .u64 (m : Int)) (.int .u64 (z : Int)))
        go_wp2_with fail
        exact ⟨rfl, .tuple #[bkV m z, .bool true], by simp [results, Tryz.results78, go_sem, u0, u1], m, z, true, rfl, AR.out, D.out⟩
  | cell a k zz l hk hq hc ha hd hs hzl ar =>
    have AR := hid ar
    have SZ := hid hs
    have CL := hid (fun W' => cell_h k hk q hc W')
    have hz8 := szC_le hk
    have DN := hid (fun W' => down_64 p (szC k) hp (by omega) W')
    rw [hd, isP_cell] at DN
    obtain ⟨z, hz⟩ : ∃ z, z = szC k := ⟨_, rfl⟩
    rw [← hz] at CL DN AR
    have q2 : (q.kd == 2) = false := by rw [beq_eq_false_iff_ne]; omega
    have q3 : (q.kd == 3) = false := by rw [beq_eq_false_iff_ne]; omega
    have q4 : (q.kd == 4) = true := by rw [beq_iff_eq]; exact hq
    clear CS ar hq hs AD hz hk hc hd hz8
    go_wp2_with fail
    refine (CL.out _).mono ?_
    rintro e w4 ⟨rfl, hk4⟩
    have K4 := hid hk4
    have D4 := hid (none_trans K3.out K4.out)
    clear hk4 f5 f6 x0 x1 x2 x3 x4 x5 x6 x7 x8 x9 x10 KD D0
    obtain ⟨f5, f6, x0, x1, x2, x3, x4, x5, x6, x7, x8, x9, x10⟩ := FC.out _ K4.out
    go_wp2_with fail
    refine (DN.out _).mono ?_
    rintro e w5 ⟨rfl, h5⟩
    replace h5 := h5.symm
    subst h5
    go_wp2_with fail
    have KD := hid (none_trans K4.out (Kept.refl none' w4).drew)
    have D0 := hid (none_trans K3.out KD.out)
    obtain ⟨d5, d6, y0, y1, y2, y3, y4, y5, y6, y7, y8, y9, y10⟩ := FC.out _ KD.out
    go_region_held3 (fun w' => w'.cell? ⟨hb, 5, none⟩ = some (.pointer (some ⟨lw, 0, none⟩)) ∧ w'.cell? ⟨hb, 6, none⟩ = some (.pointer (some ⟨sb, 0, none⟩)) ∧ w'.cell? ⟨w2.heap.size, 0, none⟩ = some (.int .i64 q.kd) ∧ w'.cell? ⟨w2.heap.size, 1, none⟩ = some (.int .i64 q.od) ∧ w'.cell? ⟨w2.heap.size, 2, none⟩ = some (.int .i64 q.cl) ∧ w'.cell? ⟨w2.heap.size, 3, none⟩ = some (.int .i64 q.lv) ∧ w'.cell? ⟨w2.heap.size, 4, none⟩ = some (.int .i64 q.nx) ∧ w'.cell? ⟨w2.heap.size, 5, none⟩ = some (.int .i64 q.pv) ∧ w'.cell? ⟨w2.heap.size, 6, none⟩ = some (.int .i64 q.fs) ∧ w'.cell? ⟨w2.heap.size, 7, none⟩ = some (.int .u64 (q.b0 : Int)) ∧ w'.cell? ⟨w2.heap.size, 8, none⟩ = some (.int .u64 (q.b1 : Int)) ∧ w'.cell? ⟨w2.heap.size, 9, none⟩ = some (.int .u64 (q.b2 : Int)) ∧ w'.cell? ⟨w2.heap.size, 10, none⟩ = some (.int .u64 (q.b3 : Int))) ((refine ⟨?_, ?_, ?_, ?_, ?_, ?_, ?_, ?_, ?_, ?_, ?_, ?_, ?_⟩ <;> first | with_reducible assumption | with_reducible exact cell_far2 (by with_reducible assumption) (by with_reducible assumption) _ _)) (first
      | (go_at_call 111; first
          | ((with_reducible refine (SZ.out _ D0.out).mono ?_); rintro e w6 ⟨rfl, hk6⟩; have K6 := hid (none_trans KD.out hk6); have D6 := hid (none_trans K3.out K6.out); obtain ⟨e5, e6, v0, v1, v2, v3, v4, v5, v6, v7, v8, v9, v10⟩ := FC.out _ K6.out; obtain ⟨u0, u1, uf⟩ := ZC.out _ K6.out; clear hk6)
          | ((with_reducible refine (SZ.out _ D7.out).mono ?_); rintro e w6 ⟨rfl, hk6⟩; have K6 := hid (none_trans K7.out hk6); have D6 := hid (none_trans K3.out K6.out); obtain ⟨e5, e6, v0, v1, v2, v3, v4, v5, v6, v7, v8, v9, v10⟩ := FC.out _ K6.out; obtain ⟨u0, u1, uf⟩ := ZC.out _ K6.out; clear hk6))
      | (go_at_call 44; first
          | ((with_reducible refine (CL.out w6).mono ?_); rintro e w7 ⟨rfl, hk7⟩; have K7 := hid (none_trans K6.out hk7); have D7 := hid (none_trans K3.out K7.out); obtain ⟨e5, e6, v0, v1, v2, v3, v4, v5, v6, v7, v8, v9, v10⟩ := FC.out _ K7.out; obtain ⟨u0, u1, uf⟩ := ZC.out _ K7.out; clear hk7)
          | ((with_reducible refine (CL.out _).mono ?_); rintro e w7 ⟨rfl, hk7⟩; have K7 := hid (none_trans KD.out hk7); have D7 := hid (none_trans K3.out K7.out); obtain ⟨e5, e6, v0, v1, v2, v3, v4, v5, v6, v7, v8, v9, v10⟩ := FC.out _ K7.out; obtain ⟨u0, u1, uf⟩ := ZC.out _ K7.out; clear hk7))
      | fail)
    all_goals
      first
      | (have D := hid (kept2 D7.out (y := W.heap.size) (fun e => absurd e (Nat.lt_irrefl _)) (.int .u64 (a : Int)) (.int .u64 (z : Int)))
         go_wp2_with fail
         exact ⟨rfl, .tuple #[bkV a z, .bool l], by simp [results, Tryz.results78, go_sem, u0, u1], a, z, l, rfl, AR.out, D.out⟩)
      | (have D := hid (kept2 D6.out (y := W.heap.size) (fun e => absurd e (Nat.lt_irrefl _)) (.int .u64 (a : Int)) (.int .u64 (z : Int)))
         go_wp2_with fail
         exact ⟨rfl, .tuple #[bkV a z, .bool l], by simp [results, Tryz.results78, go_sem, u0, u1], a, z, l, rfl, AR.out, D.out⟩)
end
end Go.Proofs.YtgjapopddblpoaaGreatDoor
