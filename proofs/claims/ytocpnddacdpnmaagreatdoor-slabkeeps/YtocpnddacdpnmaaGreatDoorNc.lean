import Derived.Test.YtocpnddacdpnmaaGreatDoorNb
/- croftlaw7.do: a cell of a class. (Written by mkeno.py.) -/
namespace Go.Proofs.YtocpnddacdpnmaaGreatDoor
open Go.RowKit
set_option linter.unusedVariables false

set_option maxRecDepth 20000 in
set_option maxHeartbeats 20000000 in
theorem do_take {w W : World} {wb sb lw : Nat} {x : Bx} {t : Bt} {fr : Nat → List Nat} {ls : List (Nat × Nat)} {S : Sb} {R : Nat → Bk} {n : Nat} (L : LW7 w W wb lw sb x t fr ls S R n) (va : Option Addr) (vc : Nat) (hn : n ≤ 1000) (B : Bks W (.slice va n vc) n R) (op N wh : Int) (d : Bool) (hop : op = 0 ∨ op = 1 ∨ op = 2) (hN2 : N ≤ 9223372036854775807) :
    Calls Tryz.prog 23 #[.pointer (some ⟨wb, 0, none⟩), .slice va n vc, deV op N wh d] W fun e w' => DoP w wb lw sb x t ls S R n e w' := by
  obtain ⟨rg, hrg, hrl, hxn, hR0⟩ := L.rg
  obtain ⟨m, hm⟩ : ∃ m : Nat, m = N.toNat := ⟨_, rfl⟩
  obtain ⟨k, hk⟩ : ∃ k, k = m % 8 := ⟨_, rfl⟩
  have hk8 : k < 8 := by omega
  have hz := szC_le hk8
  have NF := hid (fun W' (q : Kept none' W W') => noFit_small (L.keep q) va vc hn (B.kept q (fun _ _ e => e)) (szC k) t.m.n (by omega) (by omega) (by rw [L.po.st]))
  have TK := hid (fun W' (q : Kept none' W W') => (L.keep q).take hk8 d hrg hxn hR0)
  have K0 := hid ((Kept.refl none' W).alloc (deO op N wh d))
  have Y0 := hid (heap_new W (deO op N wh d))
  have CB := hid (fun W' (q : Kept none' W W') => (L.keep q).c)
  have SP := hid (fun W' (q : Kept none' W W') => Space6 (L.keep q).po.pl)
  have RG := hid (fun W' (q : Kept none' W W') => regions6 (L.keep q).po rg hrg)
  have GT := hid (fun W' (q : Kept none' W W') p g er w' (Q : Rq w W' wb lw sb x t ls S R n (szC k) ((alB R n x.base 4096 t.m.n && pgB R n x.base (szC k) t.m.n)) d rg p g er w') => got7 (L.keep q) hn (B.kept q (fun _ _ e => e)) (by omega) (by omega) hrg Q)
  have HT := hid (fun W' (q : Kept none' W W') (y : Nat) (cs : Array Value) (z : Nat × Nat) (hy : W'.heap[y]? = some (.cells cs 76 z)) => show ¬ sown x sb y from by
    obtain ⟨h, o⟩ := L.so
    exact (o.keep q).dty hy)
  have CC := hid (fun W' (q : Kept none' W W') p g er w' (Q : Rq w W' wb lw sb x t ls S R n (szC k) ((alB R n x.base 4096 t.m.n && pgB R n x.base (szC k) t.m.n)) d rg p g er w') => show w'.cell? ⟨wb, 4, none⟩ = some (.pointer (some ⟨sb, 0, none⟩)) ∧ Kept (sown x sb) W' w' from by
    obtain ⟨fv, lv2, pv, qv, po, pp, hx⟩ := (L.keep q).bx
    exact ⟨(w7c5 ((Q.kp.block _ (heap_lt hx) L.ns).trans hx)).2.2.2.2, Q.kp⟩)
  have hrgb : rg ≤ 64 := Nat.le_trans hrl L.po.nums.2.2.2.2.2.1
  have hob : x.o ≤ 8 := L.po.nums.1
  obtain ⟨QQ, hQ⟩ : ∃ QQ : World → Nat → Bool → Int → World → Prop, QQ = fun W' p g er w' => Rq w W' wb lw sb x t ls S R n (szC k) ((alB R n x.base 4096 t.m.n && pgB R n x.base (szC k) t.m.n)) d rg p g er w' := ⟨_, rfl⟩
  obtain ⟨nn, hnn⟩ : ∃ nn, nn = ((alB R n x.base 4096 t.m.n && pgB R n x.base (szC k) t.m.n)) := ⟨_, rfl⟩
  obtain ⟨r, hr⟩ : ∃ r, r = (szC k) := ⟨_, rfl⟩
  have TK2 := hid (fun W' (q : Kept none' W W') => show Calls Tryz.prog 9 #[.pointer (some ⟨sb, 0, none⟩), .int .i64 (k : Int), .bool d] W' fun e w' => ∃ p g er, e = rqE p g er ∧ QQ W' p g er w' from by rw [hQ]; exact TK.out W' q)
  have GT2 := hid (show ∀ W', Kept none' W W' → ∀ p g er w', QQ W' p g er w' → Calls Tryz.prog 72 #[.pointer (some ⟨wb, 0, none⟩), .slice va n vc, .int .u64 (r : Int), .bool d, .int .u64 (p : Int), .bool g, .int .i64 er, .int .i64 (rg : Int), .bool nn] w' fun e w2 => DoP w wb lw sb x t ls S R n e w2 from fun W' q p g er w' Q => by rw [hQ] at Q; rw [hnn, hr]; exact GT.out W' q p g er w' Q)
  have CC2 := hid (show ∀ W', Kept none' W W' → ∀ p g er w', QQ W' p g er w' → w'.cell? ⟨wb, 4, none⟩ = some (.pointer (some ⟨sb, 0, none⟩)) ∧ Kept (sown x sb) W' w' from fun W' q p g er w' Q => by rw [hQ] at Q; exact CC.out W' q p g er w' Q)
  have NF2 := hid (fun W' (q : Kept none' W W') => show Calls Tryz.prog 71 #[.pointer (some ⟨wb, 0, none⟩), .slice va n vc, .int .u64 (r : Int)] W' fun e w' => e = .returned (.bool nn) ∧ Kept none' W' w' from by rw [hnn, hr]; exact NF.out W' q)
  have HD := hid (show ∀ w' e, DoP w wb lw sb x t ls S R n e w' → DoP w wb lw sb x t ls S R n e w' from fun _ _ h => h)
  have hri : (16 : Int) * 2 ^ k = (r : Int) := by rw [hr]; unfold szC; simp
  have hrb : r ≤ 1048576 := by omega
  have hmk : (m : Int) % (8) = (k : Int) := by omega
  have hmt : (m : Int).tmod 8 = (k : Int) := by rw [Int.tmod_eq_emod_of_nonneg (by omega)]; exact hmk
  have hmb : m ≤ 9223372036854775807 := by omega
  have HR0 := hid (show m = 0 → k = 0 ∧ r = 16 from fun e => by
    have e2 : k = 0 := by rw [hk, e]
    refine ⟨e2, ?_⟩
    rw [hr, e2]; rfl)
  have hkb : k ≤ 8 := by omega
  generalize x.s = sp at *
  clear L B hrg hrl hxn hR0 hr hQ hnn TK GT CC NF hk8 hz HD
  have GO : Hid (0 < N → N = (m : Int)) := hid (by omega)
  have GZ : Hid (¬ 0 < N → m = 0) := hid (by omega)
  clear hm hk
  by_cases hN : 0 < N
  · have e := GO.out hN
    subst e
    clear GO GZ HR0
    rcases hop with rfl | rfl | rfl
    · as_aux_lemma =>
      go_enter Tryz.func23, Tryz.ntmps23
      go_upto_region 1 with fail
      generalize W.heap.size = y at *
      generalize W.alloc (deO _ _ wh d) = W0 at *
      obtain ⟨c0, c1, c2, c3, c4⟩ := CB.out _ K0.out
      obtain ⟨y0, y1, y2, y3⟩ := dec4 Y0.out
      have SP0 := hid (SP.out _ K0.out)
      have RG0 := hid (RG.out _ K0.out)
      go_wp2_with fail
      refine SP0.out.mono ?_
      rintro e w1 ⟨rfl, h1⟩
      replace h1 := h1.symm
      subst h1
      go_wp2_with fail
      refine RG0.out.mono ?_
      rintro e w1 ⟨rfl, hk⟩
      have K1 := hid (none_trans K0.out hk)
      have Y1 := hid ((hk.block _ (heap_lt Y0.out) (fun e => e)).trans Y0.out)
      have NF1 := hid (NF2.out _ K1.out)
      clear hk c0 c1 c2 c3 c4 y0 y1 y2 y3 SP0 RG0
      obtain ⟨c0, c1, c2, c3, c4⟩ := CB.out _ K1.out
      obtain ⟨y0, y1, y2, y3⟩ := dec4 Y1.out
      go_wp2_with fail
      refine NF1.out.mono ?_
      rintro e w2 ⟨rfl, hk⟩
      have K2 := hid (none_trans K1.out hk)
      have Y2 := hid ((hk.block _ (heap_lt Y1.out) (fun e => e)).trans Y1.out)
      clear hk c0 c1 c2 c3 c4 y0 y1 y2 y3 NF1
      go_upto_region 11 with fail
      have KD := hid ((Kept.refl none' w2).drew)
      have K3 := hid (none_trans K2.out KD.out)
      have Y3 := hid ((KD.out.block _ (heap_lt Y2.out) (fun e => e)).trans Y2.out)
      have TK3 := hid (TK2.out _ K3.out)
      obtain ⟨c0, c1, c2, c3, c4⟩ := CB.out _ K3.out
      obtain ⟨y0, y1, y2, y3⟩ := dec4 Y3.out
      go_region_held3 (fun w' => w'.cell? ⟨wb, 4, none⟩ = some (.pointer (some ⟨sb, 0, none⟩)) ∧ w'.cell? ⟨y, 3, none⟩ = some (.bool d)) ((refine ⟨?_, ?_⟩ <;> first | with_reducible assumption | fail)) (first
        | (go_at_call 9; (with_reducible refine TK3.out.mono ?_); rintro e w4 ⟨p, g, er, rfl, hq⟩; have Q4 := hid hq; obtain ⟨d4, kp4⟩ := CC2.out _ K3.out _ _ _ _ hq; have Y4 := hid ((kp4.block _ (heap_lt Y3.out) (HT.out _ K3.out _ _ _ Y3.out)).trans Y3.out); obtain ⟨z0, z1, z2, z3⟩ := dec4 Y4.out; clear hq kp4)
        | fail)
      all_goals
        have GT4 := hid (GT2.out _ K3.out _ _ _ _ Q4.out)
        clear c0 c1 c2 c3 c4 y0 y1 y2 y3
        go_wp2_with fail
        refine GT4.out.mono ?_
        rintro e w5 ⟨va5, vc5, n5, R5, x5, t5, fr5, ls5, S5, rfl, D0⟩
        have D := hid D0
        clear D0
        go_wp2_with fail
        exact ⟨rfl, .tuple #[.slice va5 n5 vc5, .bool true], by simp [results, Tryz.results23, go_sem], va5, vc5, n5, R5, x5, t5, fr5, ls5, S5, rfl, D.out⟩
    · as_aux_lemma =>
      go_enter Tryz.func23, Tryz.ntmps23
      go_upto_region 1 with fail
      generalize W.heap.size = y at *
      generalize W.alloc (deO _ _ wh d) = W0 at *
      obtain ⟨c0, c1, c2, c3, c4⟩ := CB.out _ K0.out
      obtain ⟨y0, y1, y2, y3⟩ := dec4 Y0.out
      have SP0 := hid (SP.out _ K0.out)
      have RG0 := hid (RG.out _ K0.out)
      go_wp2_with fail
      refine SP0.out.mono ?_
      rintro e w1 ⟨rfl, h1⟩
      replace h1 := h1.symm
      subst h1
      go_wp2_with fail
      refine RG0.out.mono ?_
      rintro e w1 ⟨rfl, hk⟩
      have K1 := hid (none_trans K0.out hk)
      have Y1 := hid ((hk.block _ (heap_lt Y0.out) (fun e => e)).trans Y0.out)
      have NF1 := hid (NF2.out _ K1.out)
      clear hk c0 c1 c2 c3 c4 y0 y1 y2 y3 SP0 RG0
      obtain ⟨c0, c1, c2, c3, c4⟩ := CB.out _ K1.out
      obtain ⟨y0, y1, y2, y3⟩ := dec4 Y1.out
      go_wp2_with fail
      refine NF1.out.mono ?_
      rintro e w2 ⟨rfl, hk⟩
      have K2 := hid (none_trans K1.out hk)
      have Y2 := hid ((hk.block _ (heap_lt Y1.out) (fun e => e)).trans Y1.out)
      clear hk c0 c1 c2 c3 c4 y0 y1 y2 y3 NF1
      go_upto_region 11 with fail
      have KD := hid ((Kept.refl none' w2).drew)
      have K3 := hid (none_trans K2.out KD.out)
      have Y3 := hid ((KD.out.block _ (heap_lt Y2.out) (fun e => e)).trans Y2.out)
      have TK3 := hid (TK2.out _ K3.out)
      obtain ⟨c0, c1, c2, c3, c4⟩ := CB.out _ K3.out
      obtain ⟨y0, y1, y2, y3⟩ := dec4 Y3.out
      go_region_held3 (fun w' => w'.cell? ⟨wb, 4, none⟩ = some (.pointer (some ⟨sb, 0, none⟩)) ∧ w'.cell? ⟨y, 3, none⟩ = some (.bool d)) ((refine ⟨?_, ?_⟩ <;> first | with_reducible assumption | fail)) (first
        | (go_at_call 9; (with_reducible refine TK3.out.mono ?_); rintro e w4 ⟨p, g, er, rfl, hq⟩; have Q4 := hid hq; obtain ⟨d4, kp4⟩ := CC2.out _ K3.out _ _ _ _ hq; have Y4 := hid ((kp4.block _ (heap_lt Y3.out) (HT.out _ K3.out _ _ _ Y3.out)).trans Y3.out); obtain ⟨z0, z1, z2, z3⟩ := dec4 Y4.out; clear hq kp4)
        | fail)
      all_goals
        have GT4 := hid (GT2.out _ K3.out _ _ _ _ Q4.out)
        clear c0 c1 c2 c3 c4 y0 y1 y2 y3
        go_wp2_with fail
        refine GT4.out.mono ?_
        rintro e w5 ⟨va5, vc5, n5, R5, x5, t5, fr5, ls5, S5, rfl, D0⟩
        have D := hid D0
        clear D0
        go_wp2_with fail
        exact ⟨rfl, .tuple #[.slice va5 n5 vc5, .bool true], by simp [results, Tryz.results23, go_sem], va5, vc5, n5, R5, x5, t5, fr5, ls5, S5, rfl, D.out⟩
    · as_aux_lemma =>
      go_enter Tryz.func23, Tryz.ntmps23
      go_upto_region 1 with fail
      generalize W.heap.size = y at *
      generalize W.alloc (deO _ _ wh d) = W0 at *
      obtain ⟨c0, c1, c2, c3, c4⟩ := CB.out _ K0.out
      obtain ⟨y0, y1, y2, y3⟩ := dec4 Y0.out
      have SP0 := hid (SP.out _ K0.out)
      have RG0 := hid (RG.out _ K0.out)
      go_wp2_with fail
      refine SP0.out.mono ?_
      rintro e w1 ⟨rfl, h1⟩
      replace h1 := h1.symm
      subst h1
      go_wp2_with fail
      refine RG0.out.mono ?_
      rintro e w1 ⟨rfl, hk⟩
      have K1 := hid (none_trans K0.out hk)
      have Y1 := hid ((hk.block _ (heap_lt Y0.out) (fun e => e)).trans Y0.out)
      have NF1 := hid (NF2.out _ K1.out)
      clear hk c0 c1 c2 c3 c4 y0 y1 y2 y3 SP0 RG0
      obtain ⟨c0, c1, c2, c3, c4⟩ := CB.out _ K1.out
      obtain ⟨y0, y1, y2, y3⟩ := dec4 Y1.out
      go_wp2_with fail
      refine NF1.out.mono ?_
      rintro e w2 ⟨rfl, hk⟩
      have K2 := hid (none_trans K1.out hk)
      have Y2 := hid ((hk.block _ (heap_lt Y1.out) (fun e => e)).trans Y1.out)
      clear hk c0 c1 c2 c3 c4 y0 y1 y2 y3 NF1
      go_upto_region 11 with fail
      have KD := hid ((Kept.refl none' w2).drew)
      have K3 := hid (none_trans K2.out KD.out)
      have Y3 := hid ((KD.out.block _ (heap_lt Y2.out) (fun e => e)).trans Y2.out)
      have TK3 := hid (TK2.out _ K3.out)
      obtain ⟨c0, c1, c2, c3, c4⟩ := CB.out _ K3.out
      obtain ⟨y0, y1, y2, y3⟩ := dec4 Y3.out
      go_region_held3 (fun w' => w'.cell? ⟨wb, 4, none⟩ = some (.pointer (some ⟨sb, 0, none⟩)) ∧ w'.cell? ⟨y, 3, none⟩ = some (.bool d)) ((refine ⟨?_, ?_⟩ <;> first | with_reducible assumption | fail)) (first
        | (go_at_call 9; (with_reducible refine TK3.out.mono ?_); rintro e w4 ⟨p, g, er, rfl, hq⟩; have Q4 := hid hq; obtain ⟨d4, kp4⟩ := CC2.out _ K3.out _ _ _ _ hq; have Y4 := hid ((kp4.block _ (heap_lt Y3.out) (HT.out _ K3.out _ _ _ Y3.out)).trans Y3.out); obtain ⟨z0, z1, z2, z3⟩ := dec4 Y4.out; clear hq kp4)
        | fail)
      all_goals
        have GT4 := hid (GT2.out _ K3.out _ _ _ _ Q4.out)
        clear c0 c1 c2 c3 c4 y0 y1 y2 y3
        go_wp2_with fail
        refine GT4.out.mono ?_
        rintro e w5 ⟨va5, vc5, n5, R5, x5, t5, fr5, ls5, S5, rfl, D0⟩
        have D := hid D0
        clear D0
        go_wp2_with fail
        exact ⟨rfl, .tuple #[.slice va5 n5 vc5, .bool true], by simp [results, Tryz.results23, go_sem], va5, vc5, n5, R5, x5, t5, fr5, ls5, S5, rfl, D.out⟩
  · have e := GZ.out hN
    obtain ⟨e2, e3⟩ := HR0.out e
    subst e e2 e3
    have NF3 := hid (fun W' (q : Kept none' W W') => show Calls Tryz.prog 71 #[.pointer (some ⟨wb, 0, none⟩), .slice va n vc, .int .u64 16] W' fun e w' => e = .returned (.bool nn) ∧ Kept none' W' w' from NF2.out W' q)
    have TK4 := hid (fun W' (q : Kept none' W W') => show Calls Tryz.prog 9 #[.pointer (some ⟨sb, 0, none⟩), .int .i64 0, .bool d] W' fun e w' => ∃ p g er, e = rqE p g er ∧ QQ W' p g er w' from TK2.out W' q)
    have GT3 := hid (show ∀ W', Kept none' W W' → ∀ p g er w', QQ W' p g er w' → Calls Tryz.prog 72 #[.pointer (some ⟨wb, 0, none⟩), .slice va n vc, .int .u64 16, .bool d, .int .u64 (p : Int), .bool g, .int .i64 er, .int .i64 (rg : Int), .bool nn] w' fun e w2 => DoP w wb lw sb x t ls S R n e w2 from GT2.out)
    clear NF2 TK2 GT2 GO GZ HR0 hri hmk hmt
    have NF2 := NF3
    have TK2 := TK4
    have GT2 := GT3
    clear NF3 TK4 GT3
    rcases hop with rfl | rfl | rfl
    · as_aux_lemma =>
      go_enter Tryz.func23, Tryz.ntmps23
      go_upto_region 1 with fail
      generalize W.heap.size = y at *
      generalize W.alloc (deO _ _ wh d) = W0 at *
      obtain ⟨c0, c1, c2, c3, c4⟩ := CB.out _ K0.out
      obtain ⟨y0, y1, y2, y3⟩ := dec4 Y0.out
      have SP0 := hid (SP.out _ K0.out)
      have RG0 := hid (RG.out _ K0.out)
      go_wp2_with fail
      refine SP0.out.mono ?_
      rintro e w1 ⟨rfl, h1⟩
      replace h1 := h1.symm
      subst h1
      go_wp2_with fail
      refine RG0.out.mono ?_
      rintro e w1 ⟨rfl, hk⟩
      have K1 := hid (none_trans K0.out hk)
      have Y1 := hid ((hk.block _ (heap_lt Y0.out) (fun e => e)).trans Y0.out)
      have NF1 := hid (NF2.out _ K1.out)
      clear hk c0 c1 c2 c3 c4 y0 y1 y2 y3 SP0 RG0
      obtain ⟨c0, c1, c2, c3, c4⟩ := CB.out _ K1.out
      obtain ⟨y0, y1, y2, y3⟩ := dec4 Y1.out
      go_wp2_with fail
      refine NF1.out.mono ?_
      rintro e w2 ⟨rfl, hk⟩
      have K2 := hid (none_trans K1.out hk)
      have Y2 := hid ((hk.block _ (heap_lt Y1.out) (fun e => e)).trans Y1.out)
      clear hk c0 c1 c2 c3 c4 y0 y1 y2 y3 NF1
      go_upto_region 11 with fail
      have KD := hid ((Kept.refl none' w2).drew)
      have K3 := hid (none_trans K2.out KD.out)
      have Y3 := hid ((KD.out.block _ (heap_lt Y2.out) (fun e => e)).trans Y2.out)
      have TK3 := hid (TK2.out _ K3.out)
      obtain ⟨c0, c1, c2, c3, c4⟩ := CB.out _ K3.out
      obtain ⟨y0, y1, y2, y3⟩ := dec4 Y3.out
      go_region_held3 (fun w' => w'.cell? ⟨wb, 4, none⟩ = some (.pointer (some ⟨sb, 0, none⟩)) ∧ w'.cell? ⟨y, 3, none⟩ = some (.bool d)) ((refine ⟨?_, ?_⟩ <;> first | with_reducible assumption | fail)) (first
        | (go_at_call 9; (with_reducible refine TK3.out.mono ?_); rintro e w4 ⟨p, g, er, rfl, hq⟩; have Q4 := hid hq; obtain ⟨d4, kp4⟩ := CC2.out _ K3.out _ _ _ _ hq; have Y4 := hid ((kp4.block _ (heap_lt Y3.out) (HT.out _ K3.out _ _ _ Y3.out)).trans Y3.out); obtain ⟨z0, z1, z2, z3⟩ := dec4 Y4.out; clear hq kp4)
        | fail)
      all_goals
        have GT4 := hid (GT2.out _ K3.out _ _ _ _ Q4.out)
        clear c0 c1 c2 c3 c4 y0 y1 y2 y3
        go_wp2_with fail
        refine GT4.out.mono ?_
        rintro e w5 ⟨va5, vc5, n5, R5, x5, t5, fr5, ls5, S5, rfl, D0⟩
        have D := hid D0
        clear D0
        go_wp2_with fail
        exact ⟨rfl, .tuple #[.slice va5 n5 vc5, .bool true], by simp [results, Tryz.results23, go_sem], va5, vc5, n5, R5, x5, t5, fr5, ls5, S5, rfl, D.out⟩
    · as_aux_lemma =>
      go_enter Tryz.func23, Tryz.ntmps23
      go_upto_region 1 with fail
      generalize W.heap.size = y at *
      generalize W.alloc (deO _ _ wh d) = W0 at *
      obtain ⟨c0, c1, c2, c3, c4⟩ := CB.out _ K0.out
      obtain ⟨y0, y1, y2, y3⟩ := dec4 Y0.out
      have SP0 := hid (SP.out _ K0.out)
      have RG0 := hid (RG.out _ K0.out)
      go_wp2_with fail
      refine SP0.out.mono ?_
      rintro e w1 ⟨rfl, h1⟩
      replace h1 := h1.symm
      subst h1
      go_wp2_with fail
      refine RG0.out.mono ?_
      rintro e w1 ⟨rfl, hk⟩
      have K1 := hid (none_trans K0.out hk)
      have Y1 := hid ((hk.block _ (heap_lt Y0.out) (fun e => e)).trans Y0.out)
      have NF1 := hid (NF2.out _ K1.out)
      clear hk c0 c1 c2 c3 c4 y0 y1 y2 y3 SP0 RG0
      obtain ⟨c0, c1, c2, c3, c4⟩ := CB.out _ K1.out
      obtain ⟨y0, y1, y2, y3⟩ := dec4 Y1.out
      go_wp2_with fail
      refine NF1.out.mono ?_
      rintro e w2 ⟨rfl, hk⟩
      have K2 := hid (none_trans K1.out hk)
      have Y2 := hid ((hk.block _ (heap_lt Y1.out) (fun e => e)).trans Y1.out)
      clear hk c0 c1 c2 c3 c4 y0 y1 y2 y3 NF1
      go_upto_region 11 with fail
      have KD := hid ((Kept.refl none' w2).drew)
      have K3 := hid (none_trans K2.out KD.out)
      have Y3 := hid ((KD.out.block _ (heap_lt Y2.out) (fun e => e)).trans Y2.out)
      have TK3 := hid (TK2.out _ K3.out)
      obtain ⟨c0, c1, c2, c3, c4⟩ := CB.out _ K3.out
      obtain ⟨y0, y1, y2, y3⟩ := dec4 Y3.out
      go_region_held3 (fun w' => w'.cell? ⟨wb, 4, none⟩ = some (.pointer (some ⟨sb, 0, none⟩)) ∧ w'.cell? ⟨y, 3, none⟩ = some (.bool d)) ((refine ⟨?_, ?_⟩ <;> first | with_reducible assumption | fail)) (first
        | (go_at_call 9; (with_reducible refine TK3.out.mono ?_); rintro e w4 ⟨p, g, er, rfl, hq⟩; have Q4 := hid hq; obtain ⟨d4, kp4⟩ := CC2.out _ K3.out _ _ _ _ hq; have Y4 := hid ((kp4.block _ (heap_lt Y3.out) (HT.out _ K3.out _ _ _ Y3.out)).trans Y3.out); obtain ⟨z0, z1, z2, z3⟩ := dec4 Y4.out; clear hq kp4)
        | fail)
      all_goals
        have GT4 := hid (GT2.out _ K3.out _ _ _ _ Q4.out)
        clear c0 c1 c2 c3 c4 y0 y1 y2 y3
        go_wp2_with fail
        refine GT4.out.mono ?_
        rintro e w5 ⟨va5, vc5, n5, R5, x5, t5, fr5, ls5, S5, rfl, D0⟩
        have D := hid D0
        clear D0
        go_wp2_with fail
        exact ⟨rfl, .tuple #[.slice va5 n5 vc5, .bool true], by simp [results, Tryz.results23, go_sem], va5, vc5, n5, R5, x5, t5, fr5, ls5, S5, rfl, D.out⟩
    · as_aux_lemma =>
      go_enter Tryz.func23, Tryz.ntmps23
      go_upto_region 1 with fail
      generalize W.heap.size = y at *
      generalize W.alloc (deO _ _ wh d) = W0 at *
      obtain ⟨c0, c1, c2, c3, c4⟩ := CB.out _ K0.out
      obtain ⟨y0, y1, y2, y3⟩ := dec4 Y0.out
      have SP0 := hid (SP.out _ K0.out)
      have RG0 := hid (RG.out _ K0.out)
      go_wp2_with fail
      refine SP0.out.mono ?_
      rintro e w1 ⟨rfl, h1⟩
      replace h1 := h1.symm
      subst h1
      go_wp2_with fail
      refine RG0.out.mono ?_
      rintro e w1 ⟨rfl, hk⟩
      have K1 := hid (none_trans K0.out hk)
      have Y1 := hid ((hk.block _ (heap_lt Y0.out) (fun e => e)).trans Y0.out)
      have NF1 := hid (NF2.out _ K1.out)
      clear hk c0 c1 c2 c3 c4 y0 y1 y2 y3 SP0 RG0
      obtain ⟨c0, c1, c2, c3, c4⟩ := CB.out _ K1.out
      obtain ⟨y0, y1, y2, y3⟩ := dec4 Y1.out
      go_wp2_with fail
      refine NF1.out.mono ?_
      rintro e w2 ⟨rfl, hk⟩
      have K2 := hid (none_trans K1.out hk)
      have Y2 := hid ((hk.block _ (heap_lt Y1.out) (fun e => e)).trans Y1.out)
      clear hk c0 c1 c2 c3 c4 y0 y1 y2 y3 NF1
      go_upto_region 11 with fail
      have KD := hid ((Kept.refl none' w2).drew)
      have K3 := hid (none_trans K2.out KD.out)
      have Y3 := hid ((KD.out.block _ (heap_lt Y2.out) (fun e => e)).trans Y2.out)
      have TK3 := hid (TK2.out _ K3.out)
      obtain ⟨c0, c1, c2, c3, c4⟩ := CB.out _ K3.out
      obtain ⟨y0, y1, y2, y3⟩ := dec4 Y3.out
      go_region_held3 (fun w' => w'.cell? ⟨wb, 4, none⟩ = some (.pointer (some ⟨sb, 0, none⟩)) ∧ w'.cell? ⟨y, 3, none⟩ = some (.bool d)) ((refine ⟨?_, ?_⟩ <;> first | with_reducible assumption | fail)) (first
        | (go_at_call 9; (with_reducible refine TK3.out.mono ?_); rintro e w4 ⟨p, g, er, rfl, hq⟩; have Q4 := hid hq; obtain ⟨d4, kp4⟩ := CC2.out _ K3.out _ _ _ _ hq; have Y4 := hid ((kp4.block _ (heap_lt Y3.out) (HT.out _ K3.out _ _ _ Y3.out)).trans Y3.out); obtain ⟨z0, z1, z2, z3⟩ := dec4 Y4.out; clear hq kp4)
        | fail)
      all_goals
        have GT4 := hid (GT2.out _ K3.out _ _ _ _ Q4.out)
        clear c0 c1 c2 c3 c4 y0 y1 y2 y3
        go_wp2_with fail
        refine GT4.out.mono ?_
        rintro e w5 ⟨va5, vc5, n5, R5, x5, t5, fr5, ls5, S5, rfl, D0⟩
        have D := hid D0
        clear D0
        go_wp2_with fail
        exact ⟨rfl, .tuple #[.slice va5 n5 vc5, .bool true], by simp [results, Tryz.results23, go_sem], va5, vc5, n5, R5, x5, t5, fr5, ls5, S5, rfl, D.out⟩
end Go.Proofs.YtocpnddacdpnmaaGreatDoor
/- croftlaw7.do: a block of whole pages. (Written by mkeno.py.) -/
namespace Go.Proofs.YtocpnddacdpnmaaGreatDoor
open Go.RowKit
set_option linter.unusedVariables false

set_option maxRecDepth 20000 in
set_option maxHeartbeats 20000000 in
theorem do_need {w W : World} {wb sb lw : Nat} {x : Bx} {t : Bt} {fr : Nat → List Nat} {ls : List (Nat × Nat)} {S : Sb} {R : Nat → Bk} {n : Nat} (L : LW7 w W wb lw sb x t fr ls S R n) (va : Option Addr) (vc : Nat) (hn : n ≤ 1000) (B : Bks W (.slice va n vc) n R) (op N wh : Int) (d : Bool) (hop : op = 3) (hN2 : N ≤ 9223372036854775807) :
    Calls Tryz.prog 23 #[.pointer (some ⟨wb, 0, none⟩), .slice va n vc, deV op N wh d] W fun e w' => DoP w wb lw sb x t ls S R n e w' := by
  obtain ⟨rg, hrg, hrl, hxn, hR0⟩ := L.rg
  obtain ⟨m, hm⟩ : ∃ m : Nat, m = N.toNat := ⟨_, rfl⟩
  obtain ⟨k, hk⟩ : ∃ k, k = m % (x.o + 1) := ⟨_, rfl⟩
  have hk8 : k ≤ x.o := by
    have := Nat.mod_lt m (show 0 < x.o + 1 by omega)
    omega
  have hk9 : k ≤ 8 := Nat.le_trans hk8 L.po.nums.1
  obtain ⟨mm, hmm⟩ : ∃ mm, t.m.n = mm * 2 ^ k := by
    refine ⟨rg * 2 ^ (x.o - k), ?_⟩
    rw [hrg, Nat.mul_assoc, ← Nat.pow_add, show x.o - k + k = x.o by omega]
  have hz1 : 0 < 2 ^ k := Nat.pow_pos (by decide)
  have hz9 : 2 ^ k ≤ 2 ^ 8 := Nat.pow_le_pow_right (by decide) hk9
  have hz : 4096 ≤ 4096 * 2 ^ k ∧ 4096 * 2 ^ k ≤ 1048576 := by omega
  have NF := hid (fun W' (q : Kept none' W W') => noFit_big (L.keep q) va vc hn (B.kept q (fun _ _ e => e)) (4096 * 2 ^ k) mm hz.1 hz.2 (by rw [← L.po.st, hmm, Nat.mul_assoc, Nat.mul_comm (2 ^ k)]))
  have TK := hid (fun W' (q : Kept none' W W') => (L.keep q).need hk8 hmm d hrg hxn hR0)
  have K0 := hid ((Kept.refl none' W).alloc (deO op N wh d))
  have Y0 := hid (heap_new W (deO op N wh d))
  have CB := hid (fun W' (q : Kept none' W W') => (L.keep q).c)
  have SP := hid (fun W' (q : Kept none' W W') => Space6 (L.keep q).po.pl)
  have RG := hid (fun W' (q : Kept none' W W') => regions6 (L.keep q).po rg hrg)
  have GT := hid (fun W' (q : Kept none' W W') p g er w' (Q : Rq w W' wb lw sb x t ls S R n (4096 * 2 ^ k) (alB R n x.base (4096 * 2 ^ k) mm) d rg p g er w') => got7 (L.keep q) hn (B.kept q (fun _ _ e => e)) (by omega) (by omega) hrg Q)
  have HT := hid (fun W' (q : Kept none' W W') (y : Nat) (cs : Array Value) (z : Nat × Nat) (hy : W'.heap[y]? = some (.cells cs 76 z)) => show ¬ sown x sb y from by
    obtain ⟨h, o⟩ := L.so
    exact (o.keep q).dty hy)
  have CC := hid (fun W' (q : Kept none' W W') p g er w' (Q : Rq w W' wb lw sb x t ls S R n (4096 * 2 ^ k) (alB R n x.base (4096 * 2 ^ k) mm) d rg p g er w') => show w'.cell? ⟨wb, 3, none⟩ = some (.pointer (some ⟨lw, 0, none⟩)) ∧ Kept (sown x sb) W' w' from by
    obtain ⟨fv, lv2, pv, qv, po, pp, hx⟩ := (L.keep q).bx
    exact ⟨(w7c5 ((Q.kp.block _ (heap_lt hx) L.ns).trans hx)).2.2.2.1, Q.kp⟩)
  have hrgb : rg ≤ 64 := Nat.le_trans hrl L.po.nums.2.2.2.2.2.1
  have hob : x.o ≤ 8 := L.po.nums.1
  obtain ⟨QQ, hQ⟩ : ∃ QQ : World → Nat → Bool → Int → World → Prop, QQ = fun W' p g er w' => Rq w W' wb lw sb x t ls S R n (4096 * 2 ^ k) (alB R n x.base (4096 * 2 ^ k) mm) d rg p g er w' := ⟨_, rfl⟩
  obtain ⟨nn, hnn⟩ : ∃ nn, nn = (alB R n x.base (4096 * 2 ^ k) mm) := ⟨_, rfl⟩
  obtain ⟨r, hr⟩ : ∃ r, r = (4096 * 2 ^ k) := ⟨_, rfl⟩
  have TK2 := hid (fun W' (q : Kept none' W W') => show Calls Tryz.prog 19 #[.pointer (some ⟨lw, 0, none⟩), .int .i64 (k : Int), .bool d] W' fun e w' => ∃ p g er, e = rqE p g er ∧ QQ W' p g er w' from by rw [hQ]; exact TK.out W' q)
  have GT2 := hid (show ∀ W', Kept none' W W' → ∀ p g er w', QQ W' p g er w' → Calls Tryz.prog 72 #[.pointer (some ⟨wb, 0, none⟩), .slice va n vc, .int .u64 (r : Int), .bool d, .int .u64 (p : Int), .bool g, .int .i64 er, .int .i64 (rg : Int), .bool nn] w' fun e w2 => DoP w wb lw sb x t ls S R n e w2 from fun W' q p g er w' Q => by rw [hQ] at Q; rw [hnn, hr]; exact GT.out W' q p g er w' Q)
  have CC2 := hid (show ∀ W', Kept none' W W' → ∀ p g er w', QQ W' p g er w' → w'.cell? ⟨wb, 3, none⟩ = some (.pointer (some ⟨lw, 0, none⟩)) ∧ Kept (sown x sb) W' w' from fun W' q p g er w' Q => by rw [hQ] at Q; exact CC.out W' q p g er w' Q)
  have NF2 := hid (fun W' (q : Kept none' W W') => show Calls Tryz.prog 71 #[.pointer (some ⟨wb, 0, none⟩), .slice va n vc, .int .u64 (r : Int)] W' fun e w' => e = .returned (.bool nn) ∧ Kept none' W' w' from by rw [hnn, hr]; exact NF.out W' q)
  have HD := hid (show ∀ w' e, DoP w wb lw sb x t ls S R n e w' → DoP w wb lw sb x t ls S R n e w' from fun _ _ h => h)
  have hri : (4096 : Int) * 2 ^ k = (r : Int) := by rw [hr]; simp
  have hrb : r ≤ 1048576 := by omega
  have hmk : (m : Int) % ((x.o : Int) + 1) = (k : Int) := by rw [hk]; simp
  
  have hmb : m ≤ 9223372036854775807 := by omega
  have HR0 := hid (show m = 0 → k = 0 ∧ r = 4096 from fun e => by
    have e2 : k = 0 := by rw [hk, e]; exact Nat.zero_mod _
    refine ⟨e2, ?_⟩
    rw [hr, e2])
  have hkb : k ≤ 8 := by omega
  generalize x.s = sp at *
  clear L B hrg hrl hxn hR0 hr hQ hnn TK GT CC NF hk8 hz HD
  clear hmm hz1 hz9 hk9
  have GO : Hid (0 < N → N = (m : Int)) := hid (by omega)
  have GZ : Hid (¬ 0 < N → m = 0) := hid (by omega)
  clear hm hk
  by_cases hN : 0 < N
  · have e := GO.out hN
    subst e
    clear GO GZ HR0
    subst hop
    go_enter Tryz.func23, Tryz.ntmps23
    go_upto_region 1 with fail
    generalize W.heap.size = y at *
    generalize W.alloc (deO _ _ wh d) = W0 at *
    obtain ⟨c0, c1, c2, c3, c4⟩ := CB.out _ K0.out
    obtain ⟨y0, y1, y2, y3⟩ := dec4 Y0.out
    have SP0 := hid (SP.out _ K0.out)
    have RG0 := hid (RG.out _ K0.out)
    go_wp2_with fail
    refine SP0.out.mono ?_
    rintro e w1 ⟨rfl, h1⟩
    replace h1 := h1.symm
    subst h1
    go_wp2_with fail
    refine RG0.out.mono ?_
    rintro e w1 ⟨rfl, hk⟩
    have K1 := hid (none_trans K0.out hk)
    have Y1 := hid ((hk.block _ (heap_lt Y0.out) (fun e => e)).trans Y0.out)
    have NF1 := hid (NF2.out _ K1.out)
    clear hk c0 c1 c2 c3 c4 y0 y1 y2 y3 SP0 RG0
    obtain ⟨c0, c1, c2, c3, c4⟩ := CB.out _ K1.out
    obtain ⟨y0, y1, y2, y3⟩ := dec4 Y1.out
    go_wp2_with fail
    refine NF1.out.mono ?_
    rintro e w2 ⟨rfl, hk⟩
    have K2 := hid (none_trans K1.out hk)
    have Y2 := hid ((hk.block _ (heap_lt Y1.out) (fun e => e)).trans Y1.out)
    clear hk c0 c1 c2 c3 c4 y0 y1 y2 y3 NF1
    go_upto_region 17 with fail
    have KD := hid ((Kept.refl none' w2).drew)
    have K3 := hid (none_trans K2.out KD.out)
    have Y3 := hid ((KD.out.block _ (heap_lt Y2.out) (fun e => e)).trans Y2.out)
    have TK3 := hid (TK2.out _ K3.out)
    obtain ⟨c0, c1, c2, c3, c4⟩ := CB.out _ K3.out
    obtain ⟨y0, y1, y2, y3⟩ := dec4 Y3.out
    go_region_held3 (fun w' => w'.cell? ⟨wb, 3, none⟩ = some (.pointer (some ⟨lw, 0, none⟩)) ∧ w'.cell? ⟨y, 3, none⟩ = some (.bool d)) ((refine ⟨?_, ?_⟩ <;> first | with_reducible assumption | fail)) (first
      | (go_at_call 19; (with_reducible refine TK3.out.mono ?_); rintro e w4 ⟨p, g, er, rfl, hq⟩; have Q4 := hid hq; obtain ⟨d4, kp4⟩ := CC2.out _ K3.out _ _ _ _ hq; have Y4 := hid ((kp4.block _ (heap_lt Y3.out) (HT.out _ K3.out _ _ _ Y3.out)).trans Y3.out); obtain ⟨z0, z1, z2, z3⟩ := dec4 Y4.out; clear hq kp4)
      | fail)
    all_goals
      have GT4 := hid (GT2.out _ K3.out _ _ _ _ Q4.out)
      clear c0 c1 c2 c3 c4 y0 y1 y2 y3
      go_wp2_with fail
      refine GT4.out.mono ?_
      rintro e w5 ⟨va5, vc5, n5, R5, x5, t5, fr5, ls5, S5, rfl, D0⟩
      have D := hid D0
      clear D0
      go_wp2_with fail
      exact ⟨rfl, .tuple #[.slice va5 n5 vc5, .bool true], by simp [results, Tryz.results23, go_sem], va5, vc5, n5, R5, x5, t5, fr5, ls5, S5, rfl, D.out⟩
  · have e := GZ.out hN
    obtain ⟨e2, e3⟩ := HR0.out e
    subst e e2 e3
    have NF3 := hid (fun W' (q : Kept none' W W') => show Calls Tryz.prog 71 #[.pointer (some ⟨wb, 0, none⟩), .slice va n vc, .int .u64 4096] W' fun e w' => e = .returned (.bool nn) ∧ Kept none' W' w' from NF2.out W' q)
    have TK4 := hid (fun W' (q : Kept none' W W') => show Calls Tryz.prog 19 #[.pointer (some ⟨lw, 0, none⟩), .int .i64 0, .bool d] W' fun e w' => ∃ p g er, e = rqE p g er ∧ QQ W' p g er w' from TK2.out W' q)
    have GT3 := hid (show ∀ W', Kept none' W W' → ∀ p g er w', QQ W' p g er w' → Calls Tryz.prog 72 #[.pointer (some ⟨wb, 0, none⟩), .slice va n vc, .int .u64 4096, .bool d, .int .u64 (p : Int), .bool g, .int .i64 er, .int .i64 (rg : Int), .bool nn] w' fun e w2 => DoP w wb lw sb x t ls S R n e w2 from GT2.out)
    clear NF2 TK2 GT2 GO GZ HR0 hri hmk
    have NF2 := NF3
    have TK2 := TK4
    have GT2 := GT3
    clear NF3 TK4 GT3
    subst hop
    go_enter Tryz.func23, Tryz.ntmps23
    go_upto_region 1 with fail
    generalize W.heap.size = y at *
    generalize W.alloc (deO _ _ wh d) = W0 at *
    obtain ⟨c0, c1, c2, c3, c4⟩ := CB.out _ K0.out
    obtain ⟨y0, y1, y2, y3⟩ := dec4 Y0.out
    have SP0 := hid (SP.out _ K0.out)
    have RG0 := hid (RG.out _ K0.out)
    go_wp2_with fail
    refine SP0.out.mono ?_
    rintro e w1 ⟨rfl, h1⟩
    replace h1 := h1.symm
    subst h1
    go_wp2_with fail
    refine RG0.out.mono ?_
    rintro e w1 ⟨rfl, hk⟩
    have K1 := hid (none_trans K0.out hk)
    have Y1 := hid ((hk.block _ (heap_lt Y0.out) (fun e => e)).trans Y0.out)
    have NF1 := hid (NF2.out _ K1.out)
    clear hk c0 c1 c2 c3 c4 y0 y1 y2 y3 SP0 RG0
    obtain ⟨c0, c1, c2, c3, c4⟩ := CB.out _ K1.out
    obtain ⟨y0, y1, y2, y3⟩ := dec4 Y1.out
    go_wp2_with fail
    refine NF1.out.mono ?_
    rintro e w2 ⟨rfl, hk⟩
    have K2 := hid (none_trans K1.out hk)
    have Y2 := hid ((hk.block _ (heap_lt Y1.out) (fun e => e)).trans Y1.out)
    clear hk c0 c1 c2 c3 c4 y0 y1 y2 y3 NF1
    go_upto_region 17 with fail
    have KD := hid ((Kept.refl none' w2).drew)
    have K3 := hid (none_trans K2.out KD.out)
    have Y3 := hid ((KD.out.block _ (heap_lt Y2.out) (fun e => e)).trans Y2.out)
    have TK3 := hid (TK2.out _ K3.out)
    obtain ⟨c0, c1, c2, c3, c4⟩ := CB.out _ K3.out
    obtain ⟨y0, y1, y2, y3⟩ := dec4 Y3.out
    go_region_held3 (fun w' => w'.cell? ⟨wb, 3, none⟩ = some (.pointer (some ⟨lw, 0, none⟩)) ∧ w'.cell? ⟨y, 3, none⟩ = some (.bool d)) ((refine ⟨?_, ?_⟩ <;> first | with_reducible assumption | fail)) (first
      | (go_at_call 19; (with_reducible refine TK3.out.mono ?_); rintro e w4 ⟨p, g, er, rfl, hq⟩; have Q4 := hid hq; obtain ⟨d4, kp4⟩ := CC2.out _ K3.out _ _ _ _ hq; have Y4 := hid ((kp4.block _ (heap_lt Y3.out) (HT.out _ K3.out _ _ _ Y3.out)).trans Y3.out); obtain ⟨z0, z1, z2, z3⟩ := dec4 Y4.out; clear hq kp4)
      | fail)
    all_goals
      have GT4 := hid (GT2.out _ K3.out _ _ _ _ Q4.out)
      clear c0 c1 c2 c3 c4 y0 y1 y2 y3
      go_wp2_with fail
      refine GT4.out.mono ?_
      rintro e w5 ⟨va5, vc5, n5, R5, x5, t5, fr5, ls5, S5, rfl, D0⟩
      have D := hid D0
      clear D0
      go_wp2_with fail
      exact ⟨rfl, .tuple #[.slice va5 n5 vc5, .bool true], by simp [results, Tryz.results23, go_sem], va5, vc5, n5, R5, x5, t5, fr5, ls5, S5, rfl, D.out⟩
end Go.Proofs.YtocpnddacdpnmaaGreatDoor
