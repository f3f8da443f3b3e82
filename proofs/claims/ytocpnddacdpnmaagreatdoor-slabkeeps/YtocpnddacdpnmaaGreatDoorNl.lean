import Derived.Test.YtocpnddacdpnmaaGreatDoorNa
import Derived.Laws.BitsAllLaws
/- croftlaw7.got of a block that was handed out. -/
namespace Go.Proofs.YtocpnddacdpnmaaGreatDoor
open Go.RowKit
set_option linter.unusedVariables false

set_option maxRecDepth 20000 in
set_option maxHeartbeats 4000000 in
theorem got_yes {w W : World} {wb lw sb : Nat} {x : Bx} {t : Bt} {fr : Nat → List Nat} {ls : List (Nat × Nat)} (po : PO w W lw x t fr ls) (bx : ∃ fv lv pv qv po pp, W.heap[wb]? = some (w7O x.base x.lim x.o lw sb fv lv pv qv po pp)) (va : Option Addr) (n vc : Nat) (R : Nat → Bk) (hn : n ≤ 1000) (hR : Bnd R n) (B : Bks W (.slice va n vc) n R) (r p rg rg' : Nat) (d nn : Bool) (hr : 0 < r) (hr2 : r ≤ 1048576) (hrg : t.m.n = rg' * 2 ^ x.o) (hrg2 : rg' = if nn = true then rg + 1 else rg) (hst : nn = true → d = false ∧ rg ≠ x.lim) (hp1 : x.base ≤ p) (hp2 : p % r = 0) (hp3 : p + r ≤ x.base + x.n) (hm : mtB R p r n = false) (pg : Nat) (hpg : pg = p - p % 4096) (hsm : r < 4096 → mtB R pg 4096 n = true → cnB R pg r n * r ≠ 0) :
    Calls Tryz.prog 72 #[.pointer (some ⟨wb, 0, none⟩), .slice va n vc, .int .u64 (r : Int), .bool d, .int .u64 (p : Int), .bool nn, .int .i64 0, .int .i64 (rg : Int), .bool nn] W fun e w' => ∃ g cap mk, mk < 256 ∧ e = .returned (.tuple #[.slice (some ⟨g, 0, none⟩) (n + 1) cap, .bool true]) ∧ Kept none' W w' ∧ Bks w' (.slice (some ⟨g, 0, none⟩) (n + 1) cap) (n + 1) (mor R n ⟨p, r, mk⟩) := by
  have hnum := po.nums
  have hbe : x.base + x.n ≤ 9223372036854775808 := hnum.2.2.2.1
  have hrgb : rg' ≤ 1024 := by
    have hz : 0 < 2 ^ x.o := Nat.pow_pos (by decide)
    have : rg' * 1 ≤ rg' * 2 ^ x.o := Nat.mul_le_mul_left _ hz
    have := hnum.2.1
    omega
  obtain ⟨fv, lv, pv, qv, po', pp, hx⟩ := bx
  have HX := hid (fun W' (k : Kept none' W W') => w7c5 ((k.block _ (heap_lt hx) (fun e => e)).trans hx))
  have SP := hid (fun W' (k : Kept none' W W') => Space6 (po.keep k).pl)
  have RG := hid (fun W' (k : Kept none' W W') => regions6 (po.keep k) rg' hrg)
  have EN := hid (fun W' (k : Kept none' W W') => end6 (po.keep k))
  have MT := hid (fun W' (k : Kept none' W W') (a z : Nat) (ha : a ≤ 9223372036854775808) (hz : z ≤ 1048576) => meets7 va n vc R hn hR a z ha hz W' (B.kept k (fun _ _ e => e)))
  have CV := hid (fun W' (k : Kept none' W W') (a z : Nat) (ha : a ≤ 9223372036854775808) (hz : z ≤ 1048576) => covered7 va n vc R hn hR a z ha hz W' (B.kept k (fun _ _ e => e)))
  have HB := hid (fun W' (k : Kept none' W W') => B.kept k (fun _ _ e => e))
  obtain ⟨E, hE⟩ : ∃ E, E = x.base + x.n := ⟨_, rfl⟩
  rw [← hE] at EN hbe hp3
  generalize x.base = b0 at *
  generalize x.lim = li at *
  generalize x.s = sp at *
  generalize x.o = oo at *
  have hmm := MT.out
  clear hE hnum hx B hrg po hmm hR
  have M1 := hid (fun W' (k : Kept none' W W') => show Calls Tryz.prog 73 #[.slice va n vc, .int .u64 (p : Int), .int .u64 (r : Int)] W' fun e w' => e = .returned (.bool false) ∧ Kept none' W' w' from by
    have := MT.out W' k p r (by omega) hr2
    rw [hm] at this
    exact this)
  have hp0 : (p : Int) % (r : Int) = 0 := by omega
  have hri : ¬ (r : Int) = 0 := by omega
  have hpb : ¬ (p : Int) < (b0 : Int) := by omega
  obtain ⟨q, hq⟩ : ∃ q, q = p + r := ⟨_, rfl⟩
  have hpq : (p : Int) + (r : Int) = (q : Int) := by omega
  have hpe : ¬ (E : Int) < (q : Int) := by omega
  have hp64 : p + r ≤ 9223372036854775808 := by omega
  have hq64 : q ≤ 9223372036854775808 := by omega
  clear hq
  clear hm
  have hand : bits .andNot .u64 (p : Int) 4095 = (pg : Int) := by
    have e := and_not_down p 4096 64 (by omega) (by decide) (by decide)
    rw [show (4095 : Int) = ((4095 : Nat) : Int) from rfl, u64_andNot_nat p 4095 (by omega) (by decide)]
    have e2 : downV p 4096 = pg := by
      unfold downV
      rw [if_pos (by decide), hpg]
      omega
    rw [← e2, ← e]
  have hpgb : pg ≤ p := by omega
  clear hpg
  obtain ⟨mk, hmk, hmv⟩ : ∃ mk : Nat, mk < 256 ∧ mk = (3 * n + r / 16) % 256 := ⟨_, Nat.mod_lt _ (by decide), rfl⟩
  have hmki : (3 * (n : Int) + (r : Int) / 16) % 256 = (mk : Int) := by omega
  clear hmv
  have K0 := hid (Kept.refl none' W)
  have SP0 := hid (SP.out _ K0.out)
  have RG0 := hid (RG.out _ K0.out)
  obtain ⟨c0, c1, c2, c3, c4⟩ := HX.out _ K0.out
  cases nn with
  | false =>
    rw [if_neg (by decide)] at hrg2
    subst hrg2
    go_enter Tryz.func72, Tryz.ntmps72
    go_wp2_with fail
    refine SP0.out.mono ?_
    rintro e w1 ⟨rfl, h1⟩
    replace h1 := h1.symm
    subst h1
    go_wp2_with fail
    refine RG0.out.mono ?_
    rintro e w1 ⟨rfl, hk⟩
    have K1 := hid hk
    clear hk c0 c1 c2 c3 c4
    obtain ⟨c0, c1, c2, c3, c4⟩ := HX.out _ K1.out
    have f1 : decide (p < b0) = false := decide_eq_false (by omega)
    have f2 : decide (E < q) = false := decide_eq_false (by omega)
    have SP1 := hid (SP.out _ K1.out)
    have EN1 := hid (EN.out _ K1.out)
    go_wp2_with fail
    refine SP1.out.mono ?_
    rintro e w2 ⟨rfl, h1⟩
    replace h1 := h1.symm
    subst h1
    go_wp2_with fail
    refine EN1.out.mono ?_
    rintro e w2 ⟨rfl, hk⟩
    have K2 := hid (none_trans K1.out hk)
    clear hk c0 c1 c2 c3 c4
    have MM := hid (M1.out _ K2.out)
    go_wp2_with fail
    refine MM.out.mono ?_
    rintro e w3 ⟨rfl, hk⟩
    have K3 := hid (none_trans K2.out hk)
    clear hk MM
    obtain ⟨c0, c1, c2, c3, c4⟩ := HX.out _ K3.out
    by_cases hb : r < 4096
    · have hbi : (r : Int) < 4096 := by omega
      have HS := hid (hsm hb)
      have M2 := hid (MT.out _ K3.out pg 4096 (by omega) (by decide))
      generalize mtB R pg 4096 n = b2 at *
      go_wp2_with fail
      refine M2.out.mono ?_
      rintro e w4 ⟨rfl, hk⟩
      have K4 := hid (none_trans K3.out hk)
      clear hk M2
      cases b2 with
      | false =>
        clear c0 c1 c2 c3 c4
        obtain ⟨g1, cap1, wa, hr1, hg1, hge1⟩ := app1_run (HB.out _ K4.out) (by omega)
        obtain ⟨g2, cap2, wz, hr3, hg2, hge2, hkeep⟩ := push_bk hg1 (p : Int) (r : Int) ((mk : Nat) : Int) (by omega)
        have HA1 := hid hr1
        have HA2 := hid hr3
        have D := hid (show Kept none' W wz ∧ Bks wz (.slice (some ⟨g2, 0, none⟩) (n + 1) cap2) (n + 1) (mor R n ⟨p, r, mk⟩) from ⟨none_trans K4.out hg2.kp, by
          have := hg2.own
          unfold Bks
          rw [flatB_mor]
          exact this⟩)
        clear hr1 hr3 hg1 hg2 hge1 hge2 hkeep
        go_wp2_with (at_builtin; first | (refine Lib.wpList_append_run _ rfl _ _ _ _ rfl (.slice (some ⟨w4.heap.size, 0, none⟩) 0 0) (.slice va n vc) rfl rfl _ _ (HA1.out _) ?_) | (refine Lib.wpList_append_run _ rfl _ _ _ _ rfl (.slice (some ⟨g1, 0, none⟩) n cap1) (.slice (some ⟨wa.heap.size, 0, none⟩) 1 1) rfl rfl _ _ (HA2.out _) ?_))
        exact ⟨rfl, .tuple #[.slice (some ⟨g2, 0, none⟩) (n + 1) cap2, .bool true], by simp [results, Tryz.results72, go_sem], g2, cap2, mk, hmk, rfl, D.out⟩
      | true =>
        have C2 := hid (CV.out _ K4.out pg r (by omega) hr2)
        have hv0 := HS.out rfl
        have hvb : cnB R pg r n * r ≤ 1048576000 := Nat.le_trans (Nat.mul_le_mul (Nat.le_trans (cnB_le R pg r n) hn) hr2) (by decide)
        generalize cnB R pg r n * r = v at *
        have hvi : ¬ (v : Int) = 0 := by omega
        go_wp2_with fail
        refine C2.out.mono ?_
        rintro e w5 ⟨rfl, hk⟩
        have K5 := hid (none_trans K4.out hk)
        clear hk C2
        clear c0 c1 c2 c3 c4
        obtain ⟨g1, cap1, wa, hr1, hg1, hge1⟩ := app1_run (HB.out _ K5.out) (by omega)
        obtain ⟨g2, cap2, wz, hr3, hg2, hge2, hkeep⟩ := push_bk hg1 (p : Int) (r : Int) ((mk : Nat) : Int) (by omega)
        have HA1 := hid hr1
        have HA2 := hid hr3
        have D := hid (show Kept none' W wz ∧ Bks wz (.slice (some ⟨g2, 0, none⟩) (n + 1) cap2) (n + 1) (mor R n ⟨p, r, mk⟩) from ⟨none_trans K5.out hg2.kp, by
          have := hg2.own
          unfold Bks
          rw [flatB_mor]
          exact this⟩)
        clear hr1 hr3 hg1 hg2 hge1 hge2 hkeep
        go_wp2_with (at_builtin; first | (refine Lib.wpList_append_run _ rfl _ _ _ _ rfl (.slice (some ⟨w5.heap.size, 0, none⟩) 0 0) (.slice va n vc) rfl rfl _ _ (HA1.out _) ?_) | (refine Lib.wpList_append_run _ rfl _ _ _ _ rfl (.slice (some ⟨g1, 0, none⟩) n cap1) (.slice (some ⟨wa.heap.size, 0, none⟩) 1 1) rfl rfl _ _ (HA2.out _) ?_))
        exact ⟨rfl, .tuple #[.slice (some ⟨g2, 0, none⟩) (n + 1) cap2, .bool true], by simp [results, Tryz.results72, go_sem], g2, cap2, mk, hmk, rfl, D.out⟩
    · have hbi : ¬ (r : Int) < 4096 := by omega
      have hbd : decide ((r : Int) < 4096) = false := decide_eq_false hbi
      clear c0 c1 c2 c3 c4
      obtain ⟨g1, cap1, wa, hr1, hg1, hge1⟩ := app1_run (HB.out _ K3.out) (by omega)
      obtain ⟨g2, cap2, wz, hr3, hg2, hge2, hkeep⟩ := push_bk hg1 (p : Int) (r : Int) ((mk : Nat) : Int) (by omega)
      have HA1 := hid hr1
      have HA2 := hid hr3
      have D := hid (show Kept none' W wz ∧ Bks wz (.slice (some ⟨g2, 0, none⟩) (n + 1) cap2) (n + 1) (mor R n ⟨p, r, mk⟩) from ⟨none_trans K3.out hg2.kp, by
        have := hg2.own
        unfold Bks
        rw [flatB_mor]
        exact this⟩)
      clear hr1 hr3 hg1 hg2 hge1 hge2 hkeep
      go_wp2_with (at_builtin; first | (refine Lib.wpList_append_run _ rfl _ _ _ _ rfl (.slice (some ⟨w3.heap.size, 0, none⟩) 0 0) (.slice va n vc) rfl rfl _ _ (HA1.out _) ?_) | (refine Lib.wpList_append_run _ rfl _ _ _ _ rfl (.slice (some ⟨g1, 0, none⟩) n cap1) (.slice (some ⟨wa.heap.size, 0, none⟩) 1 1) rfl rfl _ _ (HA2.out _) ?_))
      exact ⟨rfl, .tuple #[.slice (some ⟨g2, 0, none⟩) (n + 1) cap2, .bool true], by simp [results, Tryz.results72, go_sem], g2, cap2, mk, hmk, rfl, D.out⟩
  | true =>
    obtain ⟨hd, hl⟩ := hst rfl
    subst hd
    rw [if_pos rfl] at hrg2
    have hrgi : (rg : Int) + 1 = (rg' : Int) := by omega
    clear hrg2
    have hli : ¬ (rg : Int) = (li : Int) := by omega
    go_enter Tryz.func72, Tryz.ntmps72
    go_wp2_with fail
    refine SP0.out.mono ?_
    rintro e w1 ⟨rfl, h1⟩
    replace h1 := h1.symm
    subst h1
    go_wp2_with fail
    refine RG0.out.mono ?_
    rintro e w1 ⟨rfl, hk⟩
    have K1 := hid hk
    clear hk c0 c1 c2 c3 c4
    obtain ⟨c0, c1, c2, c3, c4⟩ := HX.out _ K1.out
    have f1 : decide (p < b0) = false := decide_eq_false (by omega)
    have f2 : decide (E < q) = false := decide_eq_false (by omega)
    have f3 : ((rg : Int) == (li : Int)) = false := by rw [beq_eq_false_iff_ne]; omega
    have SP1 := hid (SP.out _ K1.out)
    have EN1 := hid (EN.out _ K1.out)
    go_wp2_with fail
    refine SP1.out.mono ?_
    rintro e w2 ⟨rfl, h1⟩
    replace h1 := h1.symm
    subst h1
    go_wp2_with fail
    refine EN1.out.mono ?_
    rintro e w2 ⟨rfl, hk⟩
    have K2 := hid (none_trans K1.out hk)
    clear hk c0 c1 c2 c3 c4
    have MM := hid (M1.out _ K2.out)
    go_wp2_with fail
    refine MM.out.mono ?_
    rintro e w3 ⟨rfl, hk⟩
    have K3 := hid (none_trans K2.out hk)
    clear hk MM
    obtain ⟨c0, c1, c2, c3, c4⟩ := HX.out _ K3.out
    by_cases hb : r < 4096
    · have hbi : (r : Int) < 4096 := by omega
      have HS := hid (hsm hb)
      have M2 := hid (MT.out _ K3.out pg 4096 (by omega) (by decide))
      generalize mtB R pg 4096 n = b2 at *
      go_wp2_with fail
      refine M2.out.mono ?_
      rintro e w4 ⟨rfl, hk⟩
      have K4 := hid (none_trans K3.out hk)
      clear hk M2
      cases b2 with
      | false =>
        clear c0 c1 c2 c3 c4
        obtain ⟨g1, cap1, wa, hr1, hg1, hge1⟩ := app1_run (HB.out _ K4.out) (by omega)
        obtain ⟨g2, cap2, wz, hr3, hg2, hge2, hkeep⟩ := push_bk hg1 (p : Int) (r : Int) ((mk : Nat) : Int) (by omega)
        have HA1 := hid hr1
        have HA2 := hid hr3
        have D := hid (show Kept none' W wz ∧ Bks wz (.slice (some ⟨g2, 0, none⟩) (n + 1) cap2) (n + 1) (mor R n ⟨p, r, mk⟩) from ⟨none_trans K4.out hg2.kp, by
          have := hg2.own
          unfold Bks
          rw [flatB_mor]
          exact this⟩)
        clear hr1 hr3 hg1 hg2 hge1 hge2 hkeep
        go_wp2_with (at_builtin; first | (refine Lib.wpList_append_run _ rfl _ _ _ _ rfl (.slice (some ⟨w4.heap.size, 0, none⟩) 0 0) (.slice va n vc) rfl rfl _ _ (HA1.out _) ?_) | (refine Lib.wpList_append_run _ rfl _ _ _ _ rfl (.slice (some ⟨g1, 0, none⟩) n cap1) (.slice (some ⟨wa.heap.size, 0, none⟩) 1 1) rfl rfl _ _ (HA2.out _) ?_))
        exact ⟨rfl, .tuple #[.slice (some ⟨g2, 0, none⟩) (n + 1) cap2, .bool true], by simp [results, Tryz.results72, go_sem], g2, cap2, mk, hmk, rfl, D.out⟩
      | true =>
        have C2 := hid (CV.out _ K4.out pg r (by omega) hr2)
        have hv0 := HS.out rfl
        have hvb : cnB R pg r n * r ≤ 1048576000 := Nat.le_trans (Nat.mul_le_mul (Nat.le_trans (cnB_le R pg r n) hn) hr2) (by decide)
        generalize cnB R pg r n * r = v at *
        have hvi : ¬ (v : Int) = 0 := by omega
        go_wp2_with fail
        refine C2.out.mono ?_
        rintro e w5 ⟨rfl, hk⟩
        have K5 := hid (none_trans K4.out hk)
        clear hk C2
        clear c0 c1 c2 c3 c4
        obtain ⟨g1, cap1, wa, hr1, hg1, hge1⟩ := app1_run (HB.out _ K5.out) (by omega)
        obtain ⟨g2, cap2, wz, hr3, hg2, hge2, hkeep⟩ := push_bk hg1 (p : Int) (r : Int) ((mk : Nat) : Int) (by omega)
        have HA1 := hid hr1
        have HA2 := hid hr3
        have D := hid (show Kept none' W wz ∧ Bks wz (.slice (some ⟨g2, 0, none⟩) (n + 1) cap2) (n + 1) (mor R n ⟨p, r, mk⟩) from ⟨none_trans K5.out hg2.kp, by
          have := hg2.own
          unfold Bks
          rw [flatB_mor]
          exact this⟩)
        clear hr1 hr3 hg1 hg2 hge1 hge2 hkeep
        go_wp2_with (at_builtin; first | (refine Lib.wpList_append_run _ rfl _ _ _ _ rfl (.slice (some ⟨w5.heap.size, 0, none⟩) 0 0) (.slice va n vc) rfl rfl _ _ (HA1.out _) ?_) | (refine Lib.wpList_append_run _ rfl _ _ _ _ rfl (.slice (some ⟨g1, 0, none⟩) n cap1) (.slice (some ⟨wa.heap.size, 0, none⟩) 1 1) rfl rfl _ _ (HA2.out _) ?_))
        exact ⟨rfl, .tuple #[.slice (some ⟨g2, 0, none⟩) (n + 1) cap2, .bool true], by simp [results, Tryz.results72, go_sem], g2, cap2, mk, hmk, rfl, D.out⟩
    · have hbi : ¬ (r : Int) < 4096 := by omega
      have hbd : decide ((r : Int) < 4096) = false := decide_eq_false hbi
      clear c0 c1 c2 c3 c4
      obtain ⟨g1, cap1, wa, hr1, hg1, hge1⟩ := app1_run (HB.out _ K3.out) (by omega)
      obtain ⟨g2, cap2, wz, hr3, hg2, hge2, hkeep⟩ := push_bk hg1 (p : Int) (r : Int) ((mk : Nat) : Int) (by omega)
      have HA1 := hid hr1
      have HA2 := hid hr3
      have D := hid (show Kept none' W wz ∧ Bks wz (.slice (some ⟨g2, 0, none⟩) (n + 1) cap2) (n + 1) (mor R n ⟨p, r, mk⟩) from ⟨none_trans K3.out hg2.kp, by
        have := hg2.own
        unfold Bks
        rw [flatB_mor]
        exact this⟩)
      clear hr1 hr3 hg1 hg2 hge1 hge2 hkeep
      go_wp2_with (at_builtin; first | (refine Lib.wpList_append_run _ rfl _ _ _ _ rfl (.slice (some ⟨w3.heap.size, 0, none⟩) 0 0) (.slice va n vc) rfl rfl _ _ (HA1.out _) ?_) | (refine Lib.wpList_append_run _ rfl _ _ _ _ rfl (.slice (some ⟨g1, 0, none⟩) n cap1) (.slice (some ⟨wa.heap.size, 0, none⟩) 1 1) rfl rfl _ _ (HA2.out _) ?_))
      exact ⟨rfl, .tuple #[.slice (some ⟨g2, 0, none⟩) (n + 1) cap2, .bool true], by simp [results, Tryz.results72, go_sem], g2, cap2, mk, hmk, rfl, D.out⟩
end Go.Proofs.YtocpnddacdpnmaaGreatDoor
