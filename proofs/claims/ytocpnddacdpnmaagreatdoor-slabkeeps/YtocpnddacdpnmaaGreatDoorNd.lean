import Derived.Test.YtocpnddacdpnmaaGreatDoorNb
import Derived.Test.YtocpnddacdpnmaaGreatDoorNk
/- croftlaw7.do: one is given back. -/
namespace Go.Proofs.YtocpnddacdpnmaaGreatDoor
open Go.RowKit
set_option linter.unusedVariables false

theorem gone7 {w W wb lw sb x t fr ls S R n} (L : LW7 w W wb lw sb x t fr ls S R n) {d : Nat} (hd : d < n) :
    Calls Tryz.prog 24 #[.pointer (some ⟨wb, 0, none⟩), bkV (R d).p (R d).s (R d).mark] W fun e w' => e = .returned (.bool true) ∧ Gn w W wb lw sb x t ls S R n d w' := by
  by_cases hs : (R d).s < 4096
  · exact gone_cell L hd hs
  · exact gone_pages L hd (by omega)
theorem Gn.doP {w W wb lw sb x t ls S R n d w'} (hd : d < n) (g : Gn w W wb lw sb x t ls S R n d w') {va vc} (B : Bks w' (.slice va (n - 1) vc) (n - 1) (wo R d)) {e : Ending} (he : e = .returned (.tuple #[.slice va (n - 1) vc, .bool true])) : DoP w wb lw sb x t ls S R n e w' := by
  obtain ⟨x', t', fr', ls', S', L', ch, kp, no, ns⟩ := g
  refine ⟨va, vc, n - 1, wo R d, x', t', fr', ls', S', he, L', B, ch, .inl ⟨by omega, fun i hi => ?_⟩⟩
  unfold wo
  by_cases e : i < d
  · exact ⟨i, by omega, by rw [if_pos e]⟩
  · exact ⟨i + 1, by omega, by rw [if_neg e]⟩
theorem Gn.bks {w W wb lw sb x t fr ls S R n d w'} (L : LW7 w W wb lw sb x t fr ls S R n) (g : Gn w W wb lw sb x t ls S R n d w') {va m vc R'} (B : Bks W (.slice va m vc) m R') : Bks w' (.slice va m vc) m R' := by
  obtain ⟨h, o⟩ := L.so
  exact B.call o g.kp
/-- A row of blocks that came of a call beside the world. -/
theorem LW7.none_deed {w W wb lw sb x t fr ls S R} (L : LW7 w W wb lw sb x t fr ls S R 0) : ∀ a s, ¬ Lth x ls S a s := fun a s h => by
  obtain ⟨i, hi, _⟩ := L.bi.ex a s h
  omega
set_option maxRecDepth 20000 in
set_option maxHeartbeats 20000000 in
theorem do_give_none {w W : World} {wb sb lw : Nat} {x : Bx} {t : Bt} {fr : Nat → List Nat} {ls : List (Nat × Nat)} {S : Sb} {R : Nat → Bk} (L : LW7 w W wb lw sb x t fr ls S R 0) (va : Option Addr) (vc : Nat) (B : Bks W (.slice va 0 vc) 0 R) (op N wh : Int) (d : Bool) (hop : op = 4 ∨ op = 5) :
    Calls Tryz.prog 23 #[.pointer (some ⟨wb, 0, none⟩), .slice va 0 vc, deV op N wh d] W fun e w' => DoP w wb lw sb x t ls S R 0 e w' := by
  obtain ⟨rg, hrg, hrl, hxn, hR0⟩ := L.rg
  have K0 := hid ((Kept.refl none' W).alloc (deO op N wh d))
  have Y0 := hid (heap_new W (deO op N wh d))
  have CB := hid (fun W' (q : Kept none' W W') => (L.keep q).c)
  have SP := hid (fun W' (q : Kept none' W W') => Space6 (L.keep q).po.pl)
  have RG := hid (fun W' (q : Kept none' W W') => regions6 (L.keep q).po rg hrg)
  have hb64 : x.base < 18446744073709551616 := by have := L.po.nums.2.2.2.1; omega
  have GV := hid (fun W' (q : Kept none' W W') => (L.keep q).give_no (a := x.base) hb64 (fun s => L.none_deed _ s))
  have DP := hid (fun w' (q : Kept none' W w') => DoP.same L B q rfl)
  generalize x.base = b0 at *
  generalize x.s = sp at *
  clear L B hrg hrl hxn hR0
  have hN : 0 < N ∨ ¬ 0 < N := Classical.em _
  rcases hop with rfl | rfl <;> rcases hN with hN | hN
  all_goals
    as_aux_lemma =>
      go_enter Tryz.func23, Tryz.ntmps23
      go_upto_region 1 with fail
      generalize W.heap.size = y at *
      generalize W.alloc (deO _ _ wh d) = W0 at *
      obtain ⟨c0, c1, c2, c3, c4⟩ := CB.out _ K0.out
      obtain ⟨y0, y1, y2, y3⟩ := dec4 Y0.out
      have SP0 := hid (SP.out _ K0.out)
      have RG0 := hid (RG.out _ K0.out)
      go_wp2_with fail
      refine SP0.out.mono ?_
      rintro e w1 ⟨rfl, h1⟩
      replace h1 := h1.symm
      subst h1
      go_wp2_with fail
      refine RG0.out.mono ?_
      rintro e w1 ⟨rfl, hk⟩
      have K1 := hid (none_trans K0.out hk)
      have Y1 := hid ((hk.block _ (heap_lt Y0.out) (fun e => e)).trans Y0.out)
      clear hk c0 c1 c2 c3 c4 y0 y1 y2 y3 SP0 RG0
      obtain ⟨c0, c1, c2, c3, c4⟩ := CB.out _ K1.out
      obtain ⟨y0, y1, y2, y3⟩ := dec4 Y1.out
      go_upto_region 22 with fail
      have KD := hid ((Kept.refl none' w1).drew)
      have K3 := hid (none_trans K1.out KD.out)
      have GV3 := hid (GV.out _ K3.out)
      clear c0 c1 c2 c3 c4 y0 y1 y2 y3
      obtain ⟨c0, c1, c2, c3, c4⟩ := CB.out _ K3.out
      go_region_held3 (fun w' => w'.cell? ⟨wb, 0, none⟩ = some (.int .u64 (b0 : Int)) ∧ w'.cell? ⟨wb, 4, none⟩ = some (.pointer (some ⟨sb, 0, none⟩))) ((refine ⟨?_, ?_⟩ <;> first | with_reducible assumption | fail)) (first
        | (go_at_call 13; (with_reducible refine GV3.out.mono ?_); rintro e w4 ⟨rfl, hk⟩; have K4 := hid (none_trans K3.out hk); obtain ⟨d0, d1, d2, d3, d4⟩ := CB.out _ K4.out; clear hk)
        | fail)
      all_goals
        have D := hid (DP.out _ K4.out)
        clear c0 c1 c2 c3 c4
        go_wp2_with fail
        exact ⟨rfl, .tuple #[.slice va 0 vc, .bool true], by simp [results, Tryz.results23, go_sem], D.out⟩
end Go.Proofs.YtocpnddacdpnmaaGreatDoor
/- croftlaw7.do: a block of the book is given back. (Written by mkenr.py.) -/
namespace Go.Proofs.YtocpnddacdpnmaaGreatDoor
open Go.RowKit
set_option linter.unusedVariables false

set_option maxRecDepth 20000 in
set_option maxHeartbeats 40000000 in
theorem do_give_first {w W : World} {wb sb lw : Nat} {x : Bx} {t : Bt} {fr : Nat → List Nat} {ls : List (Nat × Nat)} {S : Sb} {R : Nat → Bk} {n : Nat} (L : LW7 w W wb lw sb x t fr ls S R n) (va : Option Addr) (vc : Nat) (hn : n ≤ 1000) (hn0 : 0 < n) (B : Bks W (.slice va n vc) n R) (op N wh : Int) (d : Bool) (hop : op = 4 ∨ op = 5) (hwh : ¬ 0 < wh) :
    Calls Tryz.prog 23 #[.pointer (some ⟨wb, 0, none⟩), .slice va n vc, deV op N wh d] W fun e w' => DoP w wb lw sb x t ls S R n e w' := by
  obtain ⟨rg, hrg, hrl, hxn, hR0⟩ := L.rg
  obtain ⟨ga, hva, _⟩ := B.get 0 hn0
  subst hva
  have hun : 0 < n := hn0
  have K0 := hid ((Kept.refl none' W).alloc (deO op N wh d))
  have Y0 := hid (heap_new W (deO op N wh d))
  have CB := hid (fun W' (q : Kept none' W W') => (L.keep q).c)
  have SP := hid (fun W' (q : Kept none' W W') => Space6 (L.keep q).po.pl)
  have RG := hid (fun W' (q : Kept none' W W') => regions6 (L.keep q).po rg hrg)
  have BC := hid (show ∀ w', Bks w' (.slice (some ⟨ga, 0, none⟩) n vc) n R → w'.cell? ⟨ga, 0, none⟩ = some (.int .u64 ((R 0).p : Int)) ∧ w'.cell? ⟨ga, 1, none⟩ = some (.int .u64 ((R 0).s : Int)) ∧ w'.cell? ⟨ga, 2, none⟩ = some (.int .u8 ((R 0).mark : Int)) from fun w' b => by
    obtain ⟨g', hg', r0, r1, r2⟩ := b.get 0 hun
    injection hg' with hg'
    injection hg' with hg'
    subst hg'
    exact ⟨by simpa using r0, by simpa using r1, by simpa using r2⟩)
  have BK' := hid (fun W' (q : Kept none' W W') => B.kept q (fun _ _ e => e))
  have WT := hid (fun w' (b : Bks w' (.slice (some ⟨ga, 0, none⟩) n vc) n R) => show Calls Tryz.prog 25 #[.slice (some ⟨ga, 0, none⟩) n vc, .int .i64 0] w' fun e w2 => ∃ va' vc', e = .returned (.slice va' (n - 1) vc') ∧ Kept none' w' w2 ∧ Bks w2 (.slice va' (n - 1) vc') (n - 1) (wo R 0) from (without7 (some ⟨ga, 0, none⟩) n vc R hn 0 hun w' b).mono fun e w2 ⟨va', vc', h1, h2, h3, h4⟩ => ⟨va', vc', h1, h2, h3.own⟩)
  have GN := hid (fun W' (q : Kept none' W W') => show Calls Tryz.prog 24 #[.pointer (some ⟨wb, 0, none⟩), bkV (R 0).p (R 0).s (R 0).mark] W' fun e w' => e = .returned (.bool true) ∧ Gn w W wb lw sb x t ls S R n 0 w' ∧ Kept (sown x sb) W' w' from (gone7 (L.keep q) hun).mono fun e w' h => ⟨h.1, h.2.from q, h.2.kp⟩)
  have GB := hid (fun W' (q : Kept none' W W') w' (k : Kept (sown x sb) W' w') va' m' vc' R' (b : Bks W' (.slice va' m' vc') m' R') => show Bks w' (.slice va' m' vc') m' R' from by
    obtain ⟨h, o⟩ := (L.keep q).so
    exact b.call o k)
  have GK := hid (fun w' w2 (g : Gn w W wb lw sb x t ls S R n 0 w') (k' : Kept none' w' w2) => g.keep k')
  have GD := hid (fun w' (g : Gn w W wb lw sb x t ls S R n 0 w') va' vc' (b : Bks w' (.slice va' (n - 1) vc') (n - 1) (wo R 0)) => g.doP hun b rfl)
  generalize Gn w W wb lw sb x t ls S R n 0 = G at *
  generalize wo R 0 = R2 at *
  generalize (R 0).p = bp at *
  generalize (R 0).s = bs at *
  generalize (R 0).mark = bm at *
  obtain ⟨n1, hn1⟩ : ∃ n1, n1 = n - 1 := ⟨_, rfl⟩
  rw [← hn1] at WT GD
  clear hn1
  generalize x.s = sp at *
  clear L B hrg hrl hxn hR0
  have hnz : ¬ (n : Int) = 0 := by omega
  have hnb : ((n : Int) == 0) = false := by rw [beq_eq_false_iff_ne]; omega
  have hN : 0 < N ∨ ¬ 0 < N := Classical.em _
  rcases hop with rfl | rfl <;> rcases hN with hN | hN
  all_goals
    as_aux_lemma =>
      go_enter Tryz.func23, Tryz.ntmps23
      go_upto_region 1 with fail
      generalize W.heap.size = y at *
      generalize W.alloc (deO _ _ wh d) = W0 at *
      obtain ⟨c0, c1, c2, c3, c4⟩ := CB.out _ K0.out
      obtain ⟨y0, y1, y2, y3⟩ := dec4 Y0.out
      have SP0 := hid (SP.out _ K0.out)
      have RG0 := hid (RG.out _ K0.out)
      go_wp2_with fail
      refine SP0.out.mono ?_
      rintro e w1 ⟨rfl, h1⟩
      replace h1 := h1.symm
      subst h1
      go_wp2_with fail
      refine RG0.out.mono ?_
      rintro e w1 ⟨rfl, hk⟩
      have K1 := hid (none_trans K0.out hk)
      have Y1 := hid ((hk.block _ (heap_lt Y0.out) (fun e => e)).trans Y0.out)
      clear hk c0 c1 c2 c3 c4 y0 y1 y2 y3 SP0 RG0
      obtain ⟨c0, c1, c2, c3, c4⟩ := CB.out _ K1.out
      obtain ⟨y0, y1, y2, y3⟩ := dec4 Y1.out
      go_upto_region 26 with fail
      have KD := hid ((Kept.refl none' w1).drew)
      have K3 := hid (none_trans K1.out KD.out)
      have B3 := hid (BK'.out _ K3.out)
      have WT3 := hid (WT.out _ B3.out)
      have GN3 := hid (GN.out _ K3.out)
      clear c0 c1 c2 c3 c4 y0 y1 y2 y3
      obtain ⟨r0, r1, r2⟩ := BC.out _ B3.out
      go_region_held3 (fun w' => w'.cell? ⟨ga, 0, none⟩ = some (.int .u64 (bp : Int)) ∧ w'.cell? ⟨ga, 1, none⟩ = some (.int .u64 (bs : Int)) ∧ w'.cell? ⟨ga, 2, none⟩ = some (.int .u8 (bm : Int))) ((refine ⟨?_, ?_, ?_⟩ <;> first | with_reducible assumption | fail)) (first
        | (go_at_call 25; (with_reducible refine WT3.out.mono ?_); rintro e w4 ⟨va4, vc4, rfl, hk, hb⟩; have K4 := hid (none_trans K3.out hk); have N4 := hid hb; have GN4 := hid (GN.out _ K4.out); obtain ⟨s0, s1, s2⟩ := BC.out _ (BK'.out _ K4.out); clear hk hb)
        | (go_at_call 24; (with_reducible refine GN3.out.mono ?_); rintro e w5 ⟨rfl, hg, hk⟩; have G5 := hid hg; have B5 := hid (GB.out _ K3.out _ hk _ _ _ _ B3.out); have WT5 := hid (WT.out _ B5.out); obtain ⟨t0, t1, t2⟩ := BC.out _ B5.out; clear hk hg)
        | (go_at_call 25; (with_reducible refine WT5.out.mono ?_); rintro e w6 ⟨va4, vc4, rfl, hk, hb⟩; have D := hid (GD.out _ (GK.out _ _ G5.out hk) _ _ hb); obtain ⟨p0, p1, p2⟩ := BC.out _ (B5.out.kept hk (fun _ _ e => e)); clear hk hb)
        | (go_at_call 24; (with_reducible refine GN4.out.mono ?_); rintro e w6 ⟨rfl, hg, hk⟩; have D := hid (GD.out _ hg _ _ (GB.out _ K4.out _ hk _ _ _ _ N4.out)); obtain ⟨p0, p1, p2⟩ := BC.out _ (GB.out _ K4.out _ hk _ _ _ _ (BK'.out _ K4.out)); clear hk hg)
        | fail)
      all_goals
        go_wp2_with fail
        exact ⟨rfl, .tuple #[.slice va4 n1 vc4, .bool true], by simp [results, Tryz.results23, go_sem], D.out⟩
set_option maxRecDepth 20000 in
set_option maxHeartbeats 40000000 in
theorem do_give_some {w W : World} {wb sb lw : Nat} {x : Bx} {t : Bt} {fr : Nat → List Nat} {ls : List (Nat × Nat)} {S : Sb} {R : Nat → Bk} {n : Nat} (L : LW7 w W wb lw sb x t fr ls S R n) (va : Option Addr) (vc : Nat) (hn : n ≤ 1000) (hn0 : 0 < n) (B : Bks W (.slice va n vc) n R) (op N : Int) (d : Bool) (hop : op = 4 ∨ op = 5) (m u : Nat) (hm : 0 < m) (hmb : m ≤ 9223372036854775807) (hu : u = m % n) :
    Calls Tryz.prog 23 #[.pointer (some ⟨wb, 0, none⟩), .slice va n vc, deV op N (m : Int) d] W fun e w' => DoP w wb lw sb x t ls S R n e w' := by
  obtain ⟨rg, hrg, hrl, hxn, hR0⟩ := L.rg
  obtain ⟨ga, hva, _⟩ := B.get 0 hn0
  subst hva
  have hun : u < n := by rw [hu]; exact Nat.mod_lt _ hn0
  have hui : (m : Int) % (n : Int) = (u : Int) := by rw [hu]; simp
  have hut : (m : Int).tmod (n : Int) = (u : Int) := by rw [Int.tmod_eq_emod_of_nonneg (by omega)]; exact hui
  clear hu
  have K0 := hid ((Kept.refl none' W).alloc (deO op N (m : Int) d))
  have Y0 := hid (heap_new W (deO op N (m : Int) d))
  have CB := hid (fun W' (q : Kept none' W W') => (L.keep q).c)
  have SP := hid (fun W' (q : Kept none' W W') => Space6 (L.keep q).po.pl)
  have RG := hid (fun W' (q : Kept none' W W') => regions6 (L.keep q).po rg hrg)
  have BC := hid (show ∀ w', Bks w' (.slice (some ⟨ga, 0, none⟩) n vc) n R → w'.cell? ⟨ga, u * 3, none⟩ = some (.int .u64 ((R u).p : Int)) ∧ w'.cell? ⟨ga, u * 3 + 1, none⟩ = some (.int .u64 ((R u).s : Int)) ∧ w'.cell? ⟨ga, u * 3 + 2, none⟩ = some (.int .u8 ((R u).mark : Int)) from fun w' b => by
    obtain ⟨g', hg', r0, r1, r2⟩ := b.get u hun
    injection hg' with hg'
    injection hg' with hg'
    subst hg'
    exact ⟨by simpa using r0, by simpa using r1, by simpa using r2⟩)
  have BK' := hid (fun W' (q : Kept none' W W') => B.kept q (fun _ _ e => e))
  have WT := hid (fun w' (b : Bks w' (.slice (some ⟨ga, 0, none⟩) n vc) n R) => show Calls Tryz.prog 25 #[.slice (some ⟨ga, 0, none⟩) n vc, .int .i64 (u : Int)] w' fun e w2 => ∃ va' vc', e = .returned (.slice va' (n - 1) vc') ∧ Kept none' w' w2 ∧ Bks w2 (.slice va' (n - 1) vc') (n - 1) (wo R u) from (without7 (some ⟨ga, 0, none⟩) n vc R hn u hun w' b).mono fun e w2 ⟨va', vc', h1, h2, h3, h4⟩ => ⟨va', vc', h1, h2, h3.own⟩)
  have GN := hid (fun W' (q : Kept none' W W') => show Calls Tryz.prog 24 #[.pointer (some ⟨wb, 0, none⟩), bkV (R u).p (R u).s (R u).mark] W' fun e w' => e = .returned (.bool true) ∧ Gn w W wb lw sb x t ls S R n u w' ∧ Kept (sown x sb) W' w' from (gone7 (L.keep q) hun).mono fun e w' h => ⟨h.1, h.2.from q, h.2.kp⟩)
  have GB := hid (fun W' (q : Kept none' W W') w' (k : Kept (sown x sb) W' w') va' m' vc' R' (b : Bks W' (.slice va' m' vc') m' R') => show Bks w' (.slice va' m' vc') m' R' from by
    obtain ⟨h, o⟩ := (L.keep q).so
    exact b.call o k)
  have GK := hid (fun w' w2 (g : Gn w W wb lw sb x t ls S R n u w') (k' : Kept none' w' w2) => g.keep k')
  have GD := hid (fun w' (g : Gn w W wb lw sb x t ls S R n u w') va' vc' (b : Bks w' (.slice va' (n - 1) vc') (n - 1) (wo R u)) => g.doP hun b rfl)
  generalize Gn w W wb lw sb x t ls S R n u = G at *
  generalize wo R u = R2 at *
  generalize (R u).p = bp at *
  generalize (R u).s = bs at *
  generalize (R u).mark = bm at *
  obtain ⟨n1, hn1⟩ : ∃ n1, n1 = n - 1 := ⟨_, rfl⟩
  rw [← hn1] at WT GD
  clear hn1
  generalize x.s = sp at *
  clear L B hrg hrl hxn hR0
  have hnz : ¬ (n : Int) = 0 := by omega
  have hnb : ((n : Int) == 0) = false := by rw [beq_eq_false_iff_ne]; omega
  have hN : 0 < N ∨ ¬ 0 < N := Classical.em _
  have hui1 : (u : Int) < (n : Int) := by omega
  have huw : IntKind.i64.wrap (u : Int) = (u : Int) := by rw [IntKind.wrap_i64]; omega
  rcases hop with rfl | rfl <;> rcases hN with hN | hN
  all_goals
    as_aux_lemma =>
      go_enter Tryz.func23, Tryz.ntmps23
      go_upto_region 1 with fail
      generalize W.heap.size = y at *
      generalize W.alloc (deO _ _ (m : Int) d) = W0 at *
      obtain ⟨c0, c1, c2, c3, c4⟩ := CB.out _ K0.out
      obtain ⟨y0, y1, y2, y3⟩ := dec4 Y0.out
      have SP0 := hid (SP.out _ K0.out)
      have RG0 := hid (RG.out _ K0.out)
      go_wp2_with fail
      refine SP0.out.mono ?_
      rintro e w1 ⟨rfl, h1⟩
      replace h1 := h1.symm
      subst h1
      go_wp2_with fail
      refine RG0.out.mono ?_
      rintro e w1 ⟨rfl, hk⟩
      have K1 := hid (none_trans K0.out hk)
      have Y1 := hid ((hk.block _ (heap_lt Y0.out) (fun e => e)).trans Y0.out)
      clear hk c0 c1 c2 c3 c4 y0 y1 y2 y3 SP0 RG0
      obtain ⟨c0, c1, c2, c3, c4⟩ := CB.out _ K1.out
      obtain ⟨y0, y1, y2, y3⟩ := dec4 Y1.out
      go_upto_region 26 with fail
      have KD := hid ((Kept.refl none' w1).drew)
      have K3 := hid (none_trans K1.out KD.out)
      have B3 := hid (BK'.out _ K3.out)
      have WT3 := hid (WT.out _ B3.out)
      have GN3 := hid (GN.out _ K3.out)
      clear c0 c1 c2 c3 c4 y0 y1 y2 y3
      obtain ⟨r0, r1, r2⟩ := BC.out _ B3.out
      go_region_held3 (fun w' => w'.cell? ⟨ga, u * 3, none⟩ = some (.int .u64 (bp : Int)) ∧ w'.cell? ⟨ga, u * 3 + 1, none⟩ = some (.int .u64 (bs : Int)) ∧ w'.cell? ⟨ga, u * 3 + 2, none⟩ = some (.int .u8 (bm : Int))) ((refine ⟨?_, ?_, ?_⟩ <;> first | with_reducible assumption | fail)) (first
        | (go_at_call 25; (with_reducible refine WT3.out.mono ?_); rintro e w4 ⟨va4, vc4, rfl, hk, hb⟩; have K4 := hid (none_trans K3.out hk); have N4 := hid hb; have GN4 := hid (GN.out _ K4.out); obtain ⟨s0, s1, s2⟩ := BC.out _ (BK'.out _ K4.out); clear hk hb)
        | (go_at_call 24; (with_reducible refine GN3.out.mono ?_); rintro e w5 ⟨rfl, hg, hk⟩; have G5 := hid hg; have B5 := hid (GB.out _ K3.out _ hk _ _ _ _ B3.out); have WT5 := hid (WT.out _ B5.out); obtain ⟨t0, t1, t2⟩ := BC.out _ B5.out; clear hk hg)
        | (go_at_call 25; (with_reducible refine WT5.out.mono ?_); rintro e w6 ⟨va4, vc4, rfl, hk, hb⟩; have D := hid (GD.out _ (GK.out _ _ G5.out hk) _ _ hb); obtain ⟨p0, p1, p2⟩ := BC.out _ (B5.out.kept hk (fun _ _ e => e)); clear hk hb)
        | (go_at_call 24; (with_reducible refine GN4.out.mono ?_); rintro e w6 ⟨rfl, hg, hk⟩; have D := hid (GD.out _ hg _ _ (GB.out _ K4.out _ hk _ _ _ _ N4.out)); obtain ⟨p0, p1, p2⟩ := BC.out _ (GB.out _ K4.out _ hk _ _ _ _ (BK'.out _ K4.out)); clear hk hg)
        | fail)
      all_goals
        go_wp2_with fail
        exact ⟨rfl, .tuple #[.slice va4 n1 vc4, .bool true], by simp [results, Tryz.results23, go_sem], D.out⟩
end Go.Proofs.YtocpnddacdpnmaaGreatDoor
