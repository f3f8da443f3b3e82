import Derived.Test.YtocpnddacdpnmaaGreatDoorNa
import Derived.Deep.RegionHeld3
/- croftlaw7.gone. -/
namespace Go.Proofs.YtocpnddacdpnmaaGreatDoor
open Go.RowKit
set_option linter.unusedVariables false

abbrev bkV (p s m : Nat) : Value := .agg #[.int .u64 (p : Int), .int .u64 (s : Int), .int .u8 (m : Int)]
abbrev bkO (p s m : Nat) : Obj := .cells #[.int .u64 (p : Int), .int .u64 (s : Int), .int .u8 (m : Int)] 79
theorem bkc {W : World} {y p s m : Nat} (h : W.heap[y]? = some (bkO p s m)) : W.cell? ⟨y, 0, none⟩ = some (.int .u64 (p : Int)) ∧ W.cell? ⟨y, 1, none⟩ = some (.int .u64 (s : Int)) := by
  refine ⟨?_, ?_⟩ <;> simp [World.cell?, h]
theorem Gn.from {w W W1 wb lw sb x t ls S R n d w'} (k : Kept none' W W1) (g : Gn w W1 wb lw sb x t ls S R n d w') : Gn w W wb lw sb x t ls S R n d w' := by
  obtain ⟨x', t', fr', ls', S', L, ch, kp, no, ns⟩ := g
  exact ⟨x', t', fr', ls', S', L, ch, k.trans kp (fun _ _ e => e.elim) (fun _ _ e => e), no, ns⟩
theorem Gn.kp {w W wb lw sb x t ls S R n d w'} (g : Gn w W wb lw sb x t ls S R n d w') : Kept (sown x sb) W w' := by
  obtain ⟨_, _, _, _, _, _, _, kp, _⟩ := g
  exact kp
theorem Gn.keep {w W wb lw sb x t ls S R n d w' w2} (g : Gn w W wb lw sb x t ls S R n d w') (k : Kept none' w' w2) : Gn w W wb lw sb x t ls S R n d w2 := by
  obtain ⟨x', t', fr', ls', S', L, ch, kp, no, ns⟩ := g
  exact ⟨x', t', fr', ls', S', L.keep k, ch, kp.trans k (fun _ _ e => e) (fun _ _ e => e.elim), no, ns⟩
set_option maxRecDepth 20000 in
set_option maxHeartbeats 4000000 in
theorem gone_cell {w W wb lw sb x t fr ls S R n} (L : LW7 w W wb lw sb x t fr ls S R n) {d : Nat} (hd : d < n) (hs : (R d).s < 4096) :
    Calls Tryz.prog 24 #[.pointer (some ⟨wb, 0, none⟩), bkV (R d).p (R d).s (R d).mark] W fun e w' => e = .returned (.bool true) ∧ Gn w W wb lw sb x t ls S R n d w' := by
  have K0 := hid ((Kept.refl none' W).alloc (bkO (R d).p (R d).s (R d).mark))
  have Y0 := hid (heap_new W (bkO (R d).p (R d).s (R d).mark))
  have HL := hid L
  have h64 := L.lt64 hd
  have C1 := hid (fun W' (k : Kept none' W W') => (L.keep k).size_yes hd hs)
  have C2 := hid (fun W' (k : Kept none' W W') => (L.keep k).give_no (a := (R d).p + 1) h64 (L.odd_no hd))
  have C3' := hid (fun W' (k : Kept none' W W') => show Calls Tryz.prog 13 #[.pointer (some ⟨sb, 0, none⟩), .int .u64 ((R d).p : Int)] W' fun e w' => e = .returned (.int .i64 0) ∧ Gn w W wb lw sb x t ls S R n d w' ∧ Kept (sown x sb) W' w' from ((L.keep k).give_cell hd hs).mono fun e w' h => ⟨h.1, h.2.from k, h.2.kp⟩)
  have GK := hid (fun w' w2 (g : Gn w W wb lw sb x t ls S R n d w') (k : Kept none' w' w2) => g.keep k)
  have HT := hid (fun W' (k : Kept none' W W') (y : Nat) (cs : Array Value) (z : Nat × Nat) (hy : W'.heap[y]? = some (.cells cs 79 z)) => show ¬ sown x sb y from by
    obtain ⟨h, o⟩ := L.so
    exact (o.keep k).bty hy)
  have CN := hid (fun w' (g : Gn w W wb lw sb x t ls S R n d w') W' (k : Kept none' w' W') => show (Calls Tryz.prog 13 #[.pointer (some ⟨sb, 0, none⟩), .int .u64 ((R d).p : Int)] W' fun e w' => e = .returned (.int .i64 1) ∧ Kept none' W' w') ∧ (Calls Tryz.prog 12 #[.pointer (some ⟨sb, 0, none⟩), .int .u64 ((R d).p : Int)] W' fun e w' => e = .returned (.int .u64 0) ∧ Kept none' W' w') ∧ W'.cell? ⟨wb, 4, none⟩ = some (.pointer (some ⟨sb, 0, none⟩)) from by
    obtain ⟨x', t', fr', ls', S', L', ch, kp, no, ns⟩ := g
    exact ⟨(L'.keep k).give_no (by omega) no, (L'.keep k).size_no (by omega) no, (L'.keep k).c.2.2.2.2⟩)
  have CB := hid (fun W' (k : Kept none' W W') => (L.keep k).c.2.2.2.2)
  generalize Gn w W wb lw sb x t ls S R n d = G at *
  clear HL L
  generalize (R d).p = p at *
  generalize (R d).s = s at *
  generalize (R d).mark = m at *
  obtain ⟨q, hq⟩ : ∃ q, q = p + 1 := ⟨_, rfl⟩
  rw [← hq] at C2
  have hwq : IntKind.u64.wrap ((p : Int) + 1) = (q : Int) := by rw [wrap_u64]; omega
  have hsi : (s : Int) < 4096 := by omega
  clear hq hs hd
  go_enter Tryz.func24, Tryz.ntmps24
  go_upto_region 2 with fail
  generalize W.heap.size = y at *
  generalize W.alloc (bkO p s m) = W0 at *
  have KD := hid ((Kept.refl none' W0).drew)
  have K1 := hid (none_trans K0.out KD.out)
  have Y1 := hid ((KD.out.block _ (heap_lt Y0.out) (fun e => e)).trans Y0.out)
  have C1' := hid (C1.out _ K1.out)
  obtain ⟨b0, b1⟩ := bkc Y1.out
  have b4 := CB.out _ K1.out
  go_region_held3 (fun w' => w'.cell? ⟨wb, 4, none⟩ = some (.pointer (some ⟨sb, 0, none⟩)) ∧ w'.cell? ⟨y, 0, none⟩ = some (.int .u64 (p : Int)) ∧ w'.cell? ⟨y, 1, none⟩ = some (.int .u64 (s : Int))) ((refine ⟨?_, ?_, ?_⟩ <;> first | with_reducible assumption | fail)) (first
    | (go_at_call 12; (with_reducible refine C1'.out.mono ?_); rintro e w3 ⟨rfl, hk3⟩; have K3 := hid (none_trans K1.out hk3); have Y3 := hid ((hk3.block _ (heap_lt Y1.out) (fun e => e)).trans Y1.out); have C2' := hid (C2.out _ K3.out); obtain ⟨d0, d1⟩ := bkc Y3.out; have d4 := CB.out _ K3.out; clear hk3)
    | (go_at_call 13; (with_reducible refine C2'.out.mono ?_); rintro e w4 ⟨rfl, hk4⟩; have K4 := hid (none_trans K3.out hk4); have Y4 := hid ((hk4.block _ (heap_lt Y3.out) (fun e => e)).trans Y3.out); have C3'' := hid (C3'.out _ K4.out); obtain ⟨e0, e1⟩ := bkc Y4.out; have e4 := CB.out _ K4.out; clear hk4)
    | (go_at_call 13; (with_reducible refine C3''.out.mono ?_); rintro e w5 ⟨rfl, g5, hk5⟩; have G5 := hid g5; have Y5 := hid ((hk5.block _ (heap_lt Y4.out) (HT.out _ K4.out _ _ _ Y4.out)).trans Y4.out); have C4 := hid (CN.out _ g5 _ (Kept.refl none' _)); obtain ⟨f0, f1⟩ := bkc Y5.out; have f4 := C4.out.2.2; clear hk5 g5)
    | (go_at_call 13; (with_reducible refine C4.out.1.mono ?_); rintro e w6 ⟨rfl, hk6⟩; have K6 := hid hk6; have Y6 := hid ((hk6.block _ (heap_lt Y5.out) (fun e => e)).trans Y5.out); have C5 := hid (CN.out _ G5.out _ hk6); obtain ⟨g0, g1⟩ := bkc Y6.out; have g4 := C5.out.2.2; clear hk6)
    | (go_at_call 12; (with_reducible refine C5.out.2.1.mono ?_); rintro e w7 ⟨rfl, hk7⟩; have K7 := hid (none_trans K6.out hk7); have Y7 := hid ((hk7.block _ (heap_lt Y6.out) (fun e => e)).trans Y6.out); obtain ⟨i0, i1⟩ := bkc Y7.out; have i4 := (CN.out _ G5.out _ K7.out).2.2; clear hk7)
    | fail)
  all_goals
    have D := hid (GK.out _ _ G5.out K7.out)
    go_wp2_with fail
    go_ret
    exact ⟨rfl, D.out⟩
set_option maxRecDepth 20000 in
set_option maxHeartbeats 4000000 in
theorem gone_pages {w W wb lw sb x t fr ls S R n} (L : LW7 w W wb lw sb x t fr ls S R n) {d : Nat} (hd : d < n) (hs : 4096 ≤ (R d).s) :
    Calls Tryz.prog 24 #[.pointer (some ⟨wb, 0, none⟩), bkV (R d).p (R d).s (R d).mark] W fun e w' => e = .returned (.bool true) ∧ Gn w W wb lw sb x t ls S R n d w' := by
  have K0 := hid ((Kept.refl none' W).alloc (bkO (R d).p (R d).s (R d).mark))
  have Y0 := hid (heap_new W (bkO (R d).p (R d).s (R d).mark))
  have h64 := L.lt64 hd
  obtain ⟨q, k, hq, hc, hp, hsz, hk8⟩ := L.pages hd hs
  have C3' := hid (fun W' (k' : Kept none' W W') => show Calls Tryz.prog 60 #[.pointer (some ⟨lw, 0, none⟩), .int .u64 ((R d).p : Int), .int .i64 (k : Int)] W' fun e w' => e = .returned (.int .i64 0) ∧ Gn w W wb lw sb x t ls S R n d w' ∧ Kept (sown x sb) W' w' from ((L.keep k').give_pages hd hq hc hp).mono fun e w' h => ⟨h.1, h.2.from k', h.2.kp⟩)
  have GK := hid (fun w' w2 (g : Gn w W wb lw sb x t ls S R n d w') (k' : Kept none' w' w2) => g.keep k')
  have HT := hid (fun W' (k : Kept none' W W') (y : Nat) (cs : Array Value) (z : Nat × Nat) (hy : W'.heap[y]? = some (.cells cs 79 z)) => show ¬ sown x sb y from by
    obtain ⟨h, o⟩ := L.so
    exact (o.keep k).bty hy)
  have CN := hid (fun w' (g : Gn w W wb lw sb x t ls S R n d w') W' (k' : Kept none' w' W') => show (Calls Tryz.prog 60 #[.pointer (some ⟨lw, 0, none⟩), .int .u64 ((R d).p : Int), .int .i64 (k : Int)] W' fun e w' => e = .returned (.int .i64 1) ∧ Kept none' W' w') ∧ W'.cell? ⟨wb, 3, none⟩ = some (.pointer (some ⟨lw, 0, none⟩)) from by
    obtain ⟨x', t', fr', ls', S', L', ch, kp, no, ns⟩ := g
    exact ⟨(L'.keep k').give_pages_no (by omega) no k, (L'.keep k').c.2.2.2.1⟩)
  have CB := hid (fun W' (k : Kept none' W W') => (L.keep k).c.2.2.2.1)
  generalize Gn w W wb lw sb x t ls S R n d = G at *
  clear L hq hc hp
  have hz8 : 2 ^ k ≤ 2 ^ 8 := Nat.pow_le_pow_right (by decide) hk8
  generalize (R d).p = p at *
  generalize (R d).s = s at *
  generalize (R d).mark = m at *
  have hsb : s ≤ 1048576 := by omega
  have hsi : ¬ (s : Int) < 4096 := by omega
  have HS := hid hsz
  clear hs hd hsz hz8
  go_enter Tryz.func24, Tryz.ntmps24
  go_upto_region 3 with fail
  generalize W.heap.size = y at *
  generalize W.alloc (bkO p s m) = W0 at *
  obtain ⟨b0, b1⟩ := bkc Y0.out
  go_wp2_with fail
  go_loopw [5] (fun s5 W' => W' = W0 ∧ ∃ j : Nat, j ≤ k ∧ s5 = .int .i64 j) (fun s5 _ => k - (intOf s5).toNat)
  case atStart => exact ⟨rfl, 0, Nat.zero_le _, rfl⟩
  case round =>
    obtain ⟨rfl, j, hj, rfl⟩ := hrel
    obtain ⟨v, hv⟩ : ∃ v, v = 4096 * 2 ^ j := ⟨_, rfl⟩
    have hv8 : 2 ^ j ≤ 2 ^ 8 := Nat.pow_le_pow_right (by decide) (Nat.le_trans hj hk8)
    have hvb : v ≤ 1048576 := by omega
    have hvi : (4096 : Int) * 2 ^ j = (v : Int) := by rw [hv]; simp
    by_cases e : j = k
    · subst e
      have hvs : v = s := by rw [hv, HS.out]
      subst hvs
      clear hv hv8
      go_upto_region 6 with fail
      have KD := hid ((Kept.refl none' wr).drew)
      have K1 := hid (none_trans K0.out KD.out)
      have Y1 := hid ((KD.out.block _ (heap_lt Y0.out) (fun e => e)).trans Y0.out)
      have C1 := hid (C3'.out _ K1.out)
      clear b0 b1
      obtain ⟨b0, b1⟩ := bkc Y1.out
      have b4 := CB.out _ K1.out
      go_region_held3 (fun w' => w'.cell? ⟨wb, 3, none⟩ = some (.pointer (some ⟨lw, 0, none⟩)) ∧ w'.cell? ⟨y, 0, none⟩ = some (.int .u64 (p : Int))) ((refine ⟨?_, ?_⟩ <;> first | with_reducible assumption | fail)) (first
        | (go_at_call 60; (with_reducible refine C1.out.mono ?_); rintro e w5 ⟨rfl, g5, hk5⟩; have G5 := hid g5; have Y5 := hid ((hk5.block _ (heap_lt Y1.out) (HT.out _ K1.out _ _ _ Y1.out)).trans Y1.out); have C4 := hid (CN.out _ g5 _ (Kept.refl none' _)); obtain ⟨f0, f1⟩ := bkc Y5.out; have f4 := C4.out.2; clear hk5 g5)
        | (go_at_call 60; (with_reducible refine C4.out.1.mono ?_); rintro e w6 ⟨rfl, hk6⟩; have K6 := hid hk6; have Y6 := hid ((hk6.block _ (heap_lt Y5.out) (fun e => e)).trans Y5.out); obtain ⟨g0, g1⟩ := bkc Y6.out; have g4 := (CN.out _ G5.out _ hk6).2; clear hk6)
        | fail)
      all_goals
        have D := hid (GK.out _ _ G5.out K6.out)
        go_wp2_with fail
        go_ret
        exact ⟨rfl, D.out⟩
    · have hne : v ≠ s := fun e2 => by
        rw [hv, HS.out] at e2
        have := Nat.pow_lt_pow_right (a := 2) (by decide) (show j < k by omega)
        omega
      have hnei : ¬ (v : Int) = (s : Int) := by omega
      clear hv hv8
      go_wp2_with fail
      exact ⟨⟨trivial, j + 1, by omega, by simp⟩, by simp [intOf]; omega⟩
end Go.Proofs.YtocpnddacdpnmaaGreatDoor
