import Derived.Test.YtgjapopddblpoaaGreatDoorRh
/- Package malloc: Realloc. (Written by mk8k.py.) -/
namespace Go.Proofs.YtgjapopddblpoaaGreatDoor
open Go.RowKit
open Go.MuLone
set_option linter.unusedVariables false
section
variable {w W W1 W2 W' : World} {hb sb lw : Nat} {x : Bx} {t : Bt} {fr : Nat → List Nat} {ls : List (Nat × Nat)} {S : Sb} {s : Int}
theorem Lth.r {W sb lw h} (o : SO w W sb lw x t fr ls S h) {p z r : Nat} (hl : Lth x ls S p z) (h1 : 4096 ≤ r) (h2 : r < z) (hr : (∃ k, k < 8 ∧ r = szC k) ∨ (∃ k, k ≤ x.o ∧ r = 4096 * 2 ^ k)) : ∃ q k j, (q, k) ∈ ls ∧ S.c q = none ∧ p = ad x q ∧ z = 4096 * 2 ^ k ∧ r = 4096 * 2 ^ j ∧ j ≤ k ∧ k ≤ 8 := by
  rcases hr with ⟨j, hj, rfl⟩ | ⟨j, hj, rfl⟩
  · have := szC_le hj
    omega
  · rcases hl with ⟨g, k, i, hv, rfl⟩ | ⟨q, k, hm, hc, hp, rfl⟩
    · have := szC_le (o.si.pg g k hv.1).1
      omega
    · refine ⟨q, k, j, hm, hc, hp, rfl, rfl, ?_, Nat.le_trans (o.al hm).1 o.po.nums.1⟩
      have h3 := Nat.lt_of_mul_lt_mul_left h2
      exact Nat.le_of_lt ((pow_lt j k).1 h3)
set_option maxRecDepth 4000 in
set_option maxHeartbeats 4000000 in
theorem Realloc_nil (H : HW w W hb sb lw x t fr ls S 0) (sz : Nat) (hs : sz < 18446744073709551616) (d : Bool) (m : Nat) (hm : m = max sz 16) :
    Calls Tryz.prog 15 #[.pointer (some ⟨hb, 0, none⟩), .int .u64 0, .int .u64 (sz : Int), .bool d] W fun e w' => ∃ p' er, e = .returned (.tuple #[.int .u64 ((p' : Nat) : Int), .int .i64 er]) ∧ Rl w W hb sb lw x t fr ls S 0 0 m d p' er w' := by
  have LK := hid H.lock
  have RQ := hid (request_h H.in sz 1 hs (by decide) d m (by omega))
  have ST := hid (fun (w2 : World) (p : Nat) (er : Int) (h : Rq8 w (lk1 W hb) hb sb lw x t fr ls S 1 m d p er w2) => And.intro (h.st H.in) (h.out H))
  clear H hm
  go_enter_defers Tryz.func15, Tryz.ntmps15
  go_wp2_with fail
  refine LK.out.mono ?_
  rintro e w1 ⟨rfl, rfl⟩
  go_wp2_with fail
  refine RQ.out.mono ?_
  rintro e w2 ⟨p, er, rfl, hq⟩
  obtain ⟨⟨x', t', fr', ls', S', H2⟩, hD⟩ := ST.out _ _ _ hq
  have UL := hid (H2.unlock .returning)
  have D := hid (show Rl w W hb sb lw x t fr ls S 0 0 m d p er (lk0 w2 hb) from .nil rfl hD)
  clear hD H2 hq
  go_wp2_with fail
  refine leaves_cons (f := 36) (args := #[.pointer (some ⟨hb, 0, none⟩)]) (by simp) (by simp [go_sem]) ?_
  refine UL.out.mono ?_
  rintro e u' w9 ⟨rfl, rfl, rfl⟩
  exact ⟨_, results_tmp2 rfl _ _ _, p, er, rfl, D.out⟩
set_option maxRecDepth 20000 in
set_option maxHeartbeats 4000000 in
theorem Realloc_p (H : HW w W hb sb lw x t fr ls S 0) (p sz : Nat) (hp : p < 18446744073709551616) (h0 : p ≠ 0) (hs : sz < 18446744073709551616) (d : Bool) (m : Nat) (hm : m = max sz 16) :
    Calls Tryz.prog 15 #[.pointer (some ⟨hb, 0, none⟩), .int .u64 (p : Int), .int .u64 (sz : Int), .bool d] W fun e w' => ∃ p' er, e = .returned (.tuple #[.int .u64 ((p' : Nat) : Int), .int .i64 er]) ∧ Rl w W hb sb lw x t fr ls S 0 p m d p' er w' := by
  have LK := hid H.lock
  have HH := hid H
  have hpi : ((p : Int) == 0) = false := by rw [beq_eq_false_iff_ne]; omega
  have SS := hid (starts_h H.in p hp)
  have SF := hid (fun W' (H' : HW w W' hb sb lw x t fr ls S 1) => sizeFor_h H' sz 1 hs (by decide) m (by omega))
  have H0 := hid h0
  have hm16 : 16 ≤ m := by omega
  have KD := hid (sz_kind (o := x.o) hm16)
  clear H h0 hm
  go_enter_defers Tryz.func15, Tryz.ntmps15
  go_wp2_with fail
  refine LK.out.mono ?_
  rintro e w1 ⟨rfl, rfl⟩
  go_wp2_with fail
  refine SS.out.mono ?_
  rintro e w2 ⟨a, z, l, rfl, hst, hk⟩
  have K3 := hid (hk.alloc (bkO a z))
  have X5 := hid (heap_new w2 (bkO a z))
  obtain ⟨x0, x1, xf⟩ := bkc X5.out
  have H3 := hid (HH.out.in.keep K3.out)
  clear hk SS
  go_upto_region 6 with fail
  generalize w2.alloc (bkO a z) = w3 at *
  generalize w2.heap.size = y5 at *
  rcases hst with ⟨rfl, rfl, hl⟩ | ⟨rfl, hl⟩
  · have L := hid hl
    have hz : z ≤ 9223372036854775808 ∧ a < 9223372036854775808 ∧ 0 < z := by
      obtain ⟨h', o⟩ := HH.out.so
      have h1 := o.inside hl
      have h2 := (o.span hl).1
      have n4 := o.po.nums.2.2.2.1
      omega
    obtain ⟨hz1, hz2, hz3⟩ := hz
    clear hl
    cases ho : szOk x.o m with
    | false =>
      have UL := hid (H3.out.unlock .returning)
      have D := hid (show Rl w W hb sb lw x t fr ls S 0 a m d 0 3 (lk0 w3 hb) from .big z H0.out L.out ho rfl rfl (HH.out.kout K3.out))
      rw [ho] at SF
      rw [if_neg (by decide), if_neg (by decide)] at SF
      clear ho
      go_wp2_with fail
      refine (SF.out _ H3.out).mono ?_
      rintro e w4 ⟨rfl, h4⟩
      replace h4 := h4.symm
      subst h4
      go_wp2_with fail
      refine leaves_cons (f := 36) (args := #[.pointer (some ⟨hb, 0, none⟩)]) (by simp) (by simp [go_sem]) ?_
      refine UL.out.mono ?_
      rintro e u' w9 ⟨rfl, rfl, rfl⟩
      exact ⟨_, results_tmp2 rfl _ _ _, 0, 3, rfl, D.out⟩
    | true =>
      have HO := hid ho
      have kd := KD.out ho
      rw [ho] at SF
      rw [if_pos rfl, if_pos rfl] at SF
      obtain ⟨r, hr⟩ : ∃ r, r = 2 ^ cl m := ⟨_, rfl⟩
      have HR := hid hr
      rw [← hr] at SF kd
      have hrb : r ≤ 1048576 := by
        rcases kd with ⟨k, hk, rfl⟩ | ⟨k, hk, rfl⟩
        · have := szC_le hk
          omega
        · have h8 := HH.out.po.nums.1
          have : 2 ^ k ≤ 2 ^ 8 := Nat.pow_le_pow_right (by decide) (by omega)
          omega
      clear ho hr KD
      by_cases he : r = z
      · subst he
        have UL := hid (H3.out.unlock .returning)
        have D := hid (show Rl w W hb sb lw x t fr ls S 0 a m d a 0 (lk0 w3 hb) from .same H0.out HO.out (by rw [← HR.out]; exact L.out) rfl rfl (HH.out.kout K3.out))
        clear kd
        go_wp2_with fail
        refine (SF.out _ H3.out).mono ?_
        rintro e w4 ⟨rfl, h4⟩
        replace h4 := h4.symm
        subst h4
        go_wp2_with fail
        refine leaves_cons (f := 36) (args := #[.pointer (some ⟨hb, 0, none⟩)]) (by simp) (by simp [go_sem]) ?_
        refine UL.out.mono ?_
        rintro e u' w9 ⟨rfl, rfl, rfl⟩
        exact ⟨_, results_tmp2 rfl _ _ _, a, 0, rfl, D.out⟩
      · have q1 : ((r : Int) == (z : Int)) = false := by rw [beq_eq_false_iff_ne]; omega
        have HE := hid he
        clear he
        by_cases hb4 : 4096 ≤ r ∧ r < z
        · obtain ⟨b1, b2⟩ := hb4
          obtain ⟨q, k, j, hm, hc, hpa, hzz, hrr, hj, hk8⟩ : ∃ q k j, (q, k) ∈ ls ∧ S.c q = none ∧ a = ad x q ∧ z = 4096 * 2 ^ k ∧ r = 4096 * 2 ^ j ∧ j ≤ k ∧ k ≤ 8 := by
            obtain ⟨h', o⟩ := HH.out.so
            exact Lth.r o L.out b1 b2 kd
          have K4 := hid ((Kept.refl none' w3).drew)
          have HD := hid (H3.out.keep K4.out)
          have X6 := hid (show w3.drew.heap[y5]? = some (bkO a z) from X5.out)
          have OZ := hid (fun W' => order_h k hk8 W')
          have OR := hid (fun W' => order_h j (Nat.le_trans hj hk8) W')
          rw [← hzz] at OZ
          rw [← hrr] at OR
          have BD := hid (Buddy6 HD.out.po.pl)
          have SH := hid ((HD.out.shrink hm hc hj a hpa).mono fun e w' h => (show e = .returned (.int .i64 0) ∧ (w'.cell? ⟨hb, 5, none⟩ = some (.pointer (some ⟨lw, 0, none⟩)) ∧ w'.cell? ⟨y5, 1, none⟩ = some (.int .u64 (z : Int))) ∧ Rl w W hb sb lw x t fr ls S 0 a m d a 0 (lk0 w' hb) ∧ ∃ x' t' fr' ls' S', HW w w' hb sb lw x' t' fr' ls' S' 1 from by
            obtain ⟨he, hS⟩ := h
            have hS2 := (hS.from (none_trans K3.out K4.out)).out HH.out
            rw [← hzz, ← hrr, HR.out] at hS2
            refine ⟨he, ?_, .shr z H0.out HO.out L.out (by rw [← HR.out]; exact b1) (by rw [← HR.out]; exact b2) rfl rfl hS2, ?_⟩
            · obtain ⟨t', q', k', j', _, _, _, _, _, _, nx, _⟩ := hS
              obtain ⟨h', o⟩ := HD.out.so
              exact ⟨nx.H.c.2.2.2.2.1, (bkc ((nx.kp.block _ (heap_lt X6.out) (o.bty8 X6.out)).trans X6.out)).2.1⟩
            · obtain ⟨t', q', k', j', _, _, _, _, _, _, nx, _⟩ := hS
              exact ⟨_, _, _, _, _, nx.H⟩))
          obtain ⟨c0, c2, c3, c4, c5, c6⟩ := H3.out.c
          obtain ⟨d0, d2, d3, d4, d5, d6⟩ := HD.out.c
          obtain ⟨y0, y1, yf⟩ := bkc X6.out
          have g1 : (4096 : Int) ≤ (r : Int) := by omega
          have g2 : (r : Int) < (z : Int) := by omega
          clear kd hm hc hpa hzz hrr hj hk8 b1 b2
          go_wp2_with fail
          refine (SF.out _ H3.out).mono ?_
          rintro e w4 ⟨rfl, h4⟩
          replace h4 := h4.symm
          subst h4
          go_wp2_with fail
          go_region_held3 (fun w' => w'.cell? ⟨hb, 5, none⟩ = some (.pointer (some ⟨lw, 0, none⟩)) ∧ w'.cell? ⟨y5, 1, none⟩ = some (.int .u64 (z : Int))) (first | with_reducible exact ⟨d5, y1⟩ | with_reducible exact e6) (first
            | (go_at_call 48; (with_reducible refine (BD.out).mono ?_); rintro e w5 ⟨rfl, h5⟩; replace h5 := h5.symm; subst h5)
            | (go_at_call 50; (first | with_reducible refine (OZ.out _).mono ?_ | with_reducible refine (OR.out _).mono ?_); rintro e w5 ⟨rfl, h5⟩; replace h5 := h5.symm; subst h5)
            | (go_at_call 49; (with_reducible refine (SH.out).mono ?_); rintro e w6 ⟨rfl, e6, hD, x', t', fr', ls', S', H6⟩; have UL := hid (H6.unlock .returning); have D := hid hD; clear hD H6)
            | fail)
          all_goals
            go_wp2_with fail
            refine leaves_cons (f := 36) (args := #[.pointer (some ⟨hb, 0, none⟩)]) (by simp) (by simp [go_sem]) ?_
            refine UL.out.mono ?_
            rintro e u' w9 ⟨rfl, rfl, rfl⟩
            exact ⟨_, results_tmp2 rfl _ _ _, a, 0, rfl, D.out⟩
        · have MV := hid (move_h H3.out L.out r kd d)
          have MD := hid (fun (w6 : World) (p' : Nat) (er : Int) (h : Mq w w3 hb sb lw x t fr ls S 1 a z r d p' er w6) => show (∃ x' t' fr' ls' S', HW w w6 hb sb lw x' t' fr' ls' S' 1) ∧ Rl w W hb sb lw x t fr ls S 0 a m d p' er (lk0 w6 hb) from by
            refine ⟨h.st H3.out, .mov z H0.out HO.out L.out (by rw [← HR.out]; exact HE.out) (by rw [← HR.out]; exact hb4) ?_⟩
            have h2 := (h.from K3.out).out HH.out
            rw [HR.out] at h2
            exact h2)
          have hcs : (¬ (4096 : Int) ≤ (r : Int)) ∨ ((4096 : Int) ≤ (r : Int) ∧ ¬ (r : Int) < (z : Int)) := by omega
          clear kd hb4
          rcases hcs with g1 | ⟨g1, g2⟩
          all_goals
            go_wp2_with fail
            refine (SF.out _ H3.out).mono ?_
            rintro e w4 ⟨rfl, h4⟩
            replace h4 := h4.symm
            subst h4
            go_wp2_with fail
            refine MV.out.mono ?_
            rintro e w6 ⟨p', er, rfl, hM⟩
            obtain ⟨⟨x', t', fr', ls', S', H6⟩, hD⟩ := MD.out _ _ _ hM
            have UL := hid (H6.unlock .returning)
            have D := hid hD
            clear hD H6 hM
            go_wp2_with fail
            refine leaves_cons (f := 36) (args := #[.pointer (some ⟨hb, 0, none⟩)]) (by simp) (by simp [go_sem]) ?_
            refine UL.out.mono ?_
            rintro e u' w9 ⟨rfl, rfl, rfl⟩
            exact ⟨_, results_tmp2 rfl _ _ _, p', er, rfl, D.out⟩
  · have UL := hid (H3.out.unlock .returning)
    have D := hid (show Rl w W hb sb lw x t fr ls S 0 p m d 0 1 (lk0 w3 hb) from .bad H0.out hl rfl rfl (HH.out.kout K3.out))
    clear hl
    go_wp2_with fail
    refine leaves_cons (f := 36) (args := #[.pointer (some ⟨hb, 0, none⟩)]) (by simp) (by simp [go_sem]) ?_
    refine UL.out.mono ?_
    rintro e u' w9 ⟨rfl, rfl, rfl⟩
    exact ⟨_, results_tmp2 rfl _ _ _, 0, 1, rfl, D.out⟩
theorem Realloc_h (H : HW w W hb sb lw x t fr ls S 0) (p sz : Nat) (hp : p < 18446744073709551616) (hs : sz < 18446744073709551616) (d : Bool) (m : Nat) (hm : m = max sz 16) :
    Calls Tryz.prog 15 #[.pointer (some ⟨hb, 0, none⟩), .int .u64 (p : Int), .int .u64 (sz : Int), .bool d] W fun e w' => ∃ p' er, e = .returned (.tuple #[.int .u64 ((p' : Nat) : Int), .int .i64 er]) ∧ Rl w W hb sb lw x t fr ls S 0 p m d p' er w' := by
  by_cases h0 : p = 0
  · subst h0
    exact Realloc_nil H sz hs d m hm
  · exact Realloc_p H p sz hp h0 hs d m hm
end
end Go.Proofs.YtgjapopddblpoaaGreatDoor
