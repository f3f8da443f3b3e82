import Derived.Test.YtocpnddacdpnmaaGreatDoorNb
/- croftlaw7.do: the top regions are trimmed. -/
namespace Go.Proofs.YtocpnddacdpnmaaGreatDoor
open Go.RowKit
set_option linter.unusedVariables false

theorem BI.base {x x' : Bx} (hb : x'.base = x.base) {ls S R n} (b : BI x ls S R n) : BI x' ls S R n :=
  ⟨fun i hi => (Lth_base hb).2 (b.th i hi), fun p s h => b.ex p s ((Lth_base hb).1 h), b.nd⟩
theorem LW7.trim {w W wb lw sb x t fr ls S R n} (L : LW7 w W wb lw sb x t fr ls S R n) {rg : Nat} (hrg : t.m.n = rg * 2 ^ x.o) :
    Calls Tryz.prog 26 #[.pointer (some ⟨lw, 0, none⟩)] W fun e w' => e = .returned (.int .i64 ((rg - leftL ls x.o rg : Nat) : Int)) ∧ ∃ x' t' fr', LW7 w w' wb lw sb x' t' fr' ls S R n ∧ Ch x t ls S x' t' ls S ∧ t'.m.n = leftL ls x.o rg * 2 ^ x'.o ∧ Kept (sown x sb) W w' ∧ x'.s = x.s := by
  obtain ⟨h, o⟩ := L.so
  have hl := trF_left ls x.o rg fr (o.sf.tops hrg)
  refine (K.Trim_any o.po rg hrg).mono ?_
  rintro e w' ⟨rfl, x', t', po', sm, hn, kk, nb, bk⟩
  have o' := o.pool po' sm bk (fun a c ha => (o.mem ha).1) kk
  refine ⟨?_, x', t', _, ⟨⟨h, o'⟩, L.lv, L.bi.base sm.base, ?_, L.nw, fun e => ?_, L.mr, by rw [sm.base, sm.R]; exact L.br⟩, ⟨sm.base, sm.R, sm.lim, sm.o, fun j h1 h2 => bk j (o.byte h1) (o'.byte h2)⟩, ?_, kk.mono (fun _ _ e => .inl e), sm.s⟩
  · rw [show (trF x.o rg fr).1 = rg - leftL ls x.o rg by omega]
  · obtain ⟨fv, lv, pv, qv, po, pp, hx⟩ := L.bx
    rw [sm.base, sm.lim, sm.o]
    exact ⟨fv, lv, pv, qv, po, pp, (kk.block _ (heap_lt hx) (fun e => L.ns (.inl e))).trans hx⟩
  · obtain ⟨fv, lv, pv, qv, po, pp, hx⟩ := L.bx
    rcases e with e | e
    · rcases nb _ e with e | e
      · exact L.ns (.inl e)
      · exact absurd (heap_lt hx) (Nat.not_lt.2 e)
    · exact L.ns (.inr e)
  · rw [hn, sm.o, show rg - (trF x.o rg fr).1 = leftL ls x.o rg by omega]
theorem leftL_step {ls : List (Nat × Nat)} {o i rg : Nat} (hi : i < rg) : leftL ls o (rg - i) = if mtL ls ((rg - 1 - i) * 2 ^ o) o = true then rg - i else leftL ls o (rg - (i + 1)) := by
  obtain ⟨q, hq⟩ : ∃ q, rg - i = q + 1 := ⟨rg - i - 1, by omega⟩
  rw [hq, leftL, show rg - 1 - i = q by omega, show rg - (i + 1) = q by omega]
set_option maxRecDepth 20000 in
set_option maxHeartbeats 40000000 in
theorem do_trim {w W : World} {wb sb lw : Nat} {x : Bx} {t : Bt} {fr : Nat → List Nat} {ls : List (Nat × Nat)} {S : Sb} {R : Nat → Bk} {n : Nat} (L : LW7 w W wb lw sb x t fr ls S R n) (va : Option Addr) (vc : Nat) (hn : n ≤ 1000) (B : Bks W (.slice va n vc) n R) (op N wh : Int) (d : Bool) (hop : ¬ (op = 0 ∨ op = 1 ∨ op = 2 ∨ op = 3 ∨ op = 4 ∨ op = 5)) :
    Calls Tryz.prog 23 #[.pointer (some ⟨wb, 0, none⟩), .slice va n vc, deV op N wh d] W fun e w' => DoP w wb lw sb x t ls S R n e w' := by
  obtain ⟨rg, hrg, hrl, hxn, hR0⟩ := L.rg
  have hnum := L.po.nums
  have hrgb : rg ≤ 64 := Nat.le_trans hrl hnum.2.2.2.2.2.1
  have hob : x.o ≤ 8 := hnum.1
  have hR := L.po.pl.bd.hR
  have hbe := hnum.2.2.2.1
  have hz9 : 2 ^ x.o ≤ 2 ^ 8 := Nat.pow_le_pow_right (by decide) hob
  obtain ⟨RR, hRR⟩ : ∃ RR, RR = x.R := ⟨_, rfl⟩
  have hRb : RR ≤ 1048576 := by rw [hRR, hR]; omega
  have K0 := hid ((Kept.refl none' W).alloc (deO op N wh d))
  have Y0 := hid (heap_new W (deO op N wh d))
  have CB := hid (fun W' (q : Kept none' W W') => (L.keep q).c)
  have SP := hid (fun W' (q : Kept none' W W') => Space6 (L.keep q).po.pl)
  have RG := hid (fun W' (q : Kept none' W W') => regions6 (L.keep q).po rg hrg)
  have EN := hid (fun W' (q : Kept none' W W') => end6 (L.keep q).po)
  obtain ⟨E, hE⟩ : ∃ E, E = x.base + x.n := ⟨_, rfl⟩
  rw [← hE] at EN hbe
  have MT := hid (show ∀ W', Kept none' W W' → ∀ i a : Nat, i < rg → a = E - (i + 1) * RR → Calls Tryz.prog 73 #[.slice va n vc, .int .u64 (a : Int), .int .u64 (RR : Int)] W' fun e w' => e = .returned (.bool (mtL ls ((rg - 1 - i) * 2 ^ x.o) x.o)) ∧ Kept none' W' w' from fun W' q i a hi ha => by
    obtain ⟨h, o⟩ := L.so
    have e1 : a = ad x ((rg - 1 - i) * 2 ^ x.o) := by
      have e2 : rg * RR = (rg - 1 - i) * RR + (i + 1) * RR := by rw [← Nat.add_mul, show rg - 1 - i + (i + 1) = rg by omega]
      unfold ad
      rw [ha, hE, hxn, ← hRR, e2, show 4096 * ((rg - 1 - i) * 2 ^ x.o) = (rg - 1 - i) * RR by rw [hRR, hR, Nat.mul_left_comm]]
      omega
    have := meets7 va n vc R hn L.bnd a RR (by omega) hRb W' (B.kept q (fun _ _ e => e))
    rw [e1, show RR = 4096 * 2 ^ x.o by rw [hRR, hR], L.bi.meets o L.lv] at this
    rw [e1, show RR = 4096 * 2 ^ x.o by rw [hRR, hR]]
    exact this)
  have HE := hid (show ∀ i, i < rg → (i + 1) * RR ≤ E from fun i hi => by
    have : (i + 1) * RR ≤ rg * RR := Nat.mul_le_mul_right _ hi
    rw [hE, hxn, ← hRR]
    omega)
  have LS := hid (fun i (hi : i < rg) => leftL_step (ls := ls) (o := x.o) hi)
  have LL := hid (leftL_le ls x.o rg)
  have TR := hid (show ∀ W', Kept none' W W' → ∀ i, i + leftL ls x.o rg = rg → Calls Tryz.prog 26 #[.pointer (some ⟨lw, 0, none⟩)] W' fun e w' => e = .returned (.int .i64 (i : Int)) ∧ (∀ j : Nat, j = rg - i → ∀ w2, Kept none' w' w2 → (Calls Tryz.prog 27 #[.pointer (some ⟨lw, 0, none⟩)] w2 fun e w3 => e = .returned (.pointer (some ⟨x.s, 0, none⟩)) ∧ w3 = w2) ∧ (Calls Tryz.prog 28 #[.pointer (some ⟨x.s, 0, none⟩)] w2 fun e w3 => e = .returned (.int .i64 (j : Int)) ∧ Kept none' w2 w3) ∧ w2.cell? ⟨wb, 3, none⟩ = some (.pointer (some ⟨lw, 0, none⟩)) ∧ DoP w wb lw sb x t ls S R n (.returned (.tuple #[.slice va n vc, .bool true])) w2) from fun W' q i hi => by
    refine ((L.keep q).trim hrg).mono ?_
    rintro e w' ⟨rfl, x', t', fr', L', ch, ht, kp, hs⟩
    refine ⟨by rw [show rg - leftL ls x.o rg = i by omega], fun j hj w2 k2 => ?_⟩
    obtain ⟨h, o⟩ := (L.keep q).so
    have L2 := L'.keep k2
    refine ⟨by rw [← hs]; exact Space6 L2.po.pl, by rw [← hs]; exact regions6 L2.po j (by rw [ht, hj, show rg - i = leftL ls x.o rg by omega]), L2.c.2.2.2.1, ⟨va, vc, n, R, x', t', fr', ls, S, rfl, L2, ((B.kept q (fun _ _ e => e)).call o kp).kept k2 (fun _ _ e => e), ch, .inl ⟨Nat.le_refl _, fun i hi => ⟨i, hi, rfl⟩⟩⟩⟩)
  generalize x.o = oo at *
  generalize x.s = sp at *
  have hRv : (4096 : Int) * 2 ^ oo = (RR : Int) := by rw [hRR, hR]; simp
  have hsh : IntKind.u64.wrap (4096 * 2 ^ min oo 64) = (RR : Int) := by rw [Nat.min_eq_left (by omega), hRv, wrap_u64]; omega
  have how : IntKind.u64.wrap (oo : Int) = (oo : Int) := by rw [wrap_u64]; omega
  have hRw : IntKind.u64.wrap (RR : Int) = (RR : Int) := by rw [wrap_u64]; omega
  clear L B hrg hrl hxn hR0 hnum hR hz9 hRR hE
  have n0 : ¬ op = 0 := fun e => hop (.inl e)
  have n1 : ¬ op = 1 := fun e => hop (.inr (.inl e))
  have n2 : ¬ op = 2 := fun e => hop (.inr (.inr (.inl e)))
  have n3 : ¬ op = 3 := fun e => hop (.inr (.inr (.inr (.inl e))))
  have n4 : ¬ op = 4 := fun e => hop (.inr (.inr (.inr (.inr (.inl e)))))
  have n5 : ¬ op = 5 := fun e => hop (.inr (.inr (.inr (.inr (.inr e)))))
  clear hop
  have hN : 0 < N ∨ ¬ 0 < N := Classical.em _
  rcases hN with hN | hN
  all_goals
    as_aux_lemma =>
      go_enter Tryz.func23, Tryz.ntmps23
      go_upto_region 1 with fail
      generalize W.heap.size = y at *
      generalize W.alloc (deO _ _ wh d) = W0 at *
      obtain ⟨c0, c1, c2, c3, c4⟩ := CB.out _ K0.out
      obtain ⟨y0, y1, y2, y3⟩ := dec4 Y0.out
      have SP0 := hid (SP.out _ K0.out)
      have RG0 := hid (RG.out _ K0.out)
      go_wp2_with fail
      refine SP0.out.mono ?_
      rintro e w1 ⟨rfl, h1⟩
      replace h1 := h1.symm
      subst h1
      go_wp2_with fail
      refine RG0.out.mono ?_
      rintro e w1 ⟨rfl, hk⟩
      have K1 := hid (none_trans K0.out hk)
      have Y1 := hid ((hk.block _ (heap_lt Y0.out) (fun e => e)).trans Y0.out)
      clear hk c0 c1 c2 c3 c4 y0 y1 y2 y3 SP0 RG0
      obtain ⟨y0, y1, y2, y3⟩ := dec4 Y1.out
      have b0 : (op == 0) = false := by rw [beq_eq_false_iff_ne]; exact n0
      have b1 : (op == 1) = false := by rw [beq_eq_false_iff_ne]; exact n1
      have b2 : (op == 2) = false := by rw [beq_eq_false_iff_ne]; exact n2
      have b3 : (op == 3) = false := by rw [beq_eq_false_iff_ne]; exact n3
      have b4 : (op == 4) = false := by rw [beq_eq_false_iff_ne]; exact n4
      have b5 : (op == 5) = false := by rw [beq_eq_false_iff_ne]; exact n5
      go_wp2_with fail
      clear y0 y1 y2 y3
      go_loopw [22] (fun s22 W' => ∃ i : Nat, i ≤ rg ∧ s22 = .int .i64 (i : Int) ∧ Hid (leftL ls oo rg = leftL ls oo (rg - i) ∧ Kept none' W W')) (fun s22 _ => rg - (intOf s22).toNat)
      case atStart => exact ⟨0, Nat.zero_le _, rfl, hid ⟨rfl, K1.out⟩⟩
      case round =>
        obtain ⟨i, hi, rfl, hR⟩ := hrel
        by_cases hlt : i < rg
        · have hii : (i : Int) < (rg : Int) := by omega
          obtain ⟨i1, hi1⟩ : ∃ i1, i1 = i + 1 := ⟨_, rfl⟩
          obtain ⟨c, hc⟩ : ∃ c, c = i1 * RR := ⟨_, rfl⟩
          obtain ⟨a, ha⟩ : ∃ a, a = E - c := ⟨_, rfl⟩
          have hcE : c ≤ E := by rw [hc, hi1]; exact HE.out i hlt
          have hcb : c ≤ 9223372036854775808 := by omega
          have w1' : IntKind.i64.wrap ((i : Int) + 1) = (i1 : Int) := by rw [IntKind.wrap_i64]; omega
          have w2' : IntKind.u64.wrap (i1 : Int) = (i1 : Int) := by rw [wrap_u64]; omega
          have w3' : IntKind.u64.wrap ((i1 : Int) * (RR : Int)) = (c : Int) := by
            rw [wrap_u64, show (i1 : Int) * (RR : Int) = (c : Int) by rw [hc]; simp]
            omega
          have w4' : IntKind.u64.wrap ((E : Int) - (c : Int)) = (a : Int) := by rw [wrap_u64]; omega
          have LSi := hid (LS.out i hlt)
          have KD := hid ((Kept.refl none' wr).drew)
          have K3 := hid (none_trans hR.out.2 KD.out)
          have SP3 := hid (SP.out _ K3.out)
          have MTi := hid (fun W' (q : Kept none' W W') => MT.out W' q i a hlt (by rw [ha, hc, hi1]))
          clear hc ha hi1
          obtain ⟨c0, c1, c2, c3, c4⟩ := CB.out _ K3.out
          generalize mtL ls ((rg - 1 - i) * 2 ^ oo) oo = bb at *
          go_upto_region 28 with fail
          go_region_held3 (fun w' => w'.cell? ⟨wb, 2, none⟩ = some (.int .i64 (oo : Int)) ∧ w'.cell? ⟨wb, 3, none⟩ = some (.pointer (some ⟨lw, 0, none⟩))) ((refine ⟨?_, ?_⟩ <;> first | with_reducible assumption | fail)) (first
            | (go_at_call 27; (with_reducible refine SP3.out.mono ?_); rintro e w4 ⟨rfl, h4⟩; replace h4 := h4.symm; subst h4)
            | (go_at_call 74; (with_reducible refine (EN.out _ K3.out).mono ?_); rintro e w4 ⟨rfl, hk⟩; have K4 := hid (none_trans K3.out hk); have MT4 := hid (MTi.out _ K4.out); obtain ⟨d0, d1, d2, d3, d4⟩ := CB.out _ K4.out; clear hk)
            | (go_at_call 73; (with_reducible refine MT4.out.mono ?_); rintro e w5 ⟨rfl, hk⟩; have K5 := hid (none_trans K4.out hk); obtain ⟨e0, e1, e2, e3, e4⟩ := CB.out _ K5.out; clear hk)
            | fail)
          all_goals
            clear c0 c1 c2 c3 c4 d0 d1 d2 d3 d4 e0 e1 e2 e3 e4
            cases bb with
            | true =>
              have hx := hid (show i + leftL ls oo rg = rg from by
                have h1 := LSi.out
                rw [if_pos rfl] at h1
                rw [hR.out.1, h1]
                omega)
              have TR5 := hid (TR.out _ K5.out i hx.out)
              obtain ⟨c0, c1, c2, c3, c4⟩ := CB.out _ K5.out
              go_wp2_with fail
              refine TR5.out.mono ?_
              rintro e w6 ⟨rfl, hT⟩
              obtain ⟨j, hj⟩ : ∃ j, j = rg - i := ⟨_, rfl⟩
              have hji : (rg : Int) - (i : Int) = (j : Int) := by omega
              have T6 := hid (hT j hj)
              clear hT hj c0 c1 c2 c3 c4 TR5
              obtain ⟨sp6, rg6, c6, _⟩ := T6.out w6 (Kept.refl none' w6)
              have SP6 := hid sp6
              have RG6 := hid rg6
              clear sp6 rg6
              go_wp2_with fail
              refine SP6.out.mono ?_
              rintro e w7 ⟨rfl, h1⟩
              replace h1 := h1.symm
              subst h1
              go_wp2_with fail
              refine RG6.out.mono ?_
              rintro e w7 ⟨rfl, hk⟩
              have D := hid (T6.out _ hk).2.2.2
              clear hk c6 SP6 RG6 T6
              go_wp2_with fail
              exact ⟨rfl, .tuple #[.slice va n vc, .bool true], by simp [results, Tryz.results23, go_sem], D.out⟩
            | false =>
              have D := hid (show leftL ls oo rg = leftL ls oo (rg - (i + 1)) from by
                have h1 := LSi.out
                rw [if_neg (by decide)] at h1
                rw [hR.out.1, h1])
              clear w1' w2' w3' w4' hsh how hRw hRv LSi MTi SP3 K3 KD K4 MT4
              go_wp2_with fail
              exact ⟨⟨i + 1, by omega, by simp, hid ⟨D.out, K5.out⟩⟩, by simp [intOf]; omega⟩
        · obtain rfl : i = rg := by omega
          have hx := hid (show i + leftL ls oo i = i from by
            rw [hR.out.1, Nat.sub_self]
            rfl)
          have K1' := hid hR.out.2
          have KD := hid (fun m => (Kept.refl none' wr).drewN m)
          have hii : decide ((i : Int) < (i : Int)) = false := decide_eq_false (by omega)
          clear hR
          go_upto_region 28 with fail
          go_quiet (fail)
          have K5 := hid (none_trans K1'.out (KD.out nq))
          generalize wr.drewN nq = w5 at *
          have TR5 := hid (TR.out _ K5.out i hx.out)
          obtain ⟨c0, c1, c2, c3, c4⟩ := CB.out _ K5.out
          go_wp2_with fail
          refine TR5.out.mono ?_
          rintro e w6 ⟨rfl, hT⟩
          obtain ⟨j, hj⟩ : ∃ j, j = i - i := ⟨_, rfl⟩
          have hji : (i : Int) - (i : Int) = (j : Int) := by omega
          have T6 := hid (hT j hj)
          clear hT hj c0 c1 c2 c3 c4 TR5
          obtain ⟨sp6, i6, c6, _⟩ := T6.out w6 (Kept.refl none' w6)
          have SP6 := hid sp6
          have RG6 := hid i6
          clear sp6 i6
          go_wp2_with fail
          refine SP6.out.mono ?_
          rintro e w7 ⟨rfl, h1⟩
          replace h1 := h1.symm
          subst h1
          go_wp2_with fail
          refine RG6.out.mono ?_
          rintro e w7 ⟨rfl, hk⟩
          have D := hid (T6.out _ hk).2.2.2
          clear hk c6 SP6 RG6 T6
          go_wp2_with fail
          exact ⟨rfl, .tuple #[.slice va n vc, .bool true], by simp [results, Tryz.results23, go_sem], D.out⟩
end Go.Proofs.YtocpnddacdpnmaaGreatDoor
