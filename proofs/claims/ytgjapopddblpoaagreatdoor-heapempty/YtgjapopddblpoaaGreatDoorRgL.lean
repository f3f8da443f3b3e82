import Derived.Test.YtgjapopddblpoaaGreatDoorRgK
/- The pool's calls keep the bytes of live blocks. (Written by mk6l.py off RgB, RgC.) -/
namespace Go.Proofs.YtgjapopddblpoaaGreatDoor.K
open Go.RowKit
set_option linter.unusedVariables false

def ShP (w W : World) (lw : Nat) (x : Bx) (t : Bt) (fr : Nat → List Nat) (ls : List (Nat × Nat)) (w' : World) : Prop := ∃ x' t', PO w w' lw x' t' (frU fr x.o (M.dropL (fr x.o) (t.m.n - 2 ^ x.o))) ls ∧ Sm x x' ∧ x'.n = x.n - x.R ∧ t'.m.n = t.m.n - 2 ^ x.o ∧ Kept (bown x) W w' ∧ Nb W x x' ∧ BK t t' ls ls
set_option maxRecDepth 4000 in
set_option maxHeartbeats 1000000 in
theorem shrink_yes {w W lw x t fr ls} (h : PO w W lw x t fr ls) (h0 : t.m.n ≠ 0) (hm : t.m.n - 2 ^ x.o ∈ fr x.o) :
    Calls Tryz.prog 91 #[.pointer (some ⟨lw, 0, none⟩)] W fun e w' => e = .returned (.bool true) ∧ ShP w W lw x t fr ls w' := by
  obtain ⟨hz2, ht, htp⟩ : 2 ^ x.o ≤ t.m.n ∧ topOk x t ∧ topP x = t.m.n - 2 ^ x.o := by
    rcases h.top with ⟨h1, _⟩ | h1
    · exact absurd h1 h0
    · exact h1
  have PL1 := hid (Pull_f x t fr ls h.sf ht (by rw [htp]; exact hm) W h.pl.bd)
  rw [htp] at PL1
  have hR := h.pl.bd.hR
  have hR1 := h.pl.bd.sp.cfg.r1
  have hst := h.st
  have hmo := h.pl.bd.mo
  have HH := hid h
  have hR2 : x.R = 2 ^ x.o * 4096 := by rw [hR, Nat.mul_comm]
  have HR2 := hid hR2
  have hRn : x.R ≤ x.n := by rw [hR2, ← hst]; exact Nat.mul_le_mul_right _ hz2
  have HRN := hid hRn
  have HZ2 := hid hz2
  have HM := hid hm
  obtain ⟨c0, c1, c2⟩ := h.pl.c
  clear h hR hst hRn hR2 hm h0 ht htp
  go_enter Tryz.func91, Tryz.ntmps91
  go_wp2_with fail
  refine PL1.out.mono ?_
  rintro e w1 ⟨rfl, hd⟩
  obtain ⟨t1, hP1, hn1, hk1, hbk1⟩ := doneK HH.out hd
  have BK1 := hid hbk1
  have P1 := hid hP1
  have K1 := hid hk1
  have N1 := hid hn1
  clear hd hP1 hk1 hbk1 c0 c1 c2 PL1
  obtain ⟨c0, c1, c2⟩ := P1.out.pl.c
  have SH := hid (show Calls Tryz.prog 141 #[.pointer (some ⟨x.m, 0, none⟩), .int .i64 1] w1 fun e w' => e = .returned (.int .i64 0) ∧ ∃ B', MapAt w' x.m B' (resizeM t1.m (t1.m.n - 2 ^ x.o)) ∧ Kept (mown x.m x.B t1.m.o) w1 w' ∧ From w1 x.m x.B B' t1.m.o from by
    have hm1 := P1.out.pl.bd.mo
    have := Shrink_ok x.m x.B t1.m 1 w1 P1.out.pl.bd.mp (by rw [hm1, hn1]; exact Nat.div_pos hz2 (Nat.pow_pos (by decide)))
    rw [Nat.one_mul, hm1] at this
    rw [hm1]
    exact this)
  clear hn1 hz2
  go_wp2_with fail
  refine SH.out.mono ?_
  rintro e w2 ⟨rfl, B', hM, hk, hF⟩
  have P2 := hid (P1.out.pl.grow hk hM rfl hF)
  have K2 := hid hk
  have NF := hid hF
  clear hM hk hF SH c0 c1 c2
  obtain ⟨c0, c1, c2⟩ := P2.out.c
  have DC := hid (show Calls Tryz.prog 142 #[.pointer (some ⟨x.s, 0, none⟩), .int .i64 1] w2 fun e w' => e = .returned (.int .i64 0) ∧ M.SpaceAt w' x.s x.a x.base x.R x.lim (x.n - 1 * x.R) t1.f ∧ M.Kept (M.own x.s x.a) w2 w' from M.Decommit_ok x.s x.a x.base x.R x.lim x.n t1.f 1 w2 P2.out.bd.sp (Nat.div_pos HRN.out (by omega)))
  go_wp2_with fail
  refine DC.out.mono ?_
  rintro e w3 ⟨rfl, hS, hk⟩
  have D := hid (show ShP w W lw x t fr ls w3 from by
    have k3 : Kept (M.own x.s x.a) w2 w3 := toK hk
    have P3 := P2.out.space0 k3 hS
    have hz1 := K1.out.size
    have e1 : x.n - 1 * x.R = x.n - x.R := by rw [Nat.one_mul]
    have hst' : (t1.m.n - 2 ^ x.o) * 4096 = x.n - x.R := by rw [N1.out, Nat.mul_sub_right_distrib, HH.out.st, ← HR2.out]
    have hsf := P1.out.sf.dropT P1.out.pl.bd (t1.m.n - 2 ^ x.o) (by have := HZ2.out; have := N1.out; omega) (by rw [N1.out]; exact List.mem_append_right _ (List.mem_singleton.2 rfl)) (by rw [N1.out]; exact HH.out.sf.pfree (Nat.le_refl _) HM.out) { x with n := x.n - 1 * x.R, B := B' } rfl rfl rfl (by rw [hst']; show x.n - x.R ≤ x.n - 1 * x.R; omega) (by show x.n - 1 * x.R ≤ x.n; omega)
    rw [N1.out, dropR_top HH.out.sf HM.out] at hsf
    have nb : Nb W x { x with n := x.n - 1 * x.R, B := B' } := by
      rintro y (hy | hy | ⟨k, hk, rfl⟩)
      · exact .inl (.inl hy)
      · have hy : mown x.m B' x.o y := hy
        rw [← P1.out.pl.bd.mo] at hy
        rcases NF.out y hy with e | e
        · exact .inl (.inr (.inl (P1.out.pl.bd.mo ▸ e)))
        · exact .inr (Nat.le_trans hz1 e)
      · exact .inl (.inr (.inr ⟨k, hk, rfl⟩))
    refine ⟨{ x with n := x.n - 1 * x.R, B := B' }, ⟨t1.f, resizeM t1.m (t1.m.n - 2 ^ x.o), t1.hd⟩, ⟨P3, ?_, ?_, HH.out.bm⟩, ⟨rfl, rfl, rfl, rfl, rfl, rfl, rfl, rfl, rfl⟩, e1, ?_, ?_, nb, fun i h1 h2 => BK1.out i h1 (Lv.more h2)⟩
    · rw [N1.out]
      exact hsf
    · show (t1.m.n - 2 ^ x.o) * 4096 = x.n - 1 * x.R
      rw [hst', e1]
    · show t1.m.n - 2 ^ x.o = t.m.n - 2 ^ x.o
      rw [N1.out]
    · exact (K1.out.trans K2.out (fun _ _ e => e) (fun _ _ e => .inr (.inl (P1.out.pl.bd.mo ▸ e)))).trans k3 (fun _ _ e => e) (fun _ _ e => .inl e))
  clear hS hk DC c0 c1 c2
  go_wp2_with fail
  go_ret
  exact ⟨rfl, D.out⟩
def TrP (w W : World) (lw : Nat) (x : Bx) (t : Bt) (fr : Nat → List Nat) (ls : List (Nat × Nat)) (r c : Nat) (w' : World) : Prop := ∃ x' t' fr', PO w w' lw x' t' fr' ls ∧ Sm x x' ∧ t'.m.n = (r - c) * 2 ^ x.o ∧ c ≤ r ∧ trF x.o r fr = (c + (trF x.o (r - c) fr').1, (trF x.o (r - c) fr').2) ∧ Kept (bown x) W w' ∧ Nb W x x' ∧ BK t t' ls ls
set_option maxRecDepth 4000 in
set_option maxHeartbeats 1000000 in
theorem Trim_any {w W lw x t fr ls} (h : PO w W lw x t fr ls) (r : Nat) (hr : t.m.n = r * 2 ^ x.o) :
    Calls Tryz.prog 57 #[.pointer (some ⟨lw, 0, none⟩)] W fun e w' => e = .returned (.int .i64 ((trF x.o r fr).1 : Int)) ∧ ∃ x' t', PO w w' lw x' t' (trF x.o r fr).2 ls ∧ Sm x x' ∧ t'.m.n = (r - (trF x.o r fr).1) * 2 ^ x.o ∧ Kept (bown x) W w' ∧ Nb W x x' ∧ BK t t' ls ls := by
  have hr64 : r ≤ 1024 := by
    have h1 := h.nums.2.1
    have hz : 0 < 2 ^ x.o := Nat.pow_pos (by decide)
    have : r * 1 ≤ r * 2 ^ x.o := Nat.mul_le_mul_left _ hz
    omega
  have I0 := hid (show TrP w W lw x t fr ls r 0 W from ⟨x, t, fr, h, Sm.refl x, hr, Nat.zero_le _, by rw [Nat.sub_zero, Nat.zero_add], Kept.refl _ W, fun y e => .inl e, BK.refl _ _ _⟩)
  clear h hr
  go_enter Tryz.func57, Tryz.ntmps57
  go_wp2_with fail
  go_loopw [3] (fun i W' => ∃ c : Nat, c ≤ r ∧ i = .int .i64 c ∧ Hid (TrP w W lw x t fr ls r c W')) (fun i _ => r - (intOf i).toNat)
  case atStart => exact ⟨0, Nat.zero_le _, rfl, I0⟩
  case round =>
    clear I0
    obtain ⟨c, hc, rfl, hI⟩ := hrel
    obtain ⟨x1, t1, fr1, hP, hS, hn, _, hT, hK, hN, hBK⟩ := hI.out
    have BK1 := hid hBK
    have P1 := hid hP
    have S1 := hid hS
    have N1 := hid hn
    have T1 := hid hT
    have K1 := hid hK
    have B1 := hid hN
    clear hI hP hS hn hT hK hN hBK
    have hz : 0 < 2 ^ x.o := Nat.pow_pos (by decide)
    by_cases hgo : t1.m.n ≠ 0 ∧ t1.m.n - 2 ^ x1.o ∈ fr1 x1.o
    · have SH := hid (shrink_yes P1.out hgo.1 hgo.2)
      have hcr : c < r := by
        rcases Nat.lt_or_ge c r with e | e
        · exact e
        · exfalso
          apply hgo.1
          rw [N1.out, show r - c = 0 by omega, Nat.zero_mul]
      have HGO := hid hgo.2
      clear hgo
      go_wp2_with fail
      refine SH.out.mono ?_
      rintro e w2 ⟨rfl, x2, t2, hP2, hS2, _, hn2, hk2, hb2, hbk2⟩
      have D := hid (show TrP w W lw x t fr ls r (c + 1) w2 from by
        obtain ⟨d, hd⟩ : ∃ d, r - c = d + 1 := ⟨r - c - 1, by omega⟩
        have e1 : t1.m.n - 2 ^ x1.o = d * 2 ^ x.o := by
          rw [N1.out, hd, S1.out.o, Nat.add_mul, Nat.one_mul, Nat.add_sub_cancel]
        refine ⟨x2, t2, _, hP2, S1.out.trans hS2, ?_, hcr, ?_, K1.out.trans hk2 (fun _ _ e => e) (fun y hy e => ?_), fun y hy => ?_, BK1.out.trans hbk2 (fun _ h _ => h)⟩
        · rw [hn2, e1, show r - (c + 1) = d by omega]
        · have hT := T1.out
          have hm := HGO.out
          rw [e1, S1.out.o] at hm
          rw [hd] at hT
          rw [trF_yes hm] at hT
          rw [hT, show r - (c + 1) = d by omega, e1, S1.out.o]
          simp only [Prod.mk.injEq, and_true]
          omega
        · rcases B1.out y e with e | e
          · exact e
          · omega
        · rcases hb2 y hy with e | e
          · exact B1.out y e
          · exact .inr (Nat.le_trans K1.out.size e))
      clear hP2 hS2 hn2 hk2 hb2 hbk2 SH
      go_wp2_with fail
      exact ⟨⟨c + 1, by omega, by simp, D⟩, by simp [intOf]; omega⟩
    · have SN := hid (shrink_no P1.out (by
        by_cases e : t1.m.n = 0
        · exact .inl e
        · exact .inr fun e2 => hgo ⟨e, e2⟩))
      have hT : trF x.o r fr = (c, fr1) := by
        rw [T1.out]
        cases hd : r - c with
        | zero => rfl
        | succ d =>
          have e1 : t1.m.n - 2 ^ x1.o = d * 2 ^ x.o := by
            rw [N1.out, hd, S1.out.o, Nat.add_mul, Nat.one_mul, Nat.add_sub_cancel]
          have h0 : t1.m.n ≠ 0 := by
            rw [N1.out, hd, Nat.add_mul, Nat.one_mul]
            omega
          have hm : ¬ d * 2 ^ x.o ∈ fr1 x.o := fun e => hgo ⟨h0, by rw [e1, S1.out.o]; exact e⟩
          rw [trF_no hm]
          rfl
      have HT := hid hT
      clear hgo hT
      go_wp2_with fail
      refine SN.out.mono ?_
      rintro e w2 ⟨rfl, hk⟩
      have D := hid (show ∃ x' t', PO w w2 lw x' t' fr1 ls ∧ Sm x x' ∧ t'.m.n = (r - c) * 2 ^ x.o ∧ Kept (bown x) W w2 ∧ Nb W x x' ∧ BK t t' ls ls from ⟨x1, t1, P1.out.keep hk, S1.out, N1.out, K1.out.trans hk (fun _ _ e => e) (fun _ _ e => e.elim), B1.out, BK1.out⟩)
      clear hk SN
      go_wp2_with fail
      go_ret
      rw [HT.out]
      exact ⟨rfl, D.out⟩
set_option maxRecDepth 4000 in
theorem Give6_yes {w W lw x t fr ls} (h : PO w W lw x t fr ls) (p k : Nat) (hm : (p, k) ∈ ls) (hv : x.P p = none) (a : Nat) (hap : a = ad x p) :
    Calls Tryz.prog 80 #[.pointer (some ⟨lw, 0, none⟩), .int .u64 (a : Int), .int .i64 (k : Int)] W fun e w' => e = .returned (.int .i64 0) ∧ ∃ t', PO w w' lw x t' (giveF x.o fr p k) (dropR ls p) ∧ t'.m.n = t.m.n ∧ Kept (bown x) W w' ∧ BK t t' ls (dropR ls p) := by
  have GY := hid (Give_f x t fr ls h.sf p k hm hv W h.pl.bd)
  rw [← hap] at GY
  have HH := hid h
  obtain ⟨c0, c1, c2⟩ := h.pl.c
  clear h hm hv hap
  go_enter Tryz.func80, Tryz.ntmps80
  go_wp2_with fail
  refine GY.out.mono ?_
  rintro e w1 ⟨rfl, hd⟩
  have D := hid (doneK HH.out hd)
  clear hd GY
  go_wp2_with fail
  go_ret
  exact ⟨rfl, D.out⟩
end Go.Proofs.YtgjapopddblpoaaGreatDoor.K
