import Derived.Test.YtgjapopddblpoaaGreatDoorSfK
/- The pool's calls keep the bytes of live blocks. (Written by mk6l.py off RgB, RgC.) -/
namespace Go.Proofs.YtgjapopddblpoaaGreatDoor.K
open Go.RowKit
set_option linter.unusedVariables false

theorem doneK {w W W' lw x t fr ls fr' ls'} (h : PO w W lw x t fr ls) (d : DF x t W W' ls fr' ls') : ∃ t', PO w W' lw x t' fr' ls' ∧ t'.m.n = t.m.n ∧ Kept (bown x) W W' ∧ BK t t' ls ls' := by
  obtain ⟨t', hb, hk, hs, hn, hbk⟩ := d
  exact ⟨t', ⟨h.pl.call hb hk, hs, by rw [hn]; exact h.st, h.bm⟩, hn, hk, hbk⟩
theorem Lv.more {ls l : List (Nat × Nat)} {g : Nat} (h : Lv ls g) : Lv (ls ++ l) g := by
  obtain ⟨q, k, h1, h2⟩ := h
  exact ⟨q, k, List.mem_append_left _ h1, h2⟩
theorem lt_page {i n : Nat} (h : i / 4096 * 4096 + 4096 ≤ n) : i < n := by
  have := Nat.div_add_mod i 4096
  have h2 := Nat.mod_lt i (show 0 < 4096 by decide)
  omega
theorem more_lt (f : Nat → Nat) (n i : Nat) (h : i < n) : M.more f n i = f i := by
  unfold M.more
  rw [if_pos h]
def GrP (w W : World) (lw : Nat) (x : Bx) (t : Bt) (fr : Nat → List Nat) (ls : List (Nat × Nat)) (w' : World) : Prop := ∃ x' t', PO w w' lw x' t' (frU fr x.o (t.m.n :: fr x.o)) ls ∧ Sm x x' ∧ x'.n = x.n + x.R ∧ t'.m.n = t.m.n + 2 ^ x.o ∧ Kept (bown x) W w' ∧ Nb W x x' ∧ BK t t' ls ls
set_option maxRecDepth 4000 in
set_option maxHeartbeats 1000000 in
theorem grow_ok {w W lw x t fr ls} (h : PO w W lw x t fr ls) (hl : x.n + x.R ≤ x.lim * x.R) :
    Calls Tryz.prog 146 #[.pointer (some ⟨lw, 0, none⟩), .bool false] W fun e w' => e = .returned (.int .i64 0) ∧ GrP w W lw x t fr ls w' := by
  obtain ⟨n1, n2, n3, n4, ⟨r, n5, n6, n7⟩, n8, n9⟩ := h.nums
  have hcf := h.pl.bd.sp.cfg
  have hR := h.pl.bd.hR
  have hR1 := hcf.r1
  have hbe := hcf.be
  have hlr := hcf.lr
  have hst := h.st
  have hmo := h.pl.bd.mo
  have hr1 : r + 1 ≤ x.lim := by
    rw [n7, ← Nat.succ_mul] at hl
    exact Nat.le_of_mul_le_mul_right hl (by omega)
  have hR2 : x.R = 2 ^ x.o * 4096 := by rw [hR, Nat.mul_comm]
  have hg : t.m.n + 2 ^ x.o ≤ 1024 := by
    have : (t.m.n + 2 ^ x.o) * 4096 ≤ 1024 * 4096 := by
      rw [Nat.add_mul, hst, ← hR2]
      omega
    exact Nat.le_of_mul_le_mul_right this (by decide)
  have CM := hid (M.Commit_ok x.s x.a x.base x.R x.lim x.n t.f W h.pl.bd.sp ⟨r, n7, hr1⟩)
  have GW := hid (show ∀ W1, MapAt W1 x.m x.B t.m → Calls Tryz.prog 199 #[.pointer (some ⟨x.m, 0, none⟩)] W1 fun e w' => e = .returned (.tuple #[]) ∧ ∃ B', MapAt w' x.m B' (growM t.m) ∧ Kept (mown x.m x.B t.m.o) W1 w' ∧ From W1 x.m x.B B' t.m.o from fun W1 hW => Grow_any x.m x.B t.m W1 hW)
  have HN := hid (show (growM t.m).n = t.m.n + 2 ^ x.o from growM_n hmo hg)
  have HH := hid h
  have HG := hid hg
  have HR2 := hid hR2
  have H63 := hid (show x.base + (x.n + x.R) ≤ 9223372036854775808 from by omega)
  obtain ⟨c0, c1, c2⟩ := h.pl.c
  clear h n1 n2 n3 n4 n5 n6 n7 n8 n9 hcf hR hR1 hbe hlr hst hmo hr1 hR2 hg hl
  go_enter Tryz.func146, Tryz.ntmps146
  go_wp2_with fail
  refine CM.out.mono ?_
  rintro e w1 ⟨rfl, g', hS, hk, hgg⟩
  have P1 := hid (HH.out.pl.space (toK hk) hS hgg)
  have K1 := hid (toK hk)
  have NG := hid hgg
  clear hS hk hgg CM c0 c1 c2
  obtain ⟨c0, c1, c2⟩ := P1.out.c
  go_wp2_with fail
  refine (GW.out _ P1.out.bd.mp).mono ?_
  rintro e w2 ⟨rfl, B', hM, hk, hF⟩
  have P2 := hid (P1.out.grow hk hM (growM_o _) hF)
  have K2 := hid hk
  have NF := hid hF
  clear hM hk hF GW c0 c1 c2
  have FD := hid (show Calls Tryz.prog 200 #[.pointer (some ⟨x.b, 0, none⟩)] w2 fun e w' => e = .returned (.int .i64 0) ∧ DF { x with a := some g', n := x.n + x.R, B := B' } ⟨M.more t.f x.n, growM t.m, t.hd⟩ w2 w' (ls ++ [(t.m.n, x.o)]) (frU fr x.o (t.m.n :: fr x.o)) ls from by
    have s2 := HH.out.sf.grow HH.out.pl.bd { x with a := some g', n := x.n + x.R, B := B' } rfl rfl rfl rfl H63.out HG.out
    have e1 : (growM t.m).n * 4096 = x.n + x.R := by rw [HN.out, Nat.add_mul, HH.out.st, ← HR2.out]
    have hz : 0 < 2 ^ x.o := Nat.pow_pos (by decide)
    have htop : topP { x with a := some g', n := x.n + x.R, B := B' } = t.m.n := by
      unfold topP
      show (x.n + x.R) / 4096 - 2 ^ x.o = t.m.n
      rw [← HH.out.st, HR2.out, ← Nat.add_mul, Nat.mul_div_cancel _ (by decide)]
      omega
    have hok : topOk { x with a := some g', n := x.n + x.R, B := B' } ⟨M.more t.f x.n, growM t.m, t.hd⟩ := ⟨by have := HR2.out; show x.n + x.R ≠ 0; omega, e1⟩
    have := Feed_f { x with a := some g', n := x.n + x.R, B := B' } ⟨M.more t.f x.n, growM t.m, t.hd⟩ fr _ s2 hok (by rw [htop]; exact List.mem_append_right _ (List.mem_singleton.2 rfl)) (by rw [htop]; exact HH.out.sf.pout (Nat.le_refl _)) w2 P2.out.bd
    rw [htop, giveF_top, dropR_new HH.out.sf] at this
    exact this)
  obtain ⟨c0, c1, c2⟩ := P2.out.c
  go_wp2_with fail
  refine FD.out.mono ?_
  rintro e w3 ⟨rfl, hd⟩
  have D := hid (show GrP w W lw x t fr ls w3 from by
    obtain ⟨t', hb, hk, hs, hn, hbk⟩ := hd
    have hz1 := K1.out.size
    have nb : Nb W x { x with a := some g', n := x.n + x.R, B := B' } := by
      rintro y (hy | hy | ⟨k, hk, rfl⟩)
      · rcases hy with rfl | hy
        · exact .inl (.inl (.inl rfl))
        · have hy : some g' = some y := hy
          cases hy
          rcases NG.out with e | e
          · exact .inl (.inl (.inr e))
          · exact .inr e
      · have hy : mown x.m B' x.o y := hy
        rw [← HH.out.pl.bd.mo] at hy
        rcases NF.out y hy with e | e
        · exact .inl (.inr (.inl (HH.out.pl.bd.mo ▸ e)))
        · exact .inr (Nat.le_trans hz1 e)
      · exact .inl (.inr (.inr ⟨k, hk, rfl⟩))
    have k12 : Kept (bown x) W w2 := K1.out.trans K2.out (fun _ _ e => .inl e) (fun _ _ e => .inr (.inl (HH.out.pl.bd.mo ▸ e)))
    refine ⟨{ x with a := some g', n := x.n + x.R, B := B' }, t', ⟨P2.out.call hb hk, hs, ?_, HH.out.bm⟩, ⟨rfl, rfl, rfl, rfl, rfl, rfl, rfl, rfl, rfl⟩, rfl, hn.trans HN.out, k12.trans hk (fun _ _ e => e) (fun y hy e => ?_), nb, fun i h1 h2 => ?_⟩
    · rw [hn]
      show (growM t.m).n * 4096 = x.n + x.R
      rw [HN.out, Nat.add_mul, HH.out.st, ← HR2.out]
    · rcases nb y e with e | e
      · exact e
      · omega
    · refine (hbk i (Lv.more h1) h2).trans ?_
      have h3 := HH.out.sf.lv_in h1
      exact more_lt t.f x.n i (lt_page h3))
  clear hd FD c0 c1 c2
  go_wp2_with fail
  go_ret
  exact ⟨rfl, D.out⟩
/-- What Need leaves. -/
inductive NdP (w W : World) (lw : Nat) (x : Bx) (t : Bt) (fr : Nat → List Nat) (ls : List (Nat × Nat)) (k : Int) (d : Bool) (e : Ending) (w' : World) : Prop where
  | bad (hk : inR (x.o + 1) k = false) (he : e = .returned (.tuple #[.int .u64 0, .bool false, .int .i64 1])) (kp : Kept none' W w')
  | here (i j p : Nat) (l : List Nat) (hk : k = (i : Int)) (hi : i ≤ x.o) (hij : i ≤ j) (hj : j ≤ x.o) (hz : ∀ a, i ≤ a → a < j → fr a = []) (hp : fr j = p :: l) (he : e = .returned (.tuple #[.int .u64 ((ad x p : Nat) : Int), .bool false, .int .i64 0])) (hs : ∃ t', PO w w' lw x t' (cutF (frU fr j (M.dropL (fr j) p)) p j i) (ls ++ [(p, i)]) ∧ t'.m.n = t.m.n ∧ BK t t' ls (ls ++ [(p, i)])) (kp : Kept (bown x) W w')
  | stuck (i : Nat) (hk : k = (i : Int)) (hi : i ≤ x.o) (hz : ∀ a, i ≤ a → a ≤ x.o → fr a = []) (hd : d = true ∨ x.n = x.lim * x.R) (he : e = .returned (.tuple #[.int .u64 0, .bool false, .int .i64 2])) (kp : Kept none' W w')
  | grew (i : Nat) (hk : k = (i : Int)) (hi : i ≤ x.o) (hz : ∀ a, i ≤ a → a ≤ x.o → fr a = []) (hd : d = false) (hl : x.n + x.R ≤ x.lim * x.R) (he : e = .returned (.tuple #[.int .u64 ((ad x t.m.n : Nat) : Int), .bool true, .int .i64 0])) (hs : ∃ x' t', PO w w' lw x' t' (cutF fr t.m.n x.o i) (ls ++ [(t.m.n, i)]) ∧ Sm x x' ∧ x'.n = x.n + x.R ∧ t'.m.n = t.m.n + 2 ^ x.o ∧ Nb W x x' ∧ BK t t' ls (ls ++ [(t.m.n, i)])) (kp : Kept (bown x) W w')
set_option maxRecDepth 4000 in
set_option maxHeartbeats 2000000 in
theorem Need_any {w W lw x t fr ls} (h : PO w W lw x t fr ls) (k : Int) (d : Bool) :
    Calls Tryz.prog 94 #[.pointer (some ⟨lw, 0, none⟩), .int .i64 k, .bool d] W fun e w' => NdP w W lw x t fr ls k d e w' := by
  obtain ⟨c0, c1, c2⟩ := h.pl.c
  have HH := hid h
  cases hr : inR (x.o + 1) k with
  | false =>
    have TK := hid (Take_none x t k hr W h.pl.bd)
    have HR := hid hr
    clear h hr
    go_enter Tryz.func94, Tryz.ntmps94
    go_wp2_with fail
    refine TK.out.mono ?_
    rintro e w1 ⟨rfl, h1⟩
    subst h1
    go_wp2_with fail
    exact ⟨rfl, .tuple #[.int .u64 0, .bool false, .int .i64 1], by simp [results, Tryz.results94, go_sem], .bad HR.out rfl (Kept.refl none' _)⟩
  | true =>
    obtain ⟨i, rfl, hi'⟩ := inR_nat hr
    have hi : i ≤ x.o := by omega
    have TK := hid (Take_f x t fr ls h.sf i hi W h.pl.bd)
    clear h hr hi'
    go_enter Tryz.func94, Tryz.ntmps94
    go_wp2_with fail
    refine TK.out.mono ?_
    rintro e w1 (⟨rfl, h1, hz⟩ | ⟨j, p, l, hij, hj, hz, hp, rfl, hd⟩)
    · subst h1
      have HZ := hid hz
      clear hz TK
      by_cases hd : d = true ∨ x.n = x.lim * x.R
      · as_aux_lemma =>
        have GR := hid (grow_no HH.out.pl d hd)
        have HD := hid hd
        clear hd
        go_wp2_with fail
        refine GR.out.mono ?_
        rintro e w2 ⟨rfl, hk⟩
        have K2 := hid hk
        clear hk
        go_wp2_with fail
        exact ⟨rfl, .tuple #[.int .u64 0, .bool false, .int .i64 2], by simp [results, Tryz.results94, go_sem], .stuck i rfl hi HZ.out HD.out rfl K2.out⟩
      · as_aux_lemma =>
        obtain rfl : d = false := by
          cases d with
          | true => exact absurd (.inl rfl) hd
          | false => rfl
        have hl : x.n + x.R ≤ x.lim * x.R := by
          obtain ⟨_, _, _, _, ⟨r, _, n6, n7⟩, _, _⟩ := HH.out.nums
          have h1 : r ≠ x.lim := fun e => hd (.inr (by rw [n7, e]))
          have h2 : (r + 1) * x.R ≤ x.lim * x.R := Nat.mul_le_mul_right _ (by omega)
          rw [Nat.add_mul, Nat.one_mul, ← n7] at h2
          exact h2
        have HL := hid hl
        have GR := hid (grow_ok HH.out hl)
        clear hd hl
        go_wp2_with fail
        refine GR.out.mono ?_
        rintro e w2 ⟨rfl, x2, t2, hP2, hs2, hx2, ht2, hk2, hn2, hbk2⟩
        have BK2 := hid hbk2
        have P2 := hid hP2
        have S2 := hid hs2
        have E2 := hid (And.intro hx2 (And.intro ht2 (And.intro hk2 hn2)))
        have hfo := HZ.out x.o hi (Nat.le_refl _)
        have TK2 := hid (Take_f x2 t2 _ ls hP2.sf i (by rw [hs2.o]; exact hi) w2 hP2.pl.bd)
        obtain ⟨c0, c1, c2⟩ := hP2.pl.c
        rw [hs2.b] at c2 TK2
        clear hP2 hs2 hx2 ht2 hk2 hn2 hbk2 GR
        go_wp2_with fail
        refine TK2.out.mono ?_
        rintro e w3 (⟨_, _, hz3⟩ | ⟨j, p, l, hij, hj, hz3, hp, rfl, hd⟩)
        · exfalso
          have := hz3 x.o hi (by rw [S2.out.o]; exact Nat.le_refl _)
          simp [frU] at this
        · have hjo : j = x.o := by
            rcases Nat.lt_or_ge j x.o with e | e
            · have h1 := HZ.out j hij (Nat.le_of_lt e)
              unfold frU at hp
              rw [if_neg (by omega), h1] at hp
              cases hp
            · rw [S2.out.o] at hj
              omega
          subst hjo
          have hpn : p = t.m.n := by
            unfold frU at hp
            rw [if_pos rfl] at hp
            injection hp with e _
            exact e.symm
          subst hpn
          have D := hid (show ∃ x' t', PO w w3 lw x' t' (cutF fr t.m.n x.o i) (ls ++ [(t.m.n, i)]) ∧ Sm x x' ∧ x'.n = x.n + x.R ∧ t'.m.n = t.m.n + 2 ^ x.o ∧ Nb w1 x x' ∧ BK t t' ls (ls ++ [(t.m.n, i)]) from by
            obtain ⟨t3, hP3, hn3, hk3, hbk3⟩ := doneK P2.out hd
            refine ⟨x2, t3, ⟨hP3.pl, hP3.sf.congr (fun a ha => ?_), hP3.st, hP3.bm⟩, S2.out, E2.out.1, hn3.trans E2.out.2.1, E2.out.2.2.2, BK2.out.trans hbk3 (fun _ h _ => h)⟩
            unfold cutF
            by_cases ea : i ≤ a ∧ a < x.o
            · rw [if_pos ea, if_pos ea]
              unfold frU
              rw [if_neg (by omega), if_neg (by omega)]
            · rw [if_neg ea, if_neg ea]
              unfold frU
              by_cases eo : a = x.o
              · rw [if_pos eo, if_pos rfl, eo, hfo]
                simp [M.dropL]
              · rw [if_neg eo, if_neg eo])
          have KF := hid (show Kept (bown x) w1 w3 from by
            obtain ⟨t3, hP3, hn3, hk3, _⟩ := doneK P2.out hd
            refine E2.out.2.2.1.trans hk3 (fun _ _ e => e) (fun y hy e => ?_)
            rcases E2.out.2.2.2 y e with e | e
            · exact e
            · omega)
          have had : ad x2 t.m.n = ad x t.m.n := by unfold ad; rw [S2.out.base]
          rw [had]
          clear hd hz3 hij hj hp TK2 c0 c1 c2
          go_wp2_with fail
          exact ⟨rfl, .tuple #[.int .u64 ((ad x t.m.n : Nat) : Int), .bool true, .int .i64 0], by simp [results, Tryz.results94, go_sem], .grew i rfl hi HZ.out rfl HL.out rfl D.out KF.out⟩
    · as_aux_lemma =>
      obtain ⟨t1, hP1, hn1, hk1, hbk1⟩ := doneK HH.out hd
      have D := hid (show NdP w W lw x t fr ls (i : Int) d (.returned (.tuple #[.int .u64 ((ad x p : Nat) : Int), .bool false, .int .i64 0])) w1 from .here i j p l rfl hi hij hj hz hp rfl ⟨t1, hP1, hn1, hbk1⟩ hk1)
      clear hd hP1 hn1 hk1 hbk1 hz hp hij hj TK
      generalize ad x p = q at *
      go_wp2_with fail
      exact ⟨rfl, .tuple #[.int .u64 (q : Int), .bool false, .int .i64 0], by simp [results, Tryz.results94, go_sem], D.out⟩
end Go.Proofs.YtgjapopddblpoaaGreatDoor.K
