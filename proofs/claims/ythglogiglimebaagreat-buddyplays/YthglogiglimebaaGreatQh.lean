import Derived.Test.YthglogiglimebaaGreatQg
import Derived.Test.YthglogiglimebaaGreatQf
import Derived.Deep.RegionHeld3
/- BuddyPlays: both sides of a call. -/
namespace Go.Proofs.YthglogiglimebaaGreat
open Go.RowKit
set_option linter.unusedVariables false

theorem DF.same {x t w w' fr ls} (h : BdAt w x t) (s : Sf x t fr ls) (k : Kept none' w w') : DF x t w w' fr ls := ⟨t, h.keep k, k.mono (fun _ _ e => e.elim), s, rfl⟩
/-- The document's own buddy is put into the world's box. -/
abbrev doc4 (W : World) (lw : Nat) (o P : Int) (fv lv : Value) : World := (((W.setCell ⟨lw, 6, none⟩ (.int .i64 o)).setCell ⟨lw, 7, none⟩ (.int .i64 P)).setCell ⟨lw, 8, none⟩ fv).setCell ⟨lw, 9, none⟩ lv
theorem doc4_k (W : World) (lw : Nat) (o P : Int) (fv lv : Value) : Kept (fun y => y = lw) W (doc4 W lw o P fv lv) := ((((Kept.refl (fun y => y = lw) W).setCell (p := ⟨lw, 6, none⟩) rfl _).setCell (p := ⟨lw, 7, none⟩) rfl _).setCell (p := ⟨lw, 8, none⟩) rfl _).setCell (p := ⟨lw, 9, none⟩) rfl _
/-- What a step leaves. -/
def StP (E : Nat → Prop) (w W : World) (lw c : Nat) (e : Ending) (w' : World) : Prop := ∃ x t fr ls fa fc va n vc, e = .returned (.bool true) ∧ PW E w w' lw c x t fr ls fa fc va n vc ∧ ∀ y, E y → w'.heap[y]? = W.heap[y]?
theorem PW.exk {E w W W' lw c x t fr ls fa fc va n vc} (h : PW E w W lw c x t fr ls fa fc va n vc) (k : Kept (fun y => bown x y ∨ y = lw) W W') : ∀ y, E y → W'.heap[y]? = W.heap[y]? := fun y e => k.block y (h.ex y e).1 (h.ex y e).2
/-- The document's own call, its answer put into the box, then the buddy's. -/
theorem PW.fin {E w W w1 w3 lw c x t fr ls fa fc va n vc fr' ls' fa' fc' va' n' vc'} (h : PW E w W lw c x t fr ls fa fc va n vc) (k1 : Kept none' W w1) (f : FL w1 fa' fc' x.o fr') (r : RN w1 (.slice va' n' vc') ls') (hn : n' = ls'.length) (d : DF x t (doc4 w1 lw (x.o : Int) (t.m.n : Int) (.slice fa' (x.o + 1) fc') (.slice va' n' vc')) w3 fr' ls') (hc : n' ≤ c + 1) :
    (∃ t', PW E w w3 lw (c + 1) x t' fr' ls' fa' fc' va' n' vc') ∧ ∀ y, E y → w3.heap[y]? = W.heap[y]? := by
  obtain ⟨t', hb, hk, hs, hnn⟩ := d
  have h1 := h.keep k1
  have k2 : Kept (fun y => bown x y ∨ y = lw) w1 (doc4 w1 lw (x.o : Int) (t.m.n : Int) (.slice fa' (x.o + 1) fc') (.slice va' n' vc')) := (doc4_k _ _ _ _ _ _).mono (fun _ _ e => .inr e)
  have l2 := h1.law.doc t.m.n (.slice fa' (x.o + 1) fc') (.slice va' n' vc')
  have l3 := l2.call hb hk
  have k3 : Kept (fun y => bown x y ∨ y = lw) (doc4 w1 lw (x.o : Int) (t.m.n : Int) (.slice fa' (x.o + 1) fc') (.slice va' n' vc')) w3 := hk.mono (fun _ _ e => .inl e)
  have kk : Kept (fun y => bown x y ∨ y = lw) W w3 := ((k1.trans k2 (fun _ _ e => e.elim) (fun _ _ e => e)).trans k3 (fun _ _ e => e) (fun _ _ e => e))
  refine ⟨⟨t', ⟨by rw [hnn]; exact l3, hn, l2.fl (h1.law.fl f k2) k3, l2.rn (h1.law.rn r k2) k3, hs, by rw [hnn]; exact h.st, hc, h.bm, fun y e => ⟨Nat.lt_of_lt_of_le (h.ex y e).1 kk.size, (h.ex y e).2⟩⟩⟩, h.exk kk⟩
/-- Both sides of a call answer alike. -/
structure Both (F5 : Nat) (FB : Nat) (a5 aB : List Value) (W : World) (x : Bx) (t : Bt) (n : Nat) (fa : Option Addr) (fc : Nat) (va : Option Addr) (vc : Nat) (fr' : Nat → List Nat) (ls' : List (Nat × Nat)) (er : Nat) : Prop where
  rf : ∀ W1, Kept none' W W1 → Calls Tryz.prog F5 (r5V (x.o : Int) (t.m.n : Int) (.slice fa (x.o + 1) fc) (.slice va n vc) :: a5).toArray W1 fun e w' => V5P W1 (x.o : Int) (t.m.n : Int) x.o fr' ls' er e w'
  pr : ∀ W2, BdAt W2 x t → Calls Tryz.prog FB (.pointer (some ⟨x.b, 0, none⟩) :: aB).toArray W2 fun e w' => e = .returned (.int .i64 (er : Int)) ∧ DF x t W2 w' fr' ls'
  ln : ls'.length ≤ n + 1
theorem PW.top {E w W lw c x t fr ls fa fc va n vc} (h : PW E w W lw c x t fr ls fa fc va n vc) : (t.m.n = 0 ∧ ¬ topOk x t) ∨ (2 ^ x.o ≤ t.m.n ∧ topOk x t ∧ topP x = t.m.n - 2 ^ x.o) := by
  have hst := h.st
  by_cases h0 : t.m.n = 0
  · exact .inl ⟨h0, fun e => e.1 (by omega)⟩
  · have ht : topOk x t := ⟨by omega, hst⟩
    obtain ⟨t1, _⟩ := h.sf.sn.top ht
    exact .inr ⟨by omega, ht, by omega⟩
theorem dropR_len (ls : List (Nat × Nat)) (p : Nat) : (dropR ls p).length ≤ ls.length := List.length_filter_le _ _
theorem feed_both {E w W lw c x t fr ls fa fc va n vc} (h : PW E w W lw c x t fr ls fa fc va n vc) (hc : n ≤ 1000) : ∃ fr' ls' er, Both 41 15 [] [] W x t n fa fc va vc fr' ls' er := by
  obtain ⟨n1, n2, _⟩ := h.nums
  have hnl := h.nl
  subst hnl
  rcases h.top with ⟨h0, hnt⟩ | ⟨hz, ht, htp⟩
  · refine ⟨fr, ls, 9, fun W1 k1 => ?_, fun W2 hb => ?_, Nat.le_succ _⟩
    · rw [h0]
      exact Feed5_zero x.o fa fc va vc fr ls W1 (h.fl.keep k1) (h.rn.keep k1)
    · refine (Feed_no_f x t fr ls h.sf (fun e => absurd e hnt) W2 hb).mono ?_
      rintro e w' ⟨rfl, hk⟩
      exact ⟨rfl, DF.same hb h.sf hk⟩
  · by_cases hl : (t.m.n - 2 ^ x.o, x.o) ∈ ls
    · refine ⟨giveF x.o fr (t.m.n - 2 ^ x.o) x.o, dropR ls (t.m.n - 2 ^ x.o), 0, fun W1 k1 => ?_, fun W2 hb => ?_, Nat.le_trans (dropR_len _ _) (Nat.le_succ _)⟩
      · refine (Feed5_any x.o t.m.n n1 n2 hz fa fc va vc fr (fun j hj => h.sf.len hj) ls hc W1 (h.fl.keep k1) (h.rn.keep k1)).mono ?_
        rintro e w' (⟨_, h1⟩ | ⟨h1, _⟩)
        · exact h1
        · exact absurd hl h1
      · have := Feed_f x t fr ls h.sf ht (by rw [htp]; exact hl) W2 hb
        rw [htp] at this
        exact this
    · refine ⟨fr, ls, 9, fun W1 k1 => ?_, fun W2 hb => ?_, Nat.le_succ _⟩
      · refine (Feed5_any x.o t.m.n n1 n2 hz fa fc va vc fr (fun j hj => h.sf.len hj) ls hc W1 (h.fl.keep k1) (h.rn.keep k1)).mono ?_
        rintro e w' (⟨h1, _⟩ | ⟨_, h1⟩)
        · exact absurd h1 hl
        · exact h1
      · refine (Feed_no_f x t fr ls h.sf (fun _ => by rw [htp]; exact hl) W2 hb).mono ?_
        rintro e w' ⟨rfl, hk⟩
        exact ⟨rfl, DF.same hb h.sf hk⟩
theorem pull_both {E w W lw c x t fr ls fa fc va n vc} (h : PW E w W lw c x t fr ls fa fc va n vc) (hc : n ≤ 1000) : ∃ fr' ls' er, Both 42 43 [] [] W x t n fa fc va vc fr' ls' er := by
  obtain ⟨n1, n2, _⟩ := h.nums
  have hnl := h.nl
  subst hnl
  rcases h.top with ⟨h0, hnt⟩ | ⟨hz, ht, htp⟩
  · refine ⟨fr, ls, 9, fun W1 k1 => ?_, fun W2 hb => ?_, Nat.le_succ _⟩
    · rw [h0]
      exact Pull5_zero x.o fa fc va vc fr ls W1 (h.fl.keep k1) (h.rn.keep k1)
    · refine (Pull_no_f x t fr ls h.sf (fun e => absurd e hnt) W2 hb).mono ?_
      rintro e w' ⟨rfl, hk⟩
      exact ⟨rfl, DF.same hb h.sf hk⟩
  · by_cases hl : t.m.n - 2 ^ x.o ∈ fr x.o
    · refine ⟨frU fr x.o (M.dropL (fr x.o) (t.m.n - 2 ^ x.o)), ls ++ [(t.m.n - 2 ^ x.o, x.o)], 0, fun W1 k1 => ?_, fun W2 hb => ?_, by simp⟩
      · refine (Pull5_any x.o t.m.n n1 n2 hz fa fc va vc fr (fun j hj => h.sf.len hj) ls hc W1 (h.fl.keep k1) (h.rn.keep k1)).mono ?_
        rintro e w' (⟨_, h1⟩ | ⟨h1, _⟩)
        · exact h1
        · exact absurd hl h1
      · have := Pull_f x t fr ls h.sf ht (by rw [htp]; exact hl) W2 hb
        rw [htp] at this
        exact this
    · refine ⟨fr, ls, 9, fun W1 k1 => ?_, fun W2 hb => ?_, Nat.le_succ _⟩
      · refine (Pull5_any x.o t.m.n n1 n2 hz fa fc va vc fr (fun j hj => h.sf.len hj) ls hc W1 (h.fl.keep k1) (h.rn.keep k1)).mono ?_
        rintro e w' (⟨h1, _⟩ | ⟨_, h1⟩)
        · exact absurd h1 hl
        · exact h1
      · refine (Pull_no_f x t fr ls h.sf (fun _ => by rw [htp]; exact hl) W2 hb).mono ?_
        rintro e w' ⟨rfl, hk⟩
        exact ⟨rfl, DF.same hb h.sf hk⟩
/-- A live block by an address and an order. -/
theorem PW.liv {E w W lw c x t fr ls fa fc va n vc} (h : PW E w W lw c x t fr ls fa fc va n vc) (a : Nat) (ha : a < 18446744073709551616) (od : Int) : liveB x t a od = liveL ls (pgV x.base t.m.n a) od ∧ (liveL ls (pgV x.base t.m.n a) od = true → ∃ p k : Nat, pgV x.base t.m.n a = (p : Int) ∧ od = (k : Int) ∧ a = ad x p ∧ (p, k) ∈ ls ∧ k ≤ x.o ∧ p ≤ 1024) := by
  refine ⟨h.sf.live_all h.bm h.st a ha od, fun hl => ?_⟩
  obtain ⟨⟨p, k⟩, hm, h2⟩ := List.any_eq_true.1 hl
  rw [Bool.and_eq_true, decide_eq_true_iff, decide_eq_true_iff] at h2
  obtain ⟨a1, _, a3⟩ := h.sf.sn.al hm
  have hn := h.nums.2.1
  refine ⟨p, k, h2.1.symm, h2.2.symm, ?_, hm, a1, by omega⟩
  have h3 := h2.1
  unfold pgV at h3
  unfold ad
  split at h3
  · have := Int.ofNat.inj h3
    have h4 : p = (a - x.base) / 4096 := this
    have hb := h.bm
    omega
  · omega
theorem give_both {E w W lw c x t fr ls fa fc va n vc} (h : PW E w W lw c x t fr ls fa fc va n vc) (hc : n ≤ 1000) (a : Nat) (ha : a < 18446744073709551616) (od : Int) : ∃ fr' ls' er, Both 47 18 [.int .i64 (pgV x.base t.m.n a), .int .i64 od] [.int .u64 (a : Int), .int .i64 od] W x t n fa fc va vc fr' ls' er := by
  obtain ⟨n1, n2, _⟩ := h.nums
  have hnl := h.nl
  subst hnl
  obtain ⟨h1, h2⟩ := h.liv a ha od
  cases hl : liveL ls (pgV x.base t.m.n a) od with
  | false =>
    refine ⟨fr, ls, 1, fun W1 k1 => ?_, fun W2 hb => ?_, Nat.le_succ _⟩
    · exact Give5_no x.o (x.o : Int) (t.m.n : Int) fa fc va vc fr ls hc _ od hl W1 (h.fl.keep k1) (h.rn.keep k1)
    · refine (Give_no x t a od ha (h1.trans hl) W2 hb).mono ?_
      rintro e w' ⟨rfl, hk⟩
      exact ⟨rfl, DF.same hb h.sf hk⟩
  | true =>
    obtain ⟨p, k, e1, e2, e3, hm, hk, hp⟩ := h2 hl
    refine ⟨giveF x.o fr p k, dropR ls p, 0, fun W1 k1 => ?_, fun W2 hb => ?_, Nat.le_trans (dropR_len _ _) (Nat.le_succ _)⟩
    · rw [e1, e2]
      exact Give5 x.o n1 (t.m.n : Int) fa fc va vc fr (fun j hj => h.sf.len hj) ls hc p k hp hk hm W1 (h.fl.keep k1) (h.rn.keep k1)
    · rw [e2, e3]
      exact Give_f x t fr ls h.sf p k hm W2 hb
theorem shrink_both {E w W lw c x t fr ls fa fc va n vc} (h : PW E w W lw c x t fr ls fa fc va n vc) (hc : n ≤ 1000) (a : Nat) (ha : a < 18446744073709551616) (od tt : Int) : ∃ fr' ls' er, Both 49 50 [.int .i64 (pgV x.base t.m.n a), .int .i64 od, .int .i64 tt] [.int .u64 (a : Int), .int .i64 od, .int .i64 tt] W x t n fa fc va vc fr' ls' er := by
  obtain ⟨n1, n2, _⟩ := h.nums
  have hnl := h.nl
  subst hnl
  obtain ⟨h1, h2⟩ := h.liv a ha od
  by_cases hbad : tt < 0 ∨ od < tt ∨ liveL ls (pgV x.base t.m.n a) od = false
  · refine ⟨fr, ls, 1, fun W1 k1 => ?_, fun W2 hb => ?_, Nat.le_succ _⟩
    · exact Shrink5_no x.o (x.o : Int) (t.m.n : Int) fa fc va vc fr ls hc _ od tt hbad W1 (h.fl.keep k1) (h.rn.keep k1)
    · refine (Shrink_noB x t a od tt ha ?_ W2 hb).mono ?_
      · cases hl : liveB x t a od with
        | false => exact .inl rfl
        | true =>
          refine .inr ⟨rfl, ?_⟩
          rcases hbad with e | e | e
          · exact .inl e
          · by_cases e0 : tt < 0
            · exact .inl e0
            · exact .inr ⟨e0, e⟩
          · rw [h1, e] at hl; cases hl
      · rintro e w' ⟨rfl, hk⟩
        exact ⟨rfl, DF.same hb h.sf hk⟩
  · have hl : liveL ls (pgV x.base t.m.n a) od = true := by
      cases e : liveL ls (pgV x.base t.m.n a) od with
      | true => rfl
      | false => exact absurd (.inr (.inr e)) hbad
    obtain ⟨p, k, e1, e2, e3, hm, hk, hp⟩ := h2 hl
    obtain ⟨tn, rfl⟩ : ∃ tn : Nat, tt = (tn : Int) := ⟨tt.toNat, by omega⟩
    have htk : tn ≤ k := by omega
    refine ⟨cutF fr p k tn, dropR ls p ++ [(p, tn)], 0, fun W1 k1 => ?_, fun W2 hb => ?_, by rw [List.length_append]; have := dropR_len ls p; simp; omega⟩
    · rw [e1, e2]
      exact Shrink5 x.o n1 (t.m.n : Int) fa fc va vc fr (fun j hj => h.sf.len hj) ls hc p k tn hp htk hk hm W1 (h.fl.keep k1) (h.rn.keep k1)
    · rw [e2, e3]
      exact Shrink_f x t fr ls h.sf p k tn hm htk W2 hb
end Go.Proofs.YthglogiglimebaaGreat
/- BuddyPlays: a step as a value. -/
namespace Go.Proofs.YthglogiglimebaaGreat
open Go.RowKit
set_option linter.unusedVariables false

/-- A step's value. -/
abbrev stV (op od tt rf : Int) (p : Nat) : Value := .agg #[.int .i64 op, .int .i64 od, .int .i64 tt, .int .i64 rf, .int .u64 (p : Int)]
abbrev stO (op od tt rf : Int) (p : Nat) : Obj := .cells #[.int .i64 op, .int .i64 od, .int .i64 tt, .int .i64 rf, .int .u64 (p : Int)] 31
end Go.Proofs.YthglogiglimebaaGreat
/- BuddyPlays: the law's page of any address. -/
namespace Go.Proofs.YthglogiglimebaaGreat
open Go.RowKit
set_option linter.unusedVariables false

set_option maxRecDepth 4000 in
set_option maxHeartbeats 2000000 in
theorem page_all {w W lw x t dP fv lv} (h : LW w W lw x t dP fv lv) (hd : dP ≤ 1024) (hb : x.base + 4096 * dP < 18446744073709551616) (a : Nat) (ha : a < 18446744073709551616) :
    Calls Tryz.prog 48 #[.pointer (some ⟨lw, 0, none⟩), .int .u64 (a : Int)] W fun e w' => e = .returned (.int .i64 (pgV x.base dP a)) ∧ Kept none' W w' := by
  obtain ⟨c0, c1, c2, c3, c4, c5, c6, c7, c8, c9⟩ := h.c
  have KD := hid (fun m => (Kept.refl none' W).drewN m)
  clear h
  generalize x.base = bs at *
  by_cases h1 : bs ≤ a
  · have e1 : decide ((a : Int) < (bs : Int)) = false := by simp; omega
    have e1b : (bs : Int) ≤ (a : Int) := by omega
    have e1n : decide (a < bs) = false := by simp; omega
    by_cases h2 : a % 4096 = 0
    · have e2 : (a : Int) % 4096 = 0 := by omega
      by_cases h3 : a - bs < 4096 * dP
      · have hv : pgV bs dP a = (((a - bs) / 4096 : Nat) : Int) := by unfold pgV; rw [if_pos ⟨h1, h2, h3⟩]
        obtain ⟨p, hp⟩ : ∃ p, p = (a - bs) / 4096 := ⟨_, rfl⟩
        rw [hv, ← hp]
        have e3 : decide (4096 * (dP : Int) ≤ (a : Int) - (bs : Int)) = false := by simp; omega
        have e3b : (a : Int) - (bs : Int) < 4096 * (dP : Int) := by omega
        have e4 : ((a : Int) - (bs : Int)) / 4096 = (p : Int) := by omega
        clear hv hp h1 h2 h3
        go_enter Tryz.func48, Tryz.ntmps48
        go_wp2_with fail
        go_quiet (fail)
        go_wp2_with fail
        go_ret
        exact ⟨rfl, KD.out _⟩
      · have hv : pgV bs dP a = -1 := by unfold pgV; rw [if_neg (fun e => h3 e.2.2)]
        rw [hv]
        have e3 : decide (4096 * (dP : Int) ≤ (a : Int) - (bs : Int)) = true := by simp; omega
        have e3b : 4096 * (dP : Int) ≤ (a : Int) - (bs : Int) := by omega
        clear hv h1 h2 h3
        go_enter Tryz.func48, Tryz.ntmps48
        go_wp2_with fail
        go_quiet (fail)
        go_wp2_with fail
        go_ret
        exact ⟨rfl, KD.out _⟩
    · have hv : pgV bs dP a = -1 := by unfold pgV; rw [if_neg (fun e => h2 e.2.1)]
      rw [hv]
      obtain ⟨r, hr⟩ : ∃ r, r = a % 4096 := ⟨_, rfl⟩
      have hrm : (a : Int) % 4096 = (r : Int) := by omega
      have hr0 : ¬ r = 0 := by omega
      have hr1 : ((r : Int) != 0) = true := by simp; omega
      clear hr
      clear hv h1 h2
      go_enter Tryz.func48, Tryz.ntmps48
      go_wp2_with fail
      go_quiet (fail)
      go_wp2_with fail
      go_ret
      exact ⟨rfl, KD.out _⟩
  · have hv : pgV bs dP a = -1 := by unfold pgV; rw [if_neg (fun e => h1 e.1)]
    rw [hv]
    have e1 : decide ((a : Int) < (bs : Int)) = true := by simp; omega
    have e1b : (a : Int) < (bs : Int) := by omega
    have e1n : decide (a < bs) = true := by simp; omega
    clear hv h1
    go_enter Tryz.func48, Tryz.ntmps48
    go_wp2_with fail
    go_quiet (fail)
    go_wp2_with fail
    go_ret
    exact ⟨rfl, KD.out _⟩
end Go.Proofs.YthglogiglimebaaGreat
