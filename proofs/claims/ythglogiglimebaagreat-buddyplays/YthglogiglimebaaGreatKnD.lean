import Derived.Test.YthglogiglimebaaGreatLwA
/- BuddyKnown: the states, by counting. BuddyKnown: the calls at known states. croftlaw5: lives. BuddyKnown. -/
namespace Go.Proofs.YthglogiglimebaaGreat
open Go.RowKit
set_option linter.unusedVariables false

instance (x : Bx) (t : Bt) : Decidable (topOk x t) := inferInstanceAs (Decidable (_ ∧ _))
def X0 : Bx := ⟨0, 0, none, 0, ⟨none, none, fun _ => 0, fun _ => 0⟩, 0, 0, fun _ => 0, 65536, 16384, 2, 16384, 2⟩
def T1 : Bt := ⟨M.more (fun _ => 0) 0, growM (newM 2), fun _ => 0⟩
def T2 : Bt := enterT X0 T1 0 2
def T3 : Bt := takeT X0 T2 0 2 0
def T4 : Bt := takeT X0 T3 1 0 0
def T5 : Bt := takeT X0 T4 2 1 0
def J6 : Bt × Nat × Nat := joinL X0 2 T5 1 0
def T6 : Bt := enterT X0 J6.1 J6.2.1 J6.2.2
def J7 : Bt × Nat × Nat := joinL X0 2 T6 2 0
def T7 : Bt := enterT X0 J7.1 J7.2.1 J7.2.2
def T8 : Bt := takeT X0 T7 2 1 1
def T9 : Bt := cutT X0 T8 2 1 0
def T10 : Bt := cutT X0 T9 2 0 0
def J11 : Bt × Nat × Nat := joinL X0 2 T10 0 0
def T11 : Bt := enterT X0 J11.1 J11.2.1 J11.2.2
def J12 : Bt × Nat × Nat := joinL X0 2 T11 2 0
def T12 : Bt := enterT X0 J12.1 J12.2.1 J12.2.2
def T13 : Bt := pullT X0 T12
def T14 : Bt := enterT X0 T13 0 2
/-- What a Take asks. -/
def takeOk (t : Bt) (k j q : Nat) : Bool := decide (k ≤ j ∧ j ≤ 2 ∧ (∀ a, a < j → k ≤ a → t.hd a = 0) ∧ t.hd j ≠ 0 ∧ t.hd j = ad X0 q ∧ q < t.m.n ∧ M.In 65536 16384 (ad X0 q) 1 ∧ q % 2 ^ j = 0 ∧ popE X0 t j = 0 ∧ cutE X0 (turnT (popT X0 t j) q j) q j k = 0)
theorem k1 : topOk X0 T1 := by decide +kernel
theorem k2 : liveB X0 T1 (ad X0 (topP X0)) 2 = true ∧ pageI X0 T1 (ad X0 (topP X0)) = 0 ∧ enterE X0 T1 0 2 = 0 := by decide +kernel
theorem k3 : topOk X0 T2 ∧ liveB X0 T2 (ad X0 (topP X0)) 2 = false := by decide +kernel
theorem k4 : takeOk T2 0 2 0 = true := by decide +kernel
theorem k5 : takeOk T3 0 0 1 = true := by decide +kernel
theorem k6 : takeOk T4 0 1 2 = true := by decide +kernel
theorem k7 : liveB X0 T5 69632 1 = false := by decide +kernel
theorem k8 : liveB X0 T5 69632 0 = true ∧ pageI X0 T5 69632 = 1 ∧ enterE X0 J6.1 J6.2.1 J6.2.2 = 0 := by decide +kernel
theorem k9 : liveB X0 T6 69632 0 = false := by decide +kernel
theorem k10 : freeL X0 T6 0 = [69632, 77824] := by decide +kernel
theorem k11 : liveB X0 T6 73728 0 = true ∧ pageI X0 T6 73728 = 2 ∧ enterE X0 J7.1 J7.2.1 J7.2.2 = 0 := by decide +kernel
theorem k12 : headsL X0 T7 = [69632, 73728, 0] := by decide +kernel
theorem k13 : T7.hd 2 = 0 := by decide +kernel
theorem k14 : takeOk T7 1 1 2 = true := by decide +kernel
theorem k15 : liveB X0 T8 73728 1 = true ∧ pageI X0 T8 73728 = 2 ∧ cutE X0 T8 2 1 0 = 0 := by decide +kernel
theorem k16 : liveB X0 T9 73728 1 = false := by decide +kernel
theorem k17 : liveB X0 T9 73728 0 = true ∧ pageI X0 T9 73728 = 2 ∧ cutE X0 T9 2 0 0 = 0 := by decide +kernel
theorem k18 : freeL X0 T10 0 = [77824, 69632] := by decide +kernel
theorem k19 : liveB X0 T10 65536 0 = true ∧ pageI X0 T10 65536 = 0 ∧ enterE X0 J11.1 J11.2.1 J11.2.2 = 0 := by decide +kernel
theorem k20 : topOk X0 T11 ∧ freeB X0 T11 (topP X0) 2 = false := by decide +kernel
theorem k21 : liveB X0 T11 73728 0 = true ∧ pageI X0 T11 73728 = 2 ∧ enterE X0 J12.1 J12.2.1 J12.2.2 = 0 := by decide +kernel
theorem k22 : topOk X0 T12 ∧ freeB X0 T12 (topP X0) 2 = true ∧ remE X0 T12 (topP X0) 2 = 0 := by decide +kernel
theorem k23 : headsL X0 T13 = [0, 0, 0] := by decide +kernel
theorem k24 : topOk X0 T13 ∧ liveB X0 T13 (ad X0 (topP X0)) 2 = true ∧ pageI X0 T13 (ad X0 (topP X0)) = 0 ∧ enterE X0 T13 0 2 = 0 := by decide +kernel
theorem k25 : freeL X0 T14 2 = [65536] := by decide +kernel
theorem k26 : headsL X0 T3 = [69632, 73728, 0] := by decide +kernel
structure SX (x y : Bx) : Prop where
  base : x.base = y.base
  n : x.n = y.n
  o : x.o = y.o
theorem SX.ad {x y} (h : SX x y) (p : Nat) : ad x p = ad y p := by unfold Go.Proofs.YthglogiglimebaaGreat.ad; rw [h.base]
theorem SX.pushE {x y} (h : SX x y) (t : Bt) (p k : Nat) : pushE x t p k = pushE y t p k := by unfold Go.Proofs.YthglogiglimebaaGreat.pushE; rw [h.ad, h.base, h.n]
theorem SX.pushT {x y} (h : SX x y) (t : Bt) (p k : Nat) : pushT x t p k = pushT y t p k := by unfold Go.Proofs.YthglogiglimebaaGreat.pushT; rw [h.ad, h.base, h.n]
theorem SX.enterT {x y} (h : SX x y) (t : Bt) (p k : Nat) : enterT x t p k = enterT y t p k := by unfold Go.Proofs.YthglogiglimebaaGreat.enterT; rw [h.pushE, h.pushT]
theorem SX.enterE {x y} (h : SX x y) (t : Bt) (p k : Nat) : enterE x t p k = enterE y t p k := by unfold Go.Proofs.YthglogiglimebaaGreat.enterE; rw [h.pushE]
theorem SX.cutL {x y} (h : SX x y) (p to : Nat) : ∀ d t, cutL x p to d t = cutL y p to d t
  | 0, t => rfl
  | d + 1, t => by
    unfold Go.Proofs.YthglogiglimebaaGreat.cutL
    rw [h.enterE, h.enterT, h.cutL p to d]
theorem SX.cutT {x y} (h : SX x y) (t : Bt) (p a b : Nat) : cutT x t p a b = cutT y t p a b := by unfold Go.Proofs.YthglogiglimebaaGreat.cutT; rw [h.cutL]
theorem SX.cutE {x y} (h : SX x y) (t : Bt) (p a b : Nat) : cutE x t p a b = cutE y t p a b := by unfold Go.Proofs.YthglogiglimebaaGreat.cutE; rw [h.cutL]
theorem SX.popT {x y} (h : SX x y) (t : Bt) (k : Nat) : popT x t k = popT y t k := by unfold Go.Proofs.YthglogiglimebaaGreat.popT; rw [h.base, h.n]
theorem SX.popE {x y} (h : SX x y) (t : Bt) (k : Nat) : popE x t k = popE y t k := by unfold Go.Proofs.YthglogiglimebaaGreat.popE; rw [h.base, h.n]
theorem SX.takeT {x y} (h : SX x y) (t : Bt) (q j k : Nat) : takeT x t q j k = takeT y t q j k := by unfold Go.Proofs.YthglogiglimebaaGreat.takeT; rw [h.popT, h.cutT]
theorem SX.remT {x y} (h : SX x y) (t : Bt) (p k : Nat) : remT x t p k = remT y t p k := by unfold Go.Proofs.YthglogiglimebaaGreat.remT; rw [h.ad, h.base, h.n]
theorem SX.remE {x y} (h : SX x y) (t : Bt) (p k : Nat) : remE x t p k = remE y t p k := by unfold Go.Proofs.YthglogiglimebaaGreat.remE; rw [h.ad, h.base, h.n]
theorem SX.aloneB {x y} (h : SX x y) (t : Bt) (p k : Int) : aloneB x t p k = aloneB y t p k := by unfold Go.Proofs.YthglogiglimebaaGreat.aloneB; rw [h.o]
theorem SX.joinL {x y} (h : SX x y) : ∀ d t p k, joinL x d t p k = joinL y d t p k
  | 0, t, p, k => rfl
  | d + 1, t, p, k => by
    unfold Go.Proofs.YthglogiglimebaaGreat.joinL
    rw [h.aloneB, h.remE, h.remT, h.joinL d]
theorem SX.topP {x y} (h : SX x y) : topP x = topP y := by unfold Go.Proofs.YthglogiglimebaaGreat.topP; rw [h.n, h.o]
theorem SX.topOk {x y} (h : SX x y) (t : Bt) : topOk x t ↔ topOk y t := by unfold Go.Proofs.YthglogiglimebaaGreat.topOk; rw [h.n]
theorem SX.pageOk {x y} (h : SX x y) (t : Bt) (p : Nat) : pageOk x t p ↔ pageOk y t p := by unfold Go.Proofs.YthglogiglimebaaGreat.pageOk offP; rw [h.base]
theorem SX.pageI {x y} (h : SX x y) (t : Bt) (p : Nat) : pageI x t p = pageI y t p := by
  unfold Go.Proofs.YthglogiglimebaaGreat.pageI
  by_cases c : Go.Proofs.YthglogiglimebaaGreat.pageOk x t p
  · rw [if_pos c, if_pos ((h.pageOk t p).1 c)]; unfold offP; rw [h.base]
  · rw [if_neg c, if_neg (fun d => c ((h.pageOk t p).2 d))]
theorem SX.pageB {x y} (h : SX x y) (t : Bt) (p : Nat) : pageB x t p = pageB y t p := by
  unfold Go.Proofs.YthglogiglimebaaGreat.pageB
  apply decide_eq_decide.2
  rw [h.pageOk, h.base, h.n]
theorem SX.liveB {x y} (h : SX x y) (t : Bt) (p : Nat) (k : Int) : liveB x t p k = liveB y t p k := by unfold Go.Proofs.YthglogiglimebaaGreat.liveB; rw [h.pageB, h.pageI, h.o]
theorem SX.freeL {x y} (h : SX x y) (t : Bt) (k : Nat) : freeL x t k = freeL y t k := by unfold Go.Proofs.YthglogiglimebaaGreat.freeL; rw [h.base, h.n]
theorem SX.freeB {x y} (h : SX x y) (t : Bt) (p k : Nat) : freeB x t p k = freeB y t p k := by unfold Go.Proofs.YthglogiglimebaaGreat.freeB; rw [h.ad, h.freeL]
theorem SX.headsL {x y} (h : SX x y) (t : Bt) : headsL x t = headsL y t := by unfold Go.Proofs.YthglogiglimebaaGreat.headsL; rw [h.o]
theorem SX.pullT {x y} (h : SX x y) (t : Bt) : pullT x t = pullT y t := by unfold Go.Proofs.YthglogiglimebaaGreat.pullT; rw [h.remT, h.topP, h.o]
/-- A law's world whose buddy is at b, of a region of four pages. -/
def LX (w W : World) (lw b : Nat) (t : Bt) : Prop := ∃ x dP fv lv, LW w W lw x t dP fv lv ∧ x.b = b ∧ SX x X0
theorem LX.keep {w W W' lw b t} (h : LX w W lw b t) (k : Kept none' W W') : LX w W' lw b t := by
  obtain ⟨x, dP, fv, lv, h, hb, hs⟩ := h
  exact ⟨x, dP, fv, lv, h.keep k, hb, hs⟩
theorem LX.c5 {w W lw b t} (h : LX w W lw b t) : W.cell? ⟨lw, 5, none⟩ = some (.pointer (some ⟨b, 0, none⟩)) := by
  obtain ⟨x, dP, fv, lv, h, rfl, hs⟩ := h
  exact h.c.2.2.2.2.2.1
theorem LX.kp {w W lw b t} (h : LX w W lw b t) : Kept none' w W := by
  obtain ⟨x, dP, fv, lv, h, rfl, hs⟩ := h
  exact h.kp
theorem TakeL (t : Bt) (k j q lw b : Nat) (w W : World) (h : LX w W lw b t) (hk : takeOk t k j q = true) :
    Calls Tryz.prog 10 #[.pointer (some ⟨b, 0, none⟩), .int .i64 (k : Int)] W fun e w' => e = .returned (.tuple #[.int .u64 ((ad X0 q : Nat) : Int), .int .i64 0]) ∧ LX w w' lw b (takeT X0 t q j k) := by
  obtain ⟨x, dP, fv, lv, h, rfl, hs⟩ := h
  obtain ⟨h1, h2, h3, h4, h5, h6, h7, h8, h9, h10⟩ := of_decide_eq_true hk
  have ho : x.o = 2 := hs.o
  refine (Take_yes x t k j q (by omega) ⟨h1, by omega, fun a ha hj => h3 a hj ha, fun _ => h4⟩ (by omega) (by rw [hs.ad]; exact h5) h6 (by rw [hs.ad, hs.base, hs.n]; exact h7) h8 (by rw [hs.popE]; exact h9) (by rw [hs.popT, hs.cutE]; exact h10) W h.bd).mono ?_
  rintro e w' ⟨rfl, hB, hK⟩
  rw [hs.ad]
  rw [hs.takeT] at hB
  exact ⟨rfl, x, dP, fv, lv, h.call hB hK, rfl, hs⟩
theorem TakeN (t : Bt) (k : Int) (lw b : Nat) (w W : World) (h : LX w W lw b t) (hk : inR 3 k = false) :
    Calls Tryz.prog 10 #[.pointer (some ⟨b, 0, none⟩), .int .i64 k] W fun e w' => e = .returned (.tuple #[.int .u64 0, .int .i64 1]) ∧ LX w w' lw b t := by
  have h' := h
  obtain ⟨x, dP, fv, lv, h, rfl, hs⟩ := h
  have ho : x.o = 2 := hs.o
  refine (Take_none x t k (by rw [ho]; exact hk) W h.bd).mono ?_
  rintro e w' ⟨rfl, rfl⟩
  exact ⟨rfl, h'⟩
theorem TakeE (t : Bt) (k lw b : Nat) (w W : World) (h : LX w W lw b t) (hk : k ≤ 2) (hz : ∀ a, a ≤ 2 → k ≤ a → t.hd a = 0) :
    Calls Tryz.prog 10 #[.pointer (some ⟨b, 0, none⟩), .int .i64 (k : Int)] W fun e w' => e = .returned (.tuple #[.int .u64 0, .int .i64 2]) ∧ LX w w' lw b t := by
  have h' := h
  obtain ⟨x, dP, fv, lv, h, rfl, hs⟩ := h
  have ho : x.o = 2 := hs.o
  refine (Take_empty x t k (by omega) (fun a h1 h2 => hz a (by omega) h1) W h.bd).mono ?_
  rintro e w' ⟨rfl, rfl⟩
  exact ⟨rfl, h'⟩
theorem GiveN (t : Bt) (p : Nat) (k : Int) (lw b : Nat) (w W : World) (h : LX w W lw b t) (hp : p < 18446744073709551616) (hl : liveB X0 t p k = false) :
    Calls Tryz.prog 18 #[.pointer (some ⟨b, 0, none⟩), .int .u64 (p : Int), .int .i64 k] W fun e w' => e = .returned (.int .i64 1) ∧ LX w w' lw b t := by
  have h' := h
  obtain ⟨x, dP, fv, lv, h, rfl, hs⟩ := h
  refine (Give_no x t p k hp (by rw [hs.liveB]; exact hl) W h.bd).mono ?_
  rintro e w' ⟨rfl, hk⟩
  exact ⟨rfl, h'.keep hk⟩
theorem GiveY (t : Bt) (p q k : Nat) (J : Bt × Nat × Nat) (lw b : Nat) (w W : World) (h : LX w W lw b t) (hp : p < 18446744073709551616) (hl : liveB X0 t p (k : Int) = true) (hq : pageI X0 t p = q) (hJ : J = joinL X0 (2 - k) t q k) (he : enterE X0 J.1 J.2.1 J.2.2 = 0) :
    Calls Tryz.prog 18 #[.pointer (some ⟨b, 0, none⟩), .int .u64 (p : Int), .int .i64 (k : Int)] W fun e w' => e = .returned (.int .i64 0) ∧ LX w w' lw b (enterT X0 J.1 J.2.1 J.2.2) := by
  obtain ⟨x, dP, fv, lv, h, rfl, hs⟩ := h
  refine (Give_yes x t p k hp (by rw [hs.liveB]; exact hl) W h.bd).mono ?_
  rintro e w' ⟨tr, pr, kr, hj, rfl, hB, hK⟩
  rw [hs.joinL, hs.pageI, hq, show x.o = 2 from hs.o, ← hJ] at hj
  subst hj
  rw [hs.enterE, he]
  rw [hs.enterT] at hB
  exact ⟨rfl, x, dP, fv, lv, h.call hB hK, rfl, hs⟩
theorem ShrinkN (t : Bt) (p : Nat) (k o : Int) (lw b : Nat) (w W : World) (h : LX w W lw b t) (hp : p < 18446744073709551616) (hl : liveB X0 t p k = false) :
    Calls Tryz.prog 50 #[.pointer (some ⟨b, 0, none⟩), .int .u64 (p : Int), .int .i64 k, .int .i64 o] W fun e w' => e = .returned (.int .i64 1) ∧ LX w w' lw b t := by
  have h' := h
  obtain ⟨x, dP, fv, lv, h, rfl, hs⟩ := h
  refine (Shrink_noB x t p k o hp (.inl (by rw [hs.liveB]; exact hl)) W h.bd).mono ?_
  rintro e w' ⟨rfl, hk⟩
  exact ⟨rfl, h'.keep hk⟩
theorem ShrinkY (t : Bt) (p q k o : Nat) (lw b : Nat) (w W : World) (h : LX w W lw b t) (hp : p < 18446744073709551616) (hl : liveB X0 t p (k : Int) = true) (hq : pageI X0 t p = q) (ho : o ≤ k) (he : cutE X0 t q k o = 0) :
    Calls Tryz.prog 50 #[.pointer (some ⟨b, 0, none⟩), .int .u64 (p : Int), .int .i64 (k : Int), .int .i64 (o : Int)] W fun e w' => e = .returned (.int .i64 0) ∧ LX w w' lw b (cutT X0 t q k o) := by
  obtain ⟨x, dP, fv, lv, h, rfl, hs⟩ := h
  refine (Shrink_yesB x t p k o hp (by rw [hs.liveB]; exact hl) ho W h.bd).mono ?_
  rintro e w' ⟨rfl, hB, hK⟩
  rw [hs.pageI, hq, hs.cutE, he]
  rw [hs.pageI, hq, hs.cutT] at hB
  exact ⟨rfl, x, dP, fv, lv, h.call hB hK, rfl, hs⟩
theorem FeedN (t : Bt) (lw b : Nat) (w W : World) (h : LX w W lw b t) (hn : topOk X0 t) (hl : liveB X0 t (ad X0 (topP X0)) 2 = false) :
    Calls Tryz.prog 15 #[.pointer (some ⟨b, 0, none⟩)] W fun e w' => e = .returned (.int .i64 9) ∧ LX w w' lw b t := by
  have h' := h
  obtain ⟨x, dP, fv, lv, h, rfl, hs⟩ := h
  refine (Feed_no x t (.inr ⟨(hs.topOk t).2 hn, by rw [hs.liveB, hs.ad, hs.topP, show x.o = 2 from hs.o]; exact hl⟩) W h.bd).mono ?_
  rintro e w' ⟨rfl, hk⟩
  exact ⟨rfl, h'.keep hk⟩
theorem FeedY (t : Bt) (q lw b : Nat) (w W : World) (h : LX w W lw b t) (hn : topOk X0 t) (hl : liveB X0 t (ad X0 (topP X0)) 2 = true) (hq : pageI X0 t (ad X0 (topP X0)) = q) (he : enterE X0 t q 2 = 0) :
    Calls Tryz.prog 15 #[.pointer (some ⟨b, 0, none⟩)] W fun e w' => e = .returned (.int .i64 0) ∧ LX w w' lw b (enterT X0 t q 2) := by
  obtain ⟨x, dP, fv, lv, h, rfl, hs⟩ := h
  have ho : x.o = 2 := hs.o
  refine (Feed_yes x t ((hs.topOk t).2 hn) (by rw [hs.liveB, hs.ad, hs.topP, ho]; exact hl) (by rw [hs.pageI, hs.ad, hs.topP, hq, ho, hs.enterE]; exact he) W h.bd).mono ?_
  rintro e w' ⟨rfl, hB, hK⟩
  rw [hs.pageI, hs.ad, hs.topP, hq, ho, hs.enterT] at hB
  exact ⟨rfl, x, dP, fv, lv, h.call hB hK, rfl, hs⟩
theorem PullN (t : Bt) (lw b : Nat) (w W : World) (h : LX w W lw b t) (hn : topOk X0 t) (hl : freeB X0 t (topP X0) 2 = false) :
    Calls Tryz.prog 43 #[.pointer (some ⟨b, 0, none⟩)] W fun e w' => e = .returned (.int .i64 9) ∧ LX w w' lw b t := by
  have h' := h
  obtain ⟨x, dP, fv, lv, h, rfl, hs⟩ := h
  refine (Pull_no x t (.inr ⟨(hs.topOk t).2 hn, by rw [hs.freeB, hs.topP, show x.o = 2 from hs.o]; exact hl⟩) W h.bd).mono ?_
  rintro e w' ⟨rfl, hk⟩
  exact ⟨rfl, h'.keep hk⟩
theorem PullY (t : Bt) (lw b : Nat) (w W : World) (h : LX w W lw b t) (hn : topOk X0 t) (hl : freeB X0 t (topP X0) 2 = true) (hr : remE X0 t (topP X0) 2 = 0) :
    Calls Tryz.prog 43 #[.pointer (some ⟨b, 0, none⟩)] W fun e w' => e = .returned (.int .i64 0) ∧ LX w w' lw b (pullT X0 t) := by
  obtain ⟨x, dP, fv, lv, h, rfl, hs⟩ := h
  have ho : x.o = 2 := hs.o
  refine (Pull_yes x t ((hs.topOk t).2 hn) (by rw [hs.freeB, hs.topP, ho]; exact hl) (by rw [hs.remE, hs.topP, ho]; exact hr) W h.bd).mono ?_
  rintro e w' ⟨rfl, hB, hK⟩
  rw [hs.pullT] at hB
  exact ⟨rfl, x, dP, fv, lv, h.call hB hK, rfl, hs⟩
theorem wds_ofK {W : World} {g : Nat} {zs : List Nat} {cap : Nat} (h : W.heap[g]? = some (.cells (wcells zs) 22 (0, 0))) (h64 : ∀ x ∈ zs, x < 18446744073709551616) (hc : zs.length ≤ cap) : M.Wds W (.slice (some ⟨g, 0, none⟩) zs.length cap) zs :=
  ⟨h64, some g, cap, rfl, fun _ => ⟨g, rfl⟩, fun g' e => by
    cases e
    exact ⟨heap_lt h, hc, fun i hi => by simp [World.cell?, h, wcells, hi, M.e64]⟩⟩
theorem HeadsX (t : Bt) (hs0 : List Nat) (lw b : Nat) (w W : World) (h : LX w W lw b t) (hh : headsL X0 t = hs0) (h64 : ∀ x ∈ hs0, x < 18446744073709551616) :
    Calls Tryz.prog 29 #[.pointer (some ⟨b, 0, none⟩)] W fun e w' => e = .returned (.slice (some ⟨W.heap.size, 0, none⟩) 3 3) ∧ Hid (M.Wds w' (.slice (some ⟨W.heap.size, 0, none⟩) 3 3) hs0 ∧ w'.heap[W.heap.size]? = some (.cells (wcells hs0) 22 (0, 0)) ∧ LX w w' lw b t) := by
  have h' := h
  obtain ⟨x, dP, fv, lv, h, rfl, hs⟩ := h
  have ho : x.o = 2 := hs.o
  have hl : hs0.length = 3 := by rw [← hh, headsL_len]; rfl
  refine (Heads_any x t W h.bd).mono ?_
  rintro e w' ⟨rfl, hg, hk⟩
  rw [hs.headsL, hh] at hg
  rw [ho]
  have q := wds_ofK (cap := 3) hg h64 (by omega)
  rw [hl] at q
  exact ⟨rfl, q, hg, h'.keep hk⟩
theorem FreeX (t : Bt) (xs : List Nat) (k lw b : Nat) (w W : World) (h : LX w W lw b t) (hk : k ≤ 2) (hx : freeL X0 t k = xs) :
    Calls Tryz.prog 20 #[.pointer (some ⟨b, 0, none⟩), .int .i64 (k : Int)] W fun e w' => ∃ v, e = .returned v ∧ Hid (M.Wds w' v xs ∧ LX w w' lw b t) := by
  have h' := h
  obtain ⟨x, dP, fv, lv, h, rfl, hs⟩ := h
  have ho : x.o = 2 := hs.o
  refine (Free_yes x t k (by omega) W h.bd).mono ?_
  rintro e w' ⟨v, rfl, hL, hK, hN⟩
  rw [hs.freeL, hx] at hL
  exact ⟨v, rfl, hL.wds, h'.keep hK⟩
theorem FreeN (t : Bt) (k : Int) (lw b : Nat) (w W : World) (h : LX w W lw b t) (hk : inR 3 k = false) :
    Calls Tryz.prog 20 #[.pointer (some ⟨b, 0, none⟩), .int .i64 k] W fun e w' => e = .returned (.slice none 0 0) ∧ LX w w' lw b t := by
  have h' := h
  obtain ⟨x, dP, fv, lv, h, rfl, hs⟩ := h
  have ho : x.o = 2 := hs.o
  refine (Free_no x t k (by rw [ho]; exact hk) W h.bd).mono ?_
  rintro e w' ⟨rfl, rfl⟩
  exact ⟨rfl, h'⟩
theorem intsX (va vb : Value) (xs ys : List Nat) (hl : xs.length ≤ 4194305) (w : World) (ha : M.Wds w va xs) (hb : M.Wds w vb ys) (he : xs = ys) :
    Calls Tryz.prog 30 #[va, vb] w fun e w' => e = .returned (.bool true) ∧ Kept none' w w' := by
  refine (M.ints_any va vb xs ys hl w ha hb).mono ?_
  rintro e w' ⟨rfl, hk⟩
  exact ⟨by rw [decide_eq_true he], toK hk⟩
theorem beginX (w : World) : Calls Tryz.prog 6 #[.agg #[.int .u64 65536, .int .i64 2, .int .i64 2]] w fun e w' => BegP w 65536 2 2 e w' :=
  begin_ok 65536 (by decide) 2 2 (by decide) (by decide) (by decide) w
theorem comeX (lw : Nat) (x : Bx) (fa : Option Addr) (fc : Nat) (w W : World) (h : LW w W lw x ⟨fun _ => 0, newM 2, fun _ => 0⟩ 0 (.slice fa (2 + 1) fc) (.slice none 0 0)) (e1 : x.base = 65536) (e2 : x.R = 4096 * 2 ^ 2) (e3 : x.lim = 2) (e4 : x.n = 0) (e5 : x.o = 2) :
    Calls Tryz.prog 14 #[.pointer (some ⟨lw, 0, none⟩)] W fun e w' => ∃ b, e = .returned (.bool true) ∧ Hid (LX w w' lw b T1) := by
  refine (come_ok lw x _ 0 fa (2 + 1) fc w W h ⟨0, by rw [e4]; simp, by omega⟩ (by rw [e4]; rfl) rfl (by rw [e5]; decide)).mono ?_
  rintro e w' ⟨x', ga, gc, rfl, hL, f1, f2, f3, f4, f5⟩
  rw [e4] at hL
  exact ⟨x'.b, rfl, x', _, _, _, hL, rfl, ⟨f1.trans e1, by rw [f4, e4, e2]; rfl, f5.trans e5⟩⟩
theorem TakeI (t : Bt) (k j q : Nat) (ki a : Int) (h1 : ki = (k : Int)) (h2 : a = ((ad X0 q : Nat) : Int)) (lw b : Nat) (w W : World) (h : LX w W lw b t) (hk : takeOk t k j q = true) :
    Calls Tryz.prog 10 #[.pointer (some ⟨b, 0, none⟩), .int .i64 ki] W fun e w' => e = .returned (.tuple #[.int .u64 a, .int .i64 0]) ∧ LX w w' lw b (takeT X0 t q j k) := by
  subst h1 h2
  exact TakeL t k j q lw b w W h hk
set_option maxRecDepth 6000 in
set_option maxHeartbeats 24000000 in
theorem lives_ok (w : World) : Calls Tryz.prog 7 #[] w fun e w' => e = .returned (.bool true) ∧ Kept none' w w' := by
  go_enter Tryz.func7, Tryz.ntmps7
  go_wp2_with fail
  refine (beginX w).mono ?_
  rintro e w1 ⟨lw, x, fa, fc, rfl, hL, e1, e2, e3, e4, e5⟩
  have H1 := hid hL
  have EQ := hid (And.intro e1 (And.intro e2 (And.intro e3 (And.intro e4 e5))))
  have c5 := hL.c.2.2.2.2.2.1
  have TE := hid (show Calls Tryz.prog 10 #[.pointer (some ⟨x.b, 0, none⟩), .int .i64 0] w1 fun e w' => e = .returned (.tuple #[.int .u64 0, .int .i64 2]) ∧ w' = w1 from Take_empty x _ 0 (Nat.zero_le _) (fun a _ _ => rfl) w1 hL.bd)
  have FN := hid (Feed_no x _ (.inl (fun e => e.1 e4)) w1 hL.bd)
  clear hL e1 e2 e3 e4 e5
  go_wp2_with fail
  refine TE.out.mono ?_
  rintro e w2 ⟨rfl, hw2⟩
  rw [hw2]
  clear hw2
  go_wp2_with fail
  refine FN.out.mono ?_
  rintro e w2 ⟨rfl, hk⟩
  have CO := hid (comeX lw x fa fc w w2 (H1.out.keep hk) EQ.out.1 EQ.out.2.1 EQ.out.2.2.1 EQ.out.2.2.2.1 EQ.out.2.2.2.2)
  clear hk c5 TE FN H1 EQ
  go_wp2_with fail
  refine CO.out.mono ?_
  rintro e w3 ⟨b, rfl, H3⟩
  clear CO
  have c5 := H3.out.c5
  go_wp2_with fail
  refine (FeedY T1 0 lw b w _ H3.out k1 k2.1 k2.2.1 k2.2.2).mono ?_
  rintro e w4 ⟨rfl, h4⟩
  have H4 := hid (show LX w w4 lw b T2 from h4)
  clear h4 c5 H3
  have c5 := H4.out.c5
  go_wp2_with fail
  refine (FeedN T2 lw b w _ H4.out k3.1 k3.2).mono ?_
  rintro e w5 ⟨rfl, h5⟩
  have H5 := hid h5
  clear h5 c5 H4
  have c5 := H5.out.c5
  go_wp2_with fail
  refine (TakeI T2 0 2 0 0 65536 rfl rfl lw b w _ H5.out k4).mono ?_
  rintro e w6 ⟨rfl, h6⟩
  have H6 := hid (show LX w w6 lw b T3 from h6)
  clear h6 c5 H5
  obtain ⟨y, dP, fv, lv, hL, hyb, hs⟩ := H6.out
  have HS := hid hs
  have ho : y.o ≤ 8 := hL.bd.o8
  have L6 := hid (hL.keep (Kept.refl none' w6).drew)
  have KW := hid (Kept.refl none' w6).drew
  clear hL hs H6
  subst hyb
  obtain ⟨a0, a1, a2, a3, a4, a5, -⟩ := L6.out.c
  have h64 : ∀ i, (headsL y T3).getD i 0 < 18446744073709551616 := fun i => by
    rw [HS.out.headsL, k26]
    match i with
    | 0 => decide
    | 1 => decide
    | 2 => decide
    | n + 3 => exact (by decide : (0 : Nat) < 18446744073709551616)
  have H64 := hid h64
  clear h64
  go_wp2_with fail
  go_region_held3 (fun w' => w'.cell? ⟨lw, 0, none⟩ = some (.int .u64 (y.base : Int)) ∧ w'.cell? ⟨lw, 1, none⟩ = some (.int .i64 (y.lim : Int)) ∧ w'.cell? ⟨lw, 2, none⟩ = some (.int .i64 (y.o : Int)) ∧ w'.cell? ⟨lw, 3, none⟩ = some (.pointer (some ⟨y.s, 0, none⟩)) ∧ w'.cell? ⟨lw, 4, none⟩ = some (.pointer (some ⟨y.m, 0, none⟩)) ∧ w'.cell? ⟨lw, 5, none⟩ = some (.pointer (some ⟨y.b, 0, none⟩))) (first | with_reducible exact ⟨a0, a1, a2, a3, a4, a5⟩ | with_reducible exact ⟨r0, r1, r2, r3, r4, r5⟩ | with_reducible exact ⟨d0, d1, d2, d3, d4, d5⟩) (first | (go_at_call 29; refine (Heads_any y T3 _ L6.out.bd).mono ?_; rintro e w7 ⟨rfl, hg, hk⟩; have L7 := hid (L6.out.keep hk); have G7 := hid hg; obtain ⟨r0, r1, r2, r3, r4, r5, -⟩ := L7.out.c; clear hg hk) | (go_at_call 28; refine (OpenB_yes y.base y.s y.m y.o (y.lim : Int) ho (headsL y T3) (headsL_len y T3) H64.out _ (y.o + 1) _ G7.out).mono ?_; rintro e w8 ⟨b2, rfl, hO⟩; have O8 := hid hO; have L8 := hid (L7.out.keep (show Kept none' w7 w8 from by obtain ⟨_, _, _, h, _⟩ := hO; exact h.kp)); obtain ⟨d0, d1, d2, d3, d4, d5, -⟩ := L8.out.c; clear hO))
  all_goals
    clear a0 a1 a2 a3 a4 a5 r0 r1 r2 r3 r4 r5 d0 d1 d2 d3 d4 d5 L6 L7 G7 KW
    have hyo : y.o = 2 := HS.out.o
    have HH : headsL y T3 = [69632, 73728, 0] := by rw [HS.out.headsL, k26]
    obtain ⟨l2, c2', L2', hZ, -⟩ := O8.out.bd rfl L8.out.bd.sp L8.out.bd.mp L8.out.bd.mo L8.out.bd.hR
    obtain ⟨z, hz⟩ : ∃ z : Bx, z = ⟨b2, y.s, y.a, y.m, y.B, l2, c2', L2', y.base, y.R, y.lim, y.n, y.o⟩ := ⟨_, rfl⟩
    obtain ⟨t2, ht2⟩ : ∃ t2 : Bt, t2 = ⟨T3.f, T3.m, fun i => (headsL y T3).getD i 0⟩ := ⟨_, rfl⟩
    rw [← hz, ← ht2] at hZ
    have hzb : z.b = b2 := by rw [hz]
    have hzo : z.o = 2 := by rw [hz]; exact hyo
    have HH2 : headsL z t2 = [69632, 73728, 0] := by
      unfold headsL
      rw [hzo, ht2]
      show [(headsL y T3).getD 0 0, (headsL y T3).getD 1 0, (headsL y T3).getD 2 0] = _
      rw [HH]
      rfl
    have HY := hid (show ∀ W, LW w W lw y T3 dP fv lv → Calls Tryz.prog 29 #[.pointer (some ⟨y.b, 0, none⟩)] W fun e w' => e = .returned (.slice (some ⟨W.heap.size, 0, none⟩) 3 3) ∧ w'.heap[W.heap.size]? = some (.cells (wcells [69632, 73728, 0]) 22 (0, 0)) ∧ Kept none' W w' from fun W hW => by
      have q := Heads_any y T3 W hW.bd
      rw [HH, hyo] at q
      exact q)
    have HZ := hid (show ∀ W, BdAt W z t2 → Calls Tryz.prog 29 #[.pointer (some ⟨b2, 0, none⟩)] W fun e w' => e = .returned (.slice (some ⟨W.heap.size, 0, none⟩) 3 3) ∧ w'.heap[W.heap.size]? = some (.cells (wcells [69632, 73728, 0]) 22 (0, 0)) ∧ Kept none' W w' from fun W hW => by
      have q := Heads_any z t2 W hW
      rw [HH2, hzo, hzb] at q
      exact q)
    have IN := hid (show ∀ (W : World) (g1 g2 : Nat), W.heap[g1]? = some (.cells (wcells [69632, 73728, 0]) 22 (0, 0)) → W.heap[g2]? = some (.cells (wcells [69632, 73728, 0]) 22 (0, 0)) → Calls Tryz.prog 30 #[.slice (some ⟨g1, 0, none⟩) 3 3, .slice (some ⟨g2, 0, none⟩) 3 3] W fun e w' => e = .returned (.bool true) ∧ Kept none' W w' from fun W g1 g2 h1 h2 => intsX _ _ [69632, 73728, 0] [69632, 73728, 0] (by decide) W (wds_ofK (zs := [69632, 73728, 0]) (cap := 3) h1 (by decide) (by decide)) (wds_ofK (zs := [69632, 73728, 0]) (cap := 3) h2 (by decide) (by decide)) rfl)
    have P8 := hid (show LW w w8.drew lw y T3 dP fv lv ∧ BdAt w8.drew z t2 from ⟨L8.out.keep (Kept.refl none' w8).drew, hZ.keep (Kept.refl none' w8).drew⟩)
    have ka : Kept none' w8 (w8.alloc (.cells #[.int .u64 69632, .int .u64 73728, .int .u64 0] 22)).drew := ((Kept.refl none' w8).alloc (.cells #[.int .u64 69632, .int .u64 73728, .int .u64 0] 22)).drew
    have P8a := hid (show LW w (w8.alloc (.cells #[.int .u64 69632, .int .u64 73728, .int .u64 0] 22)).drew lw y T3 dP fv lv ∧ BdAt (w8.alloc (.cells #[.int .u64 69632, .int .u64 73728, .int .u64 0] 22)).drew z t2 from ⟨L8.out.keep ka, hZ.keep ka⟩)
    have X8a := hid (show (w8.alloc (.cells #[.int .u64 69632, .int .u64 73728, .int .u64 0] 22)).drew.heap[w8.heap.size]? = some (.cells (wcells [69632, 73728, 0]) 22 (0, 0)) from heap_new w8 _)
    have hz8 : w8.drew.heap.size = w8.heap.size := rfl
    have hz8a : (w8.alloc (.cells #[.int .u64 69632, .int .u64 73728, .int .u64 0] 22)).drew.heap.size = w8.heap.size + 1 := World.size_alloc w8 _
    have s8 := P8.out.1.c.2.2.2.2.2.1
    have s8a := P8a.out.1.c.2.2.2.2.2.1
    clear ka hZ hz ht2 hzb hzo HH HH2 hyo O8 L8 H64 HS
    go_wp2_with fail
    go_region_held3 (fun w' => w'.cell? ⟨lw, 5, none⟩ = some (.pointer (some ⟨y.b, 0, none⟩))) (first | with_reducible exact s8 | with_reducible exact s8a | with_reducible exact s9 | with_reducible exact s9a | with_reducible exact s10 | with_reducible exact s11 | with_reducible exact s12 | with_reducible exact s13) (first
      | (go_at_call 29; with_reducible refine (HY.out w8.drew P8.out.1).mono ?_; rintro e w9 ⟨rfl, hg, hk⟩; have P9 := hid (And.intro (P8.out.1.keep hk) (P8.out.2.keep hk)); rw [hz8] at hg; have kb := (Kept.refl none' w9).alloc (.cells #[.int .u64 69632, .int .u64 73728, .int .u64 0] 22); have P9a := hid (And.intro (P9.out.1.keep kb) (P9.out.2.keep kb)); have G9a := hid ((kb.block _ (heap_lt hg) (fun x => x)).trans hg); have X9a := hid (show (w9.alloc (.cells #[.int .u64 69632, .int .u64 73728, .int .u64 0] 22)).heap[w9.heap.size]? = some (.cells (wcells [69632, 73728, 0]) 22 (0, 0)) from heap_new _ _); have s9 := P9.out.1.c.2.2.2.2.2.1; have s9a := P9a.out.1.c.2.2.2.2.2.1; clear hg hk kb)
      | (go_at_call 29; with_reducible refine (HY.out _ P8a.out.1).mono ?_; rintro e w9 ⟨rfl, hg, hk⟩; have P9a := hid (And.intro (P8a.out.1.keep hk) (P8a.out.2.keep hk)); rw [hz8a] at hg; have G9a := hid hg; have X9a := hid ((hk.block _ (heap_lt X8a.out) (fun x => x)).trans X8a.out); have s9 := P9a.out.1.c.2.2.2.2.2.1; clear hg hk)
      | (go_at_call 30; with_reducible refine (IN.out _ _ _ G9a.out X9a.out).mono ?_; rintro e w10 ⟨rfl, hk⟩; have P10 := hid (And.intro (P9a.out.1.keep hk) (P9a.out.2.keep hk)); have s10 := P10.out.1.c.2.2.2.2.2.1; clear hk)
      | (go_at_call 29; with_reducible refine (HZ.out _ P10.out.2).mono ?_; rintro e w11 ⟨rfl, hg, hk⟩; have P11 := hid (P10.out.1.keep hk); have G11 := hid hg; have s11 := P11.out.c.2.2.2.2.2.1; clear hg hk)
      | (go_at_call 29; with_reducible refine (HY.out _ P11.out).mono ?_; rintro e w12 ⟨rfl, hg, hk⟩; have P12 := hid (P11.out.keep hk); have G12 := hid hg; have G11' := hid ((hk.block _ (heap_lt G11.out) (fun x => x)).trans G11.out); have s12 := P12.out.c.2.2.2.2.2.1; clear hg hk)
      | (go_at_call 30; with_reducible refine (IN.out _ _ _ G11'.out G12.out).mono ?_; rintro e w13 ⟨rfl, hk⟩; have P13 := hid (P12.out.keep hk); have s13 := P13.out.c.2.2.2.2.2.1; clear hk))
    all_goals
      have K13 := hid P13.out.kp
      go_wp2_with fail
      go_ret
      exact ⟨ret_bool rfl, K13.out⟩
theorem TakeEI (t : Bt) (k : Nat) (ki : Int) (h1 : ki = (k : Int)) (lw b : Nat) (w W : World) (h : LX w W lw b t) (hk : k ≤ 2) (hz : ∀ a, a ≤ 2 → k ≤ a → t.hd a = 0) :
    Calls Tryz.prog 10 #[.pointer (some ⟨b, 0, none⟩), .int .i64 ki] W fun e w' => e = .returned (.tuple #[.int .u64 0, .int .i64 2]) ∧ LX w w' lw b t := by
  subst h1
  exact TakeE t k lw b w W h hk hz
theorem GiveNI (t : Bt) (p : Nat) (pi k : Int) (h1 : pi = (p : Int)) (lw b : Nat) (w W : World) (h : LX w W lw b t) (hp : p < 18446744073709551616) (hl : liveB X0 t p k = false) :
    Calls Tryz.prog 18 #[.pointer (some ⟨b, 0, none⟩), .int .u64 pi, .int .i64 k] W fun e w' => e = .returned (.int .i64 1) ∧ LX w w' lw b t := by
  subst h1
  exact GiveN t p k lw b w W h hp hl
theorem GiveYI (t : Bt) (p q k : Nat) (pi ki : Int) (h1 : pi = (p : Int)) (h2 : ki = (k : Int)) (J : Bt × Nat × Nat) (lw b : Nat) (w W : World) (h : LX w W lw b t) (hp : p < 18446744073709551616) (hJ : J = joinL X0 (2 - k) t q k) (hk : liveB X0 t p (k : Int) = true ∧ pageI X0 t p = q ∧ enterE X0 J.1 J.2.1 J.2.2 = 0) :
    Calls Tryz.prog 18 #[.pointer (some ⟨b, 0, none⟩), .int .u64 pi, .int .i64 ki] W fun e w' => e = .returned (.int .i64 0) ∧ LX w w' lw b (enterT X0 J.1 J.2.1 J.2.2) := by
  subst h1 h2
  exact GiveY t p q k J lw b w W h hp hk.1 hk.2.1 hJ hk.2.2
theorem ShrinkNI (t : Bt) (p : Nat) (pi k o : Int) (h1 : pi = (p : Int)) (lw b : Nat) (w W : World) (h : LX w W lw b t) (hp : p < 18446744073709551616) (hl : liveB X0 t p k = false) :
    Calls Tryz.prog 50 #[.pointer (some ⟨b, 0, none⟩), .int .u64 pi, .int .i64 k, .int .i64 o] W fun e w' => e = .returned (.int .i64 1) ∧ LX w w' lw b t := by
  subst h1
  exact ShrinkN t p k o lw b w W h hp hl
theorem ShrinkYI (t : Bt) (p q k o : Nat) (pi ki oi : Int) (h1 : pi = (p : Int)) (h2 : ki = (k : Int)) (h3 : oi = (o : Int)) (lw b : Nat) (w W : World) (h : LX w W lw b t) (hp : p < 18446744073709551616) (ho : o ≤ k) (hk : liveB X0 t p (k : Int) = true ∧ pageI X0 t p = q ∧ cutE X0 t q k o = 0) :
    Calls Tryz.prog 50 #[.pointer (some ⟨b, 0, none⟩), .int .u64 pi, .int .i64 ki, .int .i64 oi] W fun e w' => e = .returned (.int .i64 0) ∧ LX w w' lw b (cutT X0 t q k o) := by
  subst h1 h2 h3
  exact ShrinkY t p q k o lw b w W h hp hk.1 hk.2.1 ho hk.2.2
theorem FreeI (t : Bt) (xs : List Nat) (k : Nat) (ki : Int) (h1 : ki = (k : Int)) (lw b : Nat) (w W : World) (h : LX w W lw b t) (hk : k ≤ 2) (hx : freeL X0 t k = xs) :
    Calls Tryz.prog 20 #[.pointer (some ⟨b, 0, none⟩), .int .i64 ki] W fun e w' => ∃ v, e = .returned v ∧ Hid (M.Wds w' v xs ∧ LX w w' lw b t) := by
  subst h1
  exact FreeX t xs k lw b w W h hk hx
/-- What a call told, and the list that it is held against. -/
theorem intsY {w W W2 : World} {lw b : Nat} {t : Bt} {v : Value} {zs : List Nat} {o : Obj} (h : M.Wds W v zs ∧ LX w W lw b t) (hl : zs.length ≤ 4000) (ho : o = .cells (wcells zs) 22 (0, 0)) (hz : ∀ x ∈ zs, x < 18446744073709551616) (n : Nat) (hn : n = zs.length) :
    Calls Tryz.prog 30 #[v, .slice (some ⟨W.heap.size, 0, none⟩) n n] (W.alloc o) fun e w' => e = .returned (.bool true) ∧ LX w w' lw b t := by
  subst hn ho
  have ka := (Kept.refl none' W).alloc (.cells (wcells zs) 22 (0, 0))
  refine (intsX v _ zs zs (by omega) _ (h.1.keep (ofK ka)) (wds_ofK (heap_new _ _) hz (Nat.le_refl _)) rfl).mono ?_
  rintro e w' ⟨rfl, hk⟩
  exact ⟨rfl, h.2.keep (none_trans ka hk)⟩
end Go.Proofs.YthglogiglimebaaGreat
