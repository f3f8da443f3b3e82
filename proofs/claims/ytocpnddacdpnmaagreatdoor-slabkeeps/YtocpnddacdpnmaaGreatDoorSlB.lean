import Derived.Test.YtocpnddacdpnmaaGreatDoorSlA
import Derived.Deep.RegionHeld3
import Derived.Deep.DeepCutAuto
/- Package slab: the partial lists in the map; cells by their addresses. -/
namespace Go.Proofs.YtocpnddacdpnmaaGreatDoor
open Go.RowKit
set_option linter.unusedVariables false

/-- What a call on the pages does: the map is m'. -/
def SD (w W : World) (sb lw : Nat) (x : Bx) (t : Bt) (h : Nat → Int) (m' : Mp) (w' : World) : Prop := SW w w' sb lw x { t with m := m' } h ∧ Kept (bown x) W w'
theorem chainM_o (m : Mp) (i a b : Int) : (chainM m i a b).o = m.o := by unfold chainM; split <;> rfl
theorem chainM_n (m : Mp) (i a b : Int) : (chainM m i a b).n = m.n := by unfold chainM; split <;> rfl
theorem ownM_o (m : Mp) (i c : Int) (l : Bool) : (ownM m i c l).o = m.o := by unfold ownM; split <;> rfl
theorem firstM_o (m : Mp) (i c : Int) : (firstM m i c).o = m.o := by unfold firstM; split <;> rfl
theorem slabM_o (m : Mp) (i c : Int) : (slabM m i c).o = m.o := by unfold slabM; split <;> rfl
theorem runM_oo (m : Mp) (i a b : Int) : (runM m i a b).o = m.o := by unfold runM; split <;> rfl
theorem Chain_s {w W sb lw x t h} (s : SW w W sb lw x t h) (i a b : Int) :
    Calls Tryz.prog 98 #[.pointer (some ⟨x.m, 0, none⟩), .int .i64 i, .int .i64 a, .int .i64 b] W fun e w' => e = .returned (.int .i64 (chainE t.m i a b)) ∧ SD w W sb lw x t h (chainM t.m i a b) w' := by
  refine (Chain_any x.m x.B t.m i a b W s.pl.bd.mp).mono ?_
  rintro e w' ⟨rfl, h1, h2⟩
  exact ⟨rfl, s.map h1 h2 (chainM_o _ _ _ _)⟩
theorem Own_s {w W sb lw x t h} (s : SW w W sb lw x t h) (i c : Int) (l : Bool) :
    Calls Tryz.prog 40 #[.pointer (some ⟨x.m, 0, none⟩), .int .i64 i, .int .i64 c, .bool l] W fun e w' => e = .returned (.int .i64 (ownE t.m i c l)) ∧ SD w W sb lw x t h (ownM t.m i c l) w' := by
  refine (Own_any x.m x.B t.m i c l W s.pl.bd.mp).mono ?_
  rintro e w' ⟨rfl, h1, h2⟩
  exact ⟨rfl, s.map h1 h2 (ownM_o _ _ _ _)⟩
theorem First_s {w W sb lw x t h} (s : SW w W sb lw x t h) (i c : Int) :
    Calls Tryz.prog 88 #[.pointer (some ⟨x.m, 0, none⟩), .int .i64 i, .int .i64 c] W fun e w' => e = .returned (.int .i64 (firstE t.m i c)) ∧ SD w W sb lw x t h (firstM t.m i c) w' := by
  refine (First_any x.m x.B t.m i c W s.pl.bd.mp).mono ?_
  rintro e w' ⟨rfl, h1, h2⟩
  exact ⟨rfl, s.map h1 h2 (firstM_o _ _ _)⟩
theorem Slab_s {w W sb lw x t h} (s : SW w W sb lw x t h) (i c : Int) :
    Calls Tryz.prog 86 #[.pointer (some ⟨x.m, 0, none⟩), .int .i64 i, .int .i64 c] W fun e w' => e = .returned (.int .i64 (slabE t.m i c)) ∧ SD w W sb lw x t h (slabM t.m i c) w' := by
  refine (Slab_any x.m x.B t.m i c W s.pl.bd.mp).mono ?_
  rintro e w' ⟨rfl, h1, h2⟩
  exact ⟨rfl, s.map h1 h2 (slabM_o _ _ _)⟩
theorem Run_s {w W sb lw x t h} (s : SW w W sb lw x t h) (p o k : Int) :
    Calls Tryz.prog 97 #[.pointer (some ⟨x.m, 0, none⟩), .int .i64 p, .int .i64 o, .int .i64 k] W fun e w' => e = .returned (.int .i64 (runE t.m p o k)) ∧ SD w W sb lw x t h (runM t.m p o k) w' := by
  refine (Run_any x.m x.B t.m p o k W s.pl.bd.mp).mono ?_
  rintro e w' ⟨rfl, h1, h2⟩
  exact ⟨rfl, s.map h1 h2 (runM_oo _ _ _ _)⟩
theorem pg11 {W : World} {y : Nat} {p : Pg} (h : W.heap[y]? = some (pobj p)) : W.cell? ⟨y, 0, none⟩ = some (.int .i64 p.kd) ∧ W.cell? ⟨y, 1, none⟩ = some (.int .i64 p.od) ∧ W.cell? ⟨y, 2, none⟩ = some (.int .i64 p.cl) ∧ W.cell? ⟨y, 3, none⟩ = some (.int .i64 p.lv) ∧ W.cell? ⟨y, 4, none⟩ = some (.int .i64 p.nx) ∧ W.cell? ⟨y, 5, none⟩ = some (.int .i64 p.pv) ∧ W.cell? ⟨y, 6, none⟩ = some (.int .i64 p.fs) ∧ W.cell? ⟨y, 7, none⟩ = some (.int .u64 (p.b0 : Int)) ∧ W.cell? ⟨y, 8, none⟩ = some (.int .u64 (p.b1 : Int)) ∧ W.cell? ⟨y, 9, none⟩ = some (.int .u64 (p.b2 : Int)) ∧ W.cell? ⟨y, 10, none⟩ = some (.int .u64 (p.b3 : Int)) := by
  refine ⟨?_, ?_, ?_, ?_, ?_, ?_, ?_, ?_, ?_, ?_, ?_⟩ <;> simp [World.cell?, h]
/-- What is behind a page, ahead of it, is set. -/
def setPrevM (m : Mp) (i p : Int) : Mp := chainM m i (atP m i).nx p
def setNextM (m : Mp) (i n : Int) : Mp := chainM m i n (atP m i).pv
set_option maxRecDepth 4000 in
theorem setPrev_s {w W sb lw x t h} (s : SW w W sb lw x t h) (i p : Int) :
    Calls Tryz.prog 99 #[.pointer (some ⟨sb, 0, none⟩), .int .i64 i, .int .i64 p] W fun e w' => e = .returned (.tuple #[]) ∧ SD w W sb lw x t h (setPrevM t.m i p) w' := by
  obtain ⟨q, hq⟩ : ∃ q, q = atP t.m i := ⟨_, rfl⟩
  have HA := hid (show Calls Tryz.prog 16 #[.pointer (some ⟨x.m, 0, none⟩), .int .i64 i] W fun e w' => e = .returned (.tuple #[pval q, .bool (inR t.m.n i)]) ∧ Kept none' W w' from by rw [hq]; exact at_any x.m x.B t.m i W s.pl.bd.mp)
  have HM := hid (Map6 s.pl)
  rw [show setPrevM t.m i p = chainM t.m i q.nx p by rw [hq]; rfl]
  have H := hid s
  obtain ⟨c0, c1⟩ := s.c0
  clear s hq
  generalize inR t.m.n i = r at *
  go_enter Tryz.func99, Tryz.ntmps99
  go_wp2_with fail
  refine HM.out.mono ?_
  rintro e w1 ⟨rfl, h1⟩
  replace h1 := h1.symm
  subst h1
  go_wp2_with fail
  refine HA.out.mono ?_
  rintro e w2 ⟨rfl, hk⟩
  have K2 := hid (hk.alloc (pobj q))
  have X2 := hid (heap_new w2 (pobj q))
  have H2 := hid (H.out.keep K2.out)
  have NY := hid (show ¬ bown x w2.heap.size from fun e => absurd ((H.out.keep hk).pl.lt _ (.inl e)) (Nat.lt_irrefl _))
  clear hk c0 c1
  go_upto_region 1 with fail
  generalize w2.heap.size = y at *
  generalize w2.alloc (pobj q) = W2 at *
  have KD := hid ((Kept.refl none' W2).drew)
  have H3 := hid (H2.out.keep KD.out)
  obtain ⟨c0, c1⟩ := H3.out.c0
  have X3 := hid ((KD.out.block _ (heap_lt X2.out) (fun e => e)).trans X2.out)
  obtain ⟨_, _, _, _, x4, _⟩ := pg11 X3.out
  have MP := hid (Map6 H3.out.pl)
  have CH := hid (Chain_s H3.out i q.nx p)
  go_region_held3 (fun w' => w'.cell? ⟨sb, 0, none⟩ = some (.pointer (some ⟨lw, 0, none⟩)) ∧ w'.cell? ⟨y, 4, none⟩ = some (.int .i64 q.nx)) ((refine ⟨?_, ?_⟩ <;> first | with_reducible assumption | fail)) (first
    | (go_at_call 98; (with_reducible refine CH.out.mono ?_); rintro e w5 ⟨rfl, hs5, hk5⟩; obtain ⟨f0, f1⟩ := hs5.c0; have f4 := hk5.cell NY.out x4; have D5 := hid (show SD w W sb lw x t h (chainM t.m i q.nx p) w5 from ⟨hs5, (K2.out.trans KD.out (fun _ _ e => e) (fun _ _ e => e)).trans hk5 (fun _ _ e => e.elim) (fun _ _ e => e)⟩); clear hs5 hk5)
    | (go_at_call 15; (with_reducible refine MP.out.mono ?_); rintro e w3 ⟨rfl, h3⟩; replace h3 := h3.symm; subst h3)
    | fail)
  all_goals
    go_wp2_with fail
    exact ⟨rfl, .tuple #[], by simp [results, Tryz.results99, go_sem], rfl, D5.out⟩
set_option maxRecDepth 4000 in
theorem setNext_s {w W sb lw x t h} (s : SW w W sb lw x t h) (i n : Int) :
    Calls Tryz.prog 141 #[.pointer (some ⟨sb, 0, none⟩), .int .i64 i, .int .i64 n] W fun e w' => e = .returned (.tuple #[]) ∧ SD w W sb lw x t h (setNextM t.m i n) w' := by
  obtain ⟨q, hq⟩ : ∃ q, q = atP t.m i := ⟨_, rfl⟩
  have HA := hid (show Calls Tryz.prog 16 #[.pointer (some ⟨x.m, 0, none⟩), .int .i64 i] W fun e w' => e = .returned (.tuple #[pval q, .bool (inR t.m.n i)]) ∧ Kept none' W w' from by rw [hq]; exact at_any x.m x.B t.m i W s.pl.bd.mp)
  have HM := hid (Map6 s.pl)
  rw [show setNextM t.m i n = chainM t.m i n q.pv by rw [hq]; rfl]
  have H := hid s
  obtain ⟨c0, c1⟩ := s.c0
  clear s hq
  generalize inR t.m.n i = r at *
  go_enter Tryz.func141, Tryz.ntmps141
  go_wp2_with fail
  refine HM.out.mono ?_
  rintro e w1 ⟨rfl, h1⟩
  replace h1 := h1.symm
  subst h1
  go_wp2_with fail
  refine HA.out.mono ?_
  rintro e w2 ⟨rfl, hk⟩
  have K2 := hid (hk.alloc (pobj q))
  have X2 := hid (heap_new w2 (pobj q))
  have H2 := hid (H.out.keep K2.out)
  have NY := hid (show ¬ bown x w2.heap.size from fun e => absurd ((H.out.keep hk).pl.lt _ (.inl e)) (Nat.lt_irrefl _))
  clear hk c0 c1
  go_upto_region 1 with fail
  generalize w2.heap.size = y at *
  generalize w2.alloc (pobj q) = W2 at *
  have KD := hid ((Kept.refl none' W2).drew)
  have H3 := hid (H2.out.keep KD.out)
  obtain ⟨c0, c1⟩ := H3.out.c0
  have X3 := hid ((KD.out.block _ (heap_lt X2.out) (fun e => e)).trans X2.out)
  obtain ⟨_, _, _, _, _, x4, _⟩ := pg11 X3.out
  have MP := hid (Map6 H3.out.pl)
  have CH := hid (Chain_s H3.out i n q.pv)
  go_region_held3 (fun w' => w'.cell? ⟨sb, 0, none⟩ = some (.pointer (some ⟨lw, 0, none⟩)) ∧ w'.cell? ⟨y, 5, none⟩ = some (.int .i64 q.pv)) ((refine ⟨?_, ?_⟩ <;> first | with_reducible assumption | fail)) (first
    | (go_at_call 98; (with_reducible refine CH.out.mono ?_); rintro e w5 ⟨rfl, hs5, hk5⟩; obtain ⟨f0, f1⟩ := hs5.c0; have f4 := hk5.cell NY.out x4; have D5 := hid (show SD w W sb lw x t h (chainM t.m i n q.pv) w5 from ⟨hs5, (K2.out.trans KD.out (fun _ _ e => e) (fun _ _ e => e)).trans hk5 (fun _ _ e => e.elim) (fun _ _ e => e)⟩); clear hs5 hk5)
    | (go_at_call 15; (with_reducible refine MP.out.mono ?_); rintro e w3 ⟨rfl, h3⟩; replace h3 := h3.symm; subst h3)
    | fail)
  all_goals
    go_wp2_with fail
    exact ⟨rfl, .tuple #[], by simp [results, Tryz.results141, go_sem], rfl, D5.out⟩
end Go.Proofs.YtocpnddacdpnmaaGreatDoor
