import Derived.Test.YtgjapopddblpoaaGreatDoorRgL
import Derived.Deep.QuietTactic
import Derived.BigQuiet
import Derived.Deep.RegionHeld3
import Derived.Deep.DeepCutAuto
/- Package slab: where a slab lies; its small calls. -/
namespace Go.Proofs.YtgjapopddblpoaaGreatDoor
open Go.RowKit
set_option linter.unusedVariables false

/-- The types of a pool's blocks. -/
def pty (e : TypeId) : Prop := e = 173 ∨ e = 5 ∨ e = 141 ∨ e = 103 ∨ e = 174 ∨ e = 223 ∨ e = 27 ∨ e = 250 ∨ e = 199 ∨ e = 224 ∨ e = 100
theorem Pol.pty {w W lw x t} (h : Pol w W lw x t) {y : Nat} {cs : Array Value} {e : TypeId} {z : Nat × Nat} (hy : W.heap[y]? = some (.cells cs e z)) (hb : bown x y ∨ y = x.b ∨ y = x.l ∨ y = lw) : pty e := by
  rcases hb with (hx | hx | ⟨k, hk, e2⟩) | rfl | rfl | rfl
  · obtain ⟨cs', t', z', h1, h2⟩ := space_ty h.bd.sp hx
    have e3 := ty_ne' hy h1
    subst e3
    rcases h2 with rfl | rfl
    · exact .inl rfl
    · exact .inr (.inl rfl)
  · rw [← h.bd.mo] at hx
    obtain ⟨cs', t', z', h1, h2⟩ := map_ty h.bd.mp hx
    have e3 := ty_ne' hy h1
    subst e3
    rcases h2 with rfl | rfl | rfl | rfl | rfl
    · exact .inr (.inr (.inl rfl))
    · exact .inr (.inr (.inr (.inl rfl)))
    · exact .inr (.inr (.inr (.inr (.inl rfl))))
    · exact .inr (.inr (.inr (.inr (.inr (.inl rfl)))))
    · exact .inr (.inr (.inr (.inr (.inr (.inr (.inl rfl))))))
  · rw [e2] at hy
    exact .inr (.inr (.inr (.inr (.inr (.inr (.inr (.inl (ty_ne' hy (h.bd.ls k hk).hc))))))))
  · exact .inr (.inr (.inr (.inr (.inr (.inr (.inr (.inr (.inl (ty_ne' hy h.bd.bs)))))))))
  · obtain ⟨cs', hl, _⟩ := h.bd.lr
    exact .inr (.inr (.inr (.inr (.inr (.inr (.inr (.inr (.inr (.inl (ty_ne' hy hl))))))))))
  · exact .inr (.inr (.inr (.inr (.inr (.inr (.inr (.inr (.inr (.inr (ty_ne' hy h.box))))))))))
/-- The table of the cells' sizes. -/
def Tab (w : World) : Prop := ∀ k, k < 8 → w.cell? ⟨0, k, none⟩ = some (.int .u64 ((16 * 2 ^ k : Nat) : Int))
/-- A slab's struct. -/
abbrev slO (lw base : Nat) (h : Nat → Int) : Obj := .cells #[.pointer (some ⟨lw, 0, none⟩), .int .u64 (base : Int), .int .i64 (h 0), .int .i64 (h 1), .int .i64 (h 2), .int .i64 (h 3), .int .i64 (h 4), .int .i64 (h 5), .int .i64 (h 6), .int .i64 (h 7)] 135
/-- A slab over a pool. -/
structure SW (w W : World) (sb lw : Nat) (x : Bx) (t : Bt) (h : Nat → Int) : Prop where
  pl : Pol w W lw x t
  bx : W.heap[sb]? = some (slO lw x.base h)
  nw : w.heap.size ≤ sb
  tb : Tab w
theorem SW.nsb {w W sb lw x t h} (s : SW w W sb lw x t h) : ¬ (bown x sb ∨ sb = x.b ∨ sb = x.l ∨ sb = lw) := fun e => absurd (s.pl.pty s.bx e) (by unfold Go.Proofs.YtgjapopddblpoaaGreatDoor.pty; decide)
theorem SW.call {w W W' sb lw x t t' h} (s : SW w W sb lw x t h) (hb : BdAt W' x t') (k : Kept (bown x) W W') : SW w W' sb lw x t' h :=
  ⟨s.pl.call hb k, (k.block _ (heap_lt s.bx) (fun e => s.nsb (.inl e))).trans s.bx, s.nw, s.tb⟩
theorem SW.keep {w W W' sb lw x t h} (s : SW w W sb lw x t h) (k : Kept none' W W') : SW w W' sb lw x t h := s.call (s.pl.bd.keep k) (bown_none k)
theorem SW.map {w W W' sb lw x t h} {m' : Mp} (s : SW w W sb lw x t h) (hm : MapAt W' x.m x.B m') (k : Kept (mown x.m x.B t.m.o) W W') (ho : m'.o = t.m.o) : SW w W' sb lw x { t with m := m' } h ∧ Kept (bown x) W W' := by
  have k' : Kept (bown x) W W' := k.mono (fun y _ e => .inr (.inl (s.pl.bd.mo ▸ e)))
  exact ⟨s.call (s.pl.bd.map k hm ho) k', k'⟩
theorem SW.tab {w W sb lw x t h} (s : SW w W sb lw x t h) : Tab W := fun k hk => s.pl.kp.cell (fun e => e) (s.tb k hk)
theorem SW.c0 {w W sb lw x t h} (s : SW w W sb lw x t h) : W.cell? ⟨sb, 0, none⟩ = some (.pointer (some ⟨lw, 0, none⟩)) ∧ W.cell? ⟨sb, 1, none⟩ = some (.int .u64 (x.base : Int)) := by
  constructor <;> simp [World.cell?, s.bx]
theorem lt8 {P : Nat → Prop} (h0 : P 0) (h1 : P 1) (h2 : P 2) (h3 : P 3) (h4 : P 4) (h5 : P 5) (h6 : P 6) (h7 : P 7) : ∀ k, k < 8 → P k
  | 0, _ => h0
  | 1, _ => h1
  | 2, _ => h2
  | 3, _ => h3
  | 4, _ => h4
  | 5, _ => h5
  | 6, _ => h6
  | 7, _ => h7
  | _ + 8, h => absurd h (by omega)
theorem SW.hd {w W sb lw x t h} (s : SW w W sb lw x t h) (k : Nat) (hk : k < 8) : W.cell? ⟨sb, 2 + k, none⟩ = some (.int .i64 (h k)) := by
  revert k
  apply lt8 <;> simp [World.cell?, s.bx]
/-- A head is written. -/
def uphI (h : Nat → Int) (k : Nat) (v : Int) : Nat → Int := fun j => if j = k then v else h j
theorem SW.set {w W sb lw x t h} (s : SW w W sb lw x t h) (k : Nat) (hk : k < 8) (v : Int) : SW w (W.setCell ⟨sb, 2 + k, none⟩ (.int .i64 v)) sb lw x t (uphI h k v) := by
  have kp : Kept (fun y => y = sb) W (W.setCell ⟨sb, 2 + k, none⟩ (.int .i64 v)) := (Kept.refl (fun y => y = sb) W).setCell (p := ⟨sb, 2 + k, none⟩) rfl _
  have hn := s.nsb
  refine ⟨⟨(kp.block _ (heap_lt s.pl.box) (fun e => hn (.inr (.inr (.inr e.symm))))).trans s.pl.box, s.pl.bd.kept kp (fun y hy e => hn ?_), s.pl.nw, s.pl.kp.setNew (p := ⟨sb, 2 + k, none⟩) (fun e => absurd s.nw (Nat.not_le.2 e)) _⟩, ?_, s.nw, s.tb⟩
  · subst e
    rcases hy with hy | hy | hy
    · exact .inl hy
    · exact .inr (.inl hy)
    · exact .inr (.inr (.inl hy))
  · rw [heap_set s.bx]
    revert k
    apply lt8 <;> intros <;> simp [uphI]
/-- What is read of the slab is not written. -/
theorem SW.fz {w W sb lw x t h} (s : SW w W sb lw x t h) (j : Nat) : W.frozen? ⟨sb, j, none⟩ = false := by simp [World.frozen?, s.bx]
theorem page_wrap (p base : Nat) (hp : p < 18446744073709551616) (hb : base < 18446744073709551616) : IntKind.u64.wrap ((p : Int) - (base : Int)) = (((p + 18446744073709551616 - base) % 18446744073709551616 : Nat) : Int) := by
  rw [wrap_u64]
  omega
/-- How far an address lies behind the base. -/
def offS (x : Bx) (p : Nat) : Nat := (p + 18446744073709551616 - x.base) % 18446744073709551616
theorem page_s {w W sb lw x t h} (s : SW w W sb lw x t h) (p : Nat) (hp : p < 18446744073709551616) :
    Calls Tryz.prog 191 #[.pointer (some ⟨sb, 0, none⟩), .int .u64 (p : Int)] W fun e w' => e = .returned (.int .i64 ((offS x p / 4096 : Nat) : Int)) ∧ w' = W := by
  obtain ⟨c0, c1⟩ := s.c0
  have hb : x.base < 18446744073709551616 := by have := s.pl.bd.sp.cfg.be; omega
  have hw := page_wrap p x.base hp hb
  obtain ⟨d, hd⟩ : ∃ d, d = (p + 18446744073709551616 - x.base) % 18446744073709551616 := ⟨_, rfl⟩
  rw [← hd] at hw
  rw [show offS x p = d from hd.symm]
  have hdb : d < 18446744073709551616 := by rw [hd]; exact Nat.mod_lt _ (by decide)
  obtain ⟨q, hq⟩ : ∃ q, q = d / 4096 := ⟨_, rfl⟩
  have hqi : (d : Int) / 4096 = (q : Int) := by omega
  have hqb : q < 4503599627370496 := by omega
  rw [← hq]
  clear hd s hb hp hq
  go_enter Tryz.func191, Tryz.ntmps191
  go_wp2_with fail
  go_ret
  exact ⟨by simp, rfl⟩
end Go.Proofs.YtgjapopddblpoaaGreatDoor
/- Package slab: the partial lists in the map; cells by their addresses. -/
namespace Go.Proofs.YtgjapopddblpoaaGreatDoor
open Go.RowKit
set_option linter.unusedVariables false

/-- What a call on the pages does: the map is m'. -/
def SD (w W : World) (sb lw : Nat) (x : Bx) (t : Bt) (h : Nat → Int) (m' : Mp) (w' : World) : Prop := SW w w' sb lw x { t with m := m' } h ∧ Kept (bown x) W w'
theorem chainM_o (m : Mp) (i a b : Int) : (chainM m i a b).o = m.o := by unfold chainM; split <;> rfl
theorem chainM_n (m : Mp) (i a b : Int) : (chainM m i a b).n = m.n := by unfold chainM; split <;> rfl
theorem ownM_o (m : Mp) (i c : Int) (l : Bool) : (ownM m i c l).o = m.o := by unfold ownM; split <;> rfl
theorem firstM_o (m : Mp) (i c : Int) : (firstM m i c).o = m.o := by unfold firstM; split <;> rfl
theorem slabM_o (m : Mp) (i c : Int) : (slabM m i c).o = m.o := by unfold slabM; split <;> rfl
theorem runM_oo (m : Mp) (i a b : Int) : (runM m i a b).o = m.o := by unfold runM; split <;> rfl
theorem Chain_s {w W sb lw x t h} (s : SW w W sb lw x t h) (i a b : Int) :
    Calls Tryz.prog 177 #[.pointer (some ⟨x.m, 0, none⟩), .int .i64 i, .int .i64 a, .int .i64 b] W fun e w' => e = .returned (.int .i64 (chainE t.m i a b)) ∧ SD w W sb lw x t h (chainM t.m i a b) w' := by
  refine (Chain_any x.m x.B t.m i a b W s.pl.bd.mp).mono ?_
  rintro e w' ⟨rfl, h1, h2⟩
  exact ⟨rfl, s.map h1 h2 (chainM_o _ _ _ _)⟩
theorem Own_s {w W sb lw x t h} (s : SW w W sb lw x t h) (i c : Int) (l : Bool) :
    Calls Tryz.prog 128 #[.pointer (some ⟨x.m, 0, none⟩), .int .i64 i, .int .i64 c, .bool l] W fun e w' => e = .returned (.int .i64 (ownE t.m i c l)) ∧ SD w W sb lw x t h (ownM t.m i c l) w' := by
  refine (Own_any x.m x.B t.m i c l W s.pl.bd.mp).mono ?_
  rintro e w' ⟨rfl, h1, h2⟩
  exact ⟨rfl, s.map h1 h2 (ownM_o _ _ _ _)⟩
theorem First_s {w W sb lw x t h} (s : SW w W sb lw x t h) (i c : Int) :
    Calls Tryz.prog 179 #[.pointer (some ⟨x.m, 0, none⟩), .int .i64 i, .int .i64 c] W fun e w' => e = .returned (.int .i64 (firstE t.m i c)) ∧ SD w W sb lw x t h (firstM t.m i c) w' := by
  refine (First_any x.m x.B t.m i c W s.pl.bd.mp).mono ?_
  rintro e w' ⟨rfl, h1, h2⟩
  exact ⟨rfl, s.map h1 h2 (firstM_o _ _ _)⟩
theorem Slab_s {w W sb lw x t h} (s : SW w W sb lw x t h) (i c : Int) :
    Calls Tryz.prog 192 #[.pointer (some ⟨x.m, 0, none⟩), .int .i64 i, .int .i64 c] W fun e w' => e = .returned (.int .i64 (slabE t.m i c)) ∧ SD w W sb lw x t h (slabM t.m i c) w' := by
  refine (Slab_any x.m x.B t.m i c W s.pl.bd.mp).mono ?_
  rintro e w' ⟨rfl, h1, h2⟩
  exact ⟨rfl, s.map h1 h2 (slabM_o _ _ _)⟩
theorem Run_s {w W sb lw x t h} (s : SW w W sb lw x t h) (p o k : Int) :
    Calls Tryz.prog 138 #[.pointer (some ⟨x.m, 0, none⟩), .int .i64 p, .int .i64 o, .int .i64 k] W fun e w' => e = .returned (.int .i64 (runE t.m p o k)) ∧ SD w W sb lw x t h (runM t.m p o k) w' := by
  refine (Run_any x.m x.B t.m p o k W s.pl.bd.mp).mono ?_
  rintro e w' ⟨rfl, h1, h2⟩
  exact ⟨rfl, s.map h1 h2 (runM_oo _ _ _ _)⟩
theorem pg11 {W : World} {y : Nat} {p : Pg} (h : W.heap[y]? = some (pobj p)) : W.cell? ⟨y, 0, none⟩ = some (.int .i64 p.kd) ∧ W.cell? ⟨y, 1, none⟩ = some (.int .i64 p.od) ∧ W.cell? ⟨y, 2, none⟩ = some (.int .i64 p.cl) ∧ W.cell? ⟨y, 3, none⟩ = some (.int .i64 p.lv) ∧ W.cell? ⟨y, 4, none⟩ = some (.int .i64 p.nx) ∧ W.cell? ⟨y, 5, none⟩ = some (.int .i64 p.pv) ∧ W.cell? ⟨y, 6, none⟩ = some (.int .i64 p.fs) ∧ W.cell? ⟨y, 7, none⟩ = some (.int .u64 (p.b0 : Int)) ∧ W.cell? ⟨y, 8, none⟩ = some (.int .u64 (p.b1 : Int)) ∧ W.cell? ⟨y, 9, none⟩ = some (.int .u64 (p.b2 : Int)) ∧ W.cell? ⟨y, 10, none⟩ = some (.int .u64 (p.b3 : Int)) := by
  refine ⟨?_, ?_, ?_, ?_, ?_, ?_, ?_, ?_, ?_, ?_, ?_⟩ <;> simp [World.cell?, h]
/-- What is behind a page, ahead of it, is set. -/
def setPrevM (m : Mp) (i p : Int) : Mp := chainM m i (atP m i).nx p
def setNextM (m : Mp) (i n : Int) : Mp := chainM m i n (atP m i).pv
set_option maxRecDepth 4000 in
theorem setPrev_s {w W sb lw x t h} (s : SW w W sb lw x t h) (i p : Int) :
    Calls Tryz.prog 178 #[.pointer (some ⟨sb, 0, none⟩), .int .i64 i, .int .i64 p] W fun e w' => e = .returned (.tuple #[]) ∧ SD w W sb lw x t h (setPrevM t.m i p) w' := by
  obtain ⟨q, hq⟩ : ∃ q, q = atP t.m i := ⟨_, rfl⟩
  have HA := hid (show Calls Tryz.prog 42 #[.pointer (some ⟨x.m, 0, none⟩), .int .i64 i] W fun e w' => e = .returned (.tuple #[pval q, .bool (inR t.m.n i)]) ∧ Kept none' W w' from by rw [hq]; exact at_any x.m x.B t.m i W s.pl.bd.mp)
  have HM := hid (Map6 s.pl)
  rw [show setPrevM t.m i p = chainM t.m i q.nx p by rw [hq]; rfl]
  have H := hid s
  obtain ⟨c0, c1⟩ := s.c0
  clear s hq
  generalize inR t.m.n i = r at *
  go_enter Tryz.func178, Tryz.ntmps178
  go_wp2_with fail
  refine HM.out.mono ?_
  rintro e w1 ⟨rfl, h1⟩
  replace h1 := h1.symm
  subst h1
  go_wp2_with fail
  refine HA.out.mono ?_
  rintro e w2 ⟨rfl, hk⟩
  have K2 := hid (hk.alloc (pobj q))
  have X2 := hid (heap_new w2 (pobj q))
  have H2 := hid (H.out.keep K2.out)
  have NY := hid (show ¬ bown x w2.heap.size from fun e => absurd ((H.out.keep hk).pl.lt _ (.inl e)) (Nat.lt_irrefl _))
  clear hk c0 c1
  go_upto_region 1 with fail
  generalize w2.heap.size = y at *
  generalize w2.alloc (pobj q) = W2 at *
  have KD := hid ((Kept.refl none' W2).drew)
  have H3 := hid (H2.out.keep KD.out)
  obtain ⟨c0, c1⟩ := H3.out.c0
  have X3 := hid ((KD.out.block _ (heap_lt X2.out) (fun e => e)).trans X2.out)
  obtain ⟨_, _, _, _, x4, _⟩ := pg11 X3.out
  have MP := hid (Map6 H3.out.pl)
  have CH := hid (Chain_s H3.out i q.nx p)
  go_region_held3 (fun w' => w'.cell? ⟨sb, 0, none⟩ = some (.pointer (some ⟨lw, 0, none⟩)) ∧ w'.cell? ⟨y, 4, none⟩ = some (.int .i64 q.nx)) ((refine ⟨?_, ?_⟩ <;> first | with_reducible assumption | fail)) (first
    | (go_at_call 177; (with_reducible refine CH.out.mono ?_); rintro e w5 ⟨rfl, hs5, hk5⟩; obtain ⟨f0, f1⟩ := hs5.c0; have f4 := hk5.cell NY.out x4; have D5 := hid (show SD w W sb lw x t h (chainM t.m i q.nx p) w5 from ⟨hs5, (K2.out.trans KD.out (fun _ _ e => e) (fun _ _ e => e)).trans hk5 (fun _ _ e => e.elim) (fun _ _ e => e)⟩); clear hs5 hk5)
    | (go_at_call 40; (with_reducible refine MP.out.mono ?_); rintro e w3 ⟨rfl, h3⟩; replace h3 := h3.symm; subst h3)
    | fail)
  all_goals
    go_wp2_with fail
    exact ⟨rfl, .tuple #[], by simp [results, Tryz.results178, go_sem], rfl, D5.out⟩
set_option maxRecDepth 4000 in
theorem setNext_s {w W sb lw x t h} (s : SW w W sb lw x t h) (i n : Int) :
    Calls Tryz.prog 208 #[.pointer (some ⟨sb, 0, none⟩), .int .i64 i, .int .i64 n] W fun e w' => e = .returned (.tuple #[]) ∧ SD w W sb lw x t h (setNextM t.m i n) w' := by
  obtain ⟨q, hq⟩ : ∃ q, q = atP t.m i := ⟨_, rfl⟩
  have HA := hid (show Calls Tryz.prog 42 #[.pointer (some ⟨x.m, 0, none⟩), .int .i64 i] W fun e w' => e = .returned (.tuple #[pval q, .bool (inR t.m.n i)]) ∧ Kept none' W w' from by rw [hq]; exact at_any x.m x.B t.m i W s.pl.bd.mp)
  have HM := hid (Map6 s.pl)
  rw [show setNextM t.m i n = chainM t.m i n q.pv by rw [hq]; rfl]
  have H := hid s
  obtain ⟨c0, c1⟩ := s.c0
  clear s hq
  generalize inR t.m.n i = r at *
  go_enter Tryz.func208, Tryz.ntmps208
  go_wp2_with fail
  refine HM.out.mono ?_
  rintro e w1 ⟨rfl, h1⟩
  replace h1 := h1.symm
  subst h1
  go_wp2_with fail
  refine HA.out.mono ?_
  rintro e w2 ⟨rfl, hk⟩
  have K2 := hid (hk.alloc (pobj q))
  have X2 := hid (heap_new w2 (pobj q))
  have H2 := hid (H.out.keep K2.out)
  have NY := hid (show ¬ bown x w2.heap.size from fun e => absurd ((H.out.keep hk).pl.lt _ (.inl e)) (Nat.lt_irrefl _))
  clear hk c0 c1
  go_upto_region 1 with fail
  generalize w2.heap.size = y at *
  generalize w2.alloc (pobj q) = W2 at *
  have KD := hid ((Kept.refl none' W2).drew)
  have H3 := hid (H2.out.keep KD.out)
  obtain ⟨c0, c1⟩ := H3.out.c0
  have X3 := hid ((KD.out.block _ (heap_lt X2.out) (fun e => e)).trans X2.out)
  obtain ⟨_, _, _, _, _, x4, _⟩ := pg11 X3.out
  have MP := hid (Map6 H3.out.pl)
  have CH := hid (Chain_s H3.out i n q.pv)
  go_region_held3 (fun w' => w'.cell? ⟨sb, 0, none⟩ = some (.pointer (some ⟨lw, 0, none⟩)) ∧ w'.cell? ⟨y, 5, none⟩ = some (.int .i64 q.pv)) ((refine ⟨?_, ?_⟩ <;> first | with_reducible assumption | fail)) (first
    | (go_at_call 177; (with_reducible refine CH.out.mono ?_); rintro e w5 ⟨rfl, hs5, hk5⟩; obtain ⟨f0, f1⟩ := hs5.c0; have f4 := hk5.cell NY.out x4; have D5 := hid (show SD w W sb lw x t h (chainM t.m i n q.pv) w5 from ⟨hs5, (K2.out.trans KD.out (fun _ _ e => e) (fun _ _ e => e)).trans hk5 (fun _ _ e => e.elim) (fun _ _ e => e)⟩); clear hs5 hk5)
    | (go_at_call 40; (with_reducible refine MP.out.mono ?_); rintro e w3 ⟨rfl, h3⟩; replace h3 := h3.symm; subst h3)
    | fail)
  all_goals
    go_wp2_with fail
    exact ⟨rfl, .tuple #[], by simp [results, Tryz.results208, go_sem], rfl, D5.out⟩
end Go.Proofs.YtgjapopddblpoaaGreatDoor
/- Package slab: put, unlink; addresses of cells. -/
namespace Go.Proofs.YtgjapopddblpoaaGreatDoor
open Go.RowKit
set_option linter.unusedVariables false

/-- A slab's own blocks. -/
def sown (x : Bx) (sb : Nat) : Nat → Prop := fun y => bown x y ∨ y = sb
/-- The map is m', the heads are h'. -/
def SE (w W : World) (sb lw : Nat) (x : Bx) (t : Bt) (m' : Mp) (h' : Nat → Int) (w' : World) : Prop := SW w w' sb lw x { t with m := m' } h' ∧ Kept (sown x sb) W w'
theorem SD.se {w W sb lw x t h m' w'} (s : SD w W sb lw x t h m' w') : SE w W sb lw x t m' h w' := ⟨s.1, s.2.mono (fun _ _ e => .inl e)⟩
def putM (m : Mp) (h : Nat → Int) (p : Int) (c : Nat) : Mp := setPrevM (chainM m p (h c) (-1)) (h c) p
set_option maxRecDepth 4000 in
theorem put_s {w W sb lw x t h} (s : SW w W sb lw x t h) (p : Int) (c : Nat) (hc : c < 8) :
    Calls Tryz.prog 131 #[.pointer (some ⟨sb, 0, none⟩), .int .i64 p, .int .i64 (c : Int)] W fun e w' => e = .returned (.tuple #[]) ∧ SE w W sb lw x t (putM t.m h p c) (uphI h c p) w' := by
  have H := hid s
  have HM := hid (Map6 s.pl)
  have CH := hid (Chain_s s p (h c) (-1))
  obtain ⟨c0, c1⟩ := s.c0
  have ch := s.hd c hc
  have hci : (c : Int) < 8 := by omega
  clear s
  rw [show putM t.m h p c = setPrevM (chainM t.m p (h c) (-1)) (h c) p from rfl]
  obtain ⟨z, hz⟩ : ∃ z, z = h c := ⟨_, rfl⟩
  rw [← hz] at ch CH ⊢
  clear hz
  go_enter Tryz.func131, Tryz.ntmps131
  go_wp2_with fail
  refine HM.out.mono ?_
  rintro e w1 ⟨rfl, h1⟩
  replace h1 := h1.symm
  subst h1
  go_wp2_with fail
  refine CH.out.mono ?_
  rintro e w2 ⟨rfl, hs2, hk2⟩
  have S2 := hid hs2
  have K2 := hid hk2
  have SP := hid (setPrev_s hs2 z p)
  clear hs2 hk2 c0 c1 ch CH HM
  go_wp2_with fail
  refine SP.out.mono ?_
  rintro e w3 ⟨rfl, hs3, hk3⟩
  have S3 := hid hs3
  have fz := hs3.fz (2 + c)
  have D := hid (show SE w W sb lw x t (setPrevM (chainM t.m p z (-1)) z p) (uphI h c p) (w3.setCell ⟨sb, 2 + c, none⟩ (.int .i64 p)) from ⟨hs3.set c hc p, ((K2.out.trans hk3 (fun _ _ e => e) (fun _ _ e => e)).mono (fun _ _ e => .inl e)).setCell (p := ⟨sb, 2 + c, none⟩) (.inr rfl) _⟩)
  have c3 := hs3.hd c hc
  clear hs3 hk3 SP
  go_wp2_with fail
  exact ⟨rfl, .tuple #[], by simp [results, Tryz.results131, go_sem], rfl, D.out⟩
/-- A page is taken off its list. -/
def unlM (m : Mp) (p : Int) : Mp := chainM (if (atP m p).pv = -1 then setPrevM m (atP m p).nx (atP m p).pv else setNextM (setPrevM m (atP m p).nx (atP m p).pv) (atP m p).pv (atP m p).nx) p (-1) (-1)
def unlH (m : Mp) (h : Nat → Int) (p : Int) (c : Nat) : Nat → Int := if (atP m p).pv = -1 then uphI h c (atP m p).nx else h
set_option maxRecDepth 4000 in
set_option maxHeartbeats 1000000 in
theorem unlink_s {w W sb lw x t h} (s : SW w W sb lw x t h) (p : Int) (c : Nat) (hc : c < 8) :
    Calls Tryz.prog 175 #[.pointer (some ⟨sb, 0, none⟩), .int .i64 p, .int .i64 (c : Int)] W fun e w' => e = .returned (.tuple #[]) ∧ SE w W sb lw x t (unlM t.m p) (unlH t.m h p c) w' := by
  obtain ⟨q, hq⟩ : ∃ q, q = atP t.m p := ⟨_, rfl⟩
  have HA := hid (show Calls Tryz.prog 42 #[.pointer (some ⟨x.m, 0, none⟩), .int .i64 p] W fun e w' => e = .returned (.tuple #[pval q, .bool (inR t.m.n p)]) ∧ Kept none' W w' from by rw [hq]; exact at_any x.m x.B t.m p W s.pl.bd.mp)
  have HM := hid (Map6 s.pl)
  obtain ⟨m2, hm2⟩ : ∃ m2, m2 = unlM t.m p := ⟨_, rfl⟩
  obtain ⟨h2, hh2⟩ : ∃ h2, h2 = unlH t.m h p c := ⟨_, rfl⟩
  rw [← hm2, ← hh2]
  unfold unlM at hm2
  unfold unlH at hh2
  rw [← hq] at hm2 hh2
  have HM2 := hid hm2
  have HH2 := hid hh2
  have H := hid s
  obtain ⟨c0, c1⟩ := s.c0
  have hci : (c : Int) < 8 := by omega
  clear s hq hm2 hh2
  generalize inR t.m.n p = r at *
  go_enter Tryz.func175, Tryz.ntmps175
  go_wp2_with fail
  refine HM.out.mono ?_
  rintro e w1 ⟨rfl, h1⟩
  replace h1 := h1.symm
  subst h1
  go_wp2_with fail
  refine HA.out.mono ?_
  rintro e w2 ⟨rfl, hk⟩
  have K2 := hid (hk.alloc (pobj q))
  have X2 := hid (heap_new w2 (pobj q))
  have H2 := hid (H.out.keep K2.out)
  have NY := hid (show ¬ bown x w2.heap.size from fun e => absurd ((H.out.keep hk).pl.lt _ (.inl e)) (Nat.lt_irrefl _))
  have NS := hid (show sb ≠ w2.heap.size from fun e => absurd (heap_lt (H.out.keep hk).bx) (by rw [e]; exact Nat.lt_irrefl _))
  clear hk c0 c1
  go_upto_region 1 with fail
  generalize w2.heap.size = y at *
  generalize w2.alloc (pobj q) = W2 at *
  obtain ⟨_, _, _, _, x4, x5, _⟩ := pg11 X2.out
  have SP := hid (setPrev_s H2.out q.nx q.pv)
  go_wp2_with fail
  refine SP.out.mono ?_
  rintro e w3 ⟨rfl, hs3, hk3⟩
  have S3 := hid hs3
  have K3 := hid (K2.out.trans hk3 (fun _ _ e => e.elim) (fun _ _ e => e))
  have X3 := hid ((hk3.block _ (heap_lt X2.out) NY.out).trans X2.out)
  clear hs3 hk3 SP x4 x5
  obtain ⟨_, _, _, _, x4, x5, _⟩ := pg11 X3.out
  by_cases hpv : q.pv = -1
  · have hb : (q.pv == -1) = true := by rw [hpv]; rfl
    have fz := S3.out.fz (2 + c)
    have c3 := S3.out.hd c hc
    as_aux_lemma =>
      go_upto_region 3 with fail
      have KD := hid ((Kept.refl none' w3).drew)
      have S4 := hid (S3.out.keep KD.out)
      have X4 := hid ((KD.out.block _ (heap_lt X3.out) (fun e => e)).trans X3.out)
      have d4 := (pg11 X4.out).2.2.2.2.1
      have d3 := S4.out.hd c hc
      have fz4 := S4.out.fz (2 + c)
      go_region
      all_goals
        have S5 := hid ((S3.out.set c hc q.nx).keep ((Kept.refl none' _).drew))
        have K5 := hid (show Kept (sown x sb) W (w3.setCell ⟨sb, 2 + c, none⟩ (.int .i64 q.nx)).drew from ((K3.out.mono (fun _ _ e => .inl e)).setCell (S := sown x sb) (p := ⟨sb, 2 + c, none⟩) (.inr rfl) _).drew)
        generalize (w3.setCell ⟨sb, 2 + c, none⟩ (.int .i64 q.nx)).drew = W5 at *
        have MP := hid (Map6 S5.out.pl)
        have CH := hid (Chain_s S5.out p (-1) (-1))
        clear x4 x5 d4 d3 fz4 fz c3
        obtain ⟨c0, c1⟩ := S5.out.c0
        go_wp2_with fail
        refine MP.out.mono ?_
        rintro e w6 ⟨rfl, h6⟩
        replace h6 := h6.symm
        subst h6
        go_wp2_with fail
        refine CH.out.mono ?_
        rintro e w7 ⟨rfl, hs7, hk7⟩
        have D := hid (show SE w W sb lw x t m2 h2 w7 from by
          rw [HM2.out, HH2.out, if_pos hpv, if_pos hpv]
          exact ⟨hs7, K5.out.trans hk7 (fun _ _ e => e) (fun _ _ e => .inl e)⟩)
        clear hs7 hk7
        go_wp2_with fail
        exact ⟨rfl, .tuple #[], by simp [results, Tryz.results175, go_sem], rfl, D.out⟩
  · have hb : (q.pv == -1) = false := by rw [beq_eq_false_iff_ne]; exact hpv
    have SN := hid (setNext_s S3.out q.pv q.nx)
    as_aux_lemma =>
      go_wp2_with fail
      refine SN.out.mono ?_
      rintro e w4 ⟨rfl, hs4, hk4⟩
      have S4 := hid hs4
      have K4 := hid (K3.out.trans hk4 (fun _ _ e => e) (fun _ _ e => e))
      have MP := hid (Map6 hs4.pl)
      have CH := hid (Chain_s hs4 p (-1) (-1))
      obtain ⟨c0, c1⟩ := hs4.c0
      clear hs4 hk4 SN x4 x5
      go_wp2_with fail
      refine MP.out.mono ?_
      rintro e w6 ⟨rfl, h6⟩
      replace h6 := h6.symm
      subst h6
      go_wp2_with fail
      refine CH.out.mono ?_
      rintro e w7 ⟨rfl, hs7, hk7⟩
      have D := hid (show SE w W sb lw x t m2 h2 w7 from by
        rw [HM2.out, HH2.out, if_neg hpv, if_neg hpv]
        exact ⟨hs7, (K4.out.trans hk7 (fun _ _ e => e) (fun _ _ e => e)).mono (fun _ _ e => .inl e)⟩)
      clear hs7 hk7
      go_wp2_with fail
      exact ⟨rfl, .tuple #[], by simp [results, Tryz.results175, go_sem], rfl, D.out⟩
end Go.Proofs.YtgjapopddblpoaaGreatDoor
/- Package slab: cells by their addresses. -/
namespace Go.Proofs.YtgjapopddblpoaaGreatDoor
open Go.RowKit
set_option linter.unusedVariables false

/-- A cell's size. -/
def szC (k : Nat) : Nat := 16 * 2 ^ k
theorem szC_le {k : Nat} (h : k < 8) : 16 ≤ szC k ∧ szC k ≤ 2048 := by
  revert k
  unfold szC
  decide
theorem cells_s {w W sb lw x t h} (s : SW w W sb lw x t h) (c : Nat) (hc : c < 8) :
    Calls Tryz.prog 130 #[.int .i64 (c : Int)] W fun e w' => e = .returned (.int .i64 ((256 / 2 ^ c : Nat) : Int)) ∧ w' = W := by
  have ct := s.tab c hc
  have hci : (c : Int) < 8 := by omega
  obtain ⟨z, hz⟩ : ∃ z, z = 16 * 2 ^ c := ⟨_, rfl⟩
  have hzb := szC_le hc
  unfold szC at hzb
  rw [← hz] at ct hzb
  have hq : 4096 / z = 256 / 2 ^ c := by rw [hz, show 4096 = 16 * 256 from rfl, Nat.mul_div_mul_left _ _ (by decide)]
  obtain ⟨q, hq2⟩ : ∃ q, q = 256 / 2 ^ c := ⟨_, rfl⟩
  rw [← hq2] at hq ⊢
  have hqi : (4096 : Int) / (z : Int) = (q : Int) := by rw [← hq]; rfl
  have hqb : q ≤ 256 := by rw [hq2]; exact Nat.div_le_self _ _
  have hz0 : ¬ (z : Int) = 0 := by omega
  have hz1 : ((z : Int) == 0) = false := by rw [beq_eq_false_iff_ne]; exact hz0
  clear s hq hq2 hz
  go_enter Tryz.func130, Tryz.ntmps130
  go_wp2_with fail
  go_ret
  exact ⟨by simp, rfl⟩
/-- Where a cell lies. -/
def caN (x : Bx) (p k n : Nat) : Nat := x.base + 4096 * p + n * szC k
theorem address_s {w W sb lw x t h} (s : SW w W sb lw x t h) (p c n : Nat) (hp : p ≤ 1024) (hc : c < 8) (hn : n ≤ 256) :
    Calls Tryz.prog 176 #[.pointer (some ⟨sb, 0, none⟩), .int .i64 (p : Int), .int .i64 (c : Int), .int .i64 (n : Int)] W fun e w' => e = .returned (.int .u64 ((caN x p c n : Nat) : Int)) ∧ Kept none' W w' := by
  obtain ⟨c0, c1⟩ := s.c0
  have ct := s.tab c hc
  have hb : x.base ≤ 9223372036854775808 := by have := s.pl.bd.sp.cfg.be; omega
  have hci : (c : Int) < 8 := by omega
  obtain ⟨z, hz⟩ : ∃ z, z = 16 * 2 ^ c := ⟨_, rfl⟩
  have hzb := szC_le hc
  unfold szC at hzb
  rw [← hz] at ct hzb
  obtain ⟨nz, hnz⟩ : ∃ nz, nz = n * z := ⟨_, rfl⟩
  have hnzi : (n : Int) * (z : Int) = (nz : Int) := by rw [hnz]; simp
  have hnzb : nz ≤ 524288 := by rw [hnz]; exact Nat.mul_le_mul hn hzb.2
  obtain ⟨p4, hp4⟩ : ∃ p4, p4 = p * 4096 := ⟨_, rfl⟩
  have hp4i : (p : Int) * 4096 = (p4 : Int) := by omega
  have hp4b : p4 ≤ 4194304 := by omega
  obtain ⟨bs, hbs⟩ : ∃ bs, bs = x.base := ⟨_, rfl⟩
  rw [← hbs] at c1 hb
  obtain ⟨a1, ha1⟩ : ∃ a1, a1 = bs + p4 := ⟨_, rfl⟩
  have ha1i : (bs : Int) + (p4 : Int) = (a1 : Int) := by omega
  have ha1b : a1 ≤ 9223372036859000000 := by omega
  obtain ⟨a2, ha2⟩ : ∃ a2, a2 = a1 + nz := ⟨_, rfl⟩
  have ha2i : (a1 : Int) + (nz : Int) = (a2 : Int) := by omega
  have ha2b : a2 ≤ 9223372036859600000 := by omega
  have e : caN x p c n = a2 := by
    unfold caN szC
    rw [← hz, ← hnz, ← hbs]
    omega
  rw [e]
  clear s hz hnz hp4 hbs ha1 ha2 e
  go_enter Tryz.func176, Tryz.ntmps176
  have w1 : IntKind.u64.wrap (p : Int) = (p : Int) := by rw [wrap_u64]; omega
  have w2 : IntKind.u64.wrap (n : Int) = (n : Int) := by rw [wrap_u64]; omega
  have w3 : IntKind.u64.wrap (p4 : Int) = (p4 : Int) := by rw [wrap_u64]; omega
  have w4 : IntKind.u64.wrap (a1 : Int) = (a1 : Int) := by rw [wrap_u64]; omega
  have w5 : IntKind.u64.wrap (nz : Int) = (nz : Int) := by rw [wrap_u64]; omega
  have w6 : IntKind.u64.wrap (a2 : Int) = (a2 : Int) := by rw [wrap_u64]; omega
  go_upto_region 1 with fail
  go_quiet (fail)
  go_wp2_with fail
  go_ret
  exact ⟨by simp, (Kept.refl none' _).drewN _⟩
end Go.Proofs.YtgjapopddblpoaaGreatDoor
