import Derived.Test.YtgjapopddblpoaaGreatDoorKc
import Derived.Test.YtgjapopddblpoaaGreatDoorKe
import Derived.WalkMore
import Derived.ScopeJumps
/- The buddy: where it lies, what it holds; what its parts' calls leave of it. buddy: address, greatest, has, turn, alone, is, page. buddy: is, page, live, least. buddy: page, live, least, enter. buddy: enter, cut. buddy: cut. buddy: Take. buddy: join. -/
namespace Go.Proofs.YtgjapopddblpoaaGreatDoor
open Go.RowKit
set_option linter.unusedVariables false

theorem toK {S : Nat → Prop} {w w' : World} (h : M.Kept S w w') : Kept S w w' := ⟨h.os, h.tape, h.output, h.size, h.block⟩
theorem ofK {S : Nat → Prop} {w w' : World} (h : Kept S w w') : M.Kept S w w' := ⟨h.os, h.tape, h.output, h.size, h.block⟩
/-- Where a buddy lies. -/
structure Bx where
  b : Nat
  s : Nat
  a : Option Nat
  m : Nat
  B : Bs
  l : Nat
  c : Nat
  L : Nat → Nat
  base : Nat
  R : Nat
  lim : Nat
  n : Nat
  o : Nat
  P : Nat → Option Pg
/-- What it holds. -/
structure Bt where
  f : Nat → Nat
  m : Mp
  hd : Nat → Nat
def uph (h : Nat → Nat) (k x : Nat) : Nat → Nat := fun j => if j = k then x else h j
structure BdAt (w : World) (x : Bx) (t : Bt) : Prop where
  sp : M.SpaceAt w x.s x.a x.base x.R x.lim x.n t.f
  mp : MapAt w x.m x.B t.m
  ls : ∀ k, k ≤ x.o → M.ListAt w (x.L k) x.s (t.hd k)
  bs : w.heap[x.b]? = some (.cells #[.int .u64 (x.base : Int), .pointer (some ⟨x.s, 0, none⟩), .pointer (some ⟨x.m, 0, none⟩), .slice (some ⟨x.l, 0, none⟩) (x.o + 1) x.c] 199 (0, 0))
  lr : ∃ cs, w.heap[x.l]? = some (.cells cs 224 (0, 0)) ∧ ∀ k, k ≤ x.o → cs[k]? = some (.pointer (some ⟨x.L k, 0, none⟩))
  mo : t.m.o = x.o
  iL : ∀ i j, i ≤ x.o → j ≤ x.o → x.L i = x.L j → i = j
  hR : x.R = 4096 * 2 ^ x.o
theorem BdAt.o8 {w x t} (h : BdAt w x t) : x.o ≤ 8 := by have := h.mp.o8; rw [h.mo] at this; exact this
/-- The blocks that its calls may write. -/
def bown (x : Bx) : Nat → Prop := fun y => M.own x.s x.a y ∨ mown x.m x.B x.o y ∨ ∃ k, k ≤ x.o ∧ y = x.L k
theorem map_ty {w : World} {b : Nat} {B : Bs} {m : Mp} (h : MapAt w b B m) {x : Nat} (hx : mown b B m.o x) : ∃ cs t z, w.heap[x]? = some (.cells cs t z) ∧ (t = 141 ∨ t = 103 ∨ t = 174 ∨ t = 223 ∨ t = 27) := by
  rcases hx with rfl | hx | hx | ⟨k, hk, rfl | rfl⟩
  · obtain ⟨cq, hb, _⟩ := h.hb
    exact ⟨_, _, _, hb, .inl rfl⟩
  · have hr := h.row
    rw [hx] at hr
    obtain ⟨cs, hg, _⟩ := hr
    exact ⟨_, _, _, hg, .inr (.inl rfl)⟩
  · obtain ⟨cq, _, hp⟩ := h.hb
    rw [hx] at hp
    obtain ⟨cs, hg, _⟩ := hp
    exact ⟨_, _, _, hg, .inr (.inr (.inl rfl))⟩
  · exact ⟨_, _, _, (h.set k hk).hb, .inr (.inr (.inr (.inl rfl)))⟩
  · exact ⟨_, _, _, (h.set k hk).hc, .inr (.inr (.inr (.inr rfl)))⟩
theorem space_ty {w : World} {s : Nat} {a : Option Nat} {base R lim n : Nat} {f : Nat → Nat} (h : M.SpaceAt w s a base R lim n f) {x : Nat} (hx : M.own s a x) : ∃ cs t z, w.heap[x]? = some (.cells cs t z) ∧ (t = 173 ∨ t = 5) := by
  obtain ⟨cap, hb, hr⟩ := h.ex
  rcases hx with rfl | hx
  · exact ⟨_, _, _, hb, .inl rfl⟩
  · rw [hx] at hr
    obtain ⟨_, rs, _, hg, _⟩ := hr
    exact ⟨_, _, _, hg, .inr rfl⟩
theorem map_space {w : World} {b : Nat} {B : Bs} {m : Mp} {s : Nat} {a : Option Nat} {base R lim n : Nat} {f : Nat → Nat} (h : MapAt w b B m) (k : M.SpaceAt w s a base R lim n f) {x : Nat} (hx : mown b B m.o x) (hy : M.own s a x) : False := by
  obtain ⟨cs, t, z, h1, h2⟩ := map_ty h hx
  obtain ⟨cs', t', z', k1, k2⟩ := space_ty k hy
  rw [h1] at k1
  cases k1
  rcases h2 with e | e | e | e | e <;> rcases k2 with e' | e' <;> rw [e] at e' <;> exact absurd e' (by decide)
theorem map_list {w : World} {b : Nat} {B : Bs} {m : Mp} {c s hd : Nat} (h : MapAt w b B m) (k : M.ListAt w c s hd) (hx : mown b B m.o c) : False := by
  obtain ⟨cs, t, z, h1, h2⟩ := map_ty h hx
  have k1 := k.hc
  rw [h1] at k1
  cases k1
  rcases h2 with e | e | e | e | e <;> exact absurd e (by decide)
theorem space_list {w : World} {s : Nat} {a : Option Nat} {base R lim n : Nat} {f : Nat → Nat} {c s' hd : Nat} (h : M.SpaceAt w s a base R lim n f) (k : M.ListAt w c s' hd) (hx : M.own s a c) : False := by
  obtain ⟨cs, t, z, h1, h2⟩ := space_ty h hx
  have k1 := k.hc
  rw [h1] at k1
  cases k1
  rcases h2 with e | e <;> exact absurd e (by decide)
theorem BdAt.nb {w x t} (h : BdAt w x t) : ¬ bown x x.b := by
  rintro (hx | hx | ⟨k, hk, e⟩)
  · obtain ⟨cs, t', z, h1, h2⟩ := space_ty h.sp hx
    rw [h.bs] at h1
    cases h1
    rcases h2 with e | e <;> exact absurd e (by decide)
  · rw [← h.mo] at hx
    obtain ⟨cs, t', z, h1, h2⟩ := map_ty h.mp hx
    rw [h.bs] at h1
    cases h1
    rcases h2 with e | e | e | e | e <;> exact absurd e (by decide)
  · exact absurd e (ty_ne h.bs (h.ls k hk).hc (by decide))
theorem BdAt.nl {w x t} (h : BdAt w x t) : ¬ bown x x.l := by
  obtain ⟨cs0, hl, _⟩ := h.lr
  rintro (hx | hx | ⟨k, hk, e⟩)
  · obtain ⟨cs, t', z, h1, h2⟩ := space_ty h.sp hx
    rw [hl] at h1
    cases h1
    rcases h2 with e | e <;> exact absurd e (by decide)
  · rw [← h.mo] at hx
    obtain ⟨cs, t', z, h1, h2⟩ := map_ty h.mp hx
    rw [hl] at h1
    cases h1
    rcases h2 with e | e | e | e | e <;> exact absurd e (by decide)
  · exact absurd e (ty_ne hl (h.ls k hk).hc (by decide))
theorem BdAt.kept {w w' x t} {S : Nat → Prop} (h : BdAt w x t) (k : Kept S w w') (hS : ∀ y, bown x y ∨ y = x.b ∨ y = x.l → ¬ S y) : BdAt w' x t := by
  refine ⟨h.sp.kept (ofK k) (fun y hy => hS y (.inl (.inl hy))), h.mp.kept k (fun y hy => hS y (.inl (.inr (.inl (h.mo ▸ hy))))), fun i hi => (h.ls i hi).kept (ofK k) (hS _ (.inl (.inr (.inr ⟨i, hi, rfl⟩)))), (k.block _ (heap_lt h.bs) (hS _ (.inr (.inl rfl)))).trans h.bs, ?_, h.mo, h.iL, h.hR⟩
  obtain ⟨cs, hl, hc⟩ := h.lr
  exact ⟨cs, (k.block _ (heap_lt hl) (hS _ (.inr (.inr rfl)))).trans hl, hc⟩
theorem BdAt.keep {w w' x t} (h : BdAt w x t) (k : Kept none' w w') : BdAt w' x t := h.kept k (fun _ _ e => e)
/-- The map was called. -/
theorem BdAt.map {w w' x t} {m' : Mp} (h : BdAt w x t) (k : Kept (mown x.m x.B t.m.o) w w') (hm : MapAt w' x.m x.B m') (ho : m'.o = t.m.o) : BdAt w' x { t with m := m' } := by
  have nb := h.nb
  have nl := h.nl
  refine ⟨h.sp.kept (ofK k) (fun y hy e => map_space h.mp h.sp e hy), hm, fun i hi => (h.ls i hi).kept (ofK k) (fun e => map_list h.mp (h.ls i hi) e), (k.block _ (heap_lt h.bs) (fun e => nb (.inr (.inl (h.mo ▸ e))))).trans h.bs, ?_, ho.trans h.mo, h.iL, h.hR⟩
  obtain ⟨cs, hl, hc⟩ := h.lr
  exact ⟨cs, (k.block _ (heap_lt hl) (fun e => nl (.inr (.inl (h.mo ▸ e))))).trans hl, hc⟩
/-- A list was called. -/
theorem BdAt.list {w w' x t} {f' : Nat → Nat} {i hd' : Nat} (h : BdAt w x t) (hi : i ≤ x.o) (k : M.Kept (M.lown (x.L i) x.s x.a) w w') (hl : M.LS w' (x.L i) x.s x.a x.base x.R x.lim x.n f' hd') : BdAt w' x { t with f := f', hd := uph t.hd i hd' } := by
  have nb := h.nb
  have nl := h.nl
  have kk := toK k
  refine ⟨hl.s, h.mp.kept kk (fun y hy e => ?_), fun j hj => ?_, (kk.block _ (heap_lt h.bs) (fun e => nb (e.elim (fun e => .inr (.inr ⟨i, hi, e⟩)) (fun e => .inl e)))).trans h.bs, ?_, h.mo, h.iL, h.hR⟩
  · rcases e with rfl | e
    · exact map_list h.mp (h.ls i hi) hy
    · exact map_space h.mp h.sp hy e
  · show M.ListAt w' (x.L j) x.s (uph t.hd i hd' j)
    unfold uph
    by_cases e : j = i
    · subst e; rw [if_pos rfl]; exact hl.l
    · rw [if_neg e]
      refine (h.ls j hj).kept k (fun e2 => ?_)
      rcases e2 with e2 | e2
      · exact e (h.iL j i hj hi e2)
      · exact space_list h.sp (h.ls j hj) e2
  · obtain ⟨cs, hr, hc⟩ := h.lr
    exact ⟨cs, (kk.block _ (heap_lt hr) (fun e => nl (e.elim (fun e => .inr (.inr ⟨i, hi, e⟩)) (fun e => .inl e)))).trans hr, hc⟩
theorem BdAt.ls' {w x t} (h : BdAt w x t) (i : Nat) (hi : i ≤ x.o) : M.LS w (x.L i) x.s x.a x.base x.R x.lim x.n t.f (t.hd i) := ⟨h.sp, h.ls i hi⟩
theorem BdAt.own_lt {w x t} (h : BdAt w x t) (y : Nat) (hy : bown x y) : y < w.heap.size := by
  rcases hy with e | e | ⟨k, hk, rfl⟩
  · exact h.sp.own_lt y e
  · rw [← h.mo] at e; exact h.mp.own_lt y e
  · exact (h.ls k hk).lt
theorem BdAt.b0 {w x t} (h : BdAt w x t) : w.cell? ⟨x.b, 0, none⟩ = some (.int .u64 (x.base : Int)) := by simp [World.cell?, h.bs]
theorem BdAt.b1 {w x t} (h : BdAt w x t) : w.cell? ⟨x.b, 1, none⟩ = some (.pointer (some ⟨x.s, 0, none⟩)) := by simp [World.cell?, h.bs]
theorem BdAt.b2 {w x t} (h : BdAt w x t) : w.cell? ⟨x.b, 2, none⟩ = some (.pointer (some ⟨x.m, 0, none⟩)) := by simp [World.cell?, h.bs]
theorem BdAt.b3 {w x t} (h : BdAt w x t) : w.cell? ⟨x.b, 3, none⟩ = some (.slice (some ⟨x.l, 0, none⟩) (x.o + 1) x.c) := by simp [World.cell?, h.bs]
theorem BdAt.lc {w x t} (h : BdAt w x t) (k : Nat) (hk : k ≤ x.o) : w.cell? ⟨x.l, k, none⟩ = some (.pointer (some ⟨x.L k, 0, none⟩)) := by
  obtain ⟨cs, hl, hc⟩ := h.lr
  simp [World.cell?, hl, hc k hk]
theorem bown_map {x : Bx} {w w' : World} (k : Kept (mown x.m x.B x.o) w w') : Kept (bown x) w w' := k.mono (fun y _ e => .inr (.inl e))
theorem bown_list {x : Bx} {w w' : World} {i : Nat} (hi : i ≤ x.o) (k : M.Kept (M.lown (x.L i) x.s x.a) w w') : Kept (bown x) w w' := (toK k).mono (fun y _ e => e.elim (fun e => .inr (.inr ⟨i, hi, e⟩)) (fun e => .inl e))
theorem bown_none {x : Bx} {w w' : World} (k : Kept none' w w') : Kept (bown x) w w' := k.mono (fun _ _ e => e.elim)
theorem bown_trans {x : Bx} {a b c : World} (h : Kept (bown x) a b) (k : Kept (bown x) b c) : Kept (bown x) a c := h.trans k (fun _ _ e => e) (fun _ _ e => e)
/-- Flip keeps a map's blocks where they are. -/
theorem Flip_same (b : Nat) (B : Bs) (m : Mp) (k i : Int) (w : World) (h : MapAt w b B m) :
    Calls Tryz.prog 214 #[.pointer (some ⟨b, 0, none⟩), .int .i64 k, .int .i64 i] w fun e w' => e = .returned (.tuple #[.bool (pairV (flipM m k i) k i), .int .i64 (flipE m k i)]) ∧ MapAt w' b B (flipM m k i) ∧ Kept (mown b B m.o) w w' := by
  cases hp : hasP m k i with
  | false =>
    have e1 : flipM m k i = m := by simp [flipM, hp]
    rw [show flipE m k i = 1 by simp [flipE, hp], e1, show pairV m k i = false by simp [pairV, hp]]
    refine (Flip_no b B m k i w h hp).mono ?_
    rintro e w' ⟨rfl, hk⟩
    exact ⟨rfl, h.keep hk, hk.mono (fun _ _ e => e.elim)⟩
  | true =>
    have h1 : inR m.o k = true ∧ inR m.n i = true := by unfold hasP at hp; exact Bool.and_eq_true_iff.1 hp
    obtain ⟨a, rfl, ha⟩ := inR_nat h1.1
    obtain ⟨j, rfl, hj⟩ := inR_nat h1.2
    have e1 : flipM m (a : Int) (j : Int) = { m with wd := upw m.wd a (flipI (m.n / 2 ^ (a + 1)) (m.wd a) ((j / 2 ^ (a + 1) : Nat) : Int)) } := by simp [flipM, hp, prL, prN]
    rw [show flipE m (a : Int) (j : Int) = 0 by simp [flipE, hp], e1, show pairV { m with wd := upw m.wd a (flipI (m.n / 2 ^ (a + 1)) (m.wd a) ((j / 2 ^ (a + 1) : Nat) : Int)) } (a : Int) (j : Int) = inS (m.n / 2 ^ (a + 1)) (flipI (m.n / 2 ^ (a + 1)) (m.wd a) ((j / 2 ^ (a + 1) : Nat) : Int)) ((j / 2 ^ (a + 1) : Nat) : Int) by
      unfold pairV
      rw [show hasP { m with wd := upw m.wd a (flipI (m.n / 2 ^ (a + 1)) (m.wd a) ((j / 2 ^ (a + 1) : Nat) : Int)) } (a : Int) (j : Int) = true from hp]
      simp [prL, prN, upw]]
    exact Flip_in b B m a j w h ha hj
theorem BdAt.end63 {w x t} (h : BdAt w x t) : 1 ≤ x.base ∧ x.base + x.n ≤ 9223372036854775808 := ⟨h.sp.cfg.b1, h.sp.end_le⟩
theorem address_any (x : Bx) (t : Bt) (p : Nat) (hp : p ≤ 4000) (w : World) (h : BdAt w x t) :
    Calls Tryz.prog 182 #[.pointer (some ⟨x.b, 0, none⟩), .int .i64 (p : Int)] w fun e w' => e = .returned (.int .u64 ((x.base + 4096 * p : Nat) : Int)) ∧ w' = w := by
  have c0 := h.b0
  obtain ⟨q, hq⟩ : ∃ q, q = x.base + 4096 * p := ⟨_, rfl⟩
  have hb := h.end63
  have hpw : IntKind.u64.wrap (p : Int) = (p : Int) := by rw [wrap_u64]; omega
  have hmw : IntKind.u64.wrap ((p : Int) * 4096) = (p : Int) * 4096 := by rw [wrap_u64]; omega
  have haw : IntKind.u64.wrap ((x.base : Int) + (p : Int) * 4096) = (q : Int) := by rw [wrap_u64]; omega
  rw [← hq]
  clear hq
  go_enter Tryz.func182, Tryz.ntmps182
  go_wp2_with fail
  go_ret
  exact ⟨ret_int (by omega), rfl⟩
theorem greatest_any (x : Bx) (t : Bt) (w : World) (h : BdAt w x t) :
    Calls Tryz.prog 187 #[.pointer (some ⟨x.b, 0, none⟩)] w fun e w' => e = .returned (.int .i64 (x.o : Int)) ∧ w' = w := by
  have c3 := h.b3
  have ho := h.o8
  go_enter Tryz.func187, Tryz.ntmps187
  go_wp2_with fail
  go_ret
  exact ⟨ret_int (by omega), rfl⟩
theorem hasO_any (x : Bx) (t : Bt) (i : Int) (w : World) (h : BdAt w x t) :
    Calls Tryz.prog 135 #[.pointer (some ⟨x.b, 0, none⟩), .int .i64 i] w fun e w' => e = .returned (.bool (inR (x.o + 1) i)) ∧ w' = w := by
  have c3 := h.b3
  have ho := h.o8
  by_cases h0 : 0 ≤ i
  · by_cases h1 : i < ((x.o + 1 : Nat) : Int)
    · rw [show inR (x.o + 1) i = true by simp only [inR]; exact decide_eq_true ⟨h0, h1⟩]
      go_enter Tryz.func135, Tryz.ntmps135
      go_wp2_with fail
      go_ret
      exact ⟨ret_bool (by simp; omega), rfl⟩
    · rw [show inR (x.o + 1) i = false by simp only [inR]; exact decide_eq_false (fun e => h1 e.2)]
      go_enter Tryz.func135, Tryz.ntmps135
      go_wp2_with fail
      go_ret
      exact ⟨ret_bool (by simp; omega), rfl⟩
  · rw [show inR (x.o + 1) i = false by simp only [inR]; exact decide_eq_false (fun e => h0 e.1)]
    go_enter Tryz.func135, Tryz.ntmps135
    go_wp2_with fail
    go_ret
    exact ⟨ret_bool rfl, rfl⟩
theorem flipM_o (m : Mp) (k i : Int) : (flipM m k i).o = m.o := by unfold flipM; split <;> rfl
theorem runM_o (m : Mp) (p o k : Int) : (runM m p o k).o = m.o := by unfold runM; split <;> rfl
def turnT (t : Bt) (p k : Int) : Bt := { t with m := flipM t.m k p }
theorem turn_any (x : Bx) (t : Bt) (p k : Int) (w : World) (h : BdAt w x t) :
    Calls Tryz.prog 183 #[.pointer (some ⟨x.b, 0, none⟩), .int .i64 p, .int .i64 k] w fun e w' => e = .returned (.tuple #[]) ∧ BdAt w' x (turnT t p k) ∧ Kept (bown x) w w' := by
  have c2 := h.b2
  have H := hid h
  clear h
  go_enter Tryz.func183, Tryz.ntmps183
  go_wp2_with fail
  refine (Flip_same x.m x.B t.m k p _ H.out.mp).mono ?_
  rintro e w' ⟨rfl, h2, h3⟩
  have D := hid (show BdAt w' x (turnT t p k) ∧ Kept (bown x) w w' from ⟨H.out.map h3 h2 (flipM_o _ _ _), bown_map (H.out.mo ▸ h3)⟩)
  clear h2 h3
  go_wp2_with fail
  exact ⟨rfl, .tuple #[], by simp [results, Tryz.results183, go_sem], rfl, D.out⟩
theorem PairB_any (b : Nat) (B : Bs) (m : Mp) (k i : Int) (w : World) (h : MapAt w b B m) :
    Calls Tryz.prog 222 #[.pointer (some ⟨b, 0, none⟩), .int .i64 k, .int .i64 i] w fun e w' => e = .returned (.bool (pairV m k i)) ∧ Kept none' w w' := by
  cases hp : hasP m k i with
  | false =>
    rw [show pairV m k i = false by simp [pairV, hp]]
    exact Pair_no b B m k i w h hp
  | true =>
    have hh := hp
    simp only [hasP, Bool.and_eq_true] at hh
    obtain ⟨a, rfl, ha⟩ := inR_nat hh.1
    obtain ⟨c, rfl, hc⟩ := inR_nat hh.2
    rw [show pairV m (a : Int) (c : Int) = inS (m.n / 2 ^ (a + 1)) (m.wd a) ((c / 2 ^ (a + 1) : Nat) : Int) by simp [pairV, hp, prL, prN]]
    exact Pair_in b B m a c w h ha hc
def aloneB (x : Bx) (t : Bt) (p k : Int) : Bool := decide (k < (x.o : Int)) && pairV t.m k p
theorem alone_any (x : Bx) (t : Bt) (p k : Int) (w : World) (h : BdAt w x t) :
    Calls Tryz.prog 209 #[.pointer (some ⟨x.b, 0, none⟩), .int .i64 p, .int .i64 k] w fun e w' => e = .returned (.bool (aloneB x t p k)) ∧ Kept none' w w' := by
  have c2 := h.b2
  have H := hid h
  have GR := hid (greatest_any x t w h)
  clear h
  by_cases h0 : k < (x.o : Int)
  · rw [show aloneB x t p k = pairV t.m k p by simp [aloneB, h0]]
    go_enter Tryz.func209, Tryz.ntmps209
    go_wp2_with fail
    refine GR.out.mono ?_
    rintro e w1 ⟨rfl, rfl⟩
    go_wp2_with fail
    refine (PairB_any x.m x.B t.m k p _ H.out.mp).mono ?_
    rintro e w' ⟨rfl, hk⟩
    have K := hid hk
    clear hk
    go_wp2_with fail
    go_ret
    exact ⟨ret_bool (by simp), K.out⟩
  · rw [show aloneB x t p k = false by simp [aloneB, h0]]
    go_enter Tryz.func209, Tryz.ntmps209
    go_wp2_with fail
    refine GR.out.mono ?_
    rintro e w1 ⟨rfl, rfl⟩
    go_wp2_with fail
    go_ret
    exact ⟨rfl, Kept.refl none' _⟩
theorem HeadB_any (b : Nat) (B : Bs) (m : Mp) (i : Int) (w : World) (h : MapAt w b B m) :
    Calls Tryz.prog 125 #[.pointer (some ⟨b, 0, none⟩), .int .i64 i] w fun e w' => e = .returned (.int .i64 (headV m i)) ∧ w' = w := by
  cases hi : inR m.n i with
  | false =>
    rw [show headV m i = -1 by simp [headV, hi]]
    exact Head_out b B m i w h hi
  | true =>
    obtain ⟨k, rfl, hk⟩ := inR_nat hi
    have ok := h.ok k hk
    obtain ⟨o, ho⟩ := Int.eq_ofNat_of_zero_le ok.o0
    rw [show headV m (k : Int) = ((k / 2 ^ o * 2 ^ o : Nat) : Int) by simp [headV, hi, ho]]
    exact Head_in b B m k o w h hk ho
def isB (m : Mp) (kd i o : Int) : Bool := inR m.n i && ((atP m i).kd == kd) && ((atP m i).od == o) && (headV m i == i)
set_option maxRecDepth 4000 in
theorem is_any (x : Bx) (t : Bt) (kd i o : Int) (w : World) (h : BdAt w x t) :
    Calls Tryz.prog 136 #[.pointer (some ⟨x.b, 0, none⟩), .int .i64 kd, .int .i64 i, .int .i64 o] w fun e w' => e = .returned (.bool (isB t.m kd i o)) ∧ Kept none' w w' := by
  have c2 := h.b2
  have H := hid h
  clear h
  obtain ⟨p, hp⟩ : ∃ p, p = atP t.m i := ⟨_, rfl⟩
  obtain ⟨hv, hhv⟩ : ∃ hv, hv = headV t.m i := ⟨_, rfl⟩
  obtain ⟨r, hr⟩ : ∃ r, r = inR t.m.n i := ⟨_, rfl⟩
  have HA := hid (show ∀ W, MapAt W x.m x.B t.m → Calls Tryz.prog 42 #[.pointer (some ⟨x.m, 0, none⟩), .int .i64 i] W fun e w' => e = .returned (.tuple #[pval p, .bool r]) ∧ Kept none' W w' from fun W hW => by rw [hp, hr]; exact at_any x.m x.B t.m i W hW)
  have HH := hid (show ∀ W, MapAt W x.m x.B t.m → Calls Tryz.prog 125 #[.pointer (some ⟨x.m, 0, none⟩), .int .i64 i] W fun e w' => e = .returned (.int .i64 hv) ∧ w' = W from fun W hW => by rw [hhv]; exact HeadB_any x.m x.B t.m i W hW)
  rw [show isB t.m kd i o = (r && (p.kd == kd) && (p.od == o) && (hv == i)) by rw [isB, ← hp, ← hhv, ← hr]]
  clear hp hhv hr
  have hc : r = false ∨ (r = true ∧ ¬ p.kd = kd) ∨ (r = true ∧ p.kd = kd ∧ ¬ p.od = o) ∨ (r = true ∧ p.kd = kd ∧ p.od = o) := by
    cases r with
    | false => exact .inl rfl
    | true =>
      by_cases e1 : p.kd = kd
      · by_cases e2 : p.od = o
        · exact .inr (.inr (.inr ⟨rfl, e1, e2⟩))
        · exact .inr (.inr (.inl ⟨rfl, e1, e2⟩))
      · exact .inr (.inl ⟨rfl, e1⟩)
  rcases hc with rfl | ⟨rfl, h1⟩ | ⟨rfl, h1, h2⟩ | ⟨rfl, h1, h2⟩
  · go_enter Tryz.func136, Tryz.ntmps136
    go_wp2_with fail
    refine (HA.out _ H.out.mp).mono ?_
    rintro e w1 ⟨rfl, hk⟩
    have K := hid (hk.alloc (pobj p))
    clear hk
    go_wp2_with fail
    go_ret
    exact ⟨ret_bool (by simp), K.out⟩
  · have hb1 : (p.kd == kd) = false := beq_eq_false_iff_ne.2 h1
    go_enter Tryz.func136, Tryz.ntmps136
    go_wp2_with fail
    refine (HA.out _ H.out.mp).mono ?_
    rintro e w1 ⟨rfl, hk⟩
    have K := hid (hk.alloc (pobj p))
    clear hk
    go_wp2_with fail
    go_ret
    exact ⟨ret_bool (by simp [hb1]), K.out⟩
  · have hb2 : (p.od == o) = false := beq_eq_false_iff_ne.2 h2
    subst h1
    go_enter Tryz.func136, Tryz.ntmps136
    go_wp2_with fail
    refine (HA.out _ H.out.mp).mono ?_
    rintro e w1 ⟨rfl, hk⟩
    have K := hid (hk.alloc (pobj p))
    clear hk
    go_wp2_with fail
    go_ret
    exact ⟨ret_bool (by simp [hb2]), K.out⟩
  · subst h1 h2
    go_enter Tryz.func136, Tryz.ntmps136
    go_wp2_with fail
    refine (HA.out _ H.out.mp).mono ?_
    rintro e w1 ⟨rfl, hk⟩
    have K := hid (hk.alloc (pobj p))
    have c2 := K.out.cell (fun x => x) c2
    have H1 := hid (H.out.keep K.out)
    clear hk
    go_wp2_with fail
    refine (HH.out _ H1.out.mp).mono ?_
    rintro e w2 ⟨rfl, hw2⟩
    rw [hw2]
    clear hw2
    go_wp2_with fail
    go_ret
    exact ⟨ret_bool (by simp), K.out⟩
def offP (x : Bx) (p : Nat) : Nat := (p + 18446744073709551616 - x.base) % 18446744073709551616
def pageOk (x : Bx) (t : Bt) (p : Nat) : Prop := offP x p % 4096 = 0 ∧ offP x p / 4096 < t.m.n
instance (x : Bx) (t : Bt) (p : Nat) : Decidable (pageOk x t p) := inferInstanceAs (Decidable (_ ∧ _))
instance (a b c d : Nat) : Decidable (M.In a b c d) := inferInstanceAs (Decidable (_ ∧ _))
def pageI (x : Bx) (t : Bt) (p : Nat) : Nat := if pageOk x t p then offP x p / 4096 else 0
def pageB (x : Bx) (t : Bt) (p : Nat) : Bool := decide (pageOk x t p ∧ M.In x.base x.n p 1)
set_option maxRecDepth 4000 in
theorem page_any (x : Bx) (t : Bt) (p : Nat) (hp : p < 18446744073709551616) (w : World) (h : BdAt w x t) :
    Calls Tryz.prog 134 #[.pointer (some ⟨x.b, 0, none⟩), .int .u64 (p : Int)] w fun e w' => e = .returned (.tuple #[.int .i64 (pageI x t p : Int), .bool (pageB x t p)]) ∧ Kept none' w w' := by
  have c0 := h.b0
  have c1 := h.b1
  have c2 := h.b2
  have hb := h.end63
  have hn1 := h.mp.n1
  have H := hid h
  clear h
  obtain ⟨off, hoff⟩ : ∃ off, off = offP x p := ⟨_, rfl⟩
  have hofw : IntKind.u64.wrap ((p : Int) - (x.base : Int)) = (off : Int) := by rw [wrap_u64, hoff]; unfold offP; omega
  have hofl : off < 18446744073709551616 := by rw [hoff]; unfold offP; omega
  obtain ⟨r, hr⟩ : ∃ r, r = off % 4096 := ⟨_, rfl⟩
  obtain ⟨q, hq⟩ : ∃ q, q = off / 4096 := ⟨_, rfl⟩
  have hri : (off : Int) % 4096 = (r : Int) := by omega
  have hqi : (off : Int) / 4096 = (q : Int) := by omega
  have hmw : IntKind.u64.wrap (t.m.n : Int) = (t.m.n : Int) := by rw [wrap_u64]; omega
  have hqw : IntKind.i64.wrap (q : Int) = (q : Int) := by rw [IntKind.wrap_i64]; omega
  have PG := hid (show ∀ W, MapAt W x.m x.B t.m → Calls Tryz.prog 41 #[.pointer (some ⟨x.m, 0, none⟩)] W fun e w' => e = .returned (.int .i64 (t.m.n : Int)) ∧ w' = W from fun W hW => pages_any x.m x.B t.m W hW)
  have hE : pageOk x t p ↔ (r = 0 ∧ q < t.m.n) := by unfold pageOk; rw [← hoff, ← hr, ← hq]
  have hI : pageI x t p = if r = 0 ∧ q < t.m.n then q else 0 := by
    unfold pageI
    by_cases c : pageOk x t p
    · rw [if_pos c, if_pos (hE.1 c), ← hoff, ← hq]
    · rw [if_neg c, if_neg (fun d => c (hE.2 d))]
  have hB : pageB x t p = decide ((r = 0 ∧ q < t.m.n) ∧ M.In x.base x.n p 1) := by
    unfold pageB
    exact decide_eq_decide.2 (and_congr_left fun _ => hE)
  clear hE
  clear hoff hr hq
  by_cases h0 : r = 0
  · by_cases h1 : q < t.m.n
    · have hqn : (q : Int) < (t.m.n : Int) := by omega
      have h0i : (r : Int) = 0 := by omega
      rw [hI, hB, if_pos ⟨h0, h1⟩]
      clear hI hB
      by_cases h2 : M.In x.base x.n p 1
      · rw [show decide ((r = 0 ∧ q < t.m.n) ∧ M.In x.base x.n p 1) = true from decide_eq_true ⟨⟨h0, h1⟩, h2⟩]
        have BY := hid (M.Byte_any x.s x.a x.base x.R x.lim x.n t.f p hp w H.out.sp)
        simp only [h2, if_true] at BY
        clear h0
        go_enter Tryz.func134, Tryz.ntmps134
        go_wp2_with fail
        refine (PG.out _ H.out.mp).mono ?_
        rintro e w1 ⟨rfl, hw1⟩
        rw [hw1]
        clear hw1
        go_wp2_with fail
        refine BY.out.mono ?_
        rintro e w2 ⟨rfl, hk⟩
        have K := hid (show Kept none' w w2 from toK hk)
        clear hk BY
        go_wp2_with fail
        exact ⟨rfl, .tuple #[.int .i64 (q : Int), .bool true], by simp [results, Tryz.results134, go_sem], rfl, K.out⟩
      · rw [show decide ((r = 0 ∧ q < t.m.n) ∧ M.In x.base x.n p 1) = false from decide_eq_false (fun e => h2 e.2)]
        have BY := hid (M.Byte_any x.s x.a x.base x.R x.lim x.n t.f p hp w H.out.sp)
        simp only [h2, if_false] at BY
        clear h0
        go_enter Tryz.func134, Tryz.ntmps134
        go_wp2_with fail
        refine (PG.out _ H.out.mp).mono ?_
        rintro e w1 ⟨rfl, hw1⟩
        rw [hw1]
        clear hw1
        go_wp2_with fail
        refine BY.out.mono ?_
        rintro e w2 ⟨rfl, hk⟩
        have K := hid (show Kept none' w w2 from toK hk)
        clear hk BY
        go_wp2_with fail
        exact ⟨rfl, .tuple #[.int .i64 (q : Int), .bool false], by simp [results, Tryz.results134, go_sem], rfl, K.out⟩
    · have hqn : ¬ (q : Int) < (t.m.n : Int) := by omega
      have h0i : (r : Int) = 0 := by omega
      rw [hI, hB, if_neg (fun e => h1 e.2), show decide ((r = 0 ∧ q < t.m.n) ∧ M.In x.base x.n p 1) = false from decide_eq_false (fun e => h1 e.1.2)]
      clear hI hB h0
      go_enter Tryz.func134, Tryz.ntmps134
      go_wp2_with fail
      refine (PG.out _ H.out.mp).mono ?_
      rintro e w1 ⟨rfl, hw1⟩
      rw [hw1]
      clear hw1
      go_wp2_with fail
      exact ⟨rfl, .tuple #[.int .i64 0, .bool false], by simp [results, Tryz.results134, go_sem], rfl, Kept.refl none' _⟩
  · have h0i : ¬ (r : Int) = 0 := by omega
    rw [hI, hB, if_neg (fun e => h0 e.1), show decide ((r = 0 ∧ q < t.m.n) ∧ M.In x.base x.n p 1) = false from decide_eq_false (fun e => h0 e.1.1)]
    clear hI hB
    go_enter Tryz.func134, Tryz.ntmps134
    go_wp2_with fail
    exact ⟨rfl, .tuple #[.int .i64 0, .bool false], by simp [results, Tryz.results134, go_sem], rfl, Kept.refl none' _⟩
def liveB (x : Bx) (t : Bt) (p : Nat) (k : Int) : Bool := pageB x t p && inR (x.o + 1) k && isB t.m 2 (pageI x t p : Int) k
theorem live_any (x : Bx) (t : Bt) (p : Nat) (k : Int) (hp : p < 18446744073709551616) (w : World) (h : BdAt w x t) :
    Calls Tryz.prog 82 #[.pointer (some ⟨x.b, 0, none⟩), .int .u64 (p : Int), .int .i64 k] w fun e w' => e = .returned (.tuple #[.int .i64 (pageI x t p : Int), .bool (liveB x t p k)]) ∧ Kept none' w w' := by
  have H := hid h
  have PG := hid (page_any x t p hp w h)
  clear h
  obtain ⟨q, hq⟩ : ∃ q, q = pageI x t p := ⟨_, rfl⟩
  obtain ⟨v, hv⟩ : ∃ v, v = pageB x t p := ⟨_, rfl⟩
  rw [show liveB x t p k = (v && inR (x.o + 1) k && isB t.m 2 (q : Int) k) by rw [liveB, ← hq, ← hv], ← hq]
  rw [← hq, ← hv] at PG
  clear hq hv
  cases v with
  | false =>
    go_enter Tryz.func82, Tryz.ntmps82
    go_wp2_with fail
    refine PG.out.mono ?_
    rintro e w1 ⟨rfl, hk⟩
    have K := hid hk
    clear hk
    go_wp2_with fail
    exact ⟨rfl, .tuple #[.int .i64 (q : Int), .bool false], by simp [results, Tryz.results82, go_sem], by simp, K.out⟩
  | true =>
    obtain ⟨r, hr⟩ : ∃ r, r = inR (x.o + 1) k := ⟨_, rfl⟩
    have HS := hid (show ∀ W, BdAt W x t → Calls Tryz.prog 135 #[.pointer (some ⟨x.b, 0, none⟩), .int .i64 k] W fun e w' => e = .returned (.bool r) ∧ w' = W from fun W hW => by rw [hr]; exact hasO_any x t k W hW)
    rw [← hr]
    clear hr
    cases r with
    | false =>
      go_enter Tryz.func82, Tryz.ntmps82
      go_wp2_with fail
      refine PG.out.mono ?_
      rintro e w1 ⟨rfl, hk⟩
      have K := hid hk
      have H1 := hid (H.out.keep hk)
      clear hk
      go_wp2_with fail
      refine (HS.out _ H1.out).mono ?_
      rintro e w2 ⟨rfl, hw2⟩
      rw [hw2]
      clear hw2
      go_wp2_with fail
      exact ⟨rfl, .tuple #[.int .i64 (q : Int), .bool false], by simp [results, Tryz.results82, go_sem], by simp, K.out⟩
    | true =>
      go_enter Tryz.func82, Tryz.ntmps82
      go_wp2_with fail
      refine PG.out.mono ?_
      rintro e w1 ⟨rfl, hk⟩
      have K := hid hk
      have H1 := hid (H.out.keep hk)
      clear hk
      go_wp2_with fail
      refine (HS.out _ H1.out).mono ?_
      rintro e w2 ⟨rfl, hw2⟩
      rw [hw2]
      clear hw2
      go_wp2_with fail
      refine (is_any x t 2 (q : Int) k _ H1.out).mono ?_
      rintro e w3 ⟨rfl, hk⟩
      have K3 := hid (none_trans K.out hk)
      clear hk
      go_wp2_with fail
      exact ⟨rfl, .tuple #[.int .i64 (q : Int), .bool (isB t.m 2 (q : Int) k)], by simp [results, Tryz.results82, go_sem], by simp, K3.out⟩
/-- The least order, from k on, that has a free block; one past the greatest, if none has. -/
structure Least (x : Bx) (t : Bt) (k j : Nat) : Prop where
  lk : k ≤ j
  lo : j ≤ x.o + 1
  lz : ∀ a, k ≤ a → a < j → t.hd a = 0
  lh : j ≤ x.o → t.hd j ≠ 0
theorem least_any (x : Bx) (t : Bt) (k : Nat) (hk : k ≤ x.o) (w : World) (h : BdAt w x t) :
    Calls Tryz.prog 195 #[.pointer (some ⟨x.b, 0, none⟩), .int .i64 (k : Int)] w fun e w' => ∃ j : Nat, e = .returned (.int .i64 (j : Int)) ∧ Least x t k j ∧ w' = w := by
  have c3 := h.b3
  have H := hid h
  have ho := h.o8
  clear h
  go_enter Tryz.func195, Tryz.ntmps195
  go_wp2_with fail
  go_loopw [1] (fun i W => Hid (W = w) ∧ ∃ j : Nat, k ≤ j ∧ j ≤ x.o + 1 ∧ i = .int .i64 j ∧ Hid (∀ a, k ≤ a → a < j → t.hd a = 0)) (fun i _ => x.o + 1 - (intOf i).toNat)
  case atStart => exact ⟨rfl, k, by omega, by omega, rfl, fun a h1 h2 => by omega⟩
  case round =>
    obtain ⟨hW, j, h1, h2, rfl, hz⟩ := hrel
    have hW := hW.out
    subst hW
    have HS := hid (hasO_any x t (j : Int) wr H.out)
    by_cases h3 : j ≤ x.o
    · rw [show inR (x.o + 1) (j : Int) = true by simp only [inR]; exact decide_eq_true ⟨by omega, by omega⟩] at HS
      have hji : (j : Int) < ((x.o + 1 : Nat) : Int) := by omega
      have cl := H.out.lc j h3
      have HD := hid (M.Head_any (x.L j) x.s (t.hd j) wr (H.out.ls j h3))
      obtain ⟨d, hd⟩ : ∃ d, d = t.hd j := ⟨_, rfl⟩
      rw [← hd] at HD
      have HDE := hid hd
      clear hd
      by_cases h4 : d = 0
      · have h4i : (d : Int) = 0 := by omega
        go_wp2_with fail
        refine HS.out.mono ?_
        rintro e w1 ⟨rfl, hw1⟩
        rw [hw1]
        clear hw1
        go_wp2_with fail
        refine HD.out.mono ?_
        rintro e w1 ⟨rfl, hw1⟩
        rw [hw1]
        clear hw1
        go_wp2_with fail
        exact ⟨⟨trivial, j + 1, by omega, by omega, by simp, fun a h5 h6 => by
          by_cases e : a = j
          · subst e; rw [← HDE.out]; exact h4
          · exact hz.out a h5 (by omega)⟩, by simp [intOf]; omega⟩
      · have h4i : ¬ (d : Int) = 0 := by omega
        go_wp2_with fail
        refine HS.out.mono ?_
        rintro e w1 ⟨rfl, hw1⟩
        rw [hw1]
        clear hw1
        go_wp2_with fail
        refine HD.out.mono ?_
        rintro e w1 ⟨rfl, hw1⟩
        rw [hw1]
        clear hw1
        go_wp2_with fail
        go_ret
        exact ⟨j, rfl, ⟨h1, h2, hz.out, fun _ => by rw [← HDE.out]; exact h4⟩, rfl⟩
    · rw [show inR (x.o + 1) (j : Int) = false by simp only [inR]; exact decide_eq_false (fun e => by omega)] at HS
      go_wp2_with fail
      refine HS.out.mono ?_
      rintro e w1 ⟨rfl, hw1⟩
      rw [hw1]
      clear hw1
      go_wp2_with fail
      go_ret
      exact ⟨j, rfl, ⟨h1, h2, hz.out, fun e => by omega⟩, rfl⟩
def ad (x : Bx) (p : Nat) : Nat := x.base + 4096 * p
def pushT (x : Bx) (t : Bt) (p k : Nat) : Bt := { t with f := (M.pushR x.base x.n t.f (t.hd k) (ad x p)).1, hd := uph t.hd k (M.pushR x.base x.n t.f (t.hd k) (ad x p)).2.1 }
def pushE (x : Bx) (t : Bt) (p k : Nat) : Nat := (M.pushR x.base x.n t.f (t.hd k) (ad x p)).2.2
def runT (t : Bt) (p k : Nat) (kd : Int) : Bt := { t with m := runM t.m p k kd }
def enterT (x : Bx) (t : Bt) (p k : Nat) : Bt := if pushE x t p k = 0 then turnT (runT (pushT x t p k) p k 0) p k else pushT x t p k
def enterE (x : Bx) (t : Bt) (p k : Nat) : Nat := if pushE x t p k = 0 then 0 else 9
theorem runB_any (x : Bx) (t : Bt) (p k : Nat) (kd : Int) (w : World) (h : BdAt w x t) :
    Calls Tryz.prog 138 #[.pointer (some ⟨x.m, 0, none⟩), .int .i64 (p : Int), .int .i64 (k : Int), .int .i64 kd] w fun e w' => e = .returned (.int .i64 (runE t.m p k kd)) ∧ BdAt w' x (runT t p k kd) ∧ Kept (bown x) w w' := by
  refine (Run_any x.m x.B t.m p k kd w h.mp).mono ?_
  rintro e w' ⟨rfl, h2, h3⟩
  exact ⟨rfl, h.map h3 h2 (runM_o _ _ _ _), bown_map (h.mo ▸ h3)⟩
theorem pushB_any (x : Bx) (t : Bt) (p k : Nat) (hp : p ≤ 4000) (hk : k ≤ x.o) (w : World) (h : BdAt w x t) :
    Calls Tryz.prog 181 #[.pointer (some ⟨x.L k, 0, none⟩), .int .u64 ((ad x p : Nat) : Int)] w fun e w' => e = .returned (.int .i64 (pushE x t p k : Int)) ∧ BdAt w' x (pushT x t p k) ∧ Kept (bown x) w w' := by
  have hb := h.end63
  refine (M.Push_any (x.L k) x.s x.a x.base x.R x.lim x.n t.f (t.hd k) (ad x p) (by unfold ad; omega) w (h.ls' k hk)).mono ?_
  rintro e w' ⟨rfl, h2, h3⟩
  exact ⟨rfl, h.list hk h3 h2, bown_list hk h3⟩
set_option maxRecDepth 4000 in
set_option maxHeartbeats 1000000 in
theorem enter_any (x : Bx) (t : Bt) (p k : Nat) (hp : p ≤ 4000) (hk : k ≤ x.o) (w : World) (h : BdAt w x t) :
    Calls Tryz.prog 137 #[.pointer (some ⟨x.b, 0, none⟩), .int .i64 (p : Int), .int .i64 (k : Int)] w fun e w' => e = .returned (.int .i64 (enterE x t p k : Int)) ∧ BdAt w' x (enterT x t p k) ∧ Kept (bown x) w w' := by
  have c3 := h.b3
  have cl := h.lc k hk
  have ho := h.o8
  have H := hid h
  have hki : (k : Int) < ((x.o + 1 : Nat) : Int) := by omega
  have hk0 : (0 : Int) ≤ (k : Int) := by omega
  have hki2 : (k : Int) < (x.o : Int) + 1 := by omega
  have hki3 : k < x.o + 1 := by omega
  have hkw : IntKind.i64.wrap (k : Int) = (k : Int) := by rw [IntKind.wrap_i64]; omega
  have AD := hid (show ∀ W, BdAt W x t → Calls Tryz.prog 182 #[.pointer (some ⟨x.b, 0, none⟩), .int .i64 (p : Int)] W fun e w' => e = .returned (.int .u64 ((ad x p : Nat) : Int)) ∧ w' = W from fun W hW => address_any x t p hp W hW)
  have H0 := hid (h.keep (Kept.refl none' w).drew)
  obtain ⟨q, hq⟩ : ∃ q, q = ad x p := ⟨_, rfl⟩
  have PU := hid (pushB_any x t p k hp hk w.drew H0.out)
  rw [← hq] at AD PU
  obtain ⟨e0, he0⟩ : ∃ e0, e0 = pushE x t p k := ⟨_, rfl⟩
  rw [← he0] at PU
  have hE : enterE x t p k = if e0 = 0 then 0 else 9 := by rw [he0]; rfl
  have hT : enterT x t p k = if e0 = 0 then turnT (runT (pushT x t p k) p k 0) p k else pushT x t p k := by rw [he0]; rfl
  rw [hE, hT]
  clear h hq he0 hE hT
  have c3d : w.drew.cell? ⟨x.b, 3, none⟩ = some (.slice (some ⟨x.l, 0, none⟩) (x.o + 1) x.c) := c3
  have cld : w.drew.cell? ⟨x.l, k, none⟩ = some (.pointer (some ⟨x.L k, 0, none⟩)) := cl
  by_cases h0 : e0 = 0
  · rw [if_pos h0, if_pos h0]
    have h0i : (e0 : Int) = 0 := by omega
    have h0b : ((e0 : Int) != 0) = false := by simp [h0i]
    clear h0
    go_enter Tryz.func137, Tryz.ntmps137
    go_wp2_with fail
    go_region_held3 (fun w' => w'.cell? ⟨x.b, 3, none⟩ = some (.slice (some ⟨x.l, 0, none⟩) (x.o + 1) x.c) ∧ w'.cell? ⟨x.l, k, none⟩ = some (.pointer (some ⟨x.L k, 0, none⟩))) (first | with_reducible exact ⟨c3d, cld⟩ | with_reducible exact ⟨c32, cl2⟩) (first | (go_at_call 182; refine (AD.out _ H0.out).mono ?_; rintro e w1 ⟨rfl, hw1⟩; rw [hw1]; clear hw1) | (go_at_call 181; refine PU.out.mono ?_; rintro e w2 ⟨rfl, hB, hK⟩; have H2 := hid hB; have K2 := hid (show Kept (bown x) w w2 from bown_trans (bown_none (Kept.refl none' w).drew) hK); have c32 := H2.out.b3; have cl2 := H2.out.lc k hk; clear hB hK))
    all_goals
      have c22 := H2.out.b2
      clear c3 cl c3d cld c32 cl2 AD PU H0 h0b
      go_wp2_with fail
      refine (runB_any x _ p k 0 _ H2.out).mono ?_
      rintro e w3 ⟨rfl, hB, hK⟩
      have H3 := hid hB
      have K3 := hid (bown_trans K2.out hK)
      clear hB hK c22
      go_wp2_with fail
      refine (turn_any x _ (p : Int) (k : Int) _ H3.out).mono ?_
      rintro e w4 ⟨rfl, hB, hK⟩
      have H4 := hid hB
      have K4 := hid (bown_trans K3.out hK)
      clear hB hK
      go_wp2_with fail
      go_ret
      exact ⟨rfl, H4.out, K4.out⟩
  · rw [if_neg h0, if_neg h0]
    have h0i : ¬ (e0 : Int) = 0 := by omega
    have h0b : ((e0 : Int) != 0) = true := by simp [h0]
    clear h0
    go_enter Tryz.func137, Tryz.ntmps137
    go_wp2_with fail
    go_region_held3 (fun w' => w'.cell? ⟨x.b, 3, none⟩ = some (.slice (some ⟨x.l, 0, none⟩) (x.o + 1) x.c) ∧ w'.cell? ⟨x.l, k, none⟩ = some (.pointer (some ⟨x.L k, 0, none⟩))) (first | with_reducible exact ⟨c3d, cld⟩ | with_reducible exact ⟨c32, cl2⟩) (first | (go_at_call 182; refine (AD.out _ H0.out).mono ?_; rintro e w1 ⟨rfl, hw1⟩; rw [hw1]; clear hw1) | (go_at_call 181; refine PU.out.mono ?_; rintro e w2 ⟨rfl, hB, hK⟩; have H2 := hid hB; have K2 := hid (show Kept (bown x) w w2 from bown_trans (bown_none (Kept.refl none' w).drew) hK); have c32 := H2.out.b3; have cl2 := H2.out.lc k hk; clear hB hK))
    all_goals
      clear c3 cl c3d cld c32 cl2 AD PU H0
      go_wp2_with fail
      go_ret
      exact ⟨rfl, H2.out, K2.out⟩
/-- The upper halves of the block at p, from the order to + d down: what stands then, the order of what is left, the error. -/
def cutL (x : Bx) (p to : Nat) : Nat → Bt → Bt × Nat × Nat
  | 0, t => (t, to, 0)
  | d + 1, t => if enterE x t (p + 2 ^ (to + d)) (to + d) = 0 then cutL x p to d (enterT x t (p + 2 ^ (to + d)) (to + d)) else (enterT x t (p + 2 ^ (to + d)) (to + d), to + d + 1, 9)
def cutT (x : Bx) (t : Bt) (p fr to : Nat) : Bt := runT (cutL x p to (fr - to) t).1 p (cutL x p to (fr - to) t).2.1 2
def cutE (x : Bx) (t : Bt) (p fr to : Nat) : Nat := (cutL x p to (fr - to) t).2.2
theorem enterE_two (x : Bx) (t : Bt) (p k : Nat) : enterE x t p k = 0 ∨ enterE x t p k = 9 := by
  unfold enterE
  split
  · exact .inl rfl
  · exact .inr rfl
/-- Between two rounds of cut. -/
def CutR (x : Bx) (p to : Nat) (r : Bt × Nat × Nat) (w W : World) (F E : Nat) : Prop :=
  ∃ t1, BdAt W x t1 ∧ Kept (bown x) w W ∧ ((E = 0 ∧ ∃ d, F = to + d ∧ cutL x p to d t1 = r) ∨ (E = 9 ∧ r = (t1, F, 9)))
set_option maxRecDepth 4000 in
set_option maxHeartbeats 1000000 in
theorem cutB_any (x : Bx) (t : Bt) (p fr to : Nat) (hp : p ≤ 1024) (hft : to ≤ fr) (hfr : fr ≤ x.o) (w : World) (h : BdAt w x t) :
    Calls Tryz.prog 83 #[.pointer (some ⟨x.b, 0, none⟩), .int .i64 (p : Int), .int .i64 (fr : Int), .int .i64 (to : Int)] w fun e w' => e = .returned (.int .i64 (cutE x t p fr to : Int)) ∧ BdAt w' x (cutT x t p fr to) ∧ Kept (bown x) w w' := by
  have ho := h.o8
  obtain ⟨r, hr⟩ : ∃ r, r = cutL x p to (fr - to) t := ⟨_, rfl⟩
  rw [show cutE x t p fr to = r.2.2 by rw [hr]; rfl, show cutT x t p fr to = runT r.1 p r.2.1 2 by rw [hr]; rfl]
  have H0 := hid (show CutR x p to r w w fr 0 from ⟨t, h, Kept.refl _ _, .inl ⟨rfl, fr - to, by omega, hr.symm⟩⟩)
  clear h hr
  go_enter Tryz.func83, Tryz.ntmps83
  go_wp2_with fail
  go_loopw [2, 9] (fun i e W => ∃ F E : Nat, i = .int .i64 F ∧ e = .int .i64 E ∧ to ≤ F ∧ F ≤ fr ∧ (E = 0 ∨ E = 9) ∧ Hid (CutR x p to r w W F E)) (fun i e _ => if intOf e = 0 then (intOf i).toNat - to + 1 else 0)
  case atStart => exact ⟨fr, 0, rfl, rfl, hft, Nat.le_refl _, .inl rfl, H0⟩
  case round =>
    obtain ⟨F, E, rfl, rfl, h1, h2, h3, hC⟩ := hrel
    clear H0
    obtain ⟨t1, hB, hK, hc⟩ := hC.out
    have H1 := hid hB
    have K1 := hid hK
    have HC := hid hc
    clear hB hK hc hC
    have fin : ∀ E' : Nat, ((E' = 0 ∧ F = to) ∨ E' = 9) → E = E' → t1 = r.1 ∧ F = r.2.1 ∧ E' = r.2.2 := fun E' h4 h5 => by
      subst h5
      rcases HC.out with ⟨e1, d, e2, e3⟩ | ⟨e1, e2⟩
      · have e4 : d = 0 := by omega
        subst e4
        rw [← e3]
        exact ⟨rfl, e2, e1⟩
      · rw [e2]; exact ⟨rfl, rfl, e1⟩
    by_cases h4 : to < F
    · have h4i : (to : Int) < (F : Int) := by omega
      rcases h3 with h3 | h3
      · obtain ⟨k, hk⟩ : ∃ k, F = k + 1 := ⟨F - 1, by omega⟩
        obtain ⟨z, hz⟩ : ∃ z, z = 2 ^ k := ⟨_, rfl⟩
        have hzi : (2 : Int) ^ k = (z : Int) := by rw [hz]; simp
        have hz1 : z ≤ 256 := by rw [hz]; exact Nat.pow_le_pow_right (n := 2) (by decide) (show k ≤ 8 by omega)
        subst h3
        subst hk
        have EN := hid (show Calls Tryz.prog 137 #[.pointer (some ⟨x.b, 0, none⟩), .int .i64 ((p : Int) + (z : Int)), .int .i64 (k : Int)] wr fun e w' => e = .returned (.int .i64 (enterE x t1 (p + z) k : Int)) ∧ BdAt w' x (enterT x t1 (p + z) k) ∧ Kept (bown x) wr w' from enter_any x t1 (p + z) k (by omega) (by omega) wr H1.out)
        have HS := hid (show ∀ W, Kept (bown x) wr W → BdAt W x (enterT x t1 (p + z) k) → (enterE x t1 (p + z) k = 0 → CutR x p to r w W k 0) ∧ (enterE x t1 (p + z) k = 9 → CutR x p to r w W (k + 1) 9) from fun W kW bW => by
          rcases HC.out with ⟨e1, d, e2, e3⟩ | ⟨e1, e2⟩
          · obtain ⟨d', rfl⟩ : ∃ d', d = d' + 1 := ⟨d - 1, by omega⟩
            have ek : k = to + d' := by omega
            rw [cutL, ← ek, ← hz] at e3
            refine ⟨fun e => ?_, fun e => ?_⟩
            · rw [if_pos e] at e3
              exact ⟨_, bW, bown_trans K1.out kW, .inl ⟨rfl, d', ek, e3⟩⟩
            · rw [if_neg (by omega)] at e3
              exact ⟨_, bW, bown_trans K1.out kW, .inr ⟨rfl, e3.symm⟩⟩
          · omega)
        have ET := hid (enterE_two x t1 (p + z) k)
        obtain ⟨E2, hE2⟩ : ∃ E2, E2 = enterE x t1 (p + z) k := ⟨_, rfl⟩
        obtain ⟨T2, hT2⟩ : ∃ T2, T2 = enterT x t1 (p + z) k := ⟨_, rfl⟩
        rw [← hE2] at EN HS ET
        rw [← hT2] at EN HS
        clear hz hE2 hT2 fin HC
        have hpz : IntKind.i64.wrap ((p : Int) + (z : Int)) = ((p + z : Nat) : Int) := by rw [IntKind.wrap_i64]; omega
        go_wp2_with fail
        refine EN.out.mono ?_
        rintro e w2 ⟨rfl, hB, hK⟩
        have S2 := hid (HS.out w2 hK hB)
        clear hB hK EN HS
        rcases ET.out with h5 | h5
        · subst h5
          go_wp2_with fail
          exact ⟨⟨k, 0, rfl, rfl, by omega, by omega, .inl rfl, S2.out.1 trivial⟩, by simp [intOf]; omega⟩
        · subst h5
          go_wp2_with fail
          exact ⟨⟨k + 1, 9, by simp, rfl, by omega, by omega, .inr rfl, S2.out.2 trivial⟩, by simp [intOf]⟩
      · subst h3
        obtain ⟨f1, f2, f3⟩ := fin 9 (.inr rfl) rfl
        have c2 := H1.out.b2
        have FT := hid f1
        have FF2 := hid f2
        have FE := hid f3
        clear fin HC f1 f2 f3
        go_wp2_with fail
        refine (runB_any x t1 p F 2 _ H1.out).mono ?_
        rintro e w3 ⟨rfl, hB, hK⟩
        have D := hid (show BdAt w3 x (runT r.1 p r.2.1 2) ∧ Kept (bown x) w w3 from ⟨by rw [← FT.out, ← FF2.out]; exact hB, bown_trans K1.out hK⟩)
        clear hB hK
        go_wp2_with fail
        go_ret
        exact ⟨ret_int (by rw [← FE.out]; rfl), D.out⟩
    · have h4i : ¬ (to : Int) < (F : Int) := by omega
      rcases h3 with h3 | h3
      · subst h3
        obtain ⟨f1, f2, f3⟩ := fin 0 (.inl ⟨rfl, by omega⟩) rfl
        have c2 := H1.out.b2
        have FT := hid f1
        have FF2 := hid f2
        have FE := hid f3
        clear fin HC f1 f2 f3
        go_wp2_with fail
        refine (runB_any x t1 p F 2 _ H1.out).mono ?_
        rintro e w3 ⟨rfl, hB, hK⟩
        have D := hid (show BdAt w3 x (runT r.1 p r.2.1 2) ∧ Kept (bown x) w w3 from ⟨by rw [← FT.out, ← FF2.out]; exact hB, bown_trans K1.out hK⟩)
        clear hB hK
        go_wp2_with fail
        go_ret
        exact ⟨ret_int (by rw [← FE.out]; rfl), D.out⟩
      · subst h3
        obtain ⟨f1, f2, f3⟩ := fin 9 (.inr rfl) rfl
        have c2 := H1.out.b2
        have FT := hid f1
        have FF2 := hid f2
        have FE := hid f3
        clear fin HC f1 f2 f3
        go_wp2_with fail
        refine (runB_any x t1 p F 2 _ H1.out).mono ?_
        rintro e w3 ⟨rfl, hB, hK⟩
        have D := hid (show BdAt w3 x (runT r.1 p r.2.1 2) ∧ Kept (bown x) w w3 from ⟨by rw [← FT.out, ← FF2.out]; exact hB, bown_trans K1.out hK⟩)
        clear hB hK
        go_wp2_with fail
        go_ret
        exact ⟨ret_int (by rw [← FE.out]; rfl), D.out⟩
def popT (x : Bx) (t : Bt) (k : Nat) : Bt := { t with f := (M.popR x.base x.n t.f (t.hd k)).1, hd := uph t.hd k (M.popR x.base x.n t.f (t.hd k)).2.1 }
def popE (x : Bx) (t : Bt) (k : Nat) : Nat := (M.popR x.base x.n t.f (t.hd k)).2.2.2
theorem popB_any (x : Bx) (t : Bt) (k : Nat) (hk : k ≤ x.o) (w : World) (h : BdAt w x t) :
    Calls Tryz.prog 197 #[.pointer (some ⟨x.L k, 0, none⟩)] w fun e w' => ∃ v : Nat, e = .returned (.tuple #[.int .u64 (v : Int), .int .i64 (popE x t k : Int)]) ∧ BdAt w' x (popT x t k) ∧ Kept (bown x) w w' := by
  refine (M.Pop_any (x.L k) x.s x.a x.base x.R x.lim x.n t.f (t.hd k) w (h.ls' k hk)).mono ?_
  rintro e w' ⟨rfl, h2, h3⟩
  exact ⟨_, rfl, h.list hk h3 h2, bown_list hk h3⟩
/-- Take of an order that is none. -/
theorem Take_none (x : Bx) (t : Bt) (k : Int) (hk : inR (x.o + 1) k = false) (w : World) (h : BdAt w x t) :
    Calls Tryz.prog 145 #[.pointer (some ⟨x.b, 0, none⟩), .int .i64 k] w fun e w' => e = .returned (.tuple #[.int .u64 0, .int .i64 1]) ∧ w' = w := by
  have HS := hid (hasO_any x t k w h)
  rw [hk] at HS
  go_enter Tryz.func145, Tryz.ntmps145
  go_wp2_with fail
  refine HS.out.mono ?_
  rintro e w1 ⟨rfl, hw1⟩
  rw [hw1]
  clear hw1
  go_wp2_with fail
  exact ⟨rfl, .tuple #[.int .u64 0, .int .i64 1], by simp [results, Tryz.results145, go_sem], rfl, rfl⟩
theorem has_yes (x : Bx) (t : Bt) (k : Nat) (hk : k ≤ x.o) (w : World) (h : BdAt w x t) :
    Calls Tryz.prog 135 #[.pointer (some ⟨x.b, 0, none⟩), .int .i64 (k : Int)] w fun e w' => e = .returned (.bool true) ∧ w' = w := by
  have HS := hasO_any x t (k : Int) w h
  rw [show inR (x.o + 1) (k : Int) = true by simp only [inR]; exact decide_eq_true ⟨by omega, by omega⟩] at HS
  exact HS
/-- Take where nothing is free. -/
theorem Take_empty (x : Bx) (t : Bt) (k : Nat) (hk : k ≤ x.o) (hz : ∀ a, k ≤ a → a ≤ x.o → t.hd a = 0) (w : World) (h : BdAt w x t) :
    Calls Tryz.prog 145 #[.pointer (some ⟨x.b, 0, none⟩), .int .i64 (k : Int)] w fun e w' => e = .returned (.tuple #[.int .u64 0, .int .i64 2]) ∧ w' = w := by
  have HS := hid (has_yes x t k hk w h)
  have LE := hid (least_any x t k hk w h)
  have HN := hid (show ∀ j : Nat, Least x t k j → Calls Tryz.prog 135 #[.pointer (some ⟨x.b, 0, none⟩), .int .i64 (j : Int)] w fun e w' => e = .returned (.bool false) ∧ w' = w from fun j hj => by
    have hjo : ¬ j ≤ x.o := fun e => hj.lh e (hz j hj.lk e)
    have q := hasO_any x t (j : Int) w h
    rw [show inR (x.o + 1) (j : Int) = false by simp only [inR]; exact decide_eq_false (fun e => by omega)] at q
    exact q)
  clear hz h
  go_enter Tryz.func145, Tryz.ntmps145
  go_wp2_with fail
  refine HS.out.mono ?_
  rintro e w1 ⟨rfl, hw1⟩
  rw [hw1]
  clear hw1
  go_wp2_with fail
  refine LE.out.mono ?_
  rintro e w1 ⟨j, rfl, hj, hw1⟩
  rw [hw1]
  have HJ := hid (HN.out j hj)
  clear hw1 hj
  go_wp2_with fail
  refine HJ.out.mono ?_
  rintro e w1 ⟨rfl, hw1⟩
  rw [hw1]
  clear hw1
  go_wp2_with fail
  exact ⟨rfl, .tuple #[.int .u64 0, .int .i64 2], by simp [results, Tryz.results145, go_sem], rfl, rfl⟩
/-- Take's other way: the least order j that has a block; its list and its page in order. -/
def takeT (x : Bx) (t : Bt) (q j k : Nat) : Bt := cutT x (turnT (popT x t j) q j) q j k
set_option maxRecDepth 4000 in
set_option maxHeartbeats 1000000 in
theorem Take_yes (x : Bx) (t : Bt) (k j q : Nat) (hk : k ≤ x.o) (hL : Least x t k j) (hj : j ≤ x.o) (hq : t.hd j = ad x q) (hqn : q < t.m.n) (hin : M.In x.base x.n (ad x q) 1) (hqj : q % 2 ^ j = 0) (hpop : popE x t j = 0) (hcut : cutE x (turnT (popT x t j) q j) q j k = 0) (w : World) (h : BdAt w x t) :
    Calls Tryz.prog 145 #[.pointer (some ⟨x.b, 0, none⟩), .int .i64 (k : Int)] w fun e w' => e = .returned (.tuple #[.int .u64 ((ad x q : Nat) : Int), .int .i64 0]) ∧ BdAt w' x (takeT x t q j k) ∧ Kept (bown x) w w' := by
  have ho := h.o8
  have hn1 := h.mp.n1
  have hb := h.end63
  have c3 := h.b3
  have cl := h.lc j hj
  have H := hid h
  have hji : (j : Int) < ((x.o + 1 : Nat) : Int) := by omega
  obtain ⟨z, hz⟩ : ∃ z, z = 2 ^ j := ⟨_, rfl⟩
  have hzi : (2 : Int) ^ j = (z : Int) := by rw [hz]; simp
  have hz1 : 1 ≤ z := by rw [hz]; exact Nat.pow_pos (by decide)
  have hz2 : z ≤ 256 := by rw [hz]; exact Nat.pow_le_pow_right (n := 2) (by decide) (show j ≤ 8 by omega)
  have hqz : (q : Int) % (z : Int) = 0 := by rw [← hz] at hqj; omega
  have hz0 : ¬ (z : Int) = 0 := by omega
  obtain ⟨a, ha⟩ : ∃ a, a = ad x q := ⟨_, rfl⟩
  have hal : a < 18446744073709551616 := by rw [ha]; unfold ad; unfold M.In at hin; omega
  have hoff : offP x a = 4096 * q := by rw [ha]; unfold offP ad; omega
  have hok : pageOk x t a := by unfold pageOk; rw [hoff]; exact ⟨by omega, by omega⟩
  have hI : pageI x t a = q := by unfold pageI; rw [if_pos hok, hoff]; omega
  have hB : pageB x t a = true := by unfold pageB; exact decide_eq_true ⟨hok, by rw [ha]; exact hin⟩
  have PG := hid (page_any x t a hal w h)
  rw [hI, hB] at PG
  have HD := hid (M.Head_any (x.L j) x.s (t.hd j) w (h.ls j hj))
  rw [hq, ← ha] at HD
  rw [← ha]
  have HS := hid (has_yes x t k hk w h)
  have HJ := hid (has_yes x t j hj w h)
  have LE := hid (show Calls Tryz.prog 195 #[.pointer (some ⟨x.b, 0, none⟩), .int .i64 (k : Int)] w fun e w' => e = .returned (.int .i64 (j : Int)) ∧ w' = w from (least_any x t k hk w h).mono (by
    rintro e w' ⟨j', rfl, hj', rfl⟩
    have : j' = j := by
      rcases Nat.lt_trichotomy j' j with e | e | e
      · exact absurd (hL.lz j' hj'.lk e) (hj'.lh (by omega))
      · exact e
      · exact absurd (hj'.lz j hL.lk e) (hL.lh hj)
    subst this
    exact ⟨rfl, rfl⟩))
  have HPOP := hid hpop
  have HCUT := hid hcut
  have hjk := hL.lk
  clear h hz ha hoff hok hI hB hpop hcut hL hq hin hqj
  go_enter Tryz.func145, Tryz.ntmps145
  go_wp2_with fail
  refine HS.out.mono ?_
  rintro e w1 ⟨rfl, hw1⟩
  rw [hw1]
  clear hw1
  go_wp2_with fail
  refine LE.out.mono ?_
  rintro e w1 ⟨rfl, hw1⟩
  rw [hw1]
  clear hw1
  go_wp2_with fail
  refine HJ.out.mono ?_
  rintro e w1 ⟨rfl, hw1⟩
  rw [hw1]
  clear hw1
  go_wp2_with fail
  refine HD.out.mono ?_
  rintro e w1 ⟨rfl, hw1⟩
  rw [hw1]
  clear hw1
  go_wp2_with fail
  refine PG.out.mono ?_
  rintro e w1 ⟨rfl, hk1⟩
  have K1 := hid hk1
  have H1 := hid (H.out.keep hk1)
  have c31 := H1.out.b3
  have cl1 := H1.out.lc j hj
  clear hk1 c3 cl HS HJ HD PG LE
  go_wp2_with fail
  refine (popB_any x t j hj _ H1.out).mono ?_
  rintro e w2 ⟨v, rfl, hB, hK⟩
  rw [HPOP.out]
  have H2 := hid hB
  have K2 := hid (bown_trans (bown_none K1.out) hK)
  clear hB hK c31 cl1
  go_wp2_with fail
  refine (turn_any x _ (q : Int) (j : Int) _ H2.out).mono ?_
  rintro e w3 ⟨rfl, hB, hK⟩
  have H3 := hid hB
  have K3 := hid (bown_trans K2.out hK)
  clear hB hK
  go_wp2_with fail
  refine (cutB_any x _ q j k (by omega) hjk hj _ H3.out).mono ?_
  rintro e w4 ⟨rfl, hB, hK⟩
  rw [HCUT.out]
  have H4 := hid hB
  have K4 := hid (bown_trans K3.out hK)
  clear hB hK
  go_wp2_with fail
  exact ⟨rfl, .tuple #[.int .u64 (a : Int), .int .i64 0], by simp [results, Tryz.results145, go_sem], rfl, H4.out, K4.out⟩
theorem i64_xor_nat (a b : Nat) (ha : a < 4611686018427387904) (hb : b < 4611686018427387904) : bits .xor .i64 (a : Int) (b : Int) = ((a ^^^ b : Nat) : Int) := by
  have hx : a ^^^ b < 2 ^ 62 := Nat.xor_lt_two_pow (by omega) (by omega)
  show IntKind.i64.wrap ((BitVec.ofInt 64 (a : Int) ^^^ BitVec.ofInt 64 (b : Int)).toNat : Int) = _
  rw [BitVec.toNat_xor, ofInt_u64 a (by omega), ofInt_u64 b (by omega), IntKind.wrap_i64]
  omega
theorem i64_andNot_nat (a b : Nat) (ha : a < 4611686018427387904) (hb : b < 4611686018427387904) : bits .andNot .i64 (a : Int) (b : Int) = ((a &&& (18446744073709551615 - b) : Nat) : Int) := by
  have hx : a &&& (18446744073709551615 - b) ≤ a := Nat.and_le_left
  show IntKind.i64.wrap ((BitVec.ofInt 64 (a : Int) &&& ~~~BitVec.ofInt 64 (b : Int)).toNat : Int) = _
  rw [BitVec.toNat_and, BitVec.toNat_not, ofInt_u64 a (by omega), ofInt_u64 b (by omega), IntKind.wrap_i64]
  have e : 2 ^ 64 - 1 - b = 18446744073709551615 - b := by omega
  rw [e]
  omega
theorem PairQ_any (b : Nat) (B : Bs) (m : Mp) (k i : Int) (w : World) (h : MapAt w b B m) :
    Calls Tryz.prog 222 #[.pointer (some ⟨b, 0, none⟩), .int .i64 k, .int .i64 i] w fun e w' => e = .returned (.bool (pairV m k i)) ∧ ∃ r, w' = w.drewN r := by
  cases hp : hasP m k i with
  | false =>
    rw [show pairV m k i = false by simp [pairV, hp]]
    have HQ := hid (fun q => hasPair_any b B m k i (w.drewN q) (h.keep ((Kept.refl none' w).drewN q)))
    rw [show (inR m.o k && inR m.n i) = false from hp] at HQ
    clear h hp
    go_enter Tryz.func222, Tryz.ntmps222
    go_wp2_with fail
    go_quiet ((go_at_call 223; exact Calls.quiet_of_same (HQ.out _)))
    go_wp2_with fail
    go_ret
    exact ⟨rfl, _, rfl⟩
  | true =>
    have hh := hp
    simp only [hasP, Bool.and_eq_true] at hh
    obtain ⟨k, rfl, hk⟩ := inR_nat hh.1
    obtain ⟨i, rfl, hi⟩ := inR_nat hh.2
    rw [show pairV m (k : Int) (i : Int) = inS (m.n / 2 ^ (k + 1)) (m.wd k) ((i / 2 ^ (k + 1) : Nat) : Int) by simp [pairV, hp, prL, prN]]
    have HQ := hid (fun q => hasPair_any b B m k i (w.drewN q) (h.keep ((Kept.refl none' w).drewN q)))
    rw [show (inR m.o (k : Int) && inR m.n (i : Int)) = true from hp] at HQ
    obtain ⟨q, hq, cp⟩ := h.cp k hk
    obtain ⟨cq, c2⟩ := h.c2 hq
    have HG := hid (fun z => get_any (B.S k) (B.C k) _ (m.wd k) ((i / 2 ^ (k + 1) : Nat) : Int) (w.drewN z) ((h.set k hk).kept ((Kept.refl none' w).drewN z) (fun x => x) (fun x => x)))
    have hk8 : k < 8 := by have := h.o8; omega
    have hi10 : i < 1024 := by have := h.n1; omega
    have hki : (k : Int) < (m.o : Int) := by omega
    clear h hq hh hp
    go_enter Tryz.func222, Tryz.ntmps222
    go_wp2_with fail
    go_quiet (first | (go_at_call 223; exact Calls.quiet_of_same (HQ.out _)) | (go_at_call 229; exact Calls.quiet_of_same (HG.out _)))
    go_wp2_with fail
    go_ret
    exact ⟨rfl, _, rfl⟩
theorem aloneQ_any (x : Bx) (t : Bt) (p k : Int) (w : World) (h : BdAt w x t) :
    Calls Tryz.prog 209 #[.pointer (some ⟨x.b, 0, none⟩), .int .i64 p, .int .i64 k] w fun e w' => e = .returned (.bool (aloneB x t p k)) ∧ ∃ r, w' = w.drewN r := by
  have c2 := h.b2
  have H := hid h
  have GR := hid (greatest_any x t w h)
  clear h
  by_cases h0 : k < (x.o : Int)
  · rw [show aloneB x t p k = pairV t.m k p by simp [aloneB, h0]]
    go_enter Tryz.func209, Tryz.ntmps209
    go_wp2_with fail
    refine GR.out.mono ?_
    rintro e w1 ⟨rfl, rfl⟩
    go_wp2_with fail
    refine (PairQ_any x.m x.B t.m k p _ H.out.mp).mono ?_
    rintro e w' ⟨rfl, hk⟩
    have K := hid hk
    clear hk
    go_wp2_with fail
    go_ret
    exact ⟨ret_bool (by simp), K.out⟩
  · rw [show aloneB x t p k = false by simp [aloneB, h0]]
    go_enter Tryz.func209, Tryz.ntmps209
    go_wp2_with fail
    refine GR.out.mono ?_
    rintro e w1 ⟨rfl, rfl⟩
    go_wp2_with fail
    go_ret
    exact ⟨rfl, 0, rfl⟩
def remT (x : Bx) (t : Bt) (p k : Nat) : Bt := { t with f := (M.removeR x.base x.n t.f (t.hd k) (ad x p)).1, hd := uph t.hd k (M.removeR x.base x.n t.f (t.hd k) (ad x p)).2.1 }
def remE (x : Bx) (t : Bt) (p k : Nat) : Nat := (M.removeR x.base x.n t.f (t.hd k) (ad x p)).2.2
theorem remB_any (x : Bx) (t : Bt) (p k : Nat) (hp : p ≤ 4000) (hk : k ≤ x.o) (w : World) (h : BdAt w x t) :
    Calls Tryz.prog 188 #[.pointer (some ⟨x.L k, 0, none⟩), .int .u64 ((ad x p : Nat) : Int)] w fun e w' => e = .returned (.int .i64 (remE x t p k : Int)) ∧ BdAt w' x (remT x t p k) ∧ Kept (bown x) w w' := by
  have hb := h.end63
  refine (M.Remove_any (x.L k) x.s x.a x.base x.R x.lim x.n t.f (t.hd k) (ad x p) (by unfold ad; omega) w (h.ls' k hk)).mono ?_
  rintro e w' ⟨rfl, h2, h3⟩
  exact ⟨rfl, h.list hk h3 h2, bown_list hk h3⟩
theorem wp_scope_loop {P : Program} {c : Code} {a : Act} {w : World} {Q : Exit → Act → World → Prop} (l : Nat) (J : Act → World → Prop) (μ : Act → World → Nat) (h0 : J a w)
    (pass : ∀ a w, J a w → c.wp P (Exit.jump l (fun a' w' => J a' w' ∧ μ a' w' < μ a w) Q) a w) : (Code.scope ((Code.label l).seq c)).wp P Q a w :=
  wp_scope_jumps l J μ (rest := Code.skip.seq c) (by simp [findLabel]) (wp_seq (wp_label (Code.wp_mono (fun e a w h => by
    cases e with
    | goto l' => exact ⟨h.1, h.2.1⟩
    | _ => exact h) (pass a w h0)))) (fun a w h => wp_seq (wp_skip (pass a w h)))
def othN (p k : Nat) : Nat := p ^^^ 2 ^ k
def lowN (p k : Nat) : Nat := p &&& (18446744073709551615 - 2 ^ k)
/-- One goes up while the other half is free. -/
def joinL (x : Bx) : Nat → Bt → Nat → Nat → Bt × Nat × Nat
  | 0, t, p, k => (t, p, k)
  | d + 1, t, p, k => if aloneB x t (p : Int) (k : Int) = true then (if remE x t (othN p k) k = 0 then joinL x d (turnT (remT x t (othN p k) k) (p : Int) (k : Int)) (lowN p k) (k + 1) else (remT x t (othN p k) k, p, k)) else (t, p, k)
/-- Between two rounds of join. -/
def JoinR (x : Bx) (r : Bt × Nat × Nat) (w W : World) (p k : Nat) : Prop := ∃ t1, BdAt W x t1 ∧ Kept (bown x) w W ∧ joinL x (x.o - k) t1 p k = r
set_option maxRecDepth 6000 in
set_option maxHeartbeats 2000000 in
theorem join_any (x : Bx) (t : Bt) (p0 k0 : Nat) (hp0 : p0 ≤ 1024) (hk0 : k0 ≤ x.o) (w : World) (h : BdAt w x t) :
    Calls Tryz.prog 180 #[.pointer (some ⟨x.b, 0, none⟩), .int .i64 (p0 : Int), .int .i64 (k0 : Int)] w fun e w' => ∃ tr pr kr, (tr, pr, kr) = joinL x (x.o - k0) t p0 k0 ∧ e = .returned (.int .i64 (enterE x tr pr kr : Int)) ∧ BdAt w' x (enterT x tr pr kr) ∧ Kept (bown x) w w' := by
  have ho := h.o8
  obtain ⟨r, hr⟩ : ∃ r, r = joinL x (x.o - k0) t p0 k0 := ⟨_, rfl⟩
  rw [← hr]
  have H0 := hid (show JoinR x r w w p0 k0 from ⟨t, h, Kept.refl _ _, hr.symm⟩)
  clear h hr
  go_enter Tryz.func180, Tryz.ntmps180
  go_wp2_with fail
  refine wp_scope_loop 0 (fun a' W => ∃ (p k : Nat) (u7 u8 u9 u10 u11 u12 u13 u14 u15 u16 u17 u18 u19 u20 u21 u22 u23 u24 u25 u26 u27 u28 u29 u30 u31 u32 u33 u34 u35 u36 u37 u38 u39 u40 u41 : Value), a' = { tmps := #[.pointer (some ⟨x.b, 0, none⟩), .int .i64 (p : Int), .int .i64 (k : Int), undef, undef, undef, .int .i64 0, u7, u8, u9, u10, u11, u12, u13, u14, u15, u16, u17, u18, u19, u20, u21, u22, u23, u24, u25, u26, u27, u28, u29, u30, u31, u32, u33, u34, u35, u36, u37, u38, u39, u40, u41], defers := [] } ∧ k ≤ x.o ∧ p ≤ 1024 ∧ Hid (JoinR x r w W p k)) (fun a' _ => x.o - (intOf (a'.tmps.getD 2 undef)).toNat) ?_ ?_
  · exact ⟨p0, k0, _, _, _, _, _, _, _, _, _, _, _, _, _, _, _, _, _, _, _, _, _, _, _, _, _, _, _, _, _, _, _, _, _, _, _, rfl, hk0, hp0, H0⟩
  · rintro a' wr ⟨p, k, u7, u8, u9, u10, u11, u12, u13, u14, u15, u16, u17, u18, u19, u20, u21, u22, u23, u24, u25, u26, u27, u28, u29, u30, u31, u32, u33, u34, u35, u36, u37, u38, u39, u40, u41, rfl, hk, hp, hJ⟩
    obtain ⟨t1, hB, hK, hc⟩ := hJ.out
    have H1 := hid hB
    have K1 := hid hK
    have HC := hid hc
    clear hB hK hc hJ H0
    have hk0 : (0 : Int) ≤ (k : Int) := by omega
    have hki : (k : Int) < ((x.o + 1 : Nat) : Int) := by omega
    have hki2 : (k : Int) < (x.o : Int) + 1 := by omega
    have hki3 : k < x.o + 1 := by omega
    have hkw : IntKind.i64.wrap (k : Int) = (k : Int) := by rw [IntKind.wrap_i64]; omega
    obtain ⟨z, hz⟩ : ∃ z, z = 2 ^ k := ⟨_, rfl⟩
    have hzi : (2 : Int) ^ k = (z : Int) := by rw [hz]; simp
    have hz2 : z ≤ 256 := by rw [hz]; exact Nat.pow_le_pow_right (n := 2) (by decide) (show k ≤ 8 by omega)
    have hzw : IntKind.i64.wrap (z : Int) = (z : Int) := by rw [IntKind.wrap_i64]; omega
    obtain ⟨q, hq⟩ : ∃ q, q = othN p k := ⟨_, rfl⟩
    obtain ⟨lo, hlo⟩ : ∃ lo, lo = lowN p k := ⟨_, rfl⟩
    have hxor : bits .xor .i64 (p : Int) (z : Int) = (q : Int) := by rw [i64_xor_nat p z (by omega) (by omega), hq, othN, hz]
    have hand : bits .andNot .i64 (p : Int) (z : Int) = (lo : Int) := by rw [i64_andNot_nat p z (by omega) (by omega), hlo, lowN, hz]
    have hq4 : q ≤ 4000 := by
      have : q < 2 ^ 11 := by rw [hq, othN, ← hz]; exact Nat.xor_lt_two_pow (by omega) (by omega)
      omega
    have hlp : lo ≤ p := by rw [hlo]; exact Nat.and_le_left
    have c3 := H1.out.b3
    have cl := H1.out.lc k hk
    have AQ := hid (fun n => aloneQ_any x t1 (p : Int) (k : Int) (wr.drewN n) (H1.out.keep ((Kept.refl none' wr).drewN n)))
    obtain ⟨al, hal⟩ : ∃ al, al = aloneB x t1 (p : Int) (k : Int) := ⟨_, rfl⟩
    rw [← hal] at AQ
    cases al with
    | false =>
      have HE := hid (show r = (t1, p, k) by
        rw [← HC.out]
        cases hdd : x.o - k with
        | zero => rfl
        | succ d => rw [joinL, ← hal, if_neg (by decide)])
      clear hal hq hlo HC
      go_wp2_with fail
      go_quiet ((go_at_call 209; exact Calls.quiet_of (AQ.out _)))
      have H2 := hid (H1.out.keep ((Kept.refl none' wr).drewN nq))
      have K2 := hid (bown_trans K1.out (bown_none ((Kept.refl none' wr).drewN nq)))
      generalize wr.drewN nq = W2 at *
      go_wp2_with fail
      refine (enter_any x t1 p k (by omega) hk _ H2.out).mono ?_
      rintro e w3 ⟨rfl, hB, hK⟩
      have D := hid (And.intro hB (bown_trans K2.out hK))
      clear hB hK
      go_wp2_with fail
      simp only [Exit.jump]
      go_ret
      exact ⟨t1, p, k, HE.out.symm, rfl, D.out⟩
    | true =>
      have hko : k < x.o := by
        have e := hal.symm
        unfold aloneB at e
        simp only [Bool.and_eq_true, decide_eq_true_eq] at e
        omega
      obtain ⟨d, hd⟩ : ∃ d, x.o - k = d + 1 := ⟨x.o - k - 1, by omega⟩
      have HE := hid (show r = if remE x t1 q k = 0 then joinL x d (turnT (remT x t1 q k) (p : Int) (k : Int)) lo (k + 1) else (remT x t1 q k, p, k) by
        rw [← HC.out, hd, joinL, ← hal, if_pos rfl, ← hq, ← hlo])
      have HDD := hid (show d = x.o - (k + 1) by omega)
      have AL := hid (show Calls Tryz.prog 209 #[.pointer (some ⟨x.b, 0, none⟩), .int .i64 (p : Int), .int .i64 (k : Int)] wr.drew fun e w' => e = .returned (.bool true) ∧ Hid (BdAt w' x t1 ∧ Kept none' wr w') from (aloneQ_any x t1 (p : Int) (k : Int) wr.drew (H1.out.keep (Kept.refl none' wr).drew)).mono (by
        rintro e w' ⟨rfl, r', rfl⟩
        rw [← hal]
        exact ⟨rfl, H1.out.keep (((Kept.refl none' wr).drew).drewN r'), ((Kept.refl none' wr).drew).drewN r'⟩))
      have ADR := hid (show ∀ W, BdAt W x t1 → Calls Tryz.prog 182 #[.pointer (some ⟨x.b, 0, none⟩), .int .i64 (q : Int)] W fun e w' => e = .returned (.int .u64 ((ad x q : Nat) : Int)) ∧ w' = W from fun W hW => address_any x t1 q hq4 W hW)
      have REM := hid (fun W (hW : BdAt W x t1) => remB_any x t1 q k hq4 hk W hW)
      obtain ⟨a, ha⟩ : ∃ a, a = ad x q := ⟨_, rfl⟩
      rw [← ha] at ADR REM
      obtain ⟨e0, he0⟩ : ∃ e0, e0 = remE x t1 q k := ⟨_, rfl⟩
      rw [← he0] at HE REM
      clear hal hq hlo HC hd AQ ha he0 hz
      have c3d : wr.drew.cell? ⟨x.b, 3, none⟩ = some (.slice (some ⟨x.l, 0, none⟩) (x.o + 1) x.c) := c3
      have cld : wr.drew.cell? ⟨x.l, k, none⟩ = some (.pointer (some ⟨x.L k, 0, none⟩)) := cl
      by_cases h0 : e0 = 0
      · have h0i : (e0 : Int) = 0 := by omega
        have h0b : ((e0 : Int) == 0) = true := by simp [h0i]
        rw [if_pos h0] at HE
        clear h0
        go_wp2_with fail
        go_region_held3 (fun w' => w'.cell? ⟨x.b, 3, none⟩ = some (.slice (some ⟨x.l, 0, none⟩) (x.o + 1) x.c) ∧ w'.cell? ⟨x.l, k, none⟩ = some (.pointer (some ⟨x.L k, 0, none⟩))) (first | with_reducible exact ⟨c3d, cld⟩ | with_reducible exact ⟨c31, cl1⟩ | with_reducible exact ⟨c32, cl2⟩) (first | (go_at_call 209; refine AL.out.mono ?_; rintro e w1 ⟨rfl, hD⟩; have H2 := hid hD.out.1; have K2 := hid (bown_trans K1.out (bown_none hD.out.2)); have c31 := H2.out.b3; have cl1 := H2.out.lc k hk; clear hD) | (go_at_call 182; (try rw [hzw]); (try rw [hxor]); refine (ADR.out _ H2.out).mono ?_; rintro e w2 ⟨rfl, hw2⟩; rw [hw2]; clear hw2) | (go_at_call 188; refine (REM.out _ H2.out).mono ?_; rintro e w3 ⟨rfl, hB, hK⟩; have H3 := hid hB; have K3 := hid (bown_trans K2.out hK); have c32 := H3.out.b3; have cl2 := H3.out.lc k hk; clear hB hK))
        all_goals
          clear c3 cl c3d cld c31 cl1 c32 cl2 AL ADR REM h0b
          go_wp2_with fail
          refine (turn_any x _ (p : Int) (k : Int) _ H3.out).mono ?_
          rintro e w4 ⟨rfl, hB, hK⟩
          have N4 := hid (show JoinR x r w w4 lo (k + 1) from ⟨_, hB, bown_trans K3.out hK, by rw [← HDD.out]; exact HE.out.symm⟩)
          clear hB hK
          go_wp2_with fail
          go_step3
          exact ⟨rfl, ⟨lo, k + 1, _, _, _, _, _, _, _, _, _, _, _, _, _, _, _, _, _, _, _, _, _, _, _, _, _, _, _, _, _, _, _, _, _, _, _, rfl, by omega, by omega, N4⟩, by simp [intOf]; omega⟩
      · have h0i : ¬ (e0 : Int) = 0 := by omega
        have h0b : ((e0 : Int) == 0) = false := beq_eq_false_iff_ne.2 h0i
        rw [if_neg h0] at HE
        clear h0
        go_wp2_with fail
        go_region_held3 (fun w' => w'.cell? ⟨x.b, 3, none⟩ = some (.slice (some ⟨x.l, 0, none⟩) (x.o + 1) x.c) ∧ w'.cell? ⟨x.l, k, none⟩ = some (.pointer (some ⟨x.L k, 0, none⟩))) (first | with_reducible exact ⟨c3d, cld⟩ | with_reducible exact ⟨c31, cl1⟩ | with_reducible exact ⟨c32, cl2⟩) (first | (go_at_call 209; refine AL.out.mono ?_; rintro e w1 ⟨rfl, hD⟩; have H2 := hid hD.out.1; have K2 := hid (bown_trans K1.out (bown_none hD.out.2)); have c31 := H2.out.b3; have cl1 := H2.out.lc k hk; clear hD) | (go_at_call 182; (try rw [hzw]); (try rw [hxor]); refine (ADR.out _ H2.out).mono ?_; rintro e w2 ⟨rfl, hw2⟩; rw [hw2]; clear hw2) | (go_at_call 188; refine (REM.out _ H2.out).mono ?_; rintro e w3 ⟨rfl, hB, hK⟩; have H3 := hid hB; have K3 := hid (bown_trans K2.out hK); have c32 := H3.out.b3; have cl2 := H3.out.lc k hk; clear hB hK))
        all_goals
          clear c3 cl c3d cld c31 cl1 c32 cl2 AL ADR REM h0b
          go_wp2_with fail
          refine (enter_any x _ p k (by omega) hk _ H3.out).mono ?_
          rintro e w5 ⟨rfl, hB, hK⟩
          have D := hid (And.intro hB (bown_trans K3.out hK))
          clear hB hK
          go_wp2_with fail
          simp only [Exit.jump]
          go_ret
          exact ⟨_, p, k, HE.out.symm, rfl, D.out⟩
end Go.Proofs.YtgjapopddblpoaaGreatDoor
