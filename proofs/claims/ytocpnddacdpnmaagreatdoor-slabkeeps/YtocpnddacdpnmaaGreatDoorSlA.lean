import Derived.Test.YtocpnddacdpnmaaGreatDoorRgL
import Derived.Deep.QuietTactic
import Derived.BigQuiet
/- Package slab: where a slab lies; its small calls. -/
namespace Go.Proofs.YtocpnddacdpnmaaGreatDoor
open Go.RowKit
set_option linter.unusedVariables false

/-- The types of a pool's blocks. -/
def pty (e : TypeId) : Prop := e = 152 ∨ e = 5 ∨ e = 119 ∨ e = 49 ∨ e = 190 ∨ e = 217 ∨ e = 24 ∨ e = 209 ∨ e = 180 ∨ e = 177 ∨ e = 58
theorem Pol.pty {w W lw x t} (h : Pol w W lw x t) {y : Nat} {cs : Array Value} {e : TypeId} {z : Nat × Nat} (hy : W.heap[y]? = some (.cells cs e z)) (hb : bown x y ∨ y = x.b ∨ y = x.l ∨ y = lw) : pty e := by
  rcases hb with (hx | hx | ⟨k, hk, e2⟩) | rfl | rfl | rfl
  · obtain ⟨cs', t', z', h1, h2⟩ := space_ty h.bd.sp hx
    have e3 := ty_ne' hy h1
    subst e3
    rcases h2 with rfl | rfl
    · exact .inl rfl
    · exact .inr (.inl rfl)
  · rw [← h.bd.mo] at hx
    obtain ⟨cs', t', z', h1, h2⟩ := map_ty h.bd.mp hx
    have e3 := ty_ne' hy h1
    subst e3
    rcases h2 with rfl | rfl | rfl | rfl | rfl
    · exact .inr (.inr (.inl rfl))
    · exact .inr (.inr (.inr (.inl rfl)))
    · exact .inr (.inr (.inr (.inr (.inl rfl))))
    · exact .inr (.inr (.inr (.inr (.inr (.inl rfl)))))
    · exact .inr (.inr (.inr (.inr (.inr (.inr (.inl rfl))))))
  · rw [e2] at hy
    exact .inr (.inr (.inr (.inr (.inr (.inr (.inr (.inl (ty_ne' hy (h.bd.ls k hk).hc))))))))
  · exact .inr (.inr (.inr (.inr (.inr (.inr (.inr (.inr (.inl (ty_ne' hy h.bd.bs)))))))))
  · obtain ⟨cs', hl, _⟩ := h.bd.lr
    exact .inr (.inr (.inr (.inr (.inr (.inr (.inr (.inr (.inr (.inl (ty_ne' hy hl))))))))))
  · exact .inr (.inr (.inr (.inr (.inr (.inr (.inr (.inr (.inr (.inr (ty_ne' hy h.box))))))))))
/-- The table of the cells' sizes. -/
def Tab (w : World) : Prop := ∀ k, k < 8 → w.cell? ⟨0, k, none⟩ = some (.int .u64 ((16 * 2 ^ k : Nat) : Int))
/-- A slab's struct. -/
abbrev slO (lw base : Nat) (h : Nat → Int) : Obj := .cells #[.pointer (some ⟨lw, 0, none⟩), .int .u64 (base : Int), .int .i64 (h 0), .int .i64 (h 1), .int .i64 (h 2), .int .i64 (h 3), .int .i64 (h 4), .int .i64 (h 5), .int .i64 (h 6), .int .i64 (h 7)] 98
/-- A slab over a pool. -/
structure SW (w W : World) (sb lw : Nat) (x : Bx) (t : Bt) (h : Nat → Int) : Prop where
  pl : Pol w W lw x t
  bx : W.heap[sb]? = some (slO lw x.base h)
  nw : w.heap.size ≤ sb
  tb : Tab w
theorem SW.nsb {w W sb lw x t h} (s : SW w W sb lw x t h) : ¬ (bown x sb ∨ sb = x.b ∨ sb = x.l ∨ sb = lw) := fun e => absurd (s.pl.pty s.bx e) (by unfold Go.Proofs.YtocpnddacdpnmaaGreatDoor.pty; decide)
theorem SW.call {w W W' sb lw x t t' h} (s : SW w W sb lw x t h) (hb : BdAt W' x t') (k : Kept (bown x) W W') : SW w W' sb lw x t' h :=
  ⟨s.pl.call hb k, (k.block _ (heap_lt s.bx) (fun e => s.nsb (.inl e))).trans s.bx, s.nw, s.tb⟩
theorem SW.keep {w W W' sb lw x t h} (s : SW w W sb lw x t h) (k : Kept none' W W') : SW w W' sb lw x t h := s.call (s.pl.bd.keep k) (bown_none k)
theorem SW.map {w W W' sb lw x t h} {m' : Mp} (s : SW w W sb lw x t h) (hm : MapAt W' x.m x.B m') (k : Kept (mown x.m x.B t.m.o) W W') (ho : m'.o = t.m.o) : SW w W' sb lw x { t with m := m' } h ∧ Kept (bown x) W W' := by
  have k' : Kept (bown x) W W' := k.mono (fun y _ e => .inr (.inl (s.pl.bd.mo ▸ e)))
  exact ⟨s.call (s.pl.bd.map k hm ho) k', k'⟩
theorem SW.tab {w W sb lw x t h} (s : SW w W sb lw x t h) : Tab W := fun k hk => s.pl.kp.cell (fun e => e) (s.tb k hk)
theorem SW.c0 {w W sb lw x t h} (s : SW w W sb lw x t h) : W.cell? ⟨sb, 0, none⟩ = some (.pointer (some ⟨lw, 0, none⟩)) ∧ W.cell? ⟨sb, 1, none⟩ = some (.int .u64 (x.base : Int)) := by
  constructor <;> simp [World.cell?, s.bx]
theorem lt8 {P : Nat → Prop} (h0 : P 0) (h1 : P 1) (h2 : P 2) (h3 : P 3) (h4 : P 4) (h5 : P 5) (h6 : P 6) (h7 : P 7) : ∀ k, k < 8 → P k
  | 0, _ => h0
  | 1, _ => h1
  | 2, _ => h2
  | 3, _ => h3
  | 4, _ => h4
  | 5, _ => h5
  | 6, _ => h6
  | 7, _ => h7
  | _ + 8, h => absurd h (by omega)
theorem SW.hd {w W sb lw x t h} (s : SW w W sb lw x t h) (k : Nat) (hk : k < 8) : W.cell? ⟨sb, 2 + k, none⟩ = some (.int .i64 (h k)) := by
  revert k
  apply lt8 <;> simp [World.cell?, s.bx]
/-- A head is written. -/
def uphI (h : Nat → Int) (k : Nat) (v : Int) : Nat → Int := fun j => if j = k then v else h j
theorem SW.set {w W sb lw x t h} (s : SW w W sb lw x t h) (k : Nat) (hk : k < 8) (v : Int) : SW w (W.setCell ⟨sb, 2 + k, none⟩ (.int .i64 v)) sb lw x t (uphI h k v) := by
  have kp : Kept (fun y => y = sb) W (W.setCell ⟨sb, 2 + k, none⟩ (.int .i64 v)) := (Kept.refl (fun y => y = sb) W).setCell (p := ⟨sb, 2 + k, none⟩) rfl _
  have hn := s.nsb
  refine ⟨⟨(kp.block _ (heap_lt s.pl.box) (fun e => hn (.inr (.inr (.inr e.symm))))).trans s.pl.box, s.pl.bd.kept kp (fun y hy e => hn ?_), s.pl.nw, s.pl.kp.setNew (p := ⟨sb, 2 + k, none⟩) (fun e => absurd s.nw (Nat.not_le.2 e)) _⟩, ?_, s.nw, s.tb⟩
  · subst e
    rcases hy with hy | hy | hy
    · exact .inl hy
    · exact .inr (.inl hy)
    · exact .inr (.inr (.inl hy))
  · rw [heap_set s.bx]
    revert k
    apply lt8 <;> intros <;> simp [uphI]
/-- What is read of the slab is not written. -/
theorem SW.fz {w W sb lw x t h} (s : SW w W sb lw x t h) (j : Nat) : W.frozen? ⟨sb, j, none⟩ = false := by simp [World.frozen?, s.bx]
theorem page_wrap (p base : Nat) (hp : p < 18446744073709551616) (hb : base < 18446744073709551616) : IntKind.u64.wrap ((p : Int) - (base : Int)) = (((p + 18446744073709551616 - base) % 18446744073709551616 : Nat) : Int) := by
  rw [wrap_u64]
  omega
/-- How far an address lies behind the base. -/
def offS (x : Bx) (p : Nat) : Nat := (p + 18446744073709551616 - x.base) % 18446744073709551616
theorem page_s {w W sb lw x t h} (s : SW w W sb lw x t h) (p : Nat) (hp : p < 18446744073709551616) :
    Calls Tryz.prog 85 #[.pointer (some ⟨sb, 0, none⟩), .int .u64 (p : Int)] W fun e w' => e = .returned (.int .i64 ((offS x p / 4096 : Nat) : Int)) ∧ w' = W := by
  obtain ⟨c0, c1⟩ := s.c0
  have hb : x.base < 18446744073709551616 := by have := s.pl.bd.sp.cfg.be; omega
  have hw := page_wrap p x.base hp hb
  obtain ⟨d, hd⟩ : ∃ d, d = (p + 18446744073709551616 - x.base) % 18446744073709551616 := ⟨_, rfl⟩
  rw [← hd] at hw
  rw [show offS x p = d from hd.symm]
  have hdb : d < 18446744073709551616 := by rw [hd]; exact Nat.mod_lt _ (by decide)
  obtain ⟨q, hq⟩ : ∃ q, q = d / 4096 := ⟨_, rfl⟩
  have hqi : (d : Int) / 4096 = (q : Int) := by omega
  have hqb : q < 4503599627370496 := by omega
  rw [← hq]
  clear hd s hb hp hq
  go_enter Tryz.func85, Tryz.ntmps85
  go_wp2_with fail
  go_ret
  exact ⟨by simp, rfl⟩
end Go.Proofs.YtocpnddacdpnmaaGreatDoor
