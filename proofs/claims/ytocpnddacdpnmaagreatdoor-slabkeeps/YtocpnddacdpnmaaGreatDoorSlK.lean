import Derived.Test.YtocpnddacdpnmaaGreatDoorSlJ
/- Package slab: Open. -/
namespace Go.Proofs.YtocpnddacdpnmaaGreatDoor
open Go.RowKit
set_option linter.unusedVariables false

theorem info_num7 : (Tryz.prog.info? 3).map (fun i => i.size) = some 1 := by kernel_rfl
theorem Open_bad {W : World} {lw : Nat} (oa : Option Addr) (n cap : Nat) (hn : n ≠ 8) :
    Calls Tryz.prog 36 #[.pointer (some ⟨lw, 0, none⟩), .slice oa n cap] W fun e w' => e = .returned (.tuple #[.pointer none, .int .i64 7]) ∧ w' = W := by
  have hb : ((n : Int) != 8) = true := bne_iff_ne.2 (by omega)
  have hb2 : ¬ (n : Int) = 8 := by omega
  go_enter Tryz.func36, Tryz.ntmps36
  go_wp2_with fail
  exact ⟨rfl, .tuple #[.pointer none, .int .i64 7], by simp [results, Tryz.results36, go_sem], rfl, rfl⟩
def hdVs (h : Nat → Int) : List Value := [.int .i64 (h 0), .int .i64 (h 1), .int .i64 (h 2), .int .i64 (h 3), .int .i64 (h 4), .int .i64 (h 5), .int .i64 (h 6), .int .i64 (h 7)]
theorem hdVs_get (h : Nat → Int) (j : Nat) (u : Value) (e : (hdVs h)[j]? = some u) : j < 8 ∧ u = .int .i64 (h j) := by
  unfold hdVs at e
  rcases j with _ | _ | _ | _ | _ | _ | _ | _ | j <;> simp at e <;> (subst e; exact ⟨by omega, rfl⟩)
/-- Eight numbers in memory. -/
def Hd8 (W : World) (a : Addr) (h : Nat → Int) : Prop := ∀ j, j < 8 → W.cell? (a.add j) = some (.int .i64 (h j))
theorem Hd8.keep {W W' : World} {a : Addr} {h : Nat → Int} (s : Hd8 W a h) (k : Kept none' W W') : Hd8 W' a h := fun j hj => k.cell (fun e => e) (s j hj)
theorem Open7 {w W lw x t fr ls} (s : PO w W lw x t fr ls) (hT : Tab w) (a : Addr) (cap : Nat) (h : Nat → Int) (hh : Hd8 W a h) :
    Calls Tryz.prog 36 #[.pointer (some ⟨lw, 0, none⟩), .slice (some a) 8 cap] W fun e w' => ∃ sb, e = .returned (.tuple #[.pointer (some ⟨sb, 0, none⟩), .int .i64 0]) ∧ SW w w' sb lw x t h ∧ Kept none' W w' ∧ W.heap.size ≤ sb := by
  have OV := hid (over_s s hT)
  have HH := hid hh
  clear s hT hh
  go_enter Tryz.func36, Tryz.ntmps36
  go_wp2_with fail
  refine OV.out.mono ?_
  rintro e w1 ⟨sb, rfl, hs, hk, hz⟩
  obtain ⟨w2, hw2⟩ : ∃ w2, w2 = w1.setRow sb #[.pointer (some ⟨lw, 0, none⟩), .int .u64 (x.base : Int), .int .i64 (h 0), .int .i64 (h 1), .int .i64 (h 2), .int .i64 (h 3), .int .i64 (h 4), .int .i64 (h 5), .int .i64 (h 6), .int .i64 (h 7)] := ⟨_, rfl⟩
  have CP := hid (show ∀ ty, (Builtin.copy_ #[43, 43] ty #[.slice (some ⟨sb, 2, none⟩) 8 8, .slice (some a) 8 cap]).run Tryz.prog w1 = .ok (goInt 8) w2 from fun ty => by
    have := run_copy_row (P := Tryz.prog) w1 43 43 ty 3 sb 2 8 8 a 8 cap _ 98 (hdVs h) Tryz.underlying43 info_num7 hs.bx rfl (fun j u e => by
      obtain ⟨h1, rfl⟩ := hdVs_get h j u e
      exact (HH.out.keep hk) j h1) (Nat.le_refl 10) (fun u hu => by
      simp [hdVs] at hu
      rcases hu with rfl | rfl | rfl | rfl | rfl | rfl | rfl | rfl <;> rfl)
    rw [this, hw2]
    rfl)
  have kp : Kept (fun y => y = sb) w1 w2 := by
    rw [hw2]
    exact ⟨rfl, rfl, rfl, by simp [World.setRow], fun i hi hn => setRow_other w1 sb i _ hn⟩
  have D := hid (show SW w w2 sb lw x t h ∧ Kept none' W w2 ∧ W.heap.size ≤ sb from by
    have hn := hs.nsb
    have k0 : Kept none' W w2 := hk.trans kp (fun _ _ e => e) (fun y hy e => absurd (show y < sb by omega) (by rw [show y = sb from e]; exact Nat.lt_irrefl _))
    refine ⟨⟨⟨(kp.block _ (heap_lt hs.pl.box) (fun e => hn (.inr (.inr (.inr e.symm))))).trans hs.pl.box, hs.pl.bd.kept kp (fun y hy e => hn ?_), hs.pl.nw, hs.pl.kp.trans kp (fun _ _ e => e) (fun y hy e => absurd hs.nw (Nat.not_le.2 (e ▸ hy)))⟩, ?_, hs.nw, hs.tb⟩, k0, hz⟩
    · rw [show y = sb from e] at hy
      rcases hy with hy | hy | hy
      · exact .inl hy
      · exact .inr (.inl hy)
      · exact .inr (.inr (.inl hy))
    · rw [hw2]
      exact setRow_heap w1 sb _ _ _ _ hs.bx)
  clear hw2 kp hs hk hz OV
  have hcp := CP.out
  clear CP
  go_wp2_with fail
  exact ⟨rfl, .tuple #[.pointer (some ⟨sb, 0, none⟩), .int .i64 0], by simp [results, Tryz.results36, go_sem], sb, rfl, D.out⟩
end Go.Proofs.YtocpnddacdpnmaaGreatDoor
