import Derived.Test.YtcgbefmjnhkdgaaWk
import Derived.Deep.DeepCutAuto
set_option maxRecDepth 1000000
set_option maxHeartbeats 80000000
/- slab.Open, malloc.New, malloc.Open: that they answer. -/
namespace Go.Proofs.Ytcgbefmjnhkdgaa.H
open Go.RowKit
set_option linter.unusedVariables false
set_option maxHeartbeats 4000000
set_option maxRecDepth 4000

theorem info_num7 : (Try.prog.info? 3).map (fun i => i.size) = some 1 := by kernel_rfl
def hdVs (h : Nat → Int) : List Value := [.int .i64 (h 0), .int .i64 (h 1), .int .i64 (h 2), .int .i64 (h 3), .int .i64 (h 4), .int .i64 (h 5), .int .i64 (h 6), .int .i64 (h 7)]
theorem hdVs_get (h : Nat → Int) (j : Nat) (u : Value) (e : (hdVs h)[j]? = some u) : j < 8 ∧ u = .int .i64 (h j) := by
  unfold hdVs at e
  rcases j with _ | _ | _ | _ | _ | _ | _ | _ | j <;> simp at e <;> (subst e; exact ⟨by omega, rfl⟩)
/-- Eight numbers in memory. -/
def Hd8 (W : World) (a : Addr) (h : Nat → Int) : Prop := ∀ j, j < 8 → W.cell? (a.add j) = some (.int .i64 (h j))
theorem Hd8.keep {W W' : World} {a : Addr} {h : Nat → Int} (s : Hd8 W a h) (k : Kept none' W W') : Hd8 W' a h := fun j hj => k.cell (fun e => e) (s j hj)

theorem slabOpen9 {W : World} {lw s m b : Nat} {ao : Option Nat} {base R lim n : Nat} {f : Nat → Nat} {B : Bs} {mp : Mp} (hP : PoW W lw s m b ao base R lim n f B mp) (hn : mp.n * 4096 = n) (hb : base + n ≤ 9223372036854775808) (hm : mp.n ≤ 1024) (a : Addr) (cap : Nat) (h : Nat → Int) (hh : Hd8 W a h) :
    Calls Try.prog 29 #[.pointer (some ⟨lw, 0, none⟩), .slice (some a) 8 cap] W fun e w' => ∃ sb, e = .returned (.tuple #[.pointer (some ⟨sb, 0, none⟩), .int .i64 0]) ∧ Kept none' W w' := by
  have OV := hid (over9 hP hn hb hm)
  have HH := hid hh
  clear hP hn hb hm hh
  go_enter Try.func29, Try.ntmps29
  go_wp2_with fail
  refine OV.out.mono ?_
  rintro e w1 ⟨sb, b0, rfl, hs, hk, hz⟩
  obtain ⟨w2, hw2⟩ : ∃ w2, w2 = w1.setRow sb #[.pointer (some ⟨lw, 0, none⟩), .int .u64 (b0 : Int), .int .i64 (h 0), .int .i64 (h 1), .int .i64 (h 2), .int .i64 (h 3), .int .i64 (h 4), .int .i64 (h 5), .int .i64 (h 6), .int .i64 (h 7)] := ⟨_, rfl⟩
  have CP := hid (show ∀ ty, (Builtin.copy_ #[29, 29] ty #[.slice (some ⟨sb, 2, none⟩) 8 8, .slice (some a) 8 cap]).run Try.prog w1 = .ok (goInt 8) w2 from fun ty => by
    have := run_copy_row (P := Try.prog) w1 29 29 ty 3 sb 2 8 8 a 8 cap _ 102 (hdVs h) Try.underlying29 info_num7 hs rfl (fun j u e => by
      obtain ⟨h1, rfl⟩ := hdVs_get h j u e
      exact (HH.out.keep hk) j h1) (Nat.le_refl 10) (fun u hu => by
      simp [hdVs] at hu
      rcases hu with rfl | rfl | rfl | rfl | rfl | rfl | rfl | rfl <;> rfl)
    rw [this, hw2]
    rfl)
  have kp : Kept (fun y => y = sb) w1 w2 := by
    rw [hw2]
    exact ⟨rfl, rfl, rfl, by simp [World.setRow], fun i hi hn => setRow_other w1 sb i _ hn⟩
  have D := hid (show Kept none' W w2 from hk.trans kp (fun _ _ e => e) (fun y hy e => absurd (show y < sb by omega) (by rw [show y = sb from e]; exact Nat.lt_irrefl _)))
  clear hw2 kp hs hk hz OV
  have hcp := CP.out
  clear CP
  go_wp2_with fail
  exact ⟨rfl, .tuple #[.pointer (some ⟨sb, 0, none⟩), .int .i64 0], by simp [results, Try.results29, go_sem], sb, rfl, D.out⟩
/-- A call answers an object and no error. -/
def OkP (w : World) (e : Ending) (w' : World) : Prop := ∃ hb, e = .returned (.tuple #[.pointer (some ⟨hb, 0, none⟩), .int .i64 0]) ∧ Kept none' w w'
theorem mallocNew9 (base lim o : Nat) (hb64 : base < 18446744073709551616) (hl : lim ≤ 64) (ho : o ≤ 8) (hm : M.mayB base (lim : Int) (o : Int) = true) (hbe : base ≤ 9223372036854775808) (w : World) :
    Calls Try.prog 17 #[cfgV base (lim : Int) (o : Int)] w (OkP w) := by
  have RN := hid (fun W => regionNew9 base lim o hb64 hl ho hm W)
  have K0 := hid ((Kept.refl none' w).alloc (cfgO base (lim : Int) (o : Int)))
  have X0 := hid (heap_new w (cfgO base (lim : Int) (o : Int)))
  clear hm
  go_enter Try.func17, Try.ntmps17
  obtain ⟨x0, x1, x2⟩ := cfg3 X0.out
  go_wp2_with fail
  generalize w.alloc (cfgO base (lim : Int) (o : Int)) = W0 at *
  generalize w.heap.size = cb at *
  refine (RN.out W0).mono ?_
  rintro e w1 ⟨lw, s, m, b, B, f, rfl, hP, hk1⟩
  have P1 := hid hP
  have K1 := hid (none_trans K0.out hk1)
  have X1 := hid ((hk1.block _ (heap_lt X0.out) (fun x => x)).trans X0.out)
  clear hP hk1 x0 x1 x2
  go_wp2_with fail
  have KD := hid (show Kept none' w1 w1.drew from (Kept.refl none' w1).drew)
  have SN := hid (slabNew9 (P1.out.keep KD.out) (show (newM o).n * 4096 = 0 from Nat.zero_mul _) (by omega) (show (newM o).n ≤ 1024 from Nat.zero_le _))
  obtain ⟨x0, x1, x2⟩ := cfg3 ((KD.out.block _ (heap_lt X1.out) (fun x => x)).trans X1.out)
  go_cut [2, 3] (fun v u W => ∃ hb : Nat, v = .pointer (some ⟨hb, 0, none⟩) ∧ u = .int .i64 0 ∧ Hid (Kept none' w1 W))
  case first =>
    go_region_held3 (fun w' => w'.cell? ⟨cb, 0, none⟩ = some (.int .u64 (base : Int)) ∧ w'.cell? ⟨cb, 1, none⟩ = some (.int .i64 (lim : Int)) ∧ w'.cell? ⟨cb, 2, none⟩ = some (.int .i64 (o : Int))) (first | with_reducible exact ⟨x0, x1, x2⟩ | with_reducible exact Z2 | with_reducible exact Z3 _) (first | (go_at_call 27; with_reducible refine SN.out.mono ?_; rintro e w2 ⟨sb, rfl, hk2⟩; have K2 := hid (none_trans KD.out hk2); have X2 := hid ((K2.out.block _ (heap_lt X1.out) (fun x => x)).trans X1.out); have Z2 := cfg3 X2.out; have Z3 := fun ob => cfg3 ((((Kept.refl none' w2).alloc ob).block _ (heap_lt X2.out) (fun x => x)).trans X2.out); clear hk2) | fail)
    all_goals
      have KF := hid (fun ob => K2.out.alloc ob)
      go_wp2_with fail
      go_meet
      exact ⟨_, rfl, rfl, KF.out _⟩
  case rest =>
  obtain ⟨hb, rfl, rfl, hH⟩ := hcut
  have KF := hid (none_trans K1.out hH.out)
  go_wp2_with fail
  exact ⟨rfl, .tuple #[.pointer (some ⟨hb, 0, none⟩), .int .i64 0], by simp [results, Try.results17, go_sem], hb, rfl, KF.out⟩
end Go.Proofs.Ytcgbefmjnhkdgaa.H
