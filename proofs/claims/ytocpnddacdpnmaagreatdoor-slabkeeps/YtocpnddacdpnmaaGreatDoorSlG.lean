import Derived.Test.YtocpnddacdpnmaaGreatDoorSlF
/- Package slab: words in the memory; the cell behind a free one; Size. -/
namespace Go.Proofs.YtocpnddacdpnmaaGreatDoor
open Go.RowKit
set_option linter.unusedVariables false

theorem space_some7 {w : World} {s : Nat} {a : Option Nat} {base R lim n : Nat} {f : Nat → Nat} (h : M.SpaceAt w s a base R lim n f) (hn : 0 < n) : ∃ g, a = some g := by
  obtain ⟨cap, hb, hr⟩ := h.ex
  cases a with
  | none => exact absurd hr.1 (by omega)
  | some g => exact ⟨g, rfl⟩
theorem Word_s {w W sb lw x t h} (s : SW w W sb lw x t h) (p : Nat) (hin : M.In x.base x.n p 8) :
    Calls Tryz.prog 45 #[.pointer (some ⟨x.s, 0, none⟩), .int .u64 (p : Int)] W fun e w' => e = .returned (.tuple #[.int .u64 ((M.word t.f (p - x.base) : Nat) : Int), .int .i64 0]) ∧ Kept none' W w' := by
  obtain ⟨g, hg⟩ := space_some7 s.pl.bd.sp (by unfold M.In at hin; omega)
  have hs := s.pl.bd.sp
  rw [hg] at hs
  exact (M.Word_in x.s g x.base x.R x.lim x.n t.f p W hs hin).mono fun e w' h => ⟨h.1, toK h.2⟩
theorem SetWord_s {w W sb lw x t h} (s : SW w W sb lw x t h) (p v : Nat) (hv : v < 18446744073709551616) (hin : M.In x.base x.n p 8) :
    Calls Tryz.prog 100 #[.pointer (some ⟨x.s, 0, none⟩), .int .u64 (p : Int), .int .u64 (v : Int)] W fun e w' => e = .returned (.int .i64 0) ∧ SW w w' sb lw x { t with f := M.upd t.f (p - x.base) 8 (M.byteOf v) } h ∧ Kept (bown x) W w' := by
  obtain ⟨g, hg⟩ := space_some7 s.pl.bd.sp (by unfold M.In at hin; omega)
  have hs := s.pl.bd.sp
  rw [hg] at hs
  refine (M.SetWord_in x.s g x.base x.R x.lim x.n t.f p v hv W hs hin).mono ?_
  rintro e w' ⟨rfl, h1, h2⟩
  rw [← hg] at h1 h2
  have kb : Kept (bown x) W w' := (toK h2).mono (fun _ _ e => .inl e)
  refine ⟨rfl, s.call ?_ kb, kb⟩
  exact s.pl.bd.space (toK h2) h1
theorem next_zero {w W sb lw x t h} (s : SW w W sb lw x t h) (p : Nat) (g : Int) (hin : M.In x.base x.n p 8) (hv : M.word t.f (p - x.base) = 0) :
    Calls Tryz.prog 90 #[.pointer (some ⟨sb, 0, none⟩), .int .u64 (p : Int), .int .i64 g] W fun e w' => e = .returned (.tuple #[.int .i64 (-1), .bool true]) ∧ Kept none' W w' := by
  have WD := hid (Word_s s p hin)
  rw [hv] at WD
  have SP := hid (Space6 s.pl)
  obtain ⟨c0, c1⟩ := s.c0
  clear s hv hin
  go_enter Tryz.func90, Tryz.ntmps90
  go_wp2_with fail
  refine SP.out.mono ?_
  rintro e w1 ⟨rfl, h1⟩
  replace h1 := h1.symm
  subst h1
  go_wp2_with fail
  refine WD.out.mono ?_
  rintro e w2 ⟨rfl, hk⟩
  have K2 := hid hk
  clear hk c0 c1
  go_wp2_with fail
  exact ⟨rfl, .tuple #[.int .i64 (-1), .bool true], by simp [results, Tryz.results90, go_sem], rfl, K2.out⟩
set_option maxRecDepth 4000 in
theorem next_cell {w W sb lw x t h} (s : SW w W sb lw x t h) (p g v : Nat) (hin : M.In x.base x.n p 8) (hv : M.word t.f (p - x.base) = v) (hv0 : v ≠ 0) (hv64 : v < 18446744073709551616) (hB : atB x t v = true) (hg : offS x v / 4096 = g) :
    Calls Tryz.prog 90 #[.pointer (some ⟨sb, 0, none⟩), .int .u64 (p : Int), .int .i64 (g : Int)] W fun e w' => e = .returned (.tuple #[.int .i64 ((atN x t v : Nat) : Int), .bool true]) ∧ Kept none' W w' := by
  have WD := hid (Word_s s p hin)
  rw [hv] at WD
  have SP := hid (Space6 s.pl)
  have AT := hid (show ∀ W', Kept none' W W' → Calls Tryz.prog 92 #[.pointer (some ⟨sb, 0, none⟩), .int .u64 (v : Int)] W' fun e w' => e = .returned (.tuple #[cvV (g : Int) ((atN x t v : Nat) : Int) (atQ x t v), .bool true]) ∧ Kept none' W' w' from fun W' k => by
    rw [← hg]
    exact at_yes (s.keep k) v hv64 hB)
  obtain ⟨c0, c1⟩ := s.c0
  have hvb : ((v : Int) == 0) = false := by rw [beq_eq_false_iff_ne]; omega
  generalize atN x t v = n at *
  generalize atQ x t v = q at *
  clear s hv hin hv0 hB hg
  go_enter Tryz.func90, Tryz.ntmps90
  go_wp2_with fail
  refine SP.out.mono ?_
  rintro e w1 ⟨rfl, h1⟩
  replace h1 := h1.symm
  subst h1
  go_wp2_with fail
  refine WD.out.mono ?_
  rintro e w2 ⟨rfl, hk⟩
  have K2 := hid hk
  clear hk c0 c1
  go_wp2_with fail
  refine (AT.out _ K2.out).mono ?_
  rintro e w3 ⟨rfl, hk⟩
  have K3 := hid (none_trans K2.out (hk.alloc (cvO (g : Int) (n : Int) q)))
  have X3 := hid (heap_new w3 (cvO (g : Int) (n : Int) q))
  clear hk
  go_upto_region 5 with fail
  generalize w3.heap.size = u at *
  generalize w3.alloc (cvO (g : Int) (n : Int) q) = W3 at *
  obtain ⟨a0, a1, _⟩ := cv13 X3.out
  have hgg : ((g : Int) == (g : Int)) = true := by simp
  go_quiet (fail)
  have K4 := hid (K3.out.drewN 1)
  go_wp2_with fail
  exact ⟨rfl, .tuple #[.int .i64 (n : Int), .bool true], by simp [results, Tryz.results90, go_sem], rfl, K3.out.drewN _⟩
end Go.Proofs.YtocpnddacdpnmaaGreatDoor
