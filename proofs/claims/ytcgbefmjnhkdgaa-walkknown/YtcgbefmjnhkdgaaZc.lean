import Derived.Test.YtcgbefmjnhkdgaaZb
set_option maxRecDepth 1000000
set_option maxHeartbeats 80000000
/- Commit, Decommit. -/
namespace Go.Proofs.Ytcgbefmjnhkdgaa.M
open Go.RowKit
set_option linter.unusedVariables false

theorem div_k (k R : Nat) (hR : 4096 ≤ R) : k * R / R = k := Nat.mul_div_cancel _ (by omega)

theorem ret_pair64 {a b : Int} {c d : Int} (h : a = b) (h2 : c = d) : Ending.returned (.tuple #[.int .u64 a, .int .i64 c]) = .returned (.tuple #[.int .u64 b, .int .i64 d]) := by rw [h, h2]

theorem Commit_deny (b ao base R lim n f) (w : World) (h : SpaceAt w b ao base R lim n f) :
    Calls Try.prog 50 #[.pointer (some ⟨b, 0, none⟩), .bool true] w fun e w' => e = .returned (.tuple #[.int .u64 0, .int .i64 2]) ∧ Kept none' w w' := by
  have h2 := h.c2
  clear h
  go_enter Try.func50, Try.ntmps50
  go_wp2
  go_quiet (fail)
  go_wp2
  go_ret2
  exact ⟨rfl, (Kept.refl _ w).drewN _⟩

theorem Commit_full (b ao base R lim n f) (w : World) (h : SpaceAt w b ao base R lim n f) (hn : n = lim * R) :
    Calls Try.prog 50 #[.pointer (some ⟨b, 0, none⟩), .bool false] w fun e w' => e = .returned (.tuple #[.int .u64 0, .int .i64 2]) ∧ Kept none' w w' := by
  have h2 := h.c2
  have hreg := fun m => regions_any b ao base R lim n f (w.drewN m) ⟨h.cfg, h.kn, h.ex⟩
  have e1 : n / R = lim := by rw [hn]; exact div_k lim R h.cfg.r1
  rw [e1] at hreg
  have HR := hid hreg
  clear h hreg e1 hn
  go_enter Try.func50, Try.ntmps50
  go_wp2
  go_quiet ((go_at_call 85; exact Calls.quiet_of (HR.out _)))
  go_wp2
  go_ret2
  exact ⟨rfl, (Kept.refl _ w).drewN _⟩

theorem Commit_ok (b ao base R lim n f) (w : World) (h : SpaceAt w b ao base R lim n f) (hkn : ∃ k, n = k * R ∧ k + 1 ≤ lim) :
    Calls Try.prog 50 #[.pointer (some ⟨b, 0, none⟩), .bool false] w fun e w' => e = .returned (.tuple #[.int .u64 ((base + n : Nat) : Int), .int .i64 0]) ∧ ∃ g', SpaceAt w' b (some g') base R lim (n + R) (more f n) ∧ Kept (own b ao) w w' ∧ (ao = some g' ∨ w.heap.size ≤ g') := by
  have h2 := h.c2
  have hreg := fun m => regions_any b ao base R lim n f (w.drewN m) ⟨h.cfg, h.kn, h.ex⟩
  have hend := fun m => end_any b ao base R lim n f (w.drewN m) ⟨h.cfg, h.kn, h.ex⟩
  obtain ⟨q, hq⟩ : ∃ q, q = n / R := ⟨_, rfl⟩
  have hql : q < lim ∧ q ≤ 64 := by
    obtain ⟨k, rfl, hk⟩ := hkn
    rw [hq, div_k k R h.cfg.r1]
    have := h.cfg.l2
    omega
  have hqne : ((q : Int) == (lim : Int)) = false := by rw [beq_eq_false_iff_ne]; omega
  rw [← hq] at hreg
  have HR := hid hreg
  have HE := hid hend
  have hc := h.cfg
  obtain ⟨cap, hb, hr⟩ := h.ex
  have h3 : w.cell? ⟨b, 3, none⟩ = some (.slice (adr ao) n cap) := by simp [World.cell?, hb]
  have h1 := h.c1
  have HC := hid hc
  have HN := hid hkn
  have HB := hid hb
  have HRW := hid hr
  clear h hreg hend hq hql hc hb hr hkn
  go_enter Try.func50, Try.ntmps50
  go_wp2
  go_quiet ((go_at_call 85; exact Calls.quiet_of (HR.out _)))
  go_wp2_with fail
  refine (HE.out _).mono ?_
  rintro e w' ⟨rfl, m, rfl⟩
  go_wp2
  go_region_law ((refine step_append_zeros rfl (.tmp 23) (.tmp 27) rfl b ao base R lim n f cap HC.out HN.out HB.out HRW.out rfl rfl ?_; intro g' cap' w' hA hc3 hf3))
  all_goals (go_wp2; go_ret2)
  all_goals exact ⟨ret_pair64 (by simp) rfl, g', hA.out.sp, (show Kept (own b ao) w w' from ⟨hA.out.k.os, hA.out.k.tape, hA.out.k.output, hA.out.k.size, hA.out.k.block⟩).setCell (fun _ => Or.inl rfl) _, hA.out.g⟩

theorem SpaceAt.less {w b ao base R lim n f} (h : SpaceAt w b ao base R lim n f) (n' cap : Nat) (h3 : w.cell? ⟨b, 3, none⟩ = some (.slice (adr ao) n cap)) (hn : ∃ k, n' = k * R ∧ k ≤ lim) (hle : n' ≤ n) :
    SpaceAt (w.setCell ⟨b, 3, none⟩ (.slice (adr ao) n' cap)) b ao base R lim n' f := by
  obtain ⟨cap', hb, hr⟩ := h.ex
  have e : cap' = cap := by
    have : w.cell? ⟨b, 3, none⟩ = some (.slice (adr ao) n cap') := by simp [World.cell?, hb]
    rw [this] at h3
    injection h3 with h3
    injection h3
  subst e
  refine ⟨h.cfg, hn, cap', ?_, ?_⟩
  · simp only [World.setCell]
    rw [Array.getElem?_modify, if_pos rfl, hb]
    simp
  · cases ao with
    | none => exact ⟨by have := hr.1; omega, hr.2⟩
    | some g =>
      obtain ⟨h1, rs, h2, h3, h4, h5, h6⟩ := hr
      exact ⟨h1, rs, h2, by rw [Below.heap_setCell _ _ _ _ h1]; exact h3, by omega, fun i hi => h5 i (by omega), h6⟩

end Go.Proofs.Ytcgbefmjnhkdgaa.M
