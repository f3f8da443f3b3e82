/- Commit, Decommit. -/
import Derived.Test.YthglogiglimebaaMemF
namespace Go.Proofs.Ythglogiglimebaa.M
open Go.RowKit
set_option linter.unusedVariables false

theorem div_k (k R : Nat) (hR : 4096 ≤ R) : k * R / R = k := Nat.mul_div_cancel _ (by omega)

theorem ret_pair64 {a b : Int} {c d : Int} (h : a = b) (h2 : c = d) : Ending.returned (.tuple #[.int .u64 a, .int .i64 c]) = .returned (.tuple #[.int .u64 b, .int .i64 d]) := by rw [h, h2]

theorem Commit_deny (b ao base R lim n f) (w : World) (h : SpaceAt w b ao base R lim n f) :
    Calls Try.prog 23 #[.pointer (some ⟨b, 0, none⟩), .bool true] w fun e w' => e = .returned (.tuple #[.int .u64 0, .int .i64 2]) ∧ Kept none' w w' := by
  have h2 := h.c2
  clear h
  go_enter Try.func23, Try.ntmps23
  go_wp2
  go_quiet (fail)
  go_wp2
  go_ret2
  exact ⟨rfl, (Kept.refl _ w).drewN _⟩

theorem Commit_full (b ao base R lim n f) (w : World) (h : SpaceAt w b ao base R lim n f) (hn : n = lim * R) :
    Calls Try.prog 23 #[.pointer (some ⟨b, 0, none⟩), .bool false] w fun e w' => e = .returned (.tuple #[.int .u64 0, .int .i64 2]) ∧ Kept none' w w' := by
  have h2 := h.c2
  have hreg := fun m => regions_any b ao base R lim n f (w.drewN m) ⟨h.cfg, h.kn, h.ex⟩
  have e1 : n / R = lim := by rw [hn]; exact div_k lim R h.cfg.r1
  rw [e1] at hreg
  have HR := hid hreg
  clear h hreg e1 hn
  go_enter Try.func23, Try.ntmps23
  go_wp2
  go_quiet ((go_at_call 49; exact Calls.quiet_of (HR.out _)))
  go_wp2
  go_ret2
  exact ⟨rfl, (Kept.refl _ w).drewN _⟩

theorem Commit_ok (b ao base R lim n f) (w : World) (h : SpaceAt w b ao base R lim n f) (hkn : ∃ k, n = k * R ∧ k + 1 ≤ lim) :
    Calls Try.prog 23 #[.pointer (some ⟨b, 0, none⟩), .bool false] w fun e w' => e = .returned (.tuple #[.int .u64 ((base + n : Nat) : Int), .int .i64 0]) ∧ ∃ g', SpaceAt w' b (some g') base R lim (n + R) (more f n) ∧ Kept (own b ao) w w' ∧ (ao = some g' ∨ w.heap.size ≤ g') := by
  have h2 := h.c2
  have hreg := fun m => regions_any b ao base R lim n f (w.drewN m) ⟨h.cfg, h.kn, h.ex⟩
  have hend := fun m => end_any b ao base R lim n f (w.drewN m) ⟨h.cfg, h.kn, h.ex⟩
  obtain ⟨q, hq⟩ : ∃ q, q = n / R := ⟨_, rfl⟩
  have hql : q < lim ∧ q ≤ 64 := by
    obtain ⟨k, rfl, hk⟩ := hkn
    rw [hq, div_k k R h.cfg.r1]
    have := h.cfg.l2
    omega
  have hqne : ((q : Int) == (lim : Int)) = false := by rw [beq_eq_false_iff_ne]; omega
  rw [← hq] at hreg
  have HR := hid hreg
  have HE := hid hend
  have hc := h.cfg
  obtain ⟨cap, hb, hr⟩ := h.ex
  have h3 : w.cell? ⟨b, 3, none⟩ = some (.slice (adr ao) n cap) := by simp [World.cell?, hb]
  have h1 := h.c1
  have HC := hid hc
  have HN := hid hkn
  have HB := hid hb
  have HRW := hid hr
  clear h hreg hend hq hql hc hb hr hkn
  go_enter Try.func23, Try.ntmps23
  go_wp2
  go_quiet ((go_at_call 49; exact Calls.quiet_of (HR.out _)))
  go_wp2_with fail
  refine (HE.out _).mono ?_
  rintro e w' ⟨rfl, m, rfl⟩
  go_wp2
  go_region_law ((refine step_append_zeros rfl (.tmp 23) (.tmp 27) rfl b ao base R lim n f cap HC.out HN.out HB.out HRW.out rfl rfl ?_; intro g' cap' w' hA hc3 hf3))
  all_goals (go_wp2; go_ret2)
  all_goals exact ⟨ret_pair64 (by simp) rfl, g', hA.out.sp, (show Kept (own b ao) w w' from ⟨hA.out.k.os, hA.out.k.tape, hA.out.k.output, hA.out.k.size, hA.out.k.block⟩).setCell (fun _ => Or.inl rfl) _, hA.out.g⟩

theorem Decommit_bad (b ao base R lim n f) (c : Int) (hlo : -9223372036854775808 ≤ c) (hhi : c ≤ 9223372036854775807) (w : World) (h : SpaceAt w b ao base R lim n f) (hc : c < 0 ∨ ((n / R : Nat) : Int) < c) :
    Calls Try.prog 77 #[.pointer (some ⟨b, 0, none⟩), .int .i64 c] w fun e w' => e = .returned (.int .i64 1) ∧ Kept none' w w' := by
  have HH := hid h
  clear h
  by_cases h0 : c < 0
  · clear hc
    go_enter Try.func77, Try.ntmps77
    go_wp2_with fail
    go_ret
    exact ⟨rfl, Kept.refl _ w⟩
  · have h1 := hc.resolve_left h0
    obtain ⟨q, hq⟩ : ∃ q, q = n / R := ⟨_, rfl⟩
    rw [← hq] at h1
    have HQ := hid hq
    clear hc hq
    go_enter Try.func77, Try.ntmps77
    go_wp2_with fail
    refine (regions_any b ao base R lim n f _ HH.out).mono ?_
    rw [← HQ.out]
    rintro e w' ⟨rfl, m, rfl⟩
    go_wp2
    go_ret
    exact ⟨rfl, (Kept.refl _ w).drewN _⟩

theorem SpaceAt.less {w b ao base R lim n f} (h : SpaceAt w b ao base R lim n f) (n' cap : Nat) (h3 : w.cell? ⟨b, 3, none⟩ = some (.slice (adr ao) n cap)) (hn : ∃ k, n' = k * R ∧ k ≤ lim) (hle : n' ≤ n) :
    SpaceAt (w.setCell ⟨b, 3, none⟩ (.slice (adr ao) n' cap)) b ao base R lim n' f := by
  obtain ⟨cap', hb, hr⟩ := h.ex
  have e : cap' = cap := by
    have : w.cell? ⟨b, 3, none⟩ = some (.slice (adr ao) n cap') := by simp [World.cell?, hb]
    rw [this] at h3
    injection h3 with h3
    injection h3
  subst e
  refine ⟨h.cfg, hn, cap', ?_, ?_⟩
  · simp only [World.setCell]
    rw [Array.getElem?_modify, if_pos rfl, hb]
    simp
  · cases ao with
    | none => exact ⟨by have := hr.1; omega, hr.2⟩
    | some g =>
      obtain ⟨h1, rs, h2, h3, h4, h5, h6⟩ := hr
      exact ⟨h1, rs, h2, by rw [Below.heap_setCell _ _ _ _ h1]; exact h3, by omega, fun i hi => h5 i (by omega), h6⟩

theorem Decommit_ok (b ao base R lim n f) (c : Nat) (w : World) (h : SpaceAt w b ao base R lim n f) (hc : c ≤ n / R) :
    Calls Try.prog 77 #[.pointer (some ⟨b, 0, none⟩), .int .i64 (c : Int)] w fun e w' => e = .returned (.int .i64 0) ∧ SpaceAt w' b ao base R lim (n - c * R) f ∧ Kept (own b ao) w w' := by
  have HH := hid h
  obtain ⟨k, hn, hk⟩ := h.kn
  have hcfg := h.cfg
  have r1 := hcfg.r1
  have r2 := hcfg.r2
  have lr := hcfg.lr
  have l2 := hcfg.l2
  have hq : n / R = k := by rw [hn]; exact div_k k R r1
  rw [hq] at hc
  obtain ⟨cap, h3⟩ := h.c3
  have hfz := h.fb 3
  have h1 := h.c1
  obtain ⟨d, hd⟩ : ∃ d, d = c * R := ⟨_, rfl⟩
  have hdn : d ≤ n := by rw [hd, hn]; exact Nat.mul_le_mul_right _ hc
  have hnk : n ≤ lim * R := h.nle
  obtain ⟨n', hn'⟩ : ∃ n', n' = n - d := ⟨_, rfl⟩
  rw [← hd, ← hn']
  have hn2 : n ≤ 4194304 := by omega
  have hmul : (c : Int) * (R : Int) = (d : Int) := by rw [hd]; simp
  have hsub : (n : Int) - (d : Int) = (n' : Int) := by omega
  have hncap : n ≤ cap := by
    obtain ⟨cap', hb, hr⟩ := h.ex
    have : w.cell? ⟨b, 3, none⟩ = some (.slice (adr ao) n cap') := by simp [World.cell?, hb]
    rw [this] at h3
    injection h3 with h3
    injection h3 with _ _ e
    subst e
    cases ao with
    | none => exact Nat.le_of_eq (hr.1.trans hr.2.symm)
    | some g =>
      obtain ⟨_, rs, _, _, h4, _⟩ := hr
      exact h4
  have hk2 : n' = (k - c) * R := by rw [hn', hd, hn, Nat.sub_mul]
  have FIN := hid (show ∀ m, SpaceAt ((w.setCell ⟨b, 3, none⟩ (.slice (adr ao) n' cap)).drewN m) b ao base R lim n' f ∧ Kept (own b ao) w ((w.setCell ⟨b, 3, none⟩ (.slice (adr ao) n' cap)).drewN m) from fun m =>
    ⟨(h.less n' cap h3 ⟨k - c, hk2, by omega⟩ (by omega)).keep ((Kept.refl _ _).drewN m), ((Kept.refl (own b ao) w).setCell (fun _ => Or.inl rfl) _).drewN m⟩)
  have hreg := hid (show ∀ m, Calls Try.prog 49 #[.pointer (some ⟨b, 0, none⟩)] (w.drewN m) fun e w' => e = .returned (.int .i64 (k : Int)) ∧ ∃ m', w' = (w.drewN m).drewN m' from fun m => by
    have := regions_any b ao base R lim n f (w.drewN m) ⟨h.cfg, h.kn, h.ex⟩
    rw [hq] at this
    exact this)
  have hnn : n' ≤ cap := by omega
  have hck : (c : Int) ≤ (k : Int) := by omega
  have hk64 : k ≤ 64 := by omega
  have hcapd : ∀ g, ao = some g → ∀ o, (adr ao) = some o → o = ⟨g, 0, none⟩ := by rintro g rfl o e; simp [adr] at e; exact e.symm
  have hnone : ao = none → n' = 0 ∧ cap = 0 := by
    rintro rfl
    obtain ⟨cap', hb, hr⟩ := h.ex
    have : w.cell? ⟨b, 3, none⟩ = some (.slice (adr none) n cap') := by simp [World.cell?, hb]
    rw [this] at h3
    injection h3 with h3
    injection h3 with _ _ e
    subst e
    exact ⟨by have := hr.1; omega, hr.2⟩
  clear h hcfg hq hn hk hd hdn hnk hn' hk2 lr l2 hncap HH hcapd
  cases ao with
  | none =>
    obtain ⟨rfl, rfl⟩ := hnone rfl
    have hadr : adr none = none := rfl
    rw [hadr] at h3 FIN
    clear hnone hadr
    go_enter Try.func77, Try.ntmps77
    go_wp2_with fail
    refine (hreg.out 0).mono ?_
    rintro e w' ⟨rfl, m, rfl⟩
    go_wp2
    go_region
    all_goals (go_wp2; go_ret; exact ⟨rfl, FIN.out _⟩)
  | some g =>
    have hadr : adr (some g) = some ⟨g, 0, none⟩ := rfl
    rw [hadr] at h3 FIN
    clear hnone hadr
    go_enter Try.func77, Try.ntmps77
    go_wp2_with fail
    refine (hreg.out 0).mono ?_
    rintro e w' ⟨rfl, m, rfl⟩
    go_wp2
    go_region
    all_goals (go_wp2; go_ret; exact ⟨rfl, FIN.out _⟩)
end Go.Proofs.Ythglogiglimebaa.M
