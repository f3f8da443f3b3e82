import Derived.Test.YthglogiglimebaaGreatPwQ
import Derived.Test.YthglogiglimebaaGreatQi
import Derived.Test.YthglogiglimebaaGreatKps
import Derived.Deep.RegionHeld3
/- BuddyPlays: the step Fill. -/
namespace Go.Proofs.YthglogiglimebaaGreat
open Go.RowKit
set_option linter.unusedVariables false

/-- A live block is filled. -/
theorem fill_pw {E w W lw c x t fr ls fa fc va n vc} (h : PW E w W lw c x t fr ls fa fc va n vc) (p k : Nat) (hm : (p, k) ∈ ls) (N : Nat) (hN : N = 4096 * 2 ^ k) (v : Nat) (hv : v < 256) :
    Calls Tryz.prog 21 #[.pointer (some ⟨x.s, 0, none⟩), .int .u64 ((ad x p : Nat) : Int), .int .u64 (N : Int), .int .u8 (v : Int)] W fun e w' => e = .returned (.int .i64 0) ∧ PW E w w' lw c x { t with f := M.upd t.f (4096 * p) N (fun _ => v) } fr ls fa fc va n vc ∧ Kept (bown x) W w' := by
  obtain ⟨z1, _, z3⟩ := h.sf.sn.al hm
  have hst := h.st
  have hz0 : 0 < 2 ^ k := Nat.pow_pos (by decide)
  have hin : 4096 * p + N ≤ x.n := by rw [hN]; omega
  obtain ⟨g, hg⟩ := space_some h.law.bd.sp (by omega)
  have hs := h.law.bd.sp
  rw [hg] at hs
  refine (M.Fill_in x.s g x.base x.R x.lim x.n t.f (ad x p) N v hv W hs (by omega) (by unfold M.In ad; omega)).mono ?_
  rintro e w' ⟨rfl, h1, h2⟩
  rw [show ad x p - x.base = 4096 * p by unfold ad; omega] at h1
  rw [← hg] at h1 h2
  have kb : Kept (bown x) W w' := (toK h2).mono (fun _ _ e => .inl e)
  have kl : Kept (fun y => bown x y ∨ y = lw) W w' := kb.mono (fun _ _ e => .inl e)
  refine ⟨rfl, ⟨h.law.space0 (toK h2) h1, h.nl, h.law.fl h.fl kl, h.law.rn h.rn kl, h.sf.fill hm (fun i hi => ?_), h.st, h.nc, h.bm, fun y e => ⟨Nat.lt_of_lt_of_le (h.ex y e).1 kb.size, (h.ex y e).2⟩⟩, kb⟩
  unfold M.upd
  rw [if_neg (by rw [hN]; omega)]
set_option maxRecDepth 4000 in
set_option maxHeartbeats 2000000 in
theorem step_fill {E w W lw c x t fr ls fa fc va n vc} (h : PW E w W lw c x t fr ls fa fc va n vc) (hc : n ≤ 1000) (od tt rf : Int) (sp a : Nat) :
    Calls Tryz.prog 12 #[.pointer (some ⟨lw, 0, none⟩), stV 10 od tt rf sp, .int .u64 (a : Int)] W fun e w' => StP E w W lw (c + 1) e w' := by
  have K0 := (Kept.refl none' W).alloc (stO 10 od tt rf sp)
  have HH := hid h
  have X0 := hid (heap_new W (stO 10 od tt rf sp))
  have H0 := hid (h.keep K0)
  have HEX := hid (fun y (e : E y) => (K0.block y (h.ex y e).1 (fun e => e)))
  have LST := hid h.nl
  have hn1 := h.nums.1
  have hbn := h.bm
  obtain ⟨s0, s1, s2, s3, s4⟩ := stc8 X0.out
  clear h K0
  go_enter Tryz.func12, Tryz.ntmps12
  go_wp2_with fail
  clear s0 s1 s2 s3 s4
  generalize W.alloc (stO 10 od tt rf sp) = V0 at *
  go_loopw [16] (fun i W' => ∃ j : Nat, j ≤ n ∧ i = .int .i64 j ∧ Hid (∃ f', PW E w W' lw c x { t with f := f' } fr ls fa fc va n vc ∧ W'.heap[W.heap.size]? = some (stO 10 od tt rf sp) ∧ ∀ y, E y → W'.heap[y]? = W.heap[y]?)) (fun i _ => n - (intOf i).toNat)
  case atStart => exact ⟨0, by omega, rfl, hid ⟨t.f, H0.out, X0.out, HEX.out⟩⟩
  case round =>
    obtain ⟨j, hj, rfl, hR⟩ := hrel
    obtain ⟨f1, hp1, hx1, he1⟩ := hR.out
    have P1 := hid hp1
    have X1 := hid hx1
    have E1 := hid he1
    obtain ⟨c0, c1, c2, c3, c4, c5, c6, c7, c8, c9⟩ := P1.out.law.c
    obtain ⟨s0, s1, s2, s3, s4⟩ := stc8 X1.out
    clear hR hp1 hx1 he1
    by_cases hlt : j < n
    · have hji : (j : Int) < (n : Int) := by omega
      have hjl : j < ls.length := by rw [← LST.out]; exact hlt
      have hrn := P1.out.rn
      rw [LST.out] at hrn
      obtain ⟨g2, hA, r1, r2⟩ := hrn.get hjl
      subst hA
      have ME := (show ls.getD j (0, 0) ∈ ls from by
        rw [List.getD_eq_getElem?_getD, List.getElem?_eq_getElem hjl]
        exact List.getElem_mem hjl)
      clear hjl hrn
      generalize ls.getD j (0, 0) = q at *
      obtain ⟨p, k⟩ := q
      obtain ⟨m1, m2, m3, m4, _, m8, m9⟩ := P1.out.nums
      obtain ⟨z1, _, z3⟩ := P1.out.sf.sn.al ME
      have z3 : p + 2 ^ k ≤ t.m.n := z3
      have m2 : t.m.n ≤ 1024 := m2
      have hst : t.m.n * 4096 = x.n := P1.out.st
      have hz0 : 0 < 2 ^ k := Nat.pow_pos (by decide)
      obtain ⟨N, hN⟩ : ∃ N, N = 4096 * 2 ^ k := ⟨_, rfl⟩
      have hz9 : 2 ^ k ≤ 2 ^ 8 := Nat.pow_le_pow_right (by decide) (by omega)
      have hN2 : N ≤ 1048576 := by omega
      have hsh : IntKind.u64.wrap (4096 * 2 ^ min (IntKind.u64.wrap (k : Int)).toNat 64) = (N : Int) := by
        have h1 : IntKind.u64.wrap (k : Int) = (k : Int) := Int.emod_eq_of_lt (by omega) (by show (k : Int) < 18446744073709551616; omega)
        have h2 : (4096 : Int) * 2 ^ k = (N : Int) := by rw [hN]; simp
        rw [h1, Int.toNat_natCast, Nat.min_eq_left (by omega), h2]
        exact Int.emod_eq_of_lt (by omega) (by show (N : Int) < 18446744073709551616; omega)
      obtain ⟨v, hv⟩ : ∃ v : Nat, IntKind.u8.wrap od = (v : Int) := ⟨(od % 256).toNat, by
        rw [Int.toNat_of_nonneg (Int.emod_nonneg _ (by decide))]; rfl⟩
      have hv2 : v < 256 := by
        have : (v : Int) < 256 := by rw [← hv]; exact Int.emod_lt_of_pos od (by decide)
        omega
      have PD := hid (P1.out.keep (Kept.refl none' wr).drew)
      have XD := hid ((((Kept.refl none' wr).drew).block _ (heap_lt X1.out) (fun e => e)).trans X1.out)
      have AT := hid (at_ok PD.out.law p (by omega) (by omega))
      have FI := hid (fill_pw PD.out p k ME N hN v hv2)
      have LT := hid HH.out.law.lt
      have NG := hid (show ¬ bown x g2 from fun e => by
        obtain ⟨cs', tt', z', h1, _, _, h2⟩ := PD.out.law.tys (.inl e)
        obtain ⟨cs, hc⟩ := own_ty PD.out.rn rfl
        exact h2 (ty_ne' h1 hc))
      clear z1 z3 m1 m2 m3 m4 m8 m9 hst hz0 hz9 hN ME
      clear c0 c1 c2 c3 c4 c5 c6 c7 c8 s0 s1 s2 s3 s4
      obtain ⟨_, _, _, d3, _, _, _, _, _, d9⟩ := PD.out.law.c
      obtain ⟨_, d1, _, _, _⟩ := stc8 XD.out
      have e1 := ((Kept.refl none' wr).drew).cell (fun e => e) r1
      have e2 := ((Kept.refl none' wr).drew).cell (fun e => e) r2
      go_wp2_with fail
      clear r1 r2 c9
      go_region_held3 (fun w' => w'.cell? ⟨lw, 3, none⟩ = some (.pointer (some ⟨x.s, 0, none⟩)) ∧ w'.cell? ⟨lw, 9, none⟩ = some (.slice (some ⟨g2, 0, none⟩) n vc) ∧ w'.cell? ⟨W.heap.size, 1, none⟩ = some (.int .i64 od) ∧ w'.cell? ⟨g2, j * 2, none⟩ = some (.int .i64 (p : Int)) ∧ w'.cell? ⟨g2, j * 2 + 1, none⟩ = some (.int .i64 (k : Int))) ((refine ⟨?_, ?_, ?_, ?_, ?_⟩ <;> first | with_reducible assumption)) (first
        | (go_at_call 11; refine AT.out.mono ?_; rintro e w7 ⟨rfl, h7⟩; replace h7 := h7.symm; subst h7)
        | (go_at_call 21; refine FI.out.mono ?_; rintro e w8 ⟨rfl, hP8, hk8⟩; have P8 := hid hP8; have X8 := hid ((hk8.block _ (heap_lt XD.out) (fun e => absurd (LT.out _ (.inl e)) (Nat.lt_irrefl _))).trans XD.out); have K8 := hid (PD.out.exk (hk8.mono (fun _ _ e => .inl e))); obtain ⟨_, _, _, u3, _, _, _, _, _, u9⟩ := hP8.law.c; obtain ⟨_, u1, _, _, _⟩ := stc8 X8.out; have v1 := hk8.cell (p := ⟨g2, j * 2, none⟩) NG.out e1; have v2 := hk8.cell (p := ⟨g2, j * 2 + 1, none⟩) NG.out e2; clear hP8 hk8)
        | fail)
      all_goals as_aux_lemma =>
        have D := hid (show ∃ f', PW E w w8 lw c x { t with f := f' } fr ls (fa) fc (some ⟨g2, 0, none⟩) n vc ∧ w8.heap[W.heap.size]? = some (stO 10 od tt rf sp) ∧ ∀ y, E y → w8.heap[y]? = W.heap[y]? from ⟨_, P8.out, X8.out, fun y e => (K8.out y e).trans (E1.out y e)⟩)
        go_wp2_with fail
        exact ⟨⟨j + 1, by omega, by simp, D⟩, by simp [intOf]; omega⟩
    · obtain rfl : j = n := by omega
      have hji : ¬ (j : Int) < (j : Int) := by omega
      have D := hid (show StP E w W lw (c + 1) (.returned (.bool true)) wr from ⟨_, _, _, _, _, _, _, _, _, rfl, P1.out.mono (Nat.le_succ _), E1.out⟩)
      go_wp2_with fail
      go_ret
      exact D.out
end Go.Proofs.YthglogiglimebaaGreat
