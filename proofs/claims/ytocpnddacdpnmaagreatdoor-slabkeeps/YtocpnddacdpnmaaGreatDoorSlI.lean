import Derived.Test.YtocpnddacdpnmaaGreatDoorSlH
/- Package slab: a cell entered; New, Partial. -/
namespace Go.Proofs.YtocpnddacdpnmaaGreatDoor
open Go.RowKit
set_option linter.unusedVariables false

/-- The address of what heads a page's list. -/
def hdA (x : Bx) (g c : Nat) (fs : Int) : Nat := if fs = -1 then 0 else caN x g c fs.toNat
set_option maxRecDepth 4000 in
set_option maxHeartbeats 1000000 in
theorem enter_s {w W sb lw x t h} (s : SW w W sb lw x t h) (g n c p : Nat) (q : Pg) (hg : g ≤ 1024) (hc : c < 8) (hcl : q.cl = (c : Int)) (hfs : q.fs = -1 ∨ ∃ j : Nat, j ≤ 256 ∧ q.fs = (j : Int)) (hp : p < 18446744073709551616) (hin : M.In x.base x.n p 8) :
    Calls Tryz.prog 44 #[.pointer (some ⟨sb, 0, none⟩), cvV (g : Int) (n : Int) q, .int .u64 (p : Int)] W fun e w' => e = .returned (.tuple #[]) ∧ SW w w' sb lw x ⟨M.upd t.f (p - x.base) 8 (M.byteOf (hdA x g c q.fs)), firstM t.m (g : Int) (n : Int), t.hd⟩ h ∧ Kept (bown x) W w' := by
  have hbe := s.pl.bd.sp.cfg.be
  have hnl := s.pl.bd.sp.nle
  have hv64 : hdA x g c q.fs < 18446744073709551616 := by
    unfold hdA
    split
    · omega
    · rcases hfs with e | ⟨j, hj, e⟩
      · contradiction
      · rw [e, Int.toNat_natCast]
        unfold caN
        have h1 := szC_le hc
        have h2 := Nat.mul_le_mul hj h1.2
        omega
  have K0 := hid ((Kept.refl none' W).alloc (cvO (g : Int) (n : Int) q))
  have X0 := hid (heap_new W (cvO (g : Int) (n : Int) q))
  have S0 := hid (s.keep K0.out)
  have NY := hid (show ¬ bown x W.heap.size from fun e => absurd (s.pl.lt _ (.inl e)) (Nat.lt_irrefl _))
  obtain ⟨v, hv⟩ : ∃ v, v = hdA x g c q.fs := ⟨_, rfl⟩
  rw [← hv] at hv64 ⊢
  have HV := hid hv
  have HC := hid hcl
  have HF := hid hfs
  clear s hv hcl hfs hbe hnl
  go_enter Tryz.func44, Tryz.ntmps44
  go_upto_region 1 with fail
  generalize W.heap.size = y at *
  generalize W.alloc (cvO (g : Int) (n : Int) q) = W0 at *
  have REST := hid (show ∀ W', Kept none' W0 W' → (Calls Tryz.prog 100 #[.pointer (some ⟨x.s, 0, none⟩), .int .u64 (p : Int), .int .u64 (v : Int)] W' fun e w' => e = .returned (.int .i64 0) ∧ SW w w' sb lw x { t with f := M.upd t.f (p - x.base) 8 (M.byteOf v) } h ∧ Kept (bown x) W' w') from fun W' k => SetWord_s (S0.out.keep k) p v hv64 hin)
  obtain ⟨a0, a1, a2, a3, a4, a5, a6, a7, a8, _⟩ := cv13 X0.out
  obtain ⟨c0, c1⟩ := S0.out.c0
  by_cases hf : q.fs = -1
  · have hb : (q.fs != -1) = false := by rw [hf]; rfl
    have hv0 : v = 0 := by rw [HV.out]; unfold hdA; rw [if_pos hf]
    subst hv0
    have SP := hid (Space6 S0.out.pl)
    have SWD := hid (REST.out W0 (Kept.refl none' W0))
    as_aux_lemma =>
      go_wp2_with fail
      refine SP.out.mono ?_
      rintro e w3 ⟨rfl, h3⟩
      replace h3 := h3.symm
      subst h3
      go_wp2_with fail
      refine SWD.out.mono ?_
      rintro e w4 ⟨rfl, hs4, hk4⟩
      have S4 := hid hs4
      have K4 := hid (K0.out.trans hk4 (fun _ _ e => e.elim) (fun _ _ e => e))
      have X4 := hid ((hk4.block _ (heap_lt X0.out) NY.out).trans X0.out)
      clear hs4 hk4 a0 a1 a2 a3 a4 a5 a6 a7 a8 c0 c1
      go_upto_region 5 with fail
      have KD := hid ((Kept.refl none' w4).drew)
      have S5 := hid (S4.out.keep KD.out)
      have X5 := hid ((KD.out.block _ (heap_lt X4.out) (fun e => e)).trans X4.out)
      obtain ⟨d0, d1, _⟩ := cv13 X5.out
      obtain ⟨c0, c1⟩ := S5.out.c0
      have MP := hid (Map6 S5.out.pl)
      have FR := hid (First_s S5.out (g : Int) (n : Int))
      go_region_held3 (fun w' => w'.cell? ⟨sb, 0, none⟩ = some (.pointer (some ⟨lw, 0, none⟩)) ∧ w'.cell? ⟨y, 0, none⟩ = some (.int .i64 (g : Int)) ∧ w'.cell? ⟨y, 1, none⟩ = some (.int .i64 (n : Int))) ((refine ⟨?_, ?_, ?_⟩ <;> first | with_reducible assumption | fail)) (first
        | (go_at_call 88; (with_reducible refine FR.out.mono ?_); rintro e w6 ⟨rfl, hs6, hk6⟩; obtain ⟨f0, f1⟩ := hs6.c0; have f2 := hk6.cell NY.out d0; have f3 := hk6.cell NY.out d1; have D6 := hid (And.intro hs6 ((K4.out.trans KD.out (fun _ _ e => e) (fun _ _ e => e.elim)).trans hk6 (fun _ _ e => e) (fun _ _ e => e))); clear hs6 hk6)
        | (go_at_call 15; (with_reducible refine MP.out.mono ?_); rintro e w5 ⟨rfl, h5⟩; replace h5 := h5.symm; subst h5)
        | fail)
      all_goals
        go_wp2_with fail
        exact ⟨rfl, .tuple #[], by simp [results, Tryz.results44, go_sem], rfl, D6.out⟩
  · obtain ⟨j, hj, hfj⟩ : ∃ j : Nat, j ≤ 256 ∧ q.fs = (j : Int) := by
      rcases HF.out with e | e
      · exact absurd e hf
      · exact e
    have hb : (q.fs != -1) = true := bne_iff_ne.2 hf
    have AD := hid (address_s S0.out g c j hg hc hj)
    have hvj : v = caN x g c j := by rw [HV.out]; unfold hdA; rw [if_neg hf, hfj]; rfl
    rw [← hvj] at AD
    rw [HC.out] at a4
    have AQ := hid hfj
    rw [AQ.out] at a8
    have hb2 : ((j : Int) != -1) = true := bne_iff_ne.2 (by omega)
    clear hfj hvj hf hb
    as_aux_lemma =>
      go_wp2_with fail
      refine AD.out.mono ?_
      rintro e w1 ⟨rfl, hk1⟩
      have S1 := hid (S0.out.keep hk1)
      have X1 := hid ((hk1.block _ (heap_lt X0.out) (fun e => e)).trans X0.out)
      have K1 := hid (none_trans K0.out hk1)
      have SP := hid (Space6 S1.out.pl)
      have SWD := hid (REST.out w1 hk1)
      clear hk1 c0 c1 a0 a1 a2 a3 a4 a5 a6 a7 a8
      obtain ⟨a0, a1, a2, a3, a4, a5, a6, a7, a8, _⟩ := cv13 X1.out
      obtain ⟨c0, c1⟩ := S1.out.c0
      go_wp2_with fail
      refine SP.out.mono ?_
      rintro e w3 ⟨rfl, h3⟩
      replace h3 := h3.symm
      subst h3
      go_wp2_with fail
      refine SWD.out.mono ?_
      rintro e w4 ⟨rfl, hs4, hk4⟩
      have S4 := hid hs4
      have K4 := hid (K1.out.trans hk4 (fun _ _ e => e.elim) (fun _ _ e => e))
      have X4 := hid ((hk4.block _ (heap_lt X1.out) NY.out).trans X1.out)
      clear hs4 hk4 a0 a1 a2 a3 a4 a5 a6 a7 a8 c0 c1
      go_upto_region 5 with fail
      have KD := hid ((Kept.refl none' w4).drew)
      have S5 := hid (S4.out.keep KD.out)
      have X5 := hid ((KD.out.block _ (heap_lt X4.out) (fun e => e)).trans X4.out)
      obtain ⟨d0, d1, _⟩ := cv13 X5.out
      obtain ⟨c0, c1⟩ := S5.out.c0
      have MP := hid (Map6 S5.out.pl)
      have FR := hid (First_s S5.out (g : Int) (n : Int))
      go_region_held3 (fun w' => w'.cell? ⟨sb, 0, none⟩ = some (.pointer (some ⟨lw, 0, none⟩)) ∧ w'.cell? ⟨y, 0, none⟩ = some (.int .i64 (g : Int)) ∧ w'.cell? ⟨y, 1, none⟩ = some (.int .i64 (n : Int))) ((refine ⟨?_, ?_, ?_⟩ <;> first | with_reducible assumption | fail)) (first
        | (go_at_call 88; (with_reducible refine FR.out.mono ?_); rintro e w6 ⟨rfl, hs6, hk6⟩; obtain ⟨f0, f1⟩ := hs6.c0; have f2 := hk6.cell NY.out d0; have f3 := hk6.cell NY.out d1; have D6 := hid (And.intro hs6 ((K4.out.trans KD.out (fun _ _ e => e) (fun _ _ e => e.elim)).trans hk6 (fun _ _ e => e) (fun _ _ e => e))); clear hs6 hk6)
        | (go_at_call 15; (with_reducible refine MP.out.mono ?_); rintro e w5 ⟨rfl, h5⟩; replace h5 := h5.symm; subst h5)
        | fail)
      all_goals
        go_wp2_with fail
        exact ⟨rfl, .tuple #[], by simp [results, Tryz.results44, go_sem], rfl, D6.out⟩
end Go.Proofs.YtocpnddacdpnmaaGreatDoor
