/- croftref11.Sound. -/
import Derived.Test.YtibljocjdlgfbaaRfM
namespace Go.Proofs.Ytibljocjdlgfbaa
open Go.RowKit
set_option linter.unusedVariables false

/-- The state of Sound's loops. -/
structure SoI (w W : World) (cx base : Nat) (lim : Int) (k r : Nat) (l : Bls) (a : Nat) : Prop where
  cb : CR W cx base lim (k : Int)
  kp : Kept none' w W
  gd : ∀ b, b < a → goodB base k r l b = true
theorem SoI.keep {w W W' : World} {cx base : Nat} {lim : Int} {k r : Nat} {l : Bls} {a : Nat} (h : SoI w W cx base lim k r l a) (hk : Kept none' W W') : SoI w W' cx base lim k r l a :=
  ⟨h.cb.keep hk (fun e => e), none_trans h.kp hk, h.gd⟩
/-- An element of a list, in every world that keeps it. -/
theorem BL.all {w W : World} {oa : Option Addr} {n oc : Nat} {l : Bls} (h : BL w (.slice oa n oc) l) (hk : Kept none' w W) (k : Nat) (hk' : k < l.length) :
    ∃ bl o p s, oa = some ⟨bl, o, none⟩ ∧ l[k]? = some (p, s) ∧ p < 2 ^ 64 ∧ s < 2 ^ 64 ∧ (∀ x : KW W, x.v.cell? ⟨bl, o + k * 2, none⟩ = some (.int .u64 (p : Int))) ∧ (∀ x : KW W, x.v.cell? ⟨bl, o + k * 2 + 1, none⟩ = some (.int .u64 (s : Int))) := by
  obtain ⟨bl, o, p, s, h1, h2, h3, h4, h5, h6⟩ := h.at k hk'
  exact ⟨bl, o, p, s, h1, h2, h3, h4, fun x => (none_trans hk x.k).cell (fun e => e) h5, fun x => (none_trans hk x.k).cell (fun e => e) h6⟩

theorem BL.all' {w W : World} {bl o : Nat} {n oc : Nat} {l : Bls} (h : BL w (.slice (some ⟨bl, o, none⟩) n oc) l) (hk : Kept none' w W) (k : Nat) (hk' : k < l.length) :
    ∃ p s, l[k]? = some (p, s) ∧ p < 2 ^ 64 ∧ s < 2 ^ 64 ∧ (∀ x : KW W, x.v.cell? ⟨bl, o + k * 2, none⟩ = some (.int .u64 (p : Int))) ∧ (∀ x : KW W, x.v.cell? ⟨bl, o + k * 2 + 1, none⟩ = some (.int .u64 (s : Int))) := by
  obtain ⟨bl', o', p, s, h1, h2⟩ := h.all hk k hk'
  injection h1 with h1
  injection h1 with h3 h4
  subst h3 h4
  exact ⟨p, s, h2⟩

set_option maxRecDepth 6000 in
set_option maxHeartbeats 8000000 in
theorem refSound (base : Nat) (hb64 : base < 18446744073709551616) (lim ord n : Int) (hl1 : -9223372036854775808 ≤ lim) (hl2 : lim ≤ 9223372036854775807) (ho1 : -9223372036854775808 ≤ ord) (ho2 : ord ≤ 9223372036854775807) (v : Value) (l : Bls) (w : World) (hbl : BL w v l) :
    Calls Try.prog 22 #[cfgV base lim ord, .int .i64 n, v] w fun e w' => e = .returned (.int .i64 (sndV base lim ord n l)) ∧ Kept none' w w' := by
  have HM := hid (fun W => refMay base hb64 lim ord hl1 hl2 ho1 ho2 W)
  have C0 := hid (show CR (w.alloc (.cells #[.int .u64 (base : Int), .int .i64 lim, .int .i64 ord] 42)) w.heap.size base lim ord from heap_new w _)
  have K0 := hid (show Kept none' w (w.alloc (.cells #[.int .u64 (base : Int), .int .i64 lim, .int .i64 ord] 42)) from (Kept.refl _ w).alloc _)
  have BL0 := hid hbl
  clear hbl
  cases hm : mayB base lim ord with
  | false =>
    rw [hm] at HM
    have E := hid (show sndV base lim ord n l = 0 by simp [sndV, mayR, hm])
    clear hm
    go_enter Try.func22, Try.ntmps22
    go_wp2_with fail
    generalize w.alloc (.cells #[.int .u64 (base : Int), .int .i64 lim, .int .i64 ord] 42) = W0 at *
    refine (HM.out _).mono ?_
    rintro e w1 ⟨rfl, hk⟩
    have K1 := hid (none_trans K0.out hk)
    clear hk
    go_wp2_with fail
    go_ret
    exact ⟨ret_int E.out.symm, K1.out⟩
  | true =>
    rw [hm] at HM
    by_cases hn : 0 ≤ n ∧ n ≤ lim
    · have hmr : mayR base lim ord n = true := by simp [mayR, hm, hn.1, hn.2]
      obtain ⟨k, r, L, rfl, rfl, rfl, hk8, hL1, hL64, hrL, hLR, hb0, hbm, hbe⟩ := mayR_facts hmr
      have hrR : r * RS k ≤ 4194304 := Nat.le_trans (Nat.mul_le_mul_right _ hrL) hLR
      have hrB : r * RS k ≤ L * RS k := Nat.mul_le_mul_right _ hrL
      obtain ⟨oa, oc, rfl⟩ : ∃ oa oc, v = .slice oa l.length oc := by
        obtain ⟨_, _, oa, oc, hv, _⟩ := BL0.out
        exact ⟨oa, oc, hv⟩
      have hlen := BL0.out.len.2
      have ES := hid (show sndV base (L : Int) (k : Int) (r : Int) l = sndI base k r l by unfold sndV; rw [if_pos hmr]; simp)
      have FB := hid (show ∀ i, i < l.length → (∀ a, a < i → goodB base k r l a = true) → goodB base k r l i = false → (i : Int) = sndV base (L : Int) (k : Int) (r : Int) l from fun i h1 h2 h3 => by rw [ES.out, sndI_bad h1 h2 h3])
      have FG := hid (show (∀ a, a < l.length → goodB base k r l a = true) → (-1 : Int) = sndV base (L : Int) (k : Int) (r : Int) l from fun h1 => by rw [ES.out, sndI_ok h1])
      have HO := hid (fun W p s hp hs => refOf base (L : Int) k r hk8 (by omega) (by omega) p s hp hs W)
      have hrl : decide (L < r) = false := decide_eq_false (by omega)
      have hr0 : decide ((r : Int) < 0) = false := decide_eq_false (by omega)
      clear hm hn hmr ES
      go_enter Try.func22, Try.ntmps22
      go_wp2_with fail
      generalize w.alloc (.cells #[.int .u64 (base : Int), .int .i64 (L : Int), .int .i64 (k : Int)] 42) = W0 at *
      refine (HM.out _).mono ?_
      rintro e w1 ⟨rfl, hk⟩
      have C1 := hid (C0.out.keep hk (fun x => x))
      have I0 := hid (show SoI w w1 w.heap.size base (L : Int) k r l 0 from ⟨C1.out, none_trans K0.out hk, fun b hb => by omega⟩)
      obtain ⟨c0, c1, c2⟩ := C1.out.cells
      clear hk
      go_wp2_with fail
      generalize w.heap.size = cx at *
      clear c0 c1 c2 C0 K0 C1 HM
      go_loopw [7] (fun i W => ∃ a : Nat, a ≤ l.length ∧ i = .int .i64 a ∧ Hid (SoI w W cx base (L : Int) k r l a)) (fun i _ => l.length - (intOf i).toNat)
      case atStart => exact ⟨0, Nat.zero_le _, rfl, I0⟩
      case round =>
        clear I0
        obtain ⟨a, ha, rfl, hI⟩ := hrel
        by_cases hlt : a < l.length
        · have hai : (a : Int) < (l.length : Int) := by omega
          obtain ⟨bl, o, p, s, rfl, hla, hp, hs, q0, q1⟩ := BL0.out.all hI.out.kp a hlt
          obtain ⟨c0, c1, c2⟩ := hI.out.cb.all
          have HOK := hid (fun W => HO.out W p s hp hs)
          have HLA := hid hla
          go_wp2_with fail
          refine wp_region_kept (by kernel_rfl) (by kernel_rfl) ?_
          cases hok : okB base k r p s with
          | false =>
            rw [hok] at HOK
            have G0 := hid (show goodB base k r l a = false by unfold goodB; rw [hla]; simp only [hok, Bool.false_and])
            clear hok hla
            repeat (go_big_quiet_step (first | (go_at_call 46; exact Calls.kept_of (HOK.out _))))
            refine wpQuiet_nil ?_
            intro x
            go_wp2_with fail
            go_ret
            exact ⟨ret_int (FB.out a hlt hI.out.gd G0.out), none_trans hI.out.kp x.k⟩
          | true =>
            rw [hok] at HOK
            have GC := hid (good_conf hbm hrR hla hI.out.gd hok)
            obtain ⟨_, hpb, hpe⟩ := okO_of hbm hrR hok
            clear hla
            repeat (go_big_quiet_step (first | (go_at_call 46; exact Calls.kept_of (HOK.out _))))
            refine wpQuiet_nil ?_
            intro x
            have I1 := hid (hI.out.keep x.k)
            go_wp2_with fail
            generalize x.v = wx at *
            clear q0 q1 c0 c1 c2 HOK HO
            go_loopw [8] (fun jj W => ∃ j : Nat, j ≤ a ∧ jj = .int .i64 j ∧ Hid (SoI w W cx base (L : Int) k r l a ∧ ∀ i b, i < j → l[i]? = some b → confB base p s b.1 b.2 = false)) (fun jj _ => a - (intOf jj).toNat)
            case atStart => exact ⟨0, Nat.zero_le _, rfl, hid ⟨I1.out, fun i b hi => by omega⟩⟩
            case round =>
              clear I1
              obtain ⟨j, hj, rfl, IJ⟩ := hrel
              by_cases hjl : j < a
              · have hji : (j : Int) < (a : Int) := by omega
                have hjl2 : (j : Int) < (l.length : Int) := by omega
                obtain ⟨p', s', hlj, hp', hs', r0, r1⟩ := BL0.out.all' IJ.out.1.kp j (by omega)
                obtain ⟨p2, s2, hl2, _, _, q0, q1⟩ := BL0.out.all' IJ.out.1.kp a hlt
                rw [HLA.out] at hl2
                injection hl2 with hl2
                injection hl2 with e1 e2
                subst e1 e2
                obtain ⟨c0, c1, c2⟩ := IJ.out.1.cb.all
                obtain ⟨_, hpb', hpe'⟩ := okO_of hbm hrR (goodB_ok hlj (hI.out.gd j hjl))
                have HME := hid (fun W => refMeet p s p' s' (by omega) (by omega) W)
                have HPI := hid (fun W => refPage base (L : Int) (k : Int) p hpb hp W)
                have HPJ := hid (fun W => refPage base (L : Int) (k : Int) p' hpb' hp' W)
                have NXJ := hid (show confB base p s p' s' = false → ∀ i b, i < j + 1 → l[i]? = some b → confB base p s b.1 b.2 = false from fun h i b hi hb => by
                  by_cases e : i = j
                  · rw [e, hlj] at hb
                    injection hb with hb
                    rw [← hb]; exact h
                  · exact IJ.out.2 i b (by omega) hb)
                have GBAD := hid (show confB base p s p' s' = true → goodB base k r l a = false from fun h => by
                  rw [Bool.eq_false_iff]
                  intro hg
                  have := GC.out.1 hg j (p', s') hjl hlj
                  rw [h] at this
                  cases this)
                obtain ⟨gi, hgi⟩ : ∃ gi, gi = (p - base) / 4096 := ⟨_, rfl⟩
                obtain ⟨gj, hgj⟩ : ∃ gj, gj = (p' - base) / 4096 := ⟨_, rfl⟩
                have HGI := hid hgi
                have HGJ := hid hgj
                rw [← hgi] at HPI
                rw [← hgj] at HPJ
                clear hgi hgj hlj
                go_wp2_with fail
                refine wp_region_kept (by kernel_rfl) (by kernel_rfl) ?_
                cases hme : meetB p s p' s' with
                | true =>
                  rw [hme] at HME
                  have G0 := hid (GBAD.out (by unfold confB; rw [hme]; rfl))
                  clear hme
                  repeat (go_big_quiet_step (first | (go_at_call 47; exact Calls.kept_of (HME.out _))))
                  refine wpQuiet_nil ?_
                  intro x
                  have K2 := hid (none_trans IJ.out.1.kp x.k)
                  go_wp2_with fail
                  go_ret
                  exact ⟨ret_int (FB.out a hlt hI.out.gd G0.out), K2.out⟩
                | false =>
                  rw [hme] at HME
                  have MF := hid hme
                  clear hme
                  repeat (go_big_quiet_step (first | (go_at_call 47; exact Calls.kept_of (HME.out _))))
                  refine wpQuiet_nil ?_
                  intro x
                  obtain ⟨d0, d1, d2⟩ := (IJ.out.1.keep x.k).cb.all
                  have q2 : ∀ y : KW x.v, y.v.cell? ⟨bl, o + a * 2, none⟩ = some (.int .u64 (p : Int)) := fun y => q0 ⟨y.v, none_trans x.k y.k⟩
                  have q3 : ∀ y : KW x.v, y.v.cell? ⟨bl, o + a * 2 + 1, none⟩ = some (.int .u64 (s : Int)) := fun y => q1 ⟨y.v, none_trans x.k y.k⟩
                  have r2 : ∀ y : KW x.v, y.v.cell? ⟨bl, o + j * 2, none⟩ = some (.int .u64 (p' : Int)) := fun y => r0 ⟨y.v, none_trans x.k y.k⟩
                  have r3 : ∀ y : KW x.v, y.v.cell? ⟨bl, o + j * 2 + 1, none⟩ = some (.int .u64 (s' : Int)) := fun y => r1 ⟨y.v, none_trans x.k y.k⟩
                  clear c0 c1 c2 q0 q1 r0 r1 HME
                  go_wp2_with fail
                  by_cases t1 : s < 4096
                  · have t1' : decide ((s : Int) < 4096) = true := decide_eq_true (by omega)
                    by_cases t2 : s' < 4096
                    · have t2' : decide ((s' : Int) < 4096) = true := decide_eq_true (by omega)
                      by_cases t3 : s = s'
                      · have t3' : ((s : Int) != (s' : Int)) = false := by rw [bne_eq_false_iff_eq]; omega
                        have CF := hid (show confB base p s p' s' = false by unfold confB; rw [MF.out]; simp [t3])
                        refine wp_region_kept (by kernel_rfl) (by kernel_rfl) ?_
                        repeat (go_big_quiet_step (first | (go_at_call_of 48 p; exact Calls.kept_of (HPI.out _)) | (go_at_call_of 48 p'; exact Calls.kept_of (HPJ.out _))))
                        refine wpQuiet_nil ?_
                        intro y
                        have I3 := hid (show SoI w y.v cx base (L : Int) k r l a ∧ _ from ⟨(IJ.out.1.keep x.k).keep y.k, NXJ.out CF.out⟩)
                        go_wp2_with fail
                        go_round
                        case rel => exact ⟨j + 1, by omega, by go_num, I3⟩
                        case measure => simp [intOf]; omega
                      · have t3' : ((s : Int) != (s' : Int)) = true := by rw [bne_iff_ne]; omega
                        by_cases t4 : gi = gj
                        · have t4' : ((gi : Int) == (gj : Int)) = true := by rw [beq_iff_eq]; omega
                          have CF := hid (show confB base p s p' s' = true by unfold confB; rw [MF.out]; simp [t1, t2, t3, ← HGI.out, ← HGJ.out, t4])
                          refine wp_region_kept (by kernel_rfl) (by kernel_rfl) ?_
                          repeat (go_big_quiet_step (first | (go_at_call_of 48 p; exact Calls.kept_of (HPI.out _)) | (go_at_call_of 48 p'; exact Calls.kept_of (HPJ.out _))))
                          refine wpQuiet_nil ?_
                          intro y
                          have G0 := hid (GBAD.out CF.out)
                          have K3 := hid ((IJ.out.1.keep x.k).keep y.k).kp
                          go_wp2_with fail
                          go_ret
                          exact ⟨ret_int (FB.out a hlt hI.out.gd G0.out), K3.out⟩
                        · have t4' : ((gi : Int) == (gj : Int)) = false := by rw [beq_eq_false_iff_ne]; omega
                          have CF := hid (show confB base p s p' s' = false by unfold confB; rw [MF.out]; simp [t1, t2, t3, ← HGI.out, ← HGJ.out, t4])
                          refine wp_region_kept (by kernel_rfl) (by kernel_rfl) ?_
                          repeat (go_big_quiet_step (first | (go_at_call_of 48 p; exact Calls.kept_of (HPI.out _)) | (go_at_call_of 48 p'; exact Calls.kept_of (HPJ.out _))))
                          refine wpQuiet_nil ?_
                          intro y
                          have I3 := hid (show SoI w y.v cx base (L : Int) k r l a ∧ _ from ⟨(IJ.out.1.keep x.k).keep y.k, NXJ.out CF.out⟩)
                          go_wp2_with fail
                          go_round
                          case rel => exact ⟨j + 1, by omega, by go_num, I3⟩
                          case measure => simp [intOf]; omega
                    · have t2' : decide ((s' : Int) < 4096) = false := decide_eq_false (by omega)
                      have CF := hid (show confB base p s p' s' = false by unfold confB; rw [MF.out]; simp [t2])
                      refine wp_region_kept (by kernel_rfl) (by kernel_rfl) ?_
                      repeat (go_big_quiet_step (first | (go_at_call_of 48 p; exact Calls.kept_of (HPI.out _)) | (go_at_call_of 48 p'; exact Calls.kept_of (HPJ.out _))))
                      refine wpQuiet_nil ?_
                      intro y
                      have I3 := hid (show SoI w y.v cx base (L : Int) k r l a ∧ _ from ⟨(IJ.out.1.keep x.k).keep y.k, NXJ.out CF.out⟩)
                      go_wp2_with fail
                      go_round
                      case rel => exact ⟨j + 1, by omega, by go_num, I3⟩
                      case measure => simp [intOf]; omega
                  · have t1' : decide ((s : Int) < 4096) = false := decide_eq_false (by omega)
                    have CF := hid (show confB base p s p' s' = false by unfold confB; rw [MF.out]; simp [t1])
                    refine wp_region_kept (by kernel_rfl) (by kernel_rfl) ?_
                    repeat (go_big_quiet_step (first | (go_at_call_of 48 p; exact Calls.kept_of (HPI.out _)) | (go_at_call_of 48 p'; exact Calls.kept_of (HPJ.out _))))
                    refine wpQuiet_nil ?_
                    intro y
                    have I3 := hid (show SoI w y.v cx base (L : Int) k r l a ∧ _ from ⟨(IJ.out.1.keep x.k).keep y.k, NXJ.out CF.out⟩)
                    go_wp2_with fail
                    go_round
                    case rel => exact ⟨j + 1, by omega, by go_num, I3⟩
                    case measure => simp [intOf]; omega
              · obtain rfl : j = a := by omega
                have hji : ¬ (j : Int) < (j : Int) := by omega
                have I4 := hid (show SoI w wr cx base (L : Int) k r l (j + 1) from ⟨IJ.out.1.cb, IJ.out.1.kp, fun b hb => by
                  by_cases e : b = j
                  · rw [e]; exact GC.out.2 (fun i bb hi hbb => IJ.out.2 i bb hi hbb)
                  · exact hI.out.gd b (by omega)⟩)
                go_wp2_with fail
                go_round
                case rel => exact ⟨j + 1, by omega, by go_num, I4⟩
                case measure => simp [intOf]; omega
        · have hae : a = l.length := by omega
          have hai : ¬ (a : Int) < (l.length : Int) := by omega
          go_wp2_with fail
          go_ret
          exact ⟨ret_int (FG.out (fun b hb => hI.out.gd b (by omega))), hI.out.kp⟩
    · have E := hid (show sndV base lim ord n l = 0 by
        unfold sndV mayR
        rw [hm, Bool.true_and]
        by_cases h0 : 0 ≤ n
        · rw [decide_eq_true h0, decide_eq_false (by omega : ¬ n ≤ lim)]; rfl
        · rw [decide_eq_false h0]; rfl)
      clear hm
      by_cases h0 : n < 0
      · clear hn
        go_enter Try.func22, Try.ntmps22
        go_wp2_with fail
        generalize w.alloc (.cells #[.int .u64 (base : Int), .int .i64 lim, .int .i64 ord] 42) = W0 at *
        refine (HM.out _).mono ?_
        rintro e w1 ⟨rfl, hk⟩
        have K1 := hid (none_trans K0.out hk)
        clear hk
        go_wp2_with fail
        go_ret
        exact ⟨ret_int E.out.symm, K1.out⟩
      · have h1 : lim < n := by omega
        clear hn
        go_enter Try.func22, Try.ntmps22
        go_wp2_with fail
        generalize w.alloc (.cells #[.int .u64 (base : Int), .int .i64 lim, .int .i64 ord] 42) = W0 at *
        refine (HM.out _).mono ?_
        rintro e w1 ⟨rfl, hk⟩
        have K1 := hid (none_trans K0.out hk)
        obtain ⟨c0, c1, c2⟩ := (C0.out.keep hk (fun x => x)).cells
        clear hk
        go_wp2_with fail
        go_ret
        exact ⟨ret_int E.out.symm, K1.out⟩
end Go.Proofs.Ytibljocjdlgfbaa
