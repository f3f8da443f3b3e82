/- croftref11.Least. -/
import Derived.Test.YtibljocjdlgfbaaLeF
namespace Go.Proofs.Ytibljocjdlgfbaa
open Go.RowKit
set_option linter.unusedVariables false

theorem mayB_facts' {base : Nat} {lim ord : Int} (h : mayB base lim ord = true) : mayR base lim ord lim = true := by
  have hl : Bounds lim ord := by
    refine Classical.byContradiction fun c => ?_
    unfold mayB at h
    rw [decide_eq_false c, Bool.false_and, Bool.false_and] at h
    cases h
  unfold Bounds at hl
  simp only [mayR, h, Bool.true_and, Bool.and_eq_true, decide_eq_true_eq]
  exact ⟨by omega, by omega⟩
/-- Laying succeeds in n regions just where counting says so. -/
theorem lai_iff {base k n m : Nat} {l : Bls} {sz : List Nat} (hk : k ≤ 8) (hnm : n ≤ m) (h : Snl base k m l) (hz : ∀ x ∈ sz, szB k x = true) : laiV base k n l sz = true ↔ leaN (allU base l) sz k ≤ n := by
  have hz' : ∀ x ∈ sz, isP x = true ∧ 16 ≤ x ∧ x ≤ 1048576 := fun x hx => by
    have := szB_b hk (hz x hx)
    exact ⟨this.1, this.2.1, this.2.2.2⟩
  have hr := reg_iff (n := n) h hk hnm
  have ho : (∀ b ∈ l, okB base k n b.1 b.2 = true) ↔ ∀ b ∈ l, (b.1 - base) < n * RS k := by
    constructor
    · intro g b hb
      have := g b hb
      simp only [okB, Bool.and_eq_true, decide_eq_true_eq] at this
      exact this.2
    · intro g b hb
      have := h.ok hb
      simp only [okB, Bool.and_eq_true, decide_eq_true_eq] at this ⊢
      exact ⟨this.1, g b hb⟩
  unfold laiV leaN
  rw [Bool.and_eq_true, List.all_eq_true, Nat.max_le, hr, ← ho]
  constructor
  · rintro ⟨a, b⟩
    exact ⟨a, (laid_all hk (h.mono hnm a) hz').1 b⟩
  · rintro ⟨a, b⟩
    exact ⟨a, (laid_all hk (h.mono hnm a) hz').2 b⟩

set_option maxRecDepth 20000 in
set_option maxHeartbeats 4000000 in
theorem refLeast (base : Nat) (hb64 : base < 18446744073709551616) (lim ord : Int) (hl1 : -9223372036854775808 ≤ lim) (hl2 : lim ≤ 9223372036854775807) (ho1 : -9223372036854775808 ≤ ord) (ho2 : ord ≤ 9223372036854775807) (v : Value) (l : Bls) (vs : Value) (sz : List Nat) (hlen : l.length ≤ 8796093022000) (hlen2 : sz.length ≤ 17592186044400) (w : World) (hbl : BL w v l) (hsl : SL w vs sz) :
    Calls Try.prog 30 #[cfgV base lim ord, v, vs] w fun e w' => e = .returned (.tuple #[.int .i64 ((leaV base lim ord l sz : Nat) : Int), .bool (leaO base lim ord l sz)]) ∧ Kept none' w w' := by
  obtain ⟨oa, oc, rfl⟩ : ∃ oa oc, v = .slice oa l.length oc := by
    obtain ⟨_, _, oa, oc, hv, _⟩ := hbl
    exact ⟨oa, oc, hv⟩
  obtain ⟨oa2, oc2, rfl⟩ : ∃ oa oc, vs = .slice oa sz.length oc := by
    obtain ⟨_, _, oa, oc, hv, _⟩ := hsl
    exact ⟨oa, oc, hv⟩
  have C0 := hid (show CR (w.alloc (.cells #[.int .u64 (base : Int), .int .i64 lim, .int .i64 ord] 42)) w.heap.size base lim ord from heap_new w _)
  have K0 := hid (show Kept none' w (w.alloc (.cells #[.int .u64 (base : Int), .int .i64 lim, .int .i64 ord] 42)) from (Kept.refl _ w).alloc _)
  have BL0 := hid hbl
  have SL0 := hid hsl
  have HMY := hid (fun W => refMay base hb64 lim ord hl1 hl2 ho1 ho2 W)
  obtain ⟨sv, hsv⟩ : ∃ sv, sv = sndV base lim ord lim l := ⟨_, rfl⟩
  have HS := hid (show ∀ W, BL W (.slice oa l.length oc) l → Calls Try.prog 22 #[cfgV base lim ord, .int .i64 lim, .slice oa l.length oc] W fun e w' => e = .returned (.int .i64 sv) ∧ Kept none' W w' from fun W h => by
    rw [hsv]; exact refSound base hb64 lim ord lim hl1 hl2 ho1 ho2 _ l W h)
  obtain ⟨lv, hlv⟩ : ∃ lv, lv = leaV base lim ord l sz := ⟨_, rfl⟩
  obtain ⟨lo, hlo⟩ : ∃ lo, lo = leaO base lim ord l sz := ⟨_, rfl⟩
  rw [← hlv, ← hlo]
  have BADV := hid (show lo = false → lv = 0 from fun h => by
    rw [hlv]
    unfold leaV
    rw [← hlo, h]
    rfl)
  have HLV := hid hlv
  have HLO := hid hlo
  have HSV := hid hsv
  clear hbl hsl hsv hlv hlo
  cases hm : mayB base lim ord with
  | false =>
    rw [hm] at HMY
    have E := hid (show lo = false by
      rw [HLO.out]
      unfold leaO mayR
      rw [hm]
      simp)
    have E2 := hid (BADV.out E.out)
    clear hm
    go_enter Try.func30, Try.ntmps30
    go_wp2_with fail
    generalize w.alloc (.cells #[.int .u64 (base : Int), .int .i64 lim, .int .i64 ord] 42) = W0 at *
    refine (HMY.out _).mono ?_
    rintro e w1 ⟨rfl, hk⟩
    have K1 := hid (none_trans K0.out hk)
    clear hk
    go_wp2_with fail
    exact ⟨rfl, .tuple #[.int .i64 0, .bool false], by simp [results, Try.results30, go_sem], by rw [E.out, E2.out]; rfl, K1.out⟩
  | true =>
    rw [hm] at HMY
    have hmr := mayB_facts' hm
    obtain ⟨k, rr, L, rfl, hrr, rfl, hk8, hL1, hL64, hrL, hLR, hb0, hbm, hbe⟩ := mayR_facts hmr
    have ESV := hid (show sv = sndI base k L l by
      rw [HSV.out]
      unfold sndV
      rw [if_pos hmr, Int.toNat_natCast, Int.toNat_natCast])
    have ELO := hid (show lo = ((sv == -1) && sz.all (szB k) && decide (leaN (allU base l) sz k ≤ L)) by
      rw [HLO.out, ESV.out]
      unfold leaO
      rw [hmr, Int.toNat_natCast, Int.toNat_natCast, Bool.true_and])
    have ELV := hid (show lo = true → lv = leaN (allU base l) sz k from fun h => by
      rw [HLV.out]
      unfold leaV
      rw [← HLO.out, if_pos h, Int.toNat_natCast])
    have HBM := hid hbm
    have HLR := hid hLR
    have HBE := hid hbe
    clear hm hmr hrr hb0 hbm hLR hbe HLV HLO HSV ho1 ho2 hl1 hl2 rr hrL
    go_enter Try.func30, Try.ntmps30
    go_wp2_with fail
    generalize w.alloc (.cells #[.int .u64 (base : Int), .int .i64 (L : Int), .int .i64 (k : Int)] 42) = W0 at *
    generalize w.heap.size = cx at *
    refine (HMY.out _).mono ?_
    rintro e w1 ⟨rfl, hk⟩
    have K1 := hid (none_trans K0.out hk)
    have C1 := hid (C0.out.keep hk (fun x => x))
    clear hk K0 C0 HMY
    obtain ⟨c0, c1, c2⟩ := C1.out.cells
    go_wp2_with fail
    refine (HS.out _ (BL0.out.keep K1.out)).mono ?_
    rintro e w2 ⟨rfl, hk⟩
    have K2 := hid (none_trans K1.out hk)
    have C2 := hid (C1.out.keep hk (fun x => x))
    clear hk K1 C1 HS c0 c1 c2
    by_cases hs1 : sv = -1
    · have SN := hid (show Snl base k L l from Snl.of' HBM.out HLR.out (by rw [← ESV.out]; exact hs1))
      subst hs1
      clear ESV
      go_wp2_with fail
      obtain ⟨R, hR⟩ : ∃ R, R = RS k := ⟨_, rfl⟩
      have hRb : R ≤ 1048576 := by rw [hR]; exact (RS_le k hk8).2
      have HRR := hid (show ∀ W, Calls Try.prog 27 #[cfgV base (L : Int) (k : Int)] W fun e w' => e = .returned (.int .u64 (R : Int)) ∧ Kept none' W w' from fun W => by
        rw [hR]; exact refR base (L : Int) k hk8 W)
      have HR := hid hR
      clear hR
      go_loopw [8] (fun i W => ∃ a : Nat, a ≤ sz.length ∧ i = .int .i64 (a : Int) ∧ Hid ((∀ x ∈ sz.take a, szB k x = true) ∧ Kept none' w2 W)) (fun i _ => sz.length - (intOf i).toNat)
      case atStart => exact ⟨0, Nat.zero_le _, rfl, hid ⟨fun x hx => by simp at hx, Kept.refl _ _⟩⟩
      case round =>
        obtain ⟨a, ha, rfl, HI⟩ := hrel
        by_cases hlt : a < sz.length
        · have hai : (a : Int) < (sz.length : Int) := by omega
          have KR := hid (none_trans K2.out HI.out.2)
          obtain ⟨bl, o, p, rfl, hla, hp, q0⟩ := (SL0.out.keep KR.out).at a hlt
          have hq : ∀ y : KW wr, y.v.cell? ⟨bl, o + a, none⟩ = some (.int .u64 (p : Int)) := fun y => y.k.cell (fun e => e) q0
          have HPW := hid (fun W => refPower p hp W)
          have NXA := hid (show szB k p = true → ∀ x ∈ sz.take (a + 1), szB k x = true from fun h x hx => by
            rw [List.take_add_one, hla] at hx
            rcases List.mem_append.1 hx with hx | hx
            · exact HI.out.1 x hx
            · rw [show x = p by simpa using hx]; exact h)
          have BAD := hid (show szB k p = false → lo = false from fun h => by
            have : sz.all (szB k) = false := by
              rw [Bool.eq_false_iff]
              intro hh
              have := List.all_eq_true.1 hh p (List.mem_of_getElem? hla)
              rw [h] at this
              cases this
            rw [ELO.out, this, Bool.and_false, Bool.false_and])
          clear hla
          obtain ⟨c0, c1, c2⟩ := (C2.out.keep HI.out.2 (fun x => x)).all
          cases hpw : isP p with
          | false =>
            have E := hid (BAD.out (by simp [szB, hpw]))
            have E2 := hid (BADV.out E.out)
            rw [hpw] at HPW
            clear hpw
            go_wp2_with fail
            refine wp_region_kept (by kernel_rfl) (by kernel_rfl) ?_
            repeat (go_big_quiet_step (first | (go_at_call 44; exact Calls.kept_of ((HPW.out _).mono fun e w' h => ⟨h.1, h.2 ▸ Kept.refl _ _⟩))))
            refine wpQuiet_nil ?_
            intro x
            have KX := hid (none_trans KR.out x.k)
            have KX' := hid (none_trans HI.out.2 x.k)
            clear hq c0 c1 c2 q0
            go_wp2_with fail
            exact ⟨rfl, .tuple #[.int .i64 0, .bool false], by simp [results, Try.results30, go_sem], by rw [E.out, E2.out]; rfl, KX.out⟩
          | true =>
            rw [hpw] at HPW
            by_cases h16 : (p : Int) < 16
            · have E := hid (BAD.out (by
                have : ¬ 16 ≤ p := by omega
                simp [szB, this]))
              have E2 := hid (BADV.out E.out)
              clear hpw
              go_wp2_with fail
              refine wp_region_kept (by kernel_rfl) (by kernel_rfl) ?_
              repeat (go_big_quiet_step (first | (go_at_call 44; exact Calls.kept_of ((HPW.out _).mono fun e w' h => ⟨h.1, h.2 ▸ Kept.refl _ _⟩))))
              refine wpQuiet_nil ?_
              intro x
              have KX := hid (none_trans KR.out x.k)
              have KX' := hid (none_trans HI.out.2 x.k)
              clear hq c0 c1 c2 q0
              go_wp2_with fail
              exact ⟨rfl, .tuple #[.int .i64 0, .bool false], by simp [results, Try.results30, go_sem], by rw [E.out, E2.out]; rfl, KX.out⟩
            · have h16' : decide ((p : Int) < 16) = false := decide_eq_false h16
              have ESZ := hid (show szB k p = decide (p ≤ R) by
                have : 16 ≤ p := by omega
                rw [HR.out]; simp [szB, hpw, this])
              clear hpw
              by_cases hgt : (R : Int) < (p : Int)
              · have E := hid (BAD.out (by
                  have : ¬ p ≤ R := by omega
                  rw [ESZ.out, decide_eq_false this]))
                have E2 := hid (BADV.out E.out)
                have hgt' : decide ((R : Int) < (p : Int)) = true := decide_eq_true hgt
                go_wp2_with fail
                refine wp_region_kept (by kernel_rfl) (by kernel_rfl) ?_
                repeat (go_big_quiet_step (first | (go_at_call 44; exact Calls.kept_of ((HPW.out _).mono fun e w' h => ⟨h.1, h.2 ▸ Kept.refl _ _⟩)) | (go_at_call 27; exact Calls.kept_of (HRR.out _))))
                refine wpQuiet_nil ?_
                intro x
                have KX := hid (none_trans KR.out x.k)
                have KX' := hid (none_trans HI.out.2 x.k)
                clear hq c0 c1 c2 q0
                go_wp2_with fail
                exact ⟨rfl, .tuple #[.int .i64 0, .bool false], by simp [results, Try.results30, go_sem], by rw [E.out, E2.out]; rfl, KX.out⟩
              · have NX := hid (NXA.out (by
                  have : p ≤ R := by omega
                  rw [ESZ.out, decide_eq_true this]))
                have hgt' : decide ((R : Int) < (p : Int)) = false := decide_eq_false hgt
                go_wp2_with fail
                refine wp_region_kept (by kernel_rfl) (by kernel_rfl) ?_
                repeat (go_big_quiet_step (first | (go_at_call 44; exact Calls.kept_of ((HPW.out _).mono fun e w' h => ⟨h.1, h.2 ▸ Kept.refl _ _⟩)) | (go_at_call 27; exact Calls.kept_of (HRR.out _))))
                refine wpQuiet_nil ?_
                intro x
                have KX := hid (none_trans KR.out x.k)
                have KX' := hid (none_trans HI.out.2 x.k)
                clear hq c0 c1 c2 q0
                go_wp2_with fail
                go_round
                case rel => exact ⟨a + 1, by omega, by go_num, hid ⟨NX.out, KX'.out⟩⟩
                case measure => simp [intOf]; omega
        · have hge : ¬ (a : Int) < (sz.length : Int) := by omega
          have SZ := hid (show ∀ x ∈ sz, szB k x = true from fun x hx => HI.out.1 x (by rw [show a = sz.length by omega, List.take_length]; exact hx))
          have ELO2 := hid (show lo = decide (leaN (allU base l) sz k ≤ L) by
            rw [ELO.out, List.all_eq_true.2 SZ.out]
            rfl)
          have K3 := hid (none_trans K2.out HI.out.2)
          have C3 := hid (C2.out.keep HI.out.2 (fun x => x))
          clear HI hlt ha ELO K2 C2 HRR HR
          obtain ⟨c0, c1, c2⟩ := C3.out.cells
          go_wp2_with fail
          clear c0 c1 c2
          go_loopw [9] (fun i W => ∃ b : Nat, b ≤ L + 1 ∧ i = .int .i64 (b : Int) ∧ Hid ((∀ n, n < b → ¬ leaN (allU base l) sz k ≤ n) ∧ Kept none' wr W)) (fun i _ => L + 1 - (intOf i).toNat)
          case atStart => exact ⟨0, by omega, rfl, hid ⟨fun n hn => absurd hn (Nat.not_lt_zero n), Kept.refl _ _⟩⟩
          case round =>
            obtain ⟨b, hb, rfl, HJ⟩ := hrel
            have K4 := hid (none_trans K3.out HJ.out.2)
            have C4 := hid (C3.out.keep HJ.out.2 (fun x => x))
            obtain ⟨c0, c1, c2⟩ := C4.out.cells
            by_cases hbL : b ≤ L
            · have hbi : (b : Int) ≤ (L : Int) := by omega
              have hbi' : decide ((b : Int) ≤ (L : Int)) = true := decide_eq_true hbi
              obtain ⟨dv, hdv⟩ : ∃ dv, dv = laiV base k b l sz := ⟨_, rfl⟩
              have HLD := hid (show ∀ W, BL W (.slice oa l.length oc) l → SL W (.slice oa2 sz.length oc2) sz → Calls Try.prog 50 #[cfgV base (L : Int) (k : Int), .int .i64 (b : Int), .slice oa l.length oc, .slice oa2 sz.length oc2] W fun e w' => e = .returned (.bool dv) ∧ Kept none' W w' from fun W h1 h2 => by
                rw [hdv]; exact refLaid base k b L (L : Int) hk8 hbL hL64 _ l _ sz SN.out HBE.out hlen hlen2 W h1 h2)
              have DI := hid (show dv = true ↔ leaN (allU base l) sz k ≤ b by rw [hdv]; exact lai_iff hk8 hbL SN.out SZ.out)
              clear hdv
              go_wp2_with fail
              refine (HLD.out _ (BL0.out.keep K4.out) (SL0.out.keep K4.out)).mono ?_
              rintro e w5 ⟨rfl, hk⟩
              have K5 := hid (none_trans K4.out hk)
              have K5' := hid (none_trans HJ.out.2 hk)
              clear hk c0 c1 c2
              cases dv with
              | true =>
                have hle := DI.out.1 rfl
                have E := hid (show lo = true by rw [ELO2.out]; exact decide_eq_true (by omega))
                have E2 := hid (show lv = b by
                  rw [ELV.out E.out]
                  refine Nat.le_antisymm hle (Nat.le_of_not_lt fun hc => ?_)
                  exact HJ.out.1 _ hc (Nat.le_refl _))
                clear hle
                go_wp2_with fail
                exact ⟨rfl, .tuple #[.int .i64 (b : Int), .bool true], by simp [results, Try.results30, go_sem], by rw [E.out, E2.out], K5.out⟩
              | false =>
                have NX := hid (show ∀ n, n < b + 1 → ¬ leaN (allU base l) sz k ≤ n from fun n hn hle => by
                  rcases Nat.lt_or_ge n b with c | c
                  · exact HJ.out.1 n c hle
                  · have e : n = b := by omega
                    subst e
                    have := DI.out.2 hle
                    cases this)
                go_wp2_with fail
                go_round
                case rel => exact ⟨b + 1, by omega, by go_num, hid ⟨NX.out, K5'.out⟩⟩
                case measure => simp [intOf]; omega
            · have hbi : ¬ (b : Int) ≤ (L : Int) := by omega
              have hbi' : decide ((b : Int) ≤ (L : Int)) = false := decide_eq_false hbi
              have E := hid (show lo = false by rw [ELO2.out]; exact decide_eq_false fun hle => HJ.out.1 L (by omega) hle)
              have E2 := hid (BADV.out E.out)
              go_wp2_with fail
              exact ⟨rfl, .tuple #[.int .i64 0, .bool false], by simp [results, Try.results30, go_sem], by rw [E.out, E2.out]; rfl, K4.out⟩
    · have hs2 : (sv == -1) = false := by rw [beq_eq_false_iff_ne]; exact hs1
      have E := hid (show lo = false by rw [ELO.out, hs2]; rfl)
      have E2 := hid (BADV.out E.out)
      go_wp2_with fail
      exact ⟨rfl, .tuple #[.int .i64 0, .bool false], by simp [results, Try.results30, go_sem], by rw [E.out, E2.out]; rfl, K2.out⟩
end Go.Proofs.Ytibljocjdlgfbaa
