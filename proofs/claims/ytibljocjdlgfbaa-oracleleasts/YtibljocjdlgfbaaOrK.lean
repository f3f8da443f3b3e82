/- oracle.NoFit, Stuck. -/
import Derived.Test.YtibljocjdlgfbaaOrJ
namespace Go.Proofs.Ytibljocjdlgfbaa
open Go.RowKit
set_option linter.unusedVariables false

/-- How many pages a stretch for r has. -/
def lonN (r : Nat) : Nat := if r < 4096 then 1 else r / 4096
/-- Does nothing fit, where all is sound? -/
def fitU (U : List Un) (k n r : Nat) : Bool := (stN U (lonN r) == n * 2 ^ k / lonN r) && (rmN U r == 0)
/-- What NoFit tells. -/
def nofV (base : Nat) (lim ord n : Int) (l : Bls) (r : Nat) : Bool := mayR base lim ord n && (sndI base ord.toNat n.toNat l == -1) && szB ord.toNat r && fitU (allU base l) ord.toNat n.toNat r

theorem CB.all {W : World} {x base : Nat} {lim ord : Int} (h : CB W x base lim ord) : (∀ y : KW W, y.v.cell? ⟨x, 0, none⟩ = some (.int .u64 (base : Int))) ∧ (∀ y : KW W, y.v.cell? ⟨x, 1, none⟩ = some (.int .i64 lim)) ∧ (∀ y : KW W, y.v.cell? ⟨x, 2, none⟩ = some (.int .i64 ord)) :=
  ⟨fun y => (h.keep y.k (fun e => e)).cells.1, fun y => (h.keep y.k (fun e => e)).cells.2.1, fun y => (h.keep y.k (fun e => e)).cells.2.2⟩

set_option maxRecDepth 4000 in
theorem NoFit_any (base : Nat) (hb64 : base < 18446744073709551616) (lim ord n : Int) (hl1 : -9223372036854775808 ≤ lim) (hl2 : lim ≤ 9223372036854775807) (ho1 : -9223372036854775808 ≤ ord) (ho2 : ord ≤ 9223372036854775807) (v : Value) (l : Bls) (r : Nat) (hr : r < 2 ^ 64) (w : World) (hbl : BL w v l) :
    Calls Try.prog 14 #[cfgV base lim ord, .int .i64 n, v, .int .u64 (r : Int)] w fun e w' => e = .returned (.bool (nofV base lim ord n l r)) ∧ Kept none' w w' := by
  have PO := hid (fun W h => pagesOf_any base hb64 lim ord n hl1 hl2 ho1 ho2 v l W h)
  have C0 := hid (show CB (w.alloc (.cells #[.int .u64 (base : Int), .int .i64 lim, .int .i64 ord] 24)) w.heap.size base lim ord from heap_new w _)
  have K0 := hid (show Kept none' w (w.alloc (.cells #[.int .u64 (base : Int), .int .i64 lim, .int .i64 ord] 24)) from (Kept.refl _ w).alloc _)
  have BL0 := hid (hbl.keep K0.out)
  clear hbl
  go_enter Try.func14, Try.ntmps14
  go_wp2_with fail
  generalize w.alloc (.cells #[.int .u64 (base : Int), .int .i64 lim, .int .i64 ord] 24) = W0 at *
  refine (PO.out _ BL0.out).mono ?_
  rintro e w1 ⟨hk, he⟩
  have K1 := hid (none_trans K0.out hk)
  have C1 := hid (C0.out.keep hk (fun x => x))
  rcases he with ⟨h1, rfl⟩ | ⟨h1, h2, rfl⟩ | ⟨h1, h2, m, rfl, h3⟩
  · have E := hid (show false = nofV base lim ord n l r by simp [nofV, h1])
    clear hk h1
    go_wp2_with fail
    go_ret
    exact ⟨ret_bool E.out, K1.out⟩
  · have E := hid (show false = nofV base lim ord n l r by simp [nofV, h2])
    have hne : (sndI base ord.toNat n.toNat l != -1) = true := by rw [bne_iff_ne]; exact h2
    generalize sndI base ord.toNat n.toNat l = si at *
    clear hk h1 h2
    go_wp2_with fail
    go_ret
    exact ⟨ret_bool E.out, K1.out⟩
  · obtain ⟨k, rr, L, rfl, rfl, rfl, hk8, hL1, hL64, hrL, hLR, hb0, hbm, hbe⟩ := mayR_facts h1
    have E := hid (show nofV base (L : Int) (k : Int) (rr : Int) l r = (szB k r && fitU (allU base l) k rr r) by
      rw [Int.toNat_natCast, Int.toNat_natCast] at h2
      simp [nofV, h1, h2])
    have HS := hid (fun W => isSize_any base (L : Int) k hk8 r hr W)
    have P1 := hid h3
    obtain ⟨c0, c1, c2⟩ := C1.out.cells
    generalize allU base l = U at *
    clear hk h1 h2 h3 PO BL0
    cases hsz : szB k r with
    | false =>
      rw [hsz] at HS E
      go_wp2_with fail
      refine (HS.out _).mono ?_
      rintro e w2 ⟨rfl, hk⟩
      have K2 := hid (none_trans K1.out hk)
      clear hk c0 c1 c2
      go_wp2_with fail
      go_ret
      exact ⟨ret_bool (by rw [E.out]; rfl), K2.out⟩
    | true =>
      have hr16 : 16 ≤ r ∧ r ≤ 1048576 := by
        have := RS_le k hk8
        simp only [szB, Bool.and_eq_true, decide_eq_true_eq] at hsz
        omega
      rw [hsz, Bool.true_and] at E
      rw [hsz] at HS
      clear hsz
      obtain ⟨g, hg⟩ : ∃ g, g = lonN r := ⟨_, rfl⟩
      have hg1 : 1 ≤ g ∧ g ≤ 4096 := by rw [hg]; unfold lonN; split <;> omega
      obtain ⟨np, hnp⟩ : ∃ np, np = rr * 2 ^ k := ⟨_, rfl⟩
      have hnp2 : np ≤ 16384 := by rw [hnp]; exact Nat.le_trans (Nat.mul_le_mul (Nat.le_trans hrL hL64) (pow8 k hk8).2) (by decide)
      have hnp1 : IntKind.u64.wrap ((rr : Int) * 2 ^ k) = (np : Int) := by
        have e : ((2 : Int) ^ k) = ((2 ^ k : Nat) : Int) := by simp
        have e2 : (rr : Int) * ((2 ^ k : Nat) : Int) = (np : Int) := by rw [hnp]; simp
        rw [wrap_u64, e, e2]
        omega
      obtain ⟨q, hq⟩ : ∃ q, q = np / g := ⟨_, rfl⟩
      have hq1 : (np : Int) / (g : Int) = (q : Int) := by rw [hq]; simp
      have E2 := hid (show nofV base (L : Int) (k : Int) (rr : Int) l r = ((stN U g == q) && (rmN U r == 0)) by rw [E.out, fitU, ← hg, ← hnp, ← hq])
      have hg0 : ¬ (g : Int) = 0 := by omega
      have HGD := hid hg
      have HQD := hid hq
      have hwq : IntKind.u64.wrap (q : Int) = (q : Int) := by
        have : q ≤ np := by rw [hq]; exact Nat.div_le_self _ _
        rw [wrap_u64]; omega
      obtain ⟨st, hst⟩ : ∃ st, st = stN U g := ⟨_, rfl⟩
      have HT := hid (fun W h => stretches_any (N := W0.heap.size) (w := W) (m := m) (U := U) h g hg1)
      have HR := hid (fun W h => room_any (N := W0.heap.size) (w := W) (m := m) (U := U) h r hr)
      rw [← hst] at HT E2
      clear E hg hnp hq hst
      go_wp2_with fail
      refine (HS.out _).mono ?_
      rintro e w2 ⟨rfl, hk⟩
      have K2 := hid (none_trans K1.out hk)
      have C2 := hid (C1.out.keep hk (fun x => x))
      have P2 := hid (P1.out.keep hk)
      clear hk c0 c1 c2
      obtain ⟨c0, c1, c2⟩ := C2.out.all
      by_cases hmx : (r : Int) < 4096
      · obtain rfl : g = 1 := by rw [HGD.out]; unfold lonN; rw [if_pos (by omega)]
        obtain rfl : q = np := by rw [HQD.out, Nat.div_one]
        by_cases hs1 : st = q
        · have hs1' : ((st : Int) == (q : Int)) = true := by rw [beq_iff_eq]; omega
          have E3 := hid (show nofV base (L : Int) (k : Int) (rr : Int) l r = (rmN U r == 0) by rw [E2.out]; simp [hs1])
          clear hs1
          go_wp2_with fail
          refine wp_region_kept (by kernel_rfl) (by kernel_rfl) ?_
          repeat (go_big_quiet_step (first | (go_at_call 37; exact Calls.kept_of (HT.out _ (P2.out.keep (KW.k _)))) | (go_at_call 38; exact Calls.kept_of (HR.out _ (P2.out.keep (KW.k _))))))
          refine wpQuiet_nil ?_
          intro x
          go_wp2
          go_ret
          refine ⟨ret_bool ?_, none_trans K2.out x.k⟩
          rw [E3.out, Bool.eq_iff_iff, beq_iff_eq, beq_iff_eq]
          omega
        · have hs1' : ((st : Int) == (q : Int)) = false := by rw [beq_eq_false_iff_ne]; omega
          have E3 := hid (show nofV base (L : Int) (k : Int) (rr : Int) l r = false by rw [E2.out]; simp [hs1])
          clear hs1
          go_wp2_with fail
          refine wp_region_kept (by kernel_rfl) (by kernel_rfl) ?_
          repeat (go_big_quiet_step (first | (go_at_call 37; exact Calls.kept_of (HT.out _ (P2.out.keep (KW.k _)))) | (go_at_call 38; exact Calls.kept_of (HR.out _ (P2.out.keep (KW.k _))))))
          refine wpQuiet_nil ?_
          intro x
          go_wp2
          go_ret
          exact ⟨ret_bool E3.out.symm, none_trans K2.out x.k⟩
      · have hgm : (r : Int) / 4096 = (g : Int) := by rw [HGD.out]; unfold lonN; rw [if_neg (by omega)]; omega
        by_cases hs1 : st = q
        · have hs1' : ((st : Int) == (q : Int)) = true := by rw [beq_iff_eq]; omega
          have E3 := hid (show nofV base (L : Int) (k : Int) (rr : Int) l r = (rmN U r == 0) by rw [E2.out]; simp [hs1])
          clear hs1
          go_wp2_with fail
          refine wp_region_kept (by kernel_rfl) (by kernel_rfl) ?_
          repeat (go_big_quiet_step (first | (go_at_call 37; exact Calls.kept_of (HT.out _ (P2.out.keep (KW.k _)))) | (go_at_call 38; exact Calls.kept_of (HR.out _ (P2.out.keep (KW.k _))))))
          refine wpQuiet_nil ?_
          intro x
          go_wp2
          go_ret
          refine ⟨ret_bool ?_, none_trans K2.out x.k⟩
          rw [E3.out, Bool.eq_iff_iff, beq_iff_eq, beq_iff_eq]
          omega
        · have hs1' : ((st : Int) == (q : Int)) = false := by rw [beq_eq_false_iff_ne]; omega
          have E3 := hid (show nofV base (L : Int) (k : Int) (rr : Int) l r = false by rw [E2.out]; simp [hs1])
          clear hs1
          go_wp2_with fail
          refine wp_region_kept (by kernel_rfl) (by kernel_rfl) ?_
          repeat (go_big_quiet_step (first | (go_at_call 37; exact Calls.kept_of (HT.out _ (P2.out.keep (KW.k _)))) | (go_at_call 38; exact Calls.kept_of (HR.out _ (P2.out.keep (KW.k _))))))
          refine wpQuiet_nil ?_
          intro x
          go_wp2
          go_ret
          exact ⟨ret_bool E3.out.symm, none_trans K2.out x.k⟩
/-- What Stuck tells. -/
def stkV (base : Nat) (lim ord n : Int) (l : Bls) (r : Nat) (dn : Bool) : Bool := (dn || n == lim) && nofV base lim ord n l r
theorem Stuck_any (base : Nat) (hb64 : base < 18446744073709551616) (lim ord n : Int) (hl1 : -9223372036854775808 ≤ lim) (hl2 : lim ≤ 9223372036854775807) (ho1 : -9223372036854775808 ≤ ord) (ho2 : ord ≤ 9223372036854775807) (v : Value) (l : Bls) (r : Nat) (hr : r < 2 ^ 64) (dn : Bool) (w : World) (hbl : BL w v l) :
    Calls Try.prog 15 #[cfgV base lim ord, .int .i64 n, v, .int .u64 (r : Int), .bool dn] w fun e w' => e = .returned (.bool (stkV base lim ord n l r dn)) ∧ Kept none' w w' := by
  have NF := hid (fun W h => NoFit_any base hb64 lim ord n hl1 hl2 ho1 ho2 v l r hr W h)
  have C0 := hid (show CB (w.alloc (.cells #[.int .u64 (base : Int), .int .i64 lim, .int .i64 ord] 24)) w.heap.size base lim ord from heap_new w _)
  have K0 := hid (show Kept none' w (w.alloc (.cells #[.int .u64 (base : Int), .int .i64 lim, .int .i64 ord] 24)) from (Kept.refl _ w).alloc _)
  have BL0 := hid (hbl.keep K0.out)
  obtain ⟨nf, hnf⟩ : ∃ nf, nf = nofV base lim ord n l r := ⟨_, rfl⟩
  have E := hid (show stkV base lim ord n l r dn = ((dn || n == lim) && nf) by rw [hnf]; rfl)
  rw [← hnf] at NF
  clear hbl hnf
  cases dn with
  | true =>
    go_enter Try.func15, Try.ntmps15
    go_wp2_with fail
    generalize w.alloc (.cells #[.int .u64 (base : Int), .int .i64 lim, .int .i64 ord] 24) = W0 at *
    refine (NF.out _ BL0.out).mono ?_
    rintro e w1 ⟨rfl, hk⟩
    have K1 := hid (none_trans K0.out hk)
    clear hk
    go_wp2_with fail
    go_ret
    exact ⟨ret_bool (by rw [E.out]; rfl), K1.out⟩
  | false =>
    by_cases h1 : n = lim
    · have h1' : (n == lim) = true := by rw [beq_iff_eq]; exact h1
      rw [h1'] at E
      subst h1
      go_enter Try.func15, Try.ntmps15
      go_wp2_with fail
      generalize w.alloc (.cells #[.int .u64 (base : Int), .int .i64 n, .int .i64 ord] 24) = W0 at *
      refine (NF.out _ BL0.out).mono ?_
      rintro e w1 ⟨rfl, hk⟩
      have K1 := hid (none_trans K0.out hk)
      clear hk
      go_wp2_with fail
      go_ret
      exact ⟨ret_bool (by rw [E.out]; rfl), K1.out⟩
    · have h1' : (n == lim) = false := by rw [beq_eq_false_iff_ne]; exact h1
      rw [h1'] at E
      go_enter Try.func15, Try.ntmps15
      go_wp2_with fail
      go_ret
      exact ⟨ret_bool (by rw [E.out]; rfl), K0.out⟩
end Go.Proofs.Ytibljocjdlgfbaa
