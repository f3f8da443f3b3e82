/- oracle.Least. -/
import Derived.Test.YtibljocjdlgfbaaOrO
namespace Go.Proofs.Ytibljocjdlgfbaa
open Go.RowKit
set_option linter.unusedVariables false

/-- How many regions it takes, if all is sound. -/
def leaN (U : List Un) (sz : List Nat) (k : Nat) : Nat := max (rgN U k) (rfN U (ndV U sz) k)
/-- What Least tells. -/
def leaO (base : Nat) (lim ord : Int) (l : Bls) (sz : List Nat) : Bool := mayR base lim ord lim && (sndI base ord.toNat lim.toNat l == -1) && sz.all (szB ord.toNat) && decide (leaN (allU base l) sz ord.toNat ≤ lim.toNat)
def leaV (base : Nat) (lim ord : Int) (l : Bls) (sz : List Nat) : Nat := if leaO base lim ord l sz = true then leaN (allU base l) sz ord.toNat else 0

set_option maxRecDepth 6000 in
set_option maxHeartbeats 2000000 in
theorem Least_any (base : Nat) (hb64 : base < 18446744073709551616) (lim ord : Int) (hl1 : -9223372036854775808 ≤ lim) (hl2 : lim ≤ 9223372036854775807) (ho1 : -9223372036854775808 ≤ ord) (ho2 : ord ≤ 9223372036854775807) (v : Value) (l : Bls) (vs : Value) (sz : List Nat) (w : World) (hbl : BL w v l) (hsl : SL w vs sz) :
    Calls Try.prog 17 #[cfgV base lim ord, v, vs] w fun e w' => e = .returned (.tuple #[.int .i64 ((leaV base lim ord l sz : Nat) : Int), .bool (leaO base lim ord l sz)]) ∧ Kept none' w w' := by
  have PO := hid (fun W h => pagesOf_any base hb64 lim ord lim hl1 hl2 ho1 ho2 v l W h)
  have C0 := hid (show CB (w.alloc (.cells #[.int .u64 (base : Int), .int .i64 lim, .int .i64 ord] 24)) w.heap.size base lim ord from heap_new w _)
  have K0 := hid (show Kept none' w (w.alloc (.cells #[.int .u64 (base : Int), .int .i64 lim, .int .i64 ord] 24)) from (Kept.refl _ w).alloc _)
  have BL0 := hid (hbl.keep K0.out)
  have SL0 := hid hsl
  have LV := hid (show ∀ b, leaO base lim ord l sz = b → b = false → leaV base lim ord l sz = 0 from fun b h1 h2 => by unfold leaV; rw [h1, h2]; rfl)
  clear hbl hsl
  go_enter Try.func17, Try.ntmps17
  go_wp2_with fail
  generalize w.alloc (.cells #[.int .u64 (base : Int), .int .i64 lim, .int .i64 ord] 24) = W0 at *
  refine (PO.out _ BL0.out).mono ?_
  rintro e w1 ⟨hk, he⟩
  have K1 := hid (none_trans K0.out hk)
  have C1 := hid (C0.out.keep hk (fun x => x))
  rcases he with ⟨h1, rfl⟩ | ⟨h1, h2, rfl⟩ | ⟨h1, h2, m, rfl, h3⟩
  · have E := hid (show leaO base lim ord l sz = false by simp [leaO, h1])
    have E2 := hid (LV.out _ E.out rfl)
    clear hk h1 LV
    go_wp2_with fail
    exact ⟨rfl, .tuple #[.int .i64 0, .bool false], by simp [results, Try.results17, go_sem], by rw [E.out, E2.out]; rfl, K1.out⟩
  · have E := hid (show leaO base lim ord l sz = false by simp [leaO, h2])
    have E2 := hid (LV.out _ E.out rfl)
    have hne : (sndI base ord.toNat lim.toNat l != -1) = true := by rw [bne_iff_ne]; exact h2
    generalize sndI base ord.toNat lim.toNat l = si at *
    clear hk h1 h2 LV
    go_wp2_with fail
    exact ⟨rfl, .tuple #[.int .i64 0, .bool false], by simp [results, Try.results17, go_sem], by rw [E.out, E2.out]; rfl, K1.out⟩
  · obtain ⟨k, rr, L, rfl, e1, rfl, hk8, hL1, hL64, hrL, hLR, hb0, hbm, hbe⟩ := mayR_facts h1
    have E := hid (show leaO base (L : Int) (k : Int) l sz = (sz.all (szB k) && decide (leaN (allU base l) sz k ≤ L)) by
      rw [Int.toNat_natCast, Int.toNat_natCast] at h2
      simp [leaO, h1, h2])
    have EV := hid (show leaO base (L : Int) (k : Int) l sz = true → leaV base (L : Int) (k : Int) l sz = leaN (allU base l) sz k from fun h => by unfold leaV; rw [if_pos h]; simp)
    have P1 := hid h3
    have CO := hid (countsOf_any base (L : Int) k hk8 vs sz w1 (SL0.out.keep K1.out))
    have hszl := SL0.out.1
    obtain ⟨c0, c1, c2⟩ := C1.out.cells
    clear hk h1 h2 h3 PO BL0 e1
    go_wp2_with fail
    refine CO.out.mono ?_
    rintro e w2 ⟨hk, he⟩
    have K2 := hid (none_trans K1.out hk)
    have C2 := hid (C1.out.keep hk (fun x => x))
    have P2 := hid (P1.out.keep hk)
    clear c0 c1 c2 CO
    rcases he with ⟨h1, rfl⟩ | ⟨h1, g, ds, rfl, h2, h3, h4⟩
    · have E3 := hid (show leaO base (L : Int) (k : Int) l sz = false by rw [E.out, h1]; rfl)
      have E2 := hid (LV.out _ E3.out rfl)
      clear hk h1 LV
      go_wp2_with fail
      exact ⟨rfl, .tuple #[.int .i64 0, .bool false], by simp [results, Try.results17, go_sem], by rw [E3.out, E2.out]; rfl, K2.out⟩
    · have hsz : ∀ x ∈ sz, 16 ≤ x ∧ x ≤ 1048576 := fun x hx => by
        have := szB_b hk8 (List.all_eq_true.1 h1 x hx)
        exact ⟨this.2.1, this.2.2.2⟩
      rw [h1, Bool.true_and] at E
      generalize allU base l = U at *
      obtain ⟨a, ha⟩ : ∃ a, a = rgN U k := ⟨_, rfl⟩
      obtain ⟨b, hb⟩ : ∃ b, b = rfN U (ndV U sz) k := ⟨_, rfl⟩
      have hfb : ∀ i, ndV U sz i ≤ 281474976710656 := fun i => Nat.le_trans (ndD_le U sz (ded sz) (nodup_ded sz) (fun x hx => (hsz x ((mem_ded sz x).1 hx)).1) i) hszl
      have HR := hid (show ∀ x : KW w2, Calls Try.prog 40 #[.map (some m), .int .i64 (k : Int)] x.v fun e w' => e = .returned (.int .u64 (a : Int)) ∧ Kept none' x.v w' from fun x => by
        rw [ha]; exact regions_any (P2.out.keep x.k) k hk8)
      have HN := hid (show ∀ x : KW w2, Calls Try.prog 42 #[.map (some m), .map (some g)] x.v fun e w' => e = .returned (.agg (acl (ndV U sz))) ∧ Kept none' x.v w' from fun x =>
        need_any (P2.out.keep x.k) g ds sz (h3.kept x.k (fun e => e)) h4 hszl hsz)
      have HF := hid (show ∀ x : KW w2, Calls Try.prog 41 #[.map (some m), .int .i64 (k : Int), .agg (acl (ndV U sz))] x.v fun e w' => e = .returned (.int .u64 (b : Int)) ∧ Kept none' x.v w' from fun x => by
        rw [hb]; exact regionsFor_any (P2.out.keep x.k) (ndV U sz) k hk8 hfb)
      have hab : a ≤ 1024 + 1 := by
        rw [ha]
        unfold rgN
        rw [mxL_le]
        intro x hx
        obtain ⟨u, hu, rfl⟩ := List.mem_map.1 hx
        obtain ⟨ks, S, B, C, X, h⟩ := P2.out
        have q1 := (h.sz u hu).2.2.1
        have q2 := Nat.div_le_self u.1 (2 ^ k)
        omega
      have hbb : b ≤ 2 ^ 58 := by rw [hb]; exact cntR_le U _ k hk8 hfb (stN_le P2.out) (k + 1) (by omega)
      have EL := hid (show leaN U sz k = max a b by rw [ha, hb]; rfl)
      generalize acl (ndV U sz) = av at *
      obtain ⟨d0, d1, d2⟩ := C2.out.all
      clear ha hb hk h1 h2 h3 h4 hsz hfb LV
      by_cases hlt : (a : Int) < (b : Int)
      · have hlt2 := hid hlt
        go_wp2_with fail
        refine wp_region_kept (by kernel_rfl) (by kernel_rfl) ?_
        repeat (go_big_quiet_step (first | (go_at_call 40; exact Calls.kept_of (HR.out _)) | (go_at_call 42; exact Calls.kept_of (HN.out _)) | (go_at_call 41; exact Calls.kept_of (HF.out _))))
        refine wpQuiet_nil ?_
        intro x
        by_cases hle : (L : Int) < (b : Int)
        · have E3 := hid (show leaO base (L : Int) (k : Int) l sz = false by rw [E.out, EL.out]; exact decide_eq_false (by omega))
          have E4 := hid (show leaV base (L : Int) (k : Int) l sz = 0 by unfold leaV; rw [E3.out]; rfl)
          go_wp2_with fail
          exact ⟨rfl, .tuple #[.int .i64 0, .bool false], by simp [results, Try.results17, go_sem], by rw [E3.out, E4.out]; rfl, none_trans K2.out x.k⟩
        · have E3 := hid (show leaO base (L : Int) (k : Int) l sz = true by rw [E.out, EL.out]; exact decide_eq_true (by omega))
          have E4 := hid (show leaV base (L : Int) (k : Int) l sz = b by rw [EV.out E3.out, EL.out]; omega)
          go_wp2_with fail
          exact ⟨rfl, .tuple #[.int .i64 (b : Int), .bool true], by simp [results, Try.results17, go_sem], by rw [E3.out, E4.out], none_trans K2.out x.k⟩
      · have hlt2 := hid hlt
        go_wp2_with fail
        refine wp_region_kept (by kernel_rfl) (by kernel_rfl) ?_
        repeat (go_big_quiet_step (first | (go_at_call 40; exact Calls.kept_of (HR.out _)) | (go_at_call 42; exact Calls.kept_of (HN.out _)) | (go_at_call 41; exact Calls.kept_of (HF.out _))))
        refine wpQuiet_nil ?_
        intro x
        by_cases hle : (L : Int) < (a : Int)
        · have E3 := hid (show leaO base (L : Int) (k : Int) l sz = false by rw [E.out, EL.out]; exact decide_eq_false (by omega))
          have E4 := hid (show leaV base (L : Int) (k : Int) l sz = 0 by unfold leaV; rw [E3.out]; rfl)
          go_wp2_with fail
          exact ⟨rfl, .tuple #[.int .i64 0, .bool false], by simp [results, Try.results17, go_sem], by rw [E3.out, E4.out]; rfl, none_trans K2.out x.k⟩
        · have E3 := hid (show leaO base (L : Int) (k : Int) l sz = true by rw [E.out, EL.out]; exact decide_eq_true (by omega))
          have E4 := hid (show leaV base (L : Int) (k : Int) l sz = a by rw [EV.out E3.out, EL.out]; omega)
          go_wp2_with fail
          exact ⟨rfl, .tuple #[.int .i64 (a : Int), .bool true], by simp [results, Try.results17, go_sem], by rw [E3.out, E4.out], none_trans K2.out x.k⟩
end Go.Proofs.Ytibljocjdlgfbaa
