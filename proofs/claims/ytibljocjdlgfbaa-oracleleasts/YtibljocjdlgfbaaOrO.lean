/- (pages).regionsFor. -/
import Derived.Test.YtibljocjdlgfbaaOrN
namespace Go.Proofs.Ytibljocjdlgfbaa
open Go.RowKit
set_option linter.unusedVariables false

/-- What the greater blocks have taken, behind j orders. -/
def takF (f : Nat → Nat) (k : Nat) : Nat → Nat
  | 0 => 0
  | j + 1 => 2 * takF f k j + f (k - j)
/-- How many regions it takes, behind j orders. -/
def cntR (U : List Un) (f : Nat → Nat) (k : Nat) : Nat → Nat
  | 0 => 0
  | j + 1 => max (cntR U f k j) (upN (takF f k (j + 1) + stN U (2 ^ (k - j))) (2 ^ j))
def rfN (U : List Un) (f : Nat → Nat) (k : Nat) : Nat := cntR U f k (k + 1)

theorem takF_le (f : Nat → Nat) (k : Nat) (hf : ∀ i, f i ≤ 281474976710656) (j : Nat) : takF f k j + 281474976710656 ≤ 2 ^ j * 281474976710656 := by
  induction j with
  | zero => simp [takF]
  | succ j ih =>
    have := hf (k - j)
    rw [Nat.pow_succ]
    simp only [takF]
    omega
theorem stN_le {N w m U} (h : PG N w m U) (long : Nat) : stN U long ≤ 1024 := by
  obtain ⟨ks, S, B, C, X, h⟩ := h
  refine nodup_le 1024 _ (nodup_ded _) (fun x hx => ?_)
  rw [mem_ded, List.mem_map] at hx
  obtain ⟨u, hu, rfl⟩ := hx
  exact Nat.lt_of_le_of_lt (Nat.div_le_self _ _) (h.sz u hu).2.2.1
theorem cntR_le (U : List Un) (f : Nat → Nat) (k : Nat) (hk : k ≤ 8) (hf : ∀ i, f i ≤ 281474976710656) (hs : ∀ long, stN U long ≤ 1024) : ∀ j, j ≤ 9 → cntR U f k j ≤ 2 ^ 58
  | 0, _ => by simp [cntR]
  | j + 1, hj => by
    have h1 := cntR_le U f k hk hf hs j (by omega)
    have h2 := takF_le f k hf (j + 1)
    have h3 := hs (2 ^ (k - j))
    have h4 : 2 ^ (j + 1) ≤ 2 ^ 9 := Nat.pow_le_pow_right (by decide) hj
    have h5 := upN_le (takF f k (j + 1) + stN U (2 ^ (k - j))) (2 ^ j) (Nat.two_pow_pos j)
    have h6 : 2 ^ (j + 1) * 281474976710656 ≤ 2 ^ 9 * 281474976710656 := Nat.mul_le_mul_right _ h4
    simp only [cntR]
    refine Nat.max_le.2 ⟨h1, ?_⟩
    omega

set_option maxRecDepth 6000 in
set_option maxHeartbeats 2000000 in
theorem regionsFor_any {N w m U} (h : PG N w m U) (f : Nat → Nat) (k : Nat) (hk : k ≤ 8) (hf : ∀ i, f i ≤ 281474976710656) :
    Calls Try.prog 41 #[.map (some m), .int .i64 (k : Int), .agg (acl f)] w fun e w' => e = .returned (.int .u64 ((rfN U f k : Nat) : Int)) ∧ Kept none' w w' := by
  have hst := stN_le h
  have H0 := hid h
  have A1 := hid (show ArA (w.alloc (.cells (acl f) 82)) w.heap.size f from heap_new w _)
  have K1 := hid (show Kept none' w (w.alloc (.cells (acl f) 82)) from (Kept.refl _ _).alloc _)
  have HST := hid hst
  have HF := hid hf
  clear h hst hf
  go_enter Try.func41, Try.ntmps41
  go_wp2_with fail
  generalize w.alloc (.cells (acl f) 82) = W1 at *
  generalize hbx : w.heap.size = bx at *
  go_loopw [7, 8, 9] (fun c t o W => ∃ j : Nat, j ≤ k + 1 ∧ c = .int .u64 ((cntR U f k j : Nat) : Int) ∧ t = .int .u64 ((takF f k j : Nat) : Int) ∧ o = .int .i64 ((k : Int) - (j : Int)) ∧ Hid (ArA W bx f ∧ Kept none' w W)) (fun _ _ o _ => ((intOf o) + 1).toNat)
  case atStart => exact ⟨0, Nat.zero_le _, rfl, rfl, by simp, hid ⟨A1.out, K1.out⟩⟩
  case round =>
    clear A1 K1
    obtain ⟨j, hj, rfl, rfl, rfl, HI⟩ := hrel
    obtain ⟨c, hc⟩ : ∃ c, c = cntR U f k j := ⟨_, rfl⟩
    obtain ⟨t, ht⟩ : ∃ t, t = takF f k j := ⟨_, rfl⟩
    have hcb : c ≤ 2 ^ 58 := by rw [hc]; exact cntR_le U f k hk HF.out HST.out j (by omega)
    have htb : t ≤ 2 ^ 57 := by
      have h1 := takF_le f k HF.out j
      have h4 : 2 ^ j ≤ 2 ^ 9 := Nat.pow_le_pow_right (by decide) (by omega)
      have h6 : 2 ^ j * 281474976710656 ≤ 2 ^ 9 * 281474976710656 := Nat.mul_le_mul_right _ h4
      omega
    rw [← hc, ← ht]
    by_cases hlt : j ≤ k
    · obtain ⟨i, hi⟩ : ∃ i, i = k - j := ⟨_, rfl⟩
      have hi1 : (k : Int) - (j : Int) = (i : Int) := by omega
      have hi2 : (k : Int) - (i : Int) = (j : Int) := by omega
      have hi8 : i ≤ 8 := by omega
      rw [hi1]
      obtain ⟨fi, hfi⟩ : ∃ fi, fi = f i := ⟨_, rfl⟩
      have hfb : fi ≤ 281474976710656 := by rw [hfi]; exact HF.out i
      have q0 := HI.out.1.cell i hi8
      rw [← hfi] at q0
      obtain ⟨t2, ht2⟩ : ∃ t2, t2 = 2 * t + fi := ⟨_, rfl⟩
      have ht3 : (2 : Int) * (t : Int) + (fi : Int) = (t2 : Int) := by omega
      have ht2b : t2 ≤ 2 ^ 59 := by omega
      obtain ⟨si, hsi⟩ : ∃ si, si = 2 ^ i := ⟨_, rfl⟩
      obtain ⟨sj, hsj⟩ : ∃ sj, sj = 2 ^ j := ⟨_, rfl⟩
      have hsib : 1 ≤ si ∧ si ≤ 256 := by rw [hsi]; exact pow8 i hi8
      have hsjb : 1 ≤ sj ∧ sj ≤ 256 := by rw [hsj]; exact pow8 j (by omega)
      have hwi : IntKind.u64.wrap (2 ^ i) = (si : Int) := by
        have e : ((2 : Int) ^ i) = ((2 ^ i : Nat) : Int) := by simp
        rw [wrap_u64, e, ← hsi]; omega
      have hwj : IntKind.u64.wrap (2 ^ j) = (sj : Int) := by
        have e : ((2 : Int) ^ j) = ((2 ^ j : Nat) : Int) := by simp
        rw [wrap_u64, e, ← hsj]; omega
      obtain ⟨st, hst⟩ : ∃ st, st = stN U si := ⟨_, rfl⟩
      have hstb : st ≤ 1024 := by rw [hst]; exact HST.out si
      obtain ⟨sm, hsm⟩ : ∃ sm, sm = t2 + st := ⟨_, rfl⟩
      have hsm1 : IntKind.u64.wrap ((t2 : Int) + (st : Int)) = (sm : Int) := by rw [wrap_u64]; omega
      obtain ⟨up, hup⟩ : ∃ up, up = upN sm sj := ⟨_, rfl⟩
      have hupb : up ≤ sm := by rw [hup]; exact upN_le _ _ hsjb.1
      have HT := hid (show ∀ x : KW wr, Calls Try.prog 37 #[.map (some m), .int .u64 (si : Int)] x.v fun e w' => e = .returned (.int .u64 (st : Int)) ∧ Kept none' x.v w' from fun x => by
        rw [hst]; exact stretches_any (H0.out.keep (none_trans HI.out.2 x.k)) si ⟨hsib.1, by omega⟩)
      have HU := hid (show ∀ x : KW wr, Calls Try.prog 56 #[.int .u64 (sm : Int), .int .u64 (sj : Int)] x.v fun e w' => e = .returned (.int .u64 (up : Int)) ∧ Kept none' x.v w' from fun x => by
        rw [hup]; exact (upward_any sm sj (by omega) hsjb.1 x.v).mono fun e w' ⟨h1, h2⟩ => ⟨h1, h2 ▸ Kept.refl _ _⟩)
      have NT := hid (show t2 = takF f k (j + 1) by rw [ht2, ht, hfi, hi]; rfl)
      have NC := hid (show max c up = cntR U f k (j + 1) by
        rw [hc, hup, hsm, hst, hsi, hsj, NT.out, hi]; rfl)
      clear hc ht hi hfi ht2 hsi hsj hst hsm hup
      by_cases hlt2 : (c : Int) < (up : Int)
      · have HMX := hid (show up = cntR U f k (j + 1) by rw [← NC.out]; omega)
        go_wp2_with fail
        refine wp_region_kept (by kernel_rfl) (by kernel_rfl) ?_
        repeat (go_big_quiet_step (first | (go_at_call 37; exact Calls.kept_of (HT.out _)) | (go_at_call 56; exact Calls.kept_of (HU.out _))))
        refine wpQuiet_nil ?_
        intro x
        go_wp2_with fail
        exact ⟨⟨j + 1, by omega, by rw [HMX.out], by rw [NT.out], by congr 1; omega, hid ⟨HI.out.1.keep x.k (fun e => e), none_trans HI.out.2 x.k⟩⟩, by simp [intOf]⟩
      · have HMX := hid (show c = cntR U f k (j + 1) by rw [← NC.out]; omega)
        go_wp2_with fail
        refine wp_region_kept (by kernel_rfl) (by kernel_rfl) ?_
        repeat (go_big_quiet_step (first | (go_at_call 37; exact Calls.kept_of (HT.out _)) | (go_at_call 56; exact Calls.kept_of (HU.out _))))
        refine wpQuiet_nil ?_
        intro x
        go_wp2_with fail
        exact ⟨⟨j + 1, by omega, by rw [HMX.out], by rw [NT.out], by congr 1; omega, hid ⟨HI.out.1.keep x.k (fun e => e), none_trans HI.out.2 x.k⟩⟩, by simp [intOf]⟩
    · have hje : j = k + 1 := by omega
      have hi1 : (k : Int) - (j : Int) = -1 := by omega
      rw [hi1]
      have E := hid (show c = rfN U f k by rw [hc, hje]; rfl)
      clear hc ht
      go_wp2_with fail
      go_ret
      exact ⟨ret_int (by rw [E.out]), HI.out.2⟩
end Go.Proofs.Ytibljocjdlgfbaa
