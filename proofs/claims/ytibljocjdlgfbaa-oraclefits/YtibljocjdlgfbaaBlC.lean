/- OracleSounds. -/
import Derived.Test.YtibljocjdlgfbaaBlB
namespace Go.Proofs.Ytibljocjdlgfbaa
open Go.RowKit
set_option linter.unusedVariables false

theorem BL.pre {w : World} {g n cap : Nat} {l k : Bls} (h : BL w (.slice (some ⟨g, 0, none⟩) n cap) (l ++ k)) : BL w (.slice (some ⟨g, 0, none⟩) l.length cap) l := by
  obtain ⟨h1, h2, oa, oc, h3, h4⟩ := h
  injection h3 with e1 e2 e3
  subst e1 e3
  refine ⟨by rw [List.length_append] at h1; omega, fun b hb => h2 b (List.mem_append_left _ hb), _, cap, rfl, ?_⟩
  rcases h4 with h4 | ⟨bl, o, e, hlt, hc⟩
  · exact .inl (by rw [List.length_append] at h4; omega)
  · refine .inr ⟨bl, o, e, hlt, fun i b hi => hc i b ?_⟩
    rw [List.getElem?_append_left (List.getElem?_eq_some_iff.1 hi).1]
    exact hi

set_option maxRecDepth 4000 in
set_option maxHeartbeats 2000000 in
theorem oracleSounds (base : Nat) (hb64 : base < 18446744073709551616) (lim ord : Int) (hl1 : -9223372036854775808 ≤ lim) (hl2 : lim ≤ 9223372036854775807) (ho1 : -9223372036854775808 ≤ ord) (ho2 : ord ≤ 9223372036854775807) (n : Int) (hn1 : -9223372036854775808 ≤ n) (hn2 : n ≤ 9223372036854775807) (v : Value) (l : Bls) (w : World) (hbl : BL w v l) (hlen : l.length ≤ 8796093022000) :
    Calls Try.prog 5 #[cfgV base lim ord, .int .i64 n, v] w fun e w' => e = .returned (.bool true) ∧ Kept none' w w' := by
  obtain ⟨oa, oc, rfl⟩ : ∃ oa oc, v = .slice oa l.length oc := by
    obtain ⟨_, _, oa, oc, hv, _⟩ := hbl
    exact ⟨oa, oc, hv⟩
  have C0 := hid (show CR (w.alloc (.cells #[.int .u64 (base : Int), .int .i64 lim, .int .i64 ord] 42)) w.heap.size base lim ord from heap_new w _)
  have K0 := hid (show Kept none' w (w.alloc (.cells #[.int .u64 (base : Int), .int .i64 lim, .int .i64 ord] 42)) from (Kept.refl _ w).alloc _)
  have BL0 := hid hbl
  obtain ⟨sv, hsv⟩ : ∃ sv, sv = sndV base lim ord n l := ⟨_, rfl⟩
  have HS := hid (show ∀ W v, BL W v l → Calls Try.prog 13 #[cfgV base lim ord, .int .i64 n, v] W fun e w' => e = .returned (.int .i64 sv) ∧ Kept none' W w' from fun W v h => by
    rw [hsv]; exact Sound_any base hb64 lim ord n hl1 hl2 ho1 ho2 v l W h)
  have HR := hid (show ∀ W v, BL W v l → Calls Try.prog 22 #[cfgV base lim ord, .int .i64 n, v] W fun e w' => e = .returned (.int .i64 sv) ∧ Kept none' W w' from fun W v h => by
    rw [hsv]; exact refSound base hb64 lim ord n hl1 hl2 ho1 ho2 v l W h)
  have HBK := hid (fun W v h => blocks_any v l W h hlen)
  clear hbl hsv
  go_enter Try.func5, Try.ntmps5
  go_wp2_with fail
  generalize w.alloc (.cells #[.int .u64 (base : Int), .int .i64 lim, .int .i64 ord] 42) = W0 at *
  refine (HBK.out _ _ (BL0.out.keep K0.out)).mono ?_
  rintro e w1 ⟨g, cap, rfl, hcap, hA, hk⟩
  have A1 := hid hA
  have K1 := hid (none_trans K0.out hk)
  have C1 := hid (C0.out.keep hk (fun x => x))
  have P1 := hid (BL.pre hA)
  have hc1 : (l.length : Int) ≤ (cap : Int) := by omega
  have hc2 : ¬ (cap : Int) < (l.length : Int) := by omega
  clear hk hA HBK
  obtain ⟨c0, c1, c2⟩ := C1.out.all
  go_wp2_with fail
  refine wp_region_kept (by kernel_rfl) (by kernel_rfl) ?_
  repeat (go_big_quiet_step (first | (go_at_call 18; exact Calls.kept_of (config_any base lim ord _)) | (go_at_call 13; exact Calls.kept_of (HS.out _ _ (P1.out.keep (KW.k _))))))
  refine wpQuiet_nil ?_
  intro x
  have K2 := hid (none_trans K1.out x.k)
  obtain ⟨d0, d1, d2⟩ := (C1.out.keep x.k (fun x => x)).cells
  have A2 := hid (A1.out.keep x.k)
  clear c0 c1 c2
  go_wp2_with fail
  generalize x.v = w2 at *
  refine (HR.out _ _ (BL0.out.keep K2.out)).mono ?_
  rintro e w3 ⟨rfl, hk⟩
  have K3 := hid (none_trans K2.out hk)
  have A3 := hid (A2.out.keep hk)
  clear hk d0 d1 d2
  go_wp2_with fail
  refine (left_any g cap _ l w3 hlen A3.out (BL0.out.keep K3.out)).mono ?_
  rintro e w4 ⟨rfl, hk⟩
  have K4 := hid (none_trans K3.out hk)
  clear hk
  go_wp2_with fail
  refine (awake_any _).mono ?_
  rintro e w5 ⟨rfl, hk⟩
  have K5 := hid (none_trans K4.out hk)
  clear hk
  go_wp2_with fail
  go_ret
  exact ⟨rfl, K5.out⟩
end Go.Proofs.Ytibljocjdlgfbaa
