/- OracleFits. -/
import Derived.Test.YtibljocjdlgfbaaBlC
import Derived.Test.YtibljocjdlgfbaaRfQ
namespace Go.Proofs.Ytibljocjdlgfbaa
open Go.RowKit
set_option linter.unusedVariables false

/-- What is asked, in its box. -/
def AQ (W : World) (x base : Nat) (lim ord rg : Int) (v : Value) (r : Nat) (dn : Bool) : Prop := W.heap[x]? = some (.cells #[.int .u64 (base : Int), .int .i64 lim, .int .i64 ord, .int .i64 rg, v, .int .u64 (r : Int), .bool dn] 54)
theorem AQ.keep {W W' : World} {x base : Nat} {lim ord rg : Int} {v : Value} {r : Nat} {dn : Bool} (h : AQ W x base lim ord rg v r dn) (k : Kept none' W W') : AQ W' x base lim ord rg v r dn := (k.block _ (heap_lt h) (fun e => e)).trans h
theorem AQ.cells {W : World} {x base : Nat} {lim ord rg : Int} {v : Value} {r : Nat} {dn : Bool} (h : AQ W x base lim ord rg v r dn) : W.cell? ⟨x, 0, none⟩ = some (.int .u64 (base : Int)) ∧ W.cell? ⟨x, 1, none⟩ = some (.int .i64 lim) ∧ W.cell? ⟨x, 2, none⟩ = some (.int .i64 ord) ∧ W.cell? ⟨x, 3, none⟩ = some (.int .i64 rg) ∧ W.cell? ⟨x, 4, none⟩ = some v ∧ W.cell? ⟨x, 5, none⟩ = some (.int .u64 (r : Int)) ∧ W.cell? ⟨x, 6, none⟩ = some (.bool dn) := by
  unfold AQ at h
  refine ⟨?_, ?_, ?_, ?_, ?_, ?_, ?_⟩ <;> simp [World.cell?, h]
theorem AQ.all {W : World} {x base : Nat} {lim ord rg : Int} {v : Value} {r : Nat} {dn : Bool} (h : AQ W x base lim ord rg v r dn) : (∀ y : KW W, y.v.cell? ⟨x, 0, none⟩ = some (.int .u64 (base : Int))) ∧ (∀ y : KW W, y.v.cell? ⟨x, 1, none⟩ = some (.int .i64 lim)) ∧ (∀ y : KW W, y.v.cell? ⟨x, 2, none⟩ = some (.int .i64 ord)) ∧ (∀ y : KW W, y.v.cell? ⟨x, 3, none⟩ = some (.int .i64 rg)) ∧ (∀ y : KW W, y.v.cell? ⟨x, 4, none⟩ = some v) ∧ (∀ y : KW W, y.v.cell? ⟨x, 5, none⟩ = some (.int .u64 (r : Int))) ∧ (∀ y : KW W, y.v.cell? ⟨x, 6, none⟩ = some (.bool dn)) :=
  ⟨fun y => (h.keep y.k).cells.1, fun y => (h.keep y.k).cells.2.1, fun y => (h.keep y.k).cells.2.2.1, fun y => (h.keep y.k).cells.2.2.2.1, fun y => (h.keep y.k).cells.2.2.2.2.1, fun y => (h.keep y.k).cells.2.2.2.2.2.1, fun y => (h.keep y.k).cells.2.2.2.2.2.2⟩

set_option maxRecDepth 8000 in
set_option maxHeartbeats 2000000 in
theorem oracleFits (base : Nat) (hb64 : base < 18446744073709551616) (lim ord : Int) (hl1 : -9223372036854775808 ≤ lim) (hl2 : lim ≤ 9223372036854775807) (ho1 : -9223372036854775808 ≤ ord) (ho2 : ord ≤ 9223372036854775807) (n : Int) (hn1 : -9223372036854775808 ≤ n) (hn2 : n ≤ 9223372036854775807) (v : Value) (l : Bls) (r : Nat) (hr : r < 2 ^ 64) (dn : Bool) (w : World) (hbl : BL w v l) (hlen : l.length ≤ 8796093022000) :
    Calls Try.prog 6 #[.agg #[.int .u64 (base : Int), .int .i64 lim, .int .i64 ord, .int .i64 n, v, .int .u64 (r : Int), .bool dn]] w fun e w' => e = .returned (.bool true) ∧ Kept none' w w' := by
  obtain ⟨oa, oc, rfl⟩ : ∃ oa oc, v = .slice oa l.length oc := by
    obtain ⟨_, _, oa, oc, hv, _⟩ := hbl
    exact ⟨oa, oc, hv⟩
  have C0 := hid (show AQ (w.alloc (.cells #[.int .u64 (base : Int), .int .i64 lim, .int .i64 ord, .int .i64 n, .slice oa l.length oc, .int .u64 (r : Int), .bool dn] 54)) w.heap.size base lim ord n (.slice oa l.length oc) r dn from heap_new w _)
  have K0 := hid (show Kept none' w (w.alloc (.cells #[.int .u64 (base : Int), .int .i64 lim, .int .i64 ord, .int .i64 n, .slice oa l.length oc, .int .u64 (r : Int), .bool dn] 54)) from (Kept.refl _ w).alloc _)
  have BL0 := hid hbl
  obtain ⟨nv, hnv⟩ : ∃ nv, nv = nofV base lim ord n l r := ⟨_, rfl⟩
  obtain ⟨sv, hsv⟩ : ∃ sv, sv = stkV base lim ord n l r dn := ⟨_, rfl⟩
  have HN := hid (show ∀ W v, BL W v l → Calls Try.prog 14 #[cfgV base lim ord, .int .i64 n, v, .int .u64 (r : Int)] W fun e w' => e = .returned (.bool nv) ∧ Kept none' W w' from fun W v h => by
    rw [hnv]; exact NoFit_any base hb64 lim ord n hl1 hl2 ho1 ho2 v l r hr W h)
  have HS := hid (show ∀ W v, BL W v l → Calls Try.prog 15 #[cfgV base lim ord, .int .i64 n, v, .int .u64 (r : Int), .bool dn] W fun e w' => e = .returned (.bool sv) ∧ Kept none' W w' from fun W v h => by
    rw [hsv]; exact Stuck_any base hb64 lim ord n hl1 hl2 ho1 ho2 v l r hr dn W h)
  have RN := hid (show ∀ W v, BL W v l → Calls Try.prog 24 #[cfgV base lim ord, .int .i64 n, v, .int .u64 (r : Int)] W fun e w' => e = .returned (.bool nv) ∧ Kept none' W w' from fun W v h => by
    rw [hnv]; exact refNoFit base hb64 lim ord n hl1 hl2 ho1 ho2 v l r hr W h)
  have RS' := hid (show ∀ W v, BL W v l → Calls Try.prog 25 #[cfgV base lim ord, .int .i64 n, v, .int .u64 (r : Int), .bool dn] W fun e w' => e = .returned (.bool sv) ∧ Kept none' W w' from fun W v h => by
    rw [hsv]; exact refStuck base hb64 lim ord n hl1 hl2 ho1 ho2 v l r hr dn W h)
  have HBK := hid (fun W v h => blocks_any v l W h hlen)
  clear hbl hsv hnv
  go_enter Try.func6, Try.ntmps6
  go_wp2_with fail
  generalize w.alloc (.cells #[.int .u64 (base : Int), .int .i64 lim, .int .i64 ord, .int .i64 n, .slice oa l.length oc, .int .u64 (r : Int), .bool dn] 54) = W0 at *
  generalize w.heap.size = cx at *
  refine (HBK.out _ _ (BL0.out.keep K0.out)).mono ?_
  rintro e w1 ⟨g, cap, rfl, hcap, hA, hk⟩
  have A1 := hid hA
  have K1 := hid (none_trans K0.out hk)
  have C1 := hid (C0.out.keep hk)
  have P1 := hid (BL.pre hA)
  have hc1 : (l.length : Int) ≤ (cap : Int) := by omega
  have hc2 : ¬ (cap : Int) < (l.length : Int) := by omega
  clear hk hA HBK
  obtain ⟨c0, c1, c2, c3, c4, c5, c6⟩ := C1.out.all
  go_wp2_with fail
  refine wp_region_kept (by kernel_rfl) (by kernel_rfl) ?_
  repeat (go_big_quiet_step (first | (go_at_call 18; exact Calls.kept_of (config_any base lim ord _)) | (go_at_call 14; exact Calls.kept_of (HN.out _ _ (P1.out.keep (KW.k _))))))
  refine wpQuiet_nil ?_
  intro x
  have K2 := hid (none_trans K1.out x.k)
  have C2 := hid (C1.out.keep x.k)
  have A2 := hid (A1.out.keep x.k)
  have P2 := hid (P1.out.keep x.k)
  clear c0 c1 c2 c3 c4 c5 c6
  go_wp2_with fail
  generalize x.v = w2 at *
  obtain ⟨c0, c1, c2, c3, c4, c5, c6⟩ := C2.out.all
  refine wp_region_kept (by kernel_rfl) (by kernel_rfl) ?_
  repeat (go_big_quiet_step (first | (go_at_call 18; exact Calls.kept_of (config_any base lim ord _)) | (go_at_call 15; exact Calls.kept_of (HS.out _ _ (P2.out.keep (KW.k _))))))
  refine wpQuiet_nil ?_
  intro y
  have K3 := hid (none_trans K2.out y.k)
  have C3 := hid (C2.out.keep y.k)
  have A3 := hid (A2.out.keep y.k)
  clear c0 c1 c2 c3 c4 c5 c6
  obtain ⟨c0, c1, c2, c3, c4, c5, c6⟩ := C3.out.cells
  go_wp2_with fail
  generalize y.v = w3 at *
  refine (RN.out _ _ (BL0.out.keep K3.out)).mono ?_
  rintro e w4 ⟨rfl, hk⟩
  have K4 := hid (none_trans K3.out hk)
  have C4 := hid (C3.out.keep hk)
  have A4 := hid (A3.out.keep hk)
  clear hk c0 c1 c2 c3 c4 c5 c6
  obtain ⟨c0, c1, c2, c3, c4, c5, c6⟩ := C4.out.cells
  go_wp2_with fail
  refine (RS'.out _ _ (BL0.out.keep K4.out)).mono ?_
  rintro e w5 ⟨rfl, hk⟩
  have K5 := hid (none_trans K4.out hk)
  have C5 := hid (C4.out.keep hk)
  have A5 := hid (A4.out.keep hk)
  clear hk c0 c1 c2 c3 c4 c5 c6
  obtain ⟨c0, c1, c2, c3, c4, c5, c6⟩ := C5.out.cells
  go_wp2_with fail
  refine (left_any g cap _ l w5 hlen A5.out (BL0.out.keep K5.out)).mono ?_
  rintro e w6 ⟨rfl, hk⟩
  have K6 := hid (none_trans K5.out hk)
  clear hk c0 c1 c2 c3 c4 c5 c6
  go_wp2_with fail
  refine (awake_any _).mono ?_
  rintro e w7 ⟨rfl, hk⟩
  have K7 := hid (none_trans K6.out hk)
  clear hk
  go_wp2_with fail
  go_ret
  exact ⟨rfl, K7.out⟩
end Go.Proofs.Ytibljocjdlgfbaa
