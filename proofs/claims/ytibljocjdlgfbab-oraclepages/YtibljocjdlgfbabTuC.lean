/- OracleTurns. -/
import Derived.Test.YtibljocjdlgfbabTuA
import Derived.Test.YtibljocjdlgfbabTuB
import Derived.Test.YtibljocjdlgfbabOrR
import Derived.Test.YtibljocjdlgfbabRfA
namespace Go.Proofs.Ytibljocjdlgfbab
open Go.RowKit
set_option linter.unusedVariables false

theorem info_z64 : (Try.prog.info? 22).map (fun i => (i.zero, i.size, i.bytes)) = some (some (.int .u64 0), 1, 8) := by kernel_rfl
/-- The cells of sizes. -/
def scl (l : List Nat) : List Value := l.map fun (x : Nat) => Value.int .u64 (x : Int)
theorem push_u64 {w0 W : World} {v : Value} {n : Nat} {xs : List Value} (h : GS w0 W 22 1 v n xs) (x : Nat) (hn : n ≤ 17592186044410) :
    ∃ g cap w', (∀ ty, (Builtin.append_ #[28, 28] ty #[v, .slice (some ⟨W.heap.size, 0, none⟩) 1 1]).run Try.prog (W.alloc (.cells #[.int .u64 (x : Int)] 22)) = .ok (.slice (some ⟨g, 0, none⟩) (n + 1) cap) w') ∧ GS w0 w' 22 1 (.slice (some ⟨g, 0, none⟩) (n + 1) cap) (n + 1) (xs ++ [.int .u64 (x : Int)]) ∧ w0.heap.size ≤ g := by
  obtain ⟨i, hi, hzz⟩ := Option.map_eq_some_iff.1 info_z64
  simp only [Prod.mk.injEq] at hzz
  obtain ⟨g, cap, w', h1, h2, h3, _⟩ := (h.keep ((Kept.refl none' W).alloc (.cells #[.int .u64 (x : Int)] 22))).push 28 i _ 8 Try.underlying28 hi hzz.1 hzz.2.1 hzz.2.2 rfl (by decide) ⟨W.heap.size, 0, none⟩ 1 [.int .u64 (x : Int)] rfl (fun j u hj => cells_new (cs := #[.int .u64 (x : Int)]) j u hj) (by simp [Value.oneCell']) (by simp only [maxLen]; omega) (by omega)
  exact ⟨g, cap, w', h1, h2, h3⟩
theorem GS.sl {w0 W : World} {oa : Option Addr} {cap : Nat} {l : List Nat} {t : TypeId} (h : GS w0 W t 1 (.slice oa l.length cap) l.length (scl l)) (hl : l.length ≤ 281474976710656) (hb : ∀ b ∈ l, b < 2 ^ 64) : SL W (.slice oa l.length cap) l := by
  refine ⟨hl, hb, oa, cap, rfl, ?_⟩
  rcases h.own.2 with ⟨_, h0⟩ | ⟨g, cap', cur, e, _, hg, _⟩
  · exact .inl h0
  · injection e with e1 e2 e3
    subst e1
    refine .inr ⟨g, 0, rfl, heap_lt hg, fun k b hk => ?_⟩
    have c1 : (scl l)[k]? = some (.int .u64 (b : Int)) := by unfold scl; rw [List.getElem?_map, hk]; rfl
    have d1 := World.ownsRow.cells h.own rfl _ _ c1
    rw [Addr.add_lit] at d1
    exact d1

set_option maxRecDepth 8000 in
set_option maxHeartbeats 4000000 in
theorem oracleTurns (base : Nat) (hb64 : base < 18446744073709551616) (lim ord : Int) (hl1 : -9223372036854775808 ≤ lim) (hl2 : lim ≤ 9223372036854775807) (ho1 : -9223372036854775808 ≤ ord) (ho2 : ord ≤ 9223372036854775807) (n : Int) (hn1 : -9223372036854775808 ≤ n) (hn2 : n ≤ 9223372036854775807) (v : Value) (l : Bls) (r : Nat) (hr : r < 2 ^ 64) (dn : Bool) (v2 : Value) (sz : List Nat) (w : World) (hbl : BL w v l) (hlen : l.length ≤ 8796093022000) (hsl : SL w v2 sz) (hlen2 : sz.length ≤ 17592186044400) :
    Calls Try.prog 3 #[.agg #[.int .u64 (base : Int), .int .i64 lim, .int .i64 ord, .int .i64 n, v, .int .u64 (r : Int), .bool dn], v2] w fun e w' => e = .returned (.bool true) ∧ Kept none' w w' := by
  obtain ⟨oa, oc, rfl⟩ : ∃ oa oc, v = .slice oa l.length oc := by
    obtain ⟨_, _, oa, oc, hv, _⟩ := hbl
    exact ⟨oa, oc, hv⟩
  obtain ⟨oa2, oc2, rfl⟩ : ∃ oa oc, v2 = .slice oa sz.length oc := by
    obtain ⟨_, _, oa, oc, hv, _⟩ := hsl
    exact ⟨oa, oc, hv⟩
  have C0 := hid (show AQ (w.alloc (.cells #[.int .u64 (base : Int), .int .i64 lim, .int .i64 ord, .int .i64 n, .slice oa l.length oc, .int .u64 (r : Int), .bool dn] 27)) w.heap.size base lim ord n (.slice oa l.length oc) r dn from heap_new w _)
  have K0 := hid (show Kept none' w (w.alloc (.cells #[.int .u64 (base : Int), .int .i64 lim, .int .i64 ord, .int .i64 n, .slice oa l.length oc, .int .u64 (r : Int), .bool dn] 27)) from (Kept.refl _ w).alloc _)
  have BL0 := hid hbl
  have SL0 := hid hsl
  have PL : l.Perm l.reverse := (List.reverse_perm l).symm
  have PS : sz.Perm sz.reverse := (List.reverse_perm sz).symm
  obtain ⟨nv, hnv⟩ : ∃ nv, nv = nofV base lim ord n l r := ⟨_, rfl⟩
  obtain ⟨sv, hsv⟩ : ∃ sv, sv = sndV base lim ord n l := ⟨_, rfl⟩
  obtain ⟨sv2, hsv2⟩ : ∃ sv, sv = sndV base lim ord n l.reverse := ⟨_, rfl⟩
  obtain ⟨xv, hxv⟩ : ∃ xv, xv = leaV base lim ord l sz := ⟨_, rfl⟩
  obtain ⟨xo, hxo⟩ : ∃ xo, xo = leaO base lim ord l sz := ⟨_, rfl⟩
  obtain ⟨bv, hbv⟩ : ∃ bv, bv = (sv == -1) := ⟨_, rfl⟩
  have hbv2 : (sv2 == -1) = bv := by rw [hbv, hsv2, hsv]; exact sndV_perm base lim ord n PL
  have HN := hid (show ∀ W v, BL W v l → Calls Try.prog 12 #[cfgV base lim ord, .int .i64 n, v, .int .u64 (r : Int)] W fun e w' => e = .returned (.bool nv) ∧ Kept none' W w' from fun W v h => by
    rw [hnv]; exact NoFit_any base hb64 lim ord n hl1 hl2 ho1 ho2 v l r hr W h)
  have HN2 := hid (show ∀ W v, BL W v l.reverse → Calls Try.prog 12 #[cfgV base lim ord, .int .i64 n, v, .int .u64 (r : Int)] W fun e w' => e = .returned (.bool nv) ∧ Kept none' W w' from fun W v h => by
    rw [hnv, ← nofV_perm base lim ord n PL]; exact NoFit_any base hb64 lim ord n hl1 hl2 ho1 ho2 v l.reverse r hr W h)
  have HS := hid (show ∀ W v, BL W v l → Calls Try.prog 11 #[cfgV base lim ord, .int .i64 n, v] W fun e w' => e = .returned (.int .i64 sv) ∧ Kept none' W w' from fun W v h => by
    rw [hsv]; exact Sound_any base hb64 lim ord n hl1 hl2 ho1 ho2 v l W h)
  have HS2 := hid (show ∀ W v, BL W v l.reverse → Calls Try.prog 11 #[cfgV base lim ord, .int .i64 n, v] W fun e w' => e = .returned (.int .i64 sv2) ∧ Kept none' W w' from fun W v h => by
    rw [hsv2]; exact Sound_any base hb64 lim ord n hl1 hl2 ho1 ho2 v l.reverse W h)
  have HL := hid (show ∀ W v vs, BL W v l → SL W vs sz → Calls Try.prog 13 #[cfgV base lim ord, v, vs] W fun e w' => e = .returned (.tuple #[.int .i64 (xv : Int), .bool xo]) ∧ Kept none' W w' from fun W v vs h hs => by
    rw [hxv, hxo]; exact Least_any base hb64 lim ord hl1 hl2 ho1 ho2 v l vs sz W h hs)
  have HL2 := hid (show ∀ W v vs, BL W v l.reverse → SL W vs sz.reverse → Calls Try.prog 13 #[cfgV base lim ord, v, vs] W fun e w' => e = .returned (.tuple #[.int .i64 (xv : Int), .bool xo]) ∧ Kept none' W w' from fun W v vs h hs => by
    rw [hxv, hxo, ← leaV_perm base lim ord PL PS, ← leaO_perm base lim ord PL PS]; exact Least_any base hb64 lim ord hl1 hl2 ho1 ho2 v l.reverse vs sz.reverse W h hs)
  have HT := hid (fun W v h => turned_any v l W h hlen)
  have HBK := hid (fun W v h => blocks_any v l W h hlen)
  have HBK2 := hid (fun W v h => blocks_any v l.reverse W h (by rw [List.length_reverse]; exact hlen))
  clear hbl hsl hsv hsv2 hnv hxv hxo PL PS
  go_enter Try.func3, Try.ntmps3
  go_wp2_with fail
  generalize w.alloc (.cells #[.int .u64 (base : Int), .int .i64 lim, .int .i64 ord, .int .i64 n, .slice oa l.length oc, .int .u64 (r : Int), .bool dn] 27) = W0 at *
  generalize w.heap.size = cx at *
  refine (awake_any _).mono ?_
  rintro e w1 ⟨rfl, hk⟩
  have K1 := hid (none_trans K0.out hk)
  have C1 := hid (C0.out.keep hk)
  clear hk
  obtain ⟨c0, c1, c2, c3, c4, c5, c6⟩ := C1.out.cells
  go_wp2_with fail
  refine (HBK.out _ _ (BL0.out.keep K1.out)).mono ?_
  rintro e w2 ⟨g, cap, rfl, hcap, hA, hk⟩
  have K2 := hid (none_trans K1.out hk)
  have C2 := hid (C1.out.keep hk)
  have P2 := hid (BL.pre hA)
  have hc1 : (l.length : Int) ≤ (cap : Int) := by omega
  clear hk hA c0 c1 c2 c3 c4 c5 c6 K0 K1 C0 C1 HBK
  obtain ⟨c0, c1, c2, c3, c4, c5, c6⟩ := C2.out.cells
  go_wp2_with fail
  refine (HT.out _ _ (BL0.out.keep K2.out)).mono ?_
  rintro e w3 ⟨tv, rfl, hT, hk⟩
  have K3 := hid (none_trans K2.out hk)
  have C3 := hid (C2.out.keep hk)
  have P3 := hid (P2.out.keep hk)
  have T3 := hid hT
  clear hk hT c0 c1 c2 c3 c4 c5 c6 K2 C2 P2 HT
  go_wp2_with fail
  refine (HBK2.out _ _ T3.out).mono ?_
  rintro e w4 ⟨gb, capb, rfl, hcapb, hA, hk⟩
  have K4 := hid (none_trans K3.out hk)
  have C4 := hid (C3.out.keep hk)
  have P4 := hid (P3.out.keep hk)
  have Q4 := hid (show BL w4 (.slice (some ⟨gb, 0, none⟩) l.length capb) l.reverse from by have := BL.pre hA; rw [List.length_reverse] at this; exact this)
  have hrl : l.reverse.length = l.length := List.length_reverse
  have hcb : (l.length : Int) ≤ (capb : Int) := by rw [hrl] at hcapb; omega
  clear hcapb
  rw [hrl]
  clear hk hA K3 C3 P3 T3 HBK2 hrl
  obtain ⟨c0, c1, c2, c3, c4, c5, c6⟩ := C4.out.cells
  go_wp2_with fail
  refine (config_any base lim ord _).mono ?_
  rintro e w5 ⟨rfl, hk⟩
  have ka : Kept none' w4 (w5.alloc (.cells #[.int .u64 (base : Int), .int .i64 lim, .int .i64 ord] 33)) := hk.alloc _
  have B6 := hid (show CB (w5.alloc (.cells #[.int .u64 (base : Int), .int .i64 lim, .int .i64 ord] 33)) w5.heap.size base lim ord from heap_new w5 _)
  have K6 := hid (none_trans K4.out ka)
  have C6 := hid (C4.out.keep ka)
  have P6 := hid (P4.out.keep ka)
  have Q6 := hid (Q4.out.keep ka)
  clear hk ka c0 c1 c2 c3 c4 c5 c6 K4 C4 P4 Q4
  go_wp2_with fail
  generalize w5.alloc (.cells #[.int .u64 (base : Int), .int .i64 lim, .int .i64 ord] 33) = w6 at *
  generalize w5.heap.size = kx at *
  obtain ⟨c0, c1, c2, c3, c4, c5, c6⟩ := C6.out.all
  obtain ⟨d0, d1, d2⟩ := B6.out.all
  refine wp_region_kept (by kernel_rfl) (by kernel_rfl) ?_
  repeat (go_big_quiet_step (first | (go_at_call 11; first | exact Calls.kept_of (HS.out _ _ (P6.out.keep (KW.k _))) | exact Calls.kept_of (HS2.out _ _ (Q6.out.keep (KW.k _))))))
  refine wpQuiet_nil ?_
  intro x
  have K7 := hid (none_trans K6.out x.k)
  have C7 := hid (C6.out.keep x.k)
  have P7 := hid (P6.out.keep x.k)
  have Q7 := hid (Q6.out.keep x.k)
  have B7 := hid (B6.out.keep x.k (fun x => x))
  clear c0 c1 c2 c3 c4 c5 c6 d0 d1 d2 K6 C6 P6 Q6 B6
  go_wp2_with fail
  generalize x.v = w7 at *
  obtain ⟨c0, c1, c2, c3, c4, c5, c6⟩ := C7.out.all
  obtain ⟨d0, d1, d2⟩ := B7.out.all
  refine wp_region_kept (by kernel_rfl) (by kernel_rfl) ?_
  repeat (go_big_quiet_step (first | (go_at_call 12; first | exact Calls.kept_of (HN.out _ _ (P7.out.keep (KW.k _))) | exact Calls.kept_of (HN2.out _ _ (Q7.out.keep (KW.k _))))))
  refine wpQuiet_nil ?_
  intro y
  have K8 := hid (none_trans K7.out y.k)
  have P8 := hid (P7.out.keep y.k)
  have Q8 := hid (Q7.out.keep y.k)
  have B8 := hid (B7.out.keep y.k (fun x => x))
  have S8 := hid (SL0.out.keep K8.out)
  clear c0 c1 c2 c3 c4 c5 c6 d0 d1 d2 K7 C7 P7 Q7 B7
  go_wp2_with fail
  generalize y.v = w8 at *
  obtain ⟨d0, d1, d2⟩ := B8.out.all
  refine wp_region_kept (by kernel_rfl) (by kernel_rfl) ?_
  repeat (go_big_quiet_step (first | (go_at_call 13; exact Calls.kept_of (HL.out _ _ _ (P8.out.keep (KW.k _)) (S8.out.keep (KW.k _))))))
  refine wpQuiet_nil ?_
  intro z
  have K9 := hid (none_trans K8.out z.k)
  have Q9 := hid (Q8.out.keep z.k)
  have B9 := hid (B8.out.keep z.k (fun x => x))
  clear d0 d1 d2 K8 P8 Q8 B8 S8
  go_wp2_with fail
  generalize z.v = w9 at *
  have I0 := hid (GS.nil w9 w9 22 1 (Kept.refl _ _))
  go_loopw [11, 12] (fun x i W => ∃ (a c : Nat) (va : Option Addr) (vc : Nat), a + c = sz.length ∧ i = .int .i64 ((a : Int) - 1) ∧ x = .slice va c vc ∧ Hid (GS w9 W 22 1 (.slice va c vc) c (scl (sz.drop a).reverse))) (fun _ i _ => (intOf i + 1).toNat)
  case atStart => exact ⟨sz.length, 0, none, 0, rfl, by go_num, rfl, by simpa [scl] using I0⟩
  case round =>
    clear I0
    obtain ⟨a, c, va, vc, ha, rfl, rfl, HG⟩ := hrel
    cases a with
    | succ a =>
      have HAC := hid ha
      have hc1 : c ≤ 17592186044400 := by omega
      have hal : a < sz.length := by omega
      have hai : (a : Int) < (sz.length : Int) := by omega
      have hie : (((a + 1 : Nat) : Int) - 1) = (a : Int) := by omega
      rw [hie]
      have ha0 : ¬ (a : Int) < 0 := by omega
      obtain ⟨bl, o, p, rfl, hla, hp, q0⟩ := (SL0.out.keep (none_trans K9.out HG.out.kp)).at a hal
      have TK := hid (show scl (sz.drop a).reverse = scl (sz.drop (a + 1)).reverse ++ [.int .u64 (p : Int)] by
        rw [List.drop_eq_getElem_cons hal, List.reverse_cons, (List.getElem?_eq_some_iff.1 hla).2]
        simp [scl])
      obtain ⟨g2, cap2, w2, hrun, hg2, hw2⟩ := push_u64 HG.out p (by omega)
      have NX := hid (show GS w9 w2 22 1 (.slice (some ⟨g2, 0, none⟩) (c + 1) cap2) (c + 1) (scl (sz.drop a).reverse) from by
        rw [TK.out]
        exact hg2)
      have hrun2 := hid hrun
      clear hrun hg2 hw2 hla ha hie
      go_wp2_with (first | (at_builtin; refine wpl_app _ rfl _ _ 28 rfl _ _ rfl rfl _ _ hrun2.out ?_))
      go_round
      case rel => exact ⟨a, c + 1, _, _, by have := HAC.out; omega, by go_num, rfl, NX⟩
      case measure => simp [intOf]
    | zero =>
      obtain rfl : c = sz.length := by omega
      have S10 := hid (show SL wr (.slice va sz.length vc) sz.reverse from by
        have hG := HG.out
        rw [List.drop_zero] at hG
        have := GS.sl (l := sz.reverse) (oa := va) (cap := vc) (w0 := w9) (W := wr) (t := 22) (by rw [List.length_reverse]; exact hG) (by rw [List.length_reverse]; omega) (fun b hb => SL0.out.2.1 b (List.mem_reverse.1 hb))
        rw [List.length_reverse] at this
        exact this)
      have K10 := hid (none_trans K9.out HG.out.kp)
      have Q10 := hid (Q9.out.keep HG.out.kp)
      have B10 := hid (B9.out.keep HG.out.kp (fun x => x))
      clear HG K9 Q9 B9
      go_wp2_with fail
      obtain ⟨d0, d1, d2⟩ := B10.out.all
      refine wp_region_kept (by kernel_rfl) (by kernel_rfl) ?_
      repeat (go_big_quiet_step (first | (go_at_call 13; exact Calls.kept_of (HL2.out _ _ _ (Q10.out.keep (KW.k _)) (S10.out.keep (KW.k _))))))
      refine wpQuiet_nil ?_
      intro u
      have K11 := hid (none_trans K10.out u.k)
      clear d0 d1 d2 K10 Q10 B10 S10
      go_wp2_with fail
      go_ret
      exact ⟨rfl, K11.out⟩
end Go.Proofs.Ytibljocjdlgfbab
