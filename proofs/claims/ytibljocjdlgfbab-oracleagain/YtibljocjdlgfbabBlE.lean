/- OracleAgain: a list written over in place. -/
import Derived.Test.YtibljocjdlgfbabBlP
import Derived.Test.YtibljocjdlgfbabRfP
import Derived.Test.YtibljocjdlgfbabOrR
namespace Go.Proofs.Ytibljocjdlgfbab
open Go.RowKit
set_option linter.unusedVariables false

theorem BL.put {W : World} {g n cap : Nat} {L : Bls} {cs : Array Value} (h : BL W (.slice (some ⟨g, 0, none⟩) n cap) L) (hg : W.heap[g]? = some (.cells cs 48)) (a p s : Nat) (ha : a < L.length) (hp : p < 2 ^ 64) (hs : s < 2 ^ 64) :
    BL ((W.setCell ⟨g, a * 2, none⟩ (.int .u64 (p : Int))).setCell ⟨g, a * 2 + 1, none⟩ (.int .u64 (s : Int))) (.slice (some ⟨g, 0, none⟩) n cap) (L.set a (p, s)) := by
  have H := heap_set (heap_set hg (a * 2) (.int .u64 (p : Int))) (a * 2 + 1) (.int .u64 (s : Int))
  obtain ⟨h1, h2, oa, oc, h3, h4⟩ := h
  injection h3 with e1 e2 e3
  subst e1 e3
  refine ⟨by rw [List.length_set]; exact h1, fun b hb => ?_, _, cap, by rw [List.length_set, e2], ?_⟩
  · rcases List.mem_or_eq_of_mem_set hb with hb | rfl
    · exact h2 b hb
    · exact ⟨hp, hs⟩
  rcases h4 with h4 | ⟨bl, o, e, hlt, hc⟩
  · omega
  injection e with e
  injection e with e1 e2
  subst e1 e2
  refine .inr ⟨g, 0, rfl, heap_lt H, fun k b hk => ?_⟩
  have sz : ∀ k b, L[k]? = some b → cs[k * 2]? = some (.int .u64 (b.1 : Int)) ∧ cs[k * 2 + 1]? = some (.int .u64 (b.2 : Int)) := fun k b hb => by
    have := hc k b hb
    simp only [World.cell?, hg, Nat.zero_add] at this
    exact this
  simp only [World.cell?, H, Nat.zero_add]
  by_cases hka : k = a
  · subst hka
    have z := sz k _ (List.getElem?_eq_getElem ha)
    have l1 := (Array.getElem?_eq_some_iff.1 z.1).1
    have l2 := (Array.getElem?_eq_some_iff.1 z.2).1
    rw [List.getElem?_set_self ha] at hk
    injection hk with hk
    subst hk
    constructor
    · rw [Array.getElem?_setIfInBounds_ne (by omega), Array.getElem?_setIfInBounds_self_of_lt l1]; rfl
    · rw [Array.getElem?_setIfInBounds_self_of_lt (by simpa using l2)]; rfl
  · rw [List.getElem?_set_ne (by omega)] at hk
    have z := sz k b hk
    constructor
    · rw [Array.getElem?_setIfInBounds_ne (by omega), Array.getElem?_setIfInBounds_ne (by omega)]; exact z.1
    · rw [Array.getElem?_setIfInBounds_ne (by omega), Array.getElem?_setIfInBounds_ne (by omega)]; exact z.2

/-- The list, written over as far as a. -/
def ovr (l l2 : Bls) (a : Nat) : Bls := l2.take a ++ (l ++ marks 8).drop a
theorem ovr_set {l l2 : Bls} {a : Nat} {b : Nat × Nat} (h : l2.length = l.length) (ha : l2[a]? = some b) : (ovr l l2 a).set a b = ovr l l2 (a + 1) := by
  have hl := (List.getElem?_eq_some_iff.1 ha).1
  have hm : a < (l ++ marks 8).length := by rw [List.length_append]; omega
  unfold ovr
  rw [take_succ' ha, List.drop_eq_getElem_cons hm, List.set_append_right _ _ (by rw [List.length_take]; omega)]
  rw [show a - (l2.take a).length = 0 by rw [List.length_take]; omega]
  rw [List.set_cons_zero, List.append_assoc]
  rfl
theorem ovr_end {l l2 : Bls} (h : l2.length = l.length) : ovr l l2 l.length = l2 ++ marks 8 := by
  unfold ovr
  rw [← h, List.take_length, h, List.drop_left]
theorem ovr_len {l l2 : Bls} {a : Nat} (h : l2.length = l.length) (ha : a ≤ l.length) : (ovr l l2 a).length = l.length + 8 := by
  simp [ovr, marks]; omega
theorem BL.far {w : World} {g' n cap : Nat} {L : Bls} (h : BL w (.slice (some ⟨g', 0, none⟩) n cap) L) (g i : Nat) (u : Value) (hne : g ≠ g') : BL (w.setCell ⟨g, i, none⟩ u) (.slice (some ⟨g', 0, none⟩) n cap) L := by
  obtain ⟨h1, h2, oa, oc, h3, h4⟩ := h
  refine ⟨h1, h2, oa, oc, h3, ?_⟩
  injection h3 with e1 e2 e3
  subst e1
  rcases h4 with h4 | ⟨bl, o, e, hlt, hc⟩
  · exact .inl h4
  injection e with e
  injection e with e1 e2
  subst e1 e2
  refine .inr ⟨g', 0, rfl, by simpa using hlt, fun k b hb => ?_⟩
  have ka : Kept (fun x => x = g) w (w.setCell ⟨g, i, none⟩ u) := (Kept.refl (fun x => x = g) w).setNew (fun _ => rfl) _
  exact ⟨ka.cell (fun e => hne e.symm) (hc k b hb).1, ka.cell (fun e => hne e.symm) (hc k b hb).2⟩
/-- The loop's state. -/
structure AgI (w W : World) (g cap cx kx base : Nat) (lim ord n : Int) (v : Value) (r : Nat) (dn : Bool) (l l2 : Bls) (g2 cap2 a : Nat) : Prop where
  kp : Kept none' w W
  aq : AQ W cx base lim ord n v r dn
  cb : CB W kx base lim ord
  bl : BL W (.slice (some ⟨g, 0, none⟩) (l.length + 8) cap) (ovr l l2 a)
  b2 : BL W (.slice (some ⟨g2, 0, none⟩) (l2.length + 8) cap2) (l2 ++ marks 8)
  hg : ∃ cs, W.heap[g]? = some (.cells cs 48)
theorem AgI.put {w W : World} {g cap cx kx base : Nat} {lim ord n : Int} {v : Value} {r : Nat} {dn : Bool} {l l2 : Bls} {g2 cap2 a p s : Nat} (h : AgI w W g cap cx kx base lim ord n v r dn l l2 g2 cap2 a) (hg : w.heap.size ≤ g) (hne : g ≠ g2 ∧ g ≠ cx ∧ g ≠ kx) (he : l2.length = l.length) (ha : l2[a]? = some (p, s)) (hp : p < 2 ^ 64) (hs : s < 2 ^ 64) :
    AgI w ((W.setCell ⟨g, a * 2, none⟩ (.int .u64 (p : Int))).setCell ⟨g, a * 2 + 1, none⟩ (.int .u64 (s : Int))) g cap cx kx base lim ord n v r dn l l2 g2 cap2 (a + 1) := by
  obtain ⟨cs, hcs⟩ := h.hg
  have ka : Kept (fun x => x = g) W ((W.setCell ⟨g, a * 2, none⟩ (.int .u64 (p : Int))).setCell ⟨g, a * 2 + 1, none⟩ (.int .u64 (s : Int))) := ((Kept.refl (fun x => x = g) W).setNew (fun _ => rfl) _).setNew (fun _ => rfl) _
  have hal := (List.getElem?_eq_some_iff.1 ha).1
  refine ⟨(h.kp.setNew (fun x => absurd x (by simpa using hg)) _).setNew (fun x => absurd x (by simpa using hg)) _, (ka.block _ (heap_lt h.aq) (fun e => hne.2.1 e.symm)).trans h.aq, h.cb.keep ka (fun e => hne.2.2 e.symm), ?_, (h.b2.far _ _ _ hne.1).far _ _ _ hne.1, _, heap_set (heap_set hcs _ _) _ _⟩
  rw [← ovr_set he ha]
  exact h.bl.put hcs a p s (by rw [ovr_len he (by omega)]; omega) hp hs

set_option maxRecDepth 8000 in
set_option maxHeartbeats 2000000 in
theorem oracleAgain (base : Nat) (hb64 : base < 18446744073709551616) (lim ord : Int) (hl1 : -9223372036854775808 ≤ lim) (hl2 : lim ≤ 9223372036854775807) (ho1 : -9223372036854775808 ≤ ord) (ho2 : ord ≤ 9223372036854775807) (n : Int) (hn1 : -9223372036854775808 ≤ n) (hn2 : n ≤ 9223372036854775807) (v : Value) (l : Bls) (r : Nat) (hr : r < 2 ^ 64) (dn : Bool) (v2 : Value) (l2 : Bls) (w : World) (hbl : BL w v l) (hlen : l.length ≤ 8796093022000) (hbl2 : BL w v2 l2) (hlen2 : l2.length ≤ 8796093022000) :
    Calls Try.prog 6 #[.agg #[.int .u64 (base : Int), .int .i64 lim, .int .i64 ord, .int .i64 n, v, .int .u64 (r : Int), .bool dn], v2] w fun e w' => e = .returned (.bool true) ∧ Kept none' w w' := by
  obtain ⟨oa, oc, rfl⟩ : ∃ oa oc, v = .slice oa l.length oc := by
    obtain ⟨_, _, oa, oc, hv, _⟩ := hbl
    exact ⟨oa, oc, hv⟩
  obtain ⟨oa2, oc2, rfl⟩ : ∃ oa oc, v2 = .slice oa l2.length oc := by
    obtain ⟨_, _, oa, oc, hv, _⟩ := hbl2
    exact ⟨oa, oc, hv⟩
  have C0 := hid (show AQ (w.alloc (.cells #[.int .u64 (base : Int), .int .i64 lim, .int .i64 ord, .int .i64 n, .slice oa l.length oc, .int .u64 (r : Int), .bool dn] 27)) w.heap.size base lim ord n (.slice oa l.length oc) r dn from heap_new w _)
  have K0 := hid (show Kept none' w (w.alloc (.cells #[.int .u64 (base : Int), .int .i64 lim, .int .i64 ord, .int .i64 n, .slice oa l.length oc, .int .u64 (r : Int), .bool dn] 27)) from (Kept.refl _ w).alloc _)
  have BL0 := hid hbl
  have BL2 := hid hbl2
  obtain ⟨nv, hnv⟩ : ∃ nv, nv = nofV base lim ord n l r := ⟨_, rfl⟩
  obtain ⟨nv2, hnv2⟩ : ∃ nv, nv = nofV base lim ord n l2 r := ⟨_, rfl⟩
  obtain ⟨sv2, hsv2⟩ : ∃ sv, sv = sndV base lim ord n l2 := ⟨_, rfl⟩
  have HN := hid (show ∀ W v, BL W v l → Calls Try.prog 12 #[cfgV base lim ord, .int .i64 n, v, .int .u64 (r : Int)] W fun e w' => e = .returned (.bool nv) ∧ Kept none' W w' from fun W v h => by
    rw [hnv]; exact NoFit_any base hb64 lim ord n hl1 hl2 ho1 ho2 v l r hr W h)
  have HN2 := hid (show ∀ W v, BL W v l2 → Calls Try.prog 12 #[cfgV base lim ord, .int .i64 n, v, .int .u64 (r : Int)] W fun e w' => e = .returned (.bool nv2) ∧ Kept none' W w' from fun W v h => by
    rw [hnv2]; exact NoFit_any base hb64 lim ord n hl1 hl2 ho1 ho2 v l2 r hr W h)
  have HS2 := hid (show ∀ W v, BL W v l2 → Calls Try.prog 11 #[cfgV base lim ord, .int .i64 n, v] W fun e w' => e = .returned (.int .i64 sv2) ∧ Kept none' W w' from fun W v h => by
    rw [hsv2]; exact Sound_any base hb64 lim ord n hl1 hl2 ho1 ho2 v l2 W h)
  have RN := hid (show ∀ W v, BL W v l → Calls Try.prog 18 #[cfgV base lim ord, .int .i64 n, v, .int .u64 (r : Int)] W fun e w' => e = .returned (.bool nv) ∧ Kept none' W w' from fun W v h => by
    rw [hnv]; exact refNoFit base hb64 lim ord n hl1 hl2 ho1 ho2 v l r hr W h)
  have RN2 := hid (show ∀ W v, BL W v l2 → Calls Try.prog 18 #[cfgV base lim ord, .int .i64 n, v, .int .u64 (r : Int)] W fun e w' => e = .returned (.bool nv2) ∧ Kept none' W w' from fun W v h => by
    rw [hnv2]; exact refNoFit base hb64 lim ord n hl1 hl2 ho1 ho2 v l2 r hr W h)
  have RS2 := hid (show ∀ W v, BL W v l2 → Calls Try.prog 15 #[cfgV base lim ord, .int .i64 n, v] W fun e w' => e = .returned (.int .i64 sv2) ∧ Kept none' W w' from fun W v h => by
    rw [hsv2]; exact refSound base hb64 lim ord n hl1 hl2 ho1 ho2 v l2 W h)
  have HBK := hid (fun W v h => blocks_new v l W h hlen)
  have HBK2 := hid (fun W v h => blocks_new v l2 W h hlen2)
  clear hbl hbl2 hsv2 hnv hnv2
  by_cases hne : l2.length = l.length
  · have hni : ((l2.length : Int) == (l.length : Int)) = true := by rw [beq_iff_eq]; omega
    have HNE := hid hne
    clear hne
    go_enter Try.func6, Try.ntmps6
    go_wp2_with fail
    generalize hW0 : w.alloc (.cells #[.int .u64 (base : Int), .int .i64 lim, .int .i64 ord, .int .i64 n, .slice oa l.length oc, .int .u64 (r : Int), .bool dn] 27) = W0 at *
    generalize w.heap.size = cx at *
    refine (awake_any _).mono ?_
    rintro e w1 ⟨rfl, hk⟩
    have K1 := hid (none_trans K0.out hk)
    have C1 := hid (C0.out.keep hk)
    clear hk
    obtain ⟨c0, c1, c2, c3, c4, c5, c6⟩ := C1.out.cells
    go_wp2_with fail
    refine (HBK.out _ _ (BL0.out.keep K1.out)).mono ?_
    rintro e w2 ⟨g, cap, rfl, hcap, hA, hk, hg, cs, hcs⟩
    have CS2 := hid hcs
    have A2 := hid hA
    have K2 := hid (none_trans K1.out hk)
    have C2 := hid (C1.out.keep hk)
    have P2 := hid (BL.pre hA)
    have HG := hid (show cx < g from Nat.lt_of_lt_of_le (heap_lt C1.out) hg)
    have HGW := hid (show w.heap.size ≤ g from Nat.le_trans K1.out.size hg)
    have hc1 : (l.length : Int) ≤ (cap : Int) := by omega
    have hc2 : ¬ (cap : Int) < (l.length : Int) := by omega
    clear hk hA HBK hg hcs c0 c1 c2 c3 c4 c5 c6
    obtain ⟨c0, c1, c2, c3, c4, c5, c6⟩ := C2.out.cells
    go_wp2_with fail
    refine (config_any base lim ord _).mono ?_
    rintro e w3 ⟨rfl, hk⟩
    have K3 := hid (none_trans K2.out hk)
    have C3 := hid (C2.out.keep hk)
    have A3 := hid (A2.out.keep hk)
    have P3 := hid (P2.out.keep hk)
    have CS3 := hid ((hk.block _ (heap_lt CS2.out) (fun x => x)).trans CS2.out)
    clear hk c0 c1 c2 c3 c4 c5 c6 A2 P2 C2 K2
    go_wp2_with fail
    have B4 := hid (show CB (w3.alloc (.cells #[.int .u64 (base : Int), .int .i64 lim, .int .i64 ord] 33)) w3.heap.size base lim ord from heap_new w3 _)
    have K4 := hid (show Kept none' w (w3.alloc (.cells #[.int .u64 (base : Int), .int .i64 lim, .int .i64 ord] 33)) from K3.out.alloc _)
    have ka : Kept none' w3 (w3.alloc (.cells #[.int .u64 (base : Int), .int .i64 lim, .int .i64 ord] 33)) := (Kept.refl _ _).alloc _
    have C4 := hid (C3.out.keep ka)
    have A4 := hid (A3.out.keep ka)
    have P4 := hid (P3.out.keep ka)
    have HG3 := hid (heap_lt CS3.out)
    have CS4 := hid ((ka.block _ (heap_lt CS3.out) (fun x => x)).trans CS3.out)
    clear ka A3 P3 C3 K3
    generalize w3.alloc (.cells #[.int .u64 (base : Int), .int .i64 lim, .int .i64 ord] 33) = w4 at *
    generalize w3.heap.size = kx at *
    obtain ⟨c0, c1, c2, c3, c4, c5, c6⟩ := C4.out.all
    obtain ⟨d0, d1, d2⟩ := B4.out.all
    refine wp_region_kept (by kernel_rfl) (by kernel_rfl) ?_
    repeat (go_big_quiet_step (first | (go_at_call 12; exact Calls.kept_of (HN.out _ _ (P4.out.keep (KW.k _))))))
    refine wpQuiet_nil ?_
    intro x
    have K5 := hid (none_trans K4.out x.k)
    have C5 := hid (C4.out.keep x.k)
    have A5 := hid (A4.out.keep x.k)
    have B5 := hid (B4.out.keep x.k (fun x => x))
    have HK5 := hid (heap_lt B5.out)
    have CS5 := hid ((x.k.block _ (heap_lt CS4.out) (fun x => x)).trans CS4.out)
    clear CS2 CS3 CS4
    clear c0 c1 c2 c3 c4 c5 c6 d0 d1 d2
    go_wp2_with fail
    generalize x.v = w5 at *
    refine (HBK2.out _ _ (BL2.out.keep K5.out)).mono ?_
    rintro e w6 ⟨g2, cap2, rfl, hcap2, hA, hk, hg2, _⟩
    have I0 := hid (show AgI w w6 g cap cx kx base lim ord n (.slice oa l.length oc) r dn l l2 g2 cap2 0 from ⟨none_trans K5.out hk, C5.out.keep hk, B5.out.keep hk (fun x => x), by simpa [ovr] using A5.out.keep hk, hA, _, (hk.block _ (heap_lt CS5.out) (fun x => x)).trans CS5.out⟩)
    have HGG := hid (show g ≠ g2 ∧ g ≠ cx ∧ g ≠ kx by have := HK5.out; have := HG3.out; have := HG.out; omega)
    clear hk hA hg2
    go_wp2_with fail
    go_loopw [10] (fun i W => ∃ a : Nat, a ≤ l.length ∧ i = .int .i64 a ∧ Hid (AgI w W g cap cx kx base lim ord n (.slice oa l.length oc) r dn l l2 g2 cap2 a)) (fun i _ => l.length - (intOf i).toNat)
    case atStart => exact ⟨0, Nat.zero_le _, rfl, I0⟩
    case round =>
      clear I0
      obtain ⟨a, ha, rfl, HI⟩ := hrel
      by_cases hlt : a < l.length
      · have hai : (a : Int) < (l.length : Int) := by omega
        have hai8 : (a : Int) < (l.length : Int) + 8 := by omega
        have hai2 : (a : Int) < (l2.length : Int) + 8 := by have := HNE.out; omega
        obtain ⟨bl, o, p, s, e, hla, hp, hs, q0, q1⟩ := HI.out.b2.at a (by have := HNE.out; rw [List.length_append]; omega)
        injection e with e
        injection e with e1 e2
        subst e1 e2
        rw [Nat.zero_add] at q0 q1
        obtain ⟨bl, o, p', s', e, _, _, _, t0, t1⟩ := HI.out.bl.at a (by rw [ovr_len HNE.out (by omega)]; omega)
        injection e with e
        injection e with e1 e2
        subst e1 e2
        rw [Nat.zero_add] at t0 t1
        obtain ⟨cs, hcs⟩ := HI.out.hg
        have f0 : wr.frozen? ⟨g, a * 2, none⟩ = false := by simp [World.frozen?, hcs]
        have f1 : wr.frozen? ⟨g, a * 2 + 1, none⟩ = false := by simp [World.frozen?, hcs]
        have NX := hid (HI.out.put (p := p) (s := s) HGW.out HGG.out HNE.out (by rw [← hla, List.getElem?_append_left (by have := HNE.out; omega)]) hp hs)
        clear hcs hla
        go_wp2_with fail
        go_round
        case rel => exact ⟨a + 1, by omega, by go_num, NX⟩
        case measure => simp [intOf]; omega
      · obtain rfl : a = l.length := by omega
        have hai : ¬ (l.length : Int) < (l.length : Int) := by omega
        have K7 := hid HI.out.kp
        have C7 := hid HI.out.aq
        have B7 := hid HI.out.cb
        have P7 := hid (show BL wr (.slice (some ⟨g, 0, none⟩) l.length cap) l2 from by
          have := HI.out.bl
          rw [ovr_end HNE.out] at this
          have := BL.pre this
          rw [HNE.out] at this
          exact this)
        clear HI
        go_wp2_with fail
        obtain ⟨c0, c1, c2, c3, c4, c5, c6⟩ := C7.out.all
        obtain ⟨d0, d1, d2⟩ := B7.out.all
        refine wp_region_kept (by kernel_rfl) (by kernel_rfl) ?_
        repeat (go_big_quiet_step (first | (go_at_call 12; exact Calls.kept_of (HN2.out _ _ (P7.out.keep (KW.k _))))))
        refine wpQuiet_nil ?_
        intro x
        have K8 := hid (none_trans K7.out x.k)
        have C8 := hid (C7.out.keep x.k)
        have P8 := hid (P7.out.keep x.k)
        have B8 := hid (B7.out.keep x.k (fun x => x))
        clear c0 c1 c2 c3 c4 c5 c6 d0 d1 d2 K7 C7 P7 B7
        go_wp2_with fail
        generalize x.v = w8 at *
        obtain ⟨c0, c1, c2, c3, c4, c5, c6⟩ := C8.out.all
        obtain ⟨d0, d1, d2⟩ := B8.out.all
        refine wp_region_kept (by kernel_rfl) (by kernel_rfl) ?_
        repeat (go_big_quiet_step (first | (go_at_call 11; exact Calls.kept_of (HS2.out _ _ (P8.out.keep (KW.k _))))))
        refine wpQuiet_nil ?_
        intro y
        have K9 := hid (none_trans K8.out y.k)
        have C9 := hid (C8.out.keep y.k)
        clear c0 c1 c2 c3 c4 c5 c6 d0 d1 d2 K8 C8 P8 B8
        obtain ⟨c0, c1, c2, c3, c4, c5, c6⟩ := C9.out.cells
        go_wp2_with fail
        generalize y.v = w9 at *
        refine (RN.out _ _ (BL0.out.keep K9.out)).mono ?_
        rintro e w10 ⟨rfl, hk⟩
        have K10 := hid (none_trans K9.out hk)
        have C10 := hid (C9.out.keep hk)
        clear hk c0 c1 c2 c3 c4 c5 c6 K9 C9
        obtain ⟨c0, c1, c2, c3, c4, c5, c6⟩ := C10.out.cells
        go_wp2_with fail
        refine (RN2.out _ _ (BL2.out.keep K10.out)).mono ?_
        rintro e w11 ⟨rfl, hk⟩
        have K11 := hid (none_trans K10.out hk)
        have C11 := hid (C10.out.keep hk)
        clear hk c0 c1 c2 c3 c4 c5 c6 K10 C10
        obtain ⟨c0, c1, c2, c3, c4, c5, c6⟩ := C11.out.cells
        go_wp2_with fail
        refine (RS2.out _ _ (BL2.out.keep K11.out)).mono ?_
        rintro e w12 ⟨rfl, hk⟩
        have K12 := hid (none_trans K11.out hk)
        clear hk c0 c1 c2 c3 c4 c5 c6 K11 C11
        go_wp2_with fail
        go_ret
        exact ⟨rfl, K12.out⟩
  · go_enter Try.func6, Try.ntmps6
    have hni : ((l2.length : Int) == (l.length : Int)) = false := by rw [beq_eq_false_iff_ne]; omega
    clear hne
    go_wp2_with fail
    generalize hW0 : w.alloc (.cells #[.int .u64 (base : Int), .int .i64 lim, .int .i64 ord, .int .i64 n, .slice oa l.length oc, .int .u64 (r : Int), .bool dn] 27) = W0 at *
    generalize w.heap.size = cx at *
    refine (awake_any _).mono ?_
    rintro e w1 ⟨rfl, hk⟩
    have K1 := hid (none_trans K0.out hk)
    have C1 := hid (C0.out.keep hk)
    clear hk
    obtain ⟨c0, c1, c2, c3, c4, c5, c6⟩ := C1.out.cells
    go_wp2_with fail
    go_ret
    exact ⟨rfl, K1.out⟩
end Go.Proofs.Ytibljocjdlgfbab
