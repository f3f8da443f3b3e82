/- OracleRises. -/
import Derived.Test.YtibljocjdlgfbabRiA
import Derived.Test.YtibljocjdlgfbabTuB
import Derived.Test.YtibljocjdlgfbabRfE
import Derived.Test.YtibljocjdlgfbabOrR
namespace Go.Proofs.Ytibljocjdlgfbab
open Go.RowKit
set_option linter.unusedVariables false

/-- A block's box. -/
def KB (W : World) (y p s : Nat) : Prop := W.heap[y]? = some (.cells #[.int .u64 (p : Int), .int .u64 (s : Int)] 41)
theorem KB.keep {W W' : World} {y p s : Nat} (h : KB W y p s) (k : Kept none' W W') : KB W' y p s := (k.block _ (heap_lt h) (fun e => e)).trans h
theorem KB.cells {W : World} {y p s : Nat} (h : KB W y p s) : W.cell? ⟨y, 0, none⟩ = some (.int .u64 (p : Int)) ∧ W.cell? ⟨y, 1, none⟩ = some (.int .u64 (s : Int)) := by
  unfold KB at h
  exact ⟨by simp [World.cell?, h], by simp [World.cell?, h]⟩

theorem KB.all {W : World} {y p s : Nat} (h : KB W y p s) : (∀ x : KW W, x.v.cell? ⟨y, 0, none⟩ = some (.int .u64 (p : Int))) ∧ (∀ x : KW W, x.v.cell? ⟨y, 1, none⟩ = some (.int .u64 (s : Int))) := ⟨fun x => (h.keep x.k).cells.1, fun x => (h.keep x.k).cells.2⟩
/-- The state of the loop. -/
structure RiI (w W : World) (cx kx g cap base : Nat) (lim ord n : Int) (v : Value) (r : Nat) (dn : Bool) (p s : Nat) (l : Bls) : Prop where
  kp : Kept none' w W
  aq : AQ W cx base lim ord n v r dn
  kb : KB W (cx + 1) p s
  cb : CB W kx base lim ord
  bl : BL W (.slice (some ⟨g, 0, none⟩) l.length cap) l
theorem RiI.keep {w W W' : World} {cx kx g cap base : Nat} {lim ord n : Int} {v : Value} {r : Nat} {dn : Bool} {p s : Nat} {l : Bls} (h : RiI w W cx kx g cap base lim ord n v r dn p s l) (k : Kept none' W W') : RiI w W' cx kx g cap base lim ord n v r dn p s l :=
  ⟨none_trans h.kp k, h.aq.keep k, h.kb.keep k, h.cb.keep k (fun x => x), h.bl.keep k⟩

theorem GS.since {w0 w1 W : World} {e : TypeId} {size : Nat} {v : Value} {n : Nat} {xs : List Value} (h : GS w1 W e size v n xs) (k : Kept none' w0 w1) : GS w0 W e size v n xs :=
  ⟨h.own, fun g cap e => (h.new g cap e).imp (fun x => x) (fun x => Nat.le_trans k.size x), none_trans k h.kp⟩
theorem step_turn {ops : Array Oper} {o : Oper} {a : Act} {w : World} {K : Act → World → Prop} {Q : Exit → Act → World → Prop} {E : Prop} (hgd : o.guard = none) (x1 : Nat)
    (hop : o.op = Op.call { callee := Callee.value (Operand.func 9), args := #[.tmp x1], argTypes := #[25] }) (w0 : World) (v : Value) (l : Bls) (hbl : BL w0 v l) (hlen : l.length ≤ 8796093022000) (hk : Kept none' w0 w)
    (h1 : a.eval (.tmp x1) = v)
    (hK : ∀ va vc W2, Hid (GS w0 W2 41 2 (.slice va l.length vc) l.length (bcl l.reverse)) → Hid (Kept none' w W2) → K (a.put o.dst (.slice va l.length vc)) W2) :
    if Region.wanted o (yielded ops a.tmps) = true then Oper.wp Try.prog o a w K Q else E := by
  have hw : Region.wanted o (yielded ops a.tmps) = true := by simp [Region.wanted, hgd]
  rw [if_pos hw]
  unfold Oper.wp
  simp [Act.eval] at h1
  simp [execOp, hop, resolve, invoke, Deferred.ofValue, Act.eval, h1, callFunc, Result.andThen, go_sem]
  rw [if_neg (by decide +kernel), if_neg (by decide +kernel)]
  show Calls Try.prog 9 _ _ _
  refine (turned_gs v l w (hbl.keep hk) hlen).mono ?_
  rintro e W2 ⟨va, vc, rfl, hB, hG⟩
  exact hK va vc W2 (hid (hG.since hk)) (hid hG.kp)
theorem step_rbk {ops : Array Oper} {o : Oper} {a : Act} {K : Act → World → Prop} {Q : Exit → Act → World → Prop} {E : Prop} {w0 w : World} {v : Value} {n : Nat} {xs : List Value} (hG : GS w0 w 41 2 v n xs) (hn : n ≤ 8796093022207)
    (hgd : o.guard = none) (s x : Operand) (hop : o.op = .call { callee := .builtin .append, args := #[s, x], argTypes := #[25, 25] })
    (hs : a.eval s = v) (b c2 p z : Nat) (hx : a.eval x = .slice (some ⟨b, 0, none⟩) 1 c2) (hb : w.heap[b]? = some (.cells #[.int .u64 (p : Int), .int .u64 (z : Int)] 41))
    (h : ∀ g2 cap2 w2, Hid (GS w0 w2 41 2 (.slice (some ⟨g2, 0, none⟩) (n + 1) cap2) (n + 1) (xs ++ [.int .u64 (p : Int), .int .u64 (z : Int)])) → K (a.put o.dst (.slice (some ⟨g2, 0, none⟩) (n + 1) cap2)) w2) :
    if Region.wanted o (yielded ops a.tmps) = true then Oper.wp Try.prog o a w K Q else E := by
  have hw : Region.wanted o (yielded ops a.tmps) = true := by simp [Region.wanted, hgd]
  rw [if_pos hw]
  obtain ⟨i, hi, hzz⟩ := Option.map_eq_some_iff.1 info_rbk
  simp only [Prod.mk.injEq] at hzz
  obtain ⟨g2, cap2, w2, h1, h2, h5, h4⟩ := hG.push 25 i _ 16 Try.underlying25 hi hzz.1 hzz.2.1 hzz.2.2 rfl (by decide) ⟨b, 0, none⟩ c2 [.int .u64 (p : Int), .int .u64 (z : Int)] rfl (World.news_of_block (cs := #[.int .u64 (p : Int), .int .u64 (z : Int)]) hb) (by simp [Value.oneCell']) (by simp only [maxLen]; omega) (by omega)
  exact Lib.wp_append_run w s x _ _ hop _ _ hs hx _ _ (h1 _) (h g2 cap2 w2 (hid h2))

set_option maxRecDepth 40000 in
set_option maxHeartbeats 8000000 in
theorem oracleRises (base : Nat) (hb64 : base < 18446744073709551616) (lim ord : Int) (hl1 : -9223372036854775808 ≤ lim) (hl2 : lim ≤ 9223372036854775807) (ho1 : -9223372036854775808 ≤ ord) (ho2 : ord ≤ 9223372036854775807) (n : Int) (hn1 : -9223372036854775808 ≤ n) (hn2 : n ≤ 9223372036854775807) (v : Value) (l : Bls) (r : Nat) (hr : r < 2 ^ 64) (dn : Bool) (p s : Nat) (hp : p < 2 ^ 64) (hs : s < 2 ^ 64) (w : World) (hbl : BL w v l) (hlen : l.length ≤ 8796093022000) :
    Calls Try.prog 4 #[.agg #[.int .u64 (base : Int), .int .i64 lim, .int .i64 ord, .int .i64 n, v, .int .u64 (r : Int), .bool dn], .agg #[.int .u64 (p : Int), .int .u64 (s : Int)]] w fun e w' => e = .returned (.bool true) ∧ Kept none' w w' := by
  obtain ⟨oa, oc, rfl⟩ : ∃ oa oc, v = .slice oa l.length oc := by
    obtain ⟨_, _, oa, oc, hv, _⟩ := hbl
    exact ⟨oa, oc, hv⟩
  have BL0 := hid hbl
  have HT := hid (fun W v h => turned_gs v l W h hlen)
  have HBK := hid (fun W v h => blocks_any v l W h hlen)
  have HNr := hid (fun r' hr' W v h => NoFit_any base hb64 lim ord n hl1 hl2 ho1 ho2 v l r' hr' W h)
  obtain ⟨l', hl'⟩ : ∃ l', l' = l.reverse ++ [(p, s)] := ⟨_, rfl⟩
  have HLL := hid (show l'.length = l.length + 1 by rw [hl']; simp)
  have HLB := hid (show bcl l.reverse ++ [.int .u64 (p : Int), .int .u64 (s : Int)] = bcl l' by rw [hl']; exact (bcl_app l.reverse (p, s)).symm)
  have HLS := hid (show ∀ b ∈ l, b ∈ l' from fun b hb => by rw [hl']; exact List.mem_append_left _ (List.mem_reverse.2 hb))
  have HLV := hid (show ∀ b ∈ l', b.1 < 2 ^ 64 ∧ b.2 < 2 ^ 64 from fun b hb => by
    rw [hl'] at hb
    rcases List.mem_append.1 hb with hb | hb
    · exact hbl.2.1 b (List.mem_reverse.1 hb)
    · rw [List.mem_singleton.1 hb]; exact ⟨hp, hs⟩)
  have HBW := hid (fun W v h => blocks_wide v l' W h (by rw [HLL.out]; omega))
  have HNw := hid (fun W v h => NoFit_any base hb64 lim ord n hl1 hl2 ho1 ho2 v l' r hr W h)
  have RSw := hid (fun W v h => refSound base hb64 lim ord n hl1 hl2 ho1 ho2 v l' W h)
  clear hbl hl'
  cases hnv : nofV base lim ord n l r with
  | false =>
    have HN := hid (show ∀ W v, BL W v l → Calls Try.prog 12 #[cfgV base lim ord, .int .i64 n, v, .int .u64 (r : Int)] W fun e w' => e = .returned (.bool false) ∧ Kept none' W w' from fun W v h => by
      have := HNr.out r hr W v h
      rw [hnv] at this
      exact this)
    clear hnv HNr
    have K0 := hid (show Kept none' w ((w.alloc (.cells #[.int .u64 (base : Int), .int .i64 lim, .int .i64 ord, .int .i64 n, .slice oa l.length oc, .int .u64 (r : Int), .bool dn] 27)).alloc (.cells #[.int .u64 (p : Int), .int .u64 (s : Int)] 41)) from ((Kept.refl _ w).alloc _).alloc _)
    have C0 := hid (show AQ ((w.alloc (.cells #[.int .u64 (base : Int), .int .i64 lim, .int .i64 ord, .int .i64 n, .slice oa l.length oc, .int .u64 (r : Int), .bool dn] 27)).alloc (.cells #[.int .u64 (p : Int), .int .u64 (s : Int)] 41)) w.heap.size base lim ord n (.slice oa l.length oc) r dn from AQ.keep (W := w.alloc (.cells #[.int .u64 (base : Int), .int .i64 lim, .int .i64 ord, .int .i64 n, .slice oa l.length oc, .int .u64 (r : Int), .bool dn] 27)) (heap_new w _) ((Kept.refl _ _).alloc _))
    have X0 := hid (show KB ((w.alloc (.cells #[.int .u64 (base : Int), .int .i64 lim, .int .i64 ord, .int .i64 n, .slice oa l.length oc, .int .u64 (r : Int), .bool dn] 27)).alloc (.cells #[.int .u64 (p : Int), .int .u64 (s : Int)] 41)) (w.heap.size + 1) p s from by
      unfold KB
      rw [show w.heap.size + 1 = (w.alloc (.cells #[.int .u64 (base : Int), .int .i64 lim, .int .i64 ord, .int .i64 n, .slice oa l.length oc, .int .u64 (r : Int), .bool dn] 27)).heap.size by simp]
      exact heap_new _ _)
    go_enter Try.func4, Try.ntmps4
    go_wp2_with fail
    generalize (w.alloc (.cells #[.int .u64 (base : Int), .int .i64 lim, .int .i64 ord, .int .i64 n, .slice oa l.length oc, .int .u64 (r : Int), .bool dn] 27)).alloc (.cells #[.int .u64 (p : Int), .int .u64 (s : Int)] 41) = W0 at *
    generalize w.heap.size = cx at *
    refine (awake_any _).mono ?_
    rintro e w1 ⟨rfl, hk⟩
    have K1 := hid (none_trans K0.out hk)
    have C1 := hid (C0.out.keep hk)
    have X1 := hid (X0.out.keep hk)
    clear hk
    obtain ⟨c0, c1, c2, c3, c4, c5, c6⟩ := C1.out.cells
    go_wp2_with fail
    refine (HBK.out _ _ (BL0.out.keep K1.out)).mono ?_
    rintro e w2 ⟨g, cap, rfl, hcap, hA, hk⟩
    have K2 := hid (none_trans K1.out hk)
    have C2 := hid (C1.out.keep hk)
    have X2 := hid (X1.out.keep hk)
    have P2 := hid (BL.pre hA)
    have hc1 : (l.length : Int) ≤ (cap : Int) := by omega
    clear hk hA c0 c1 c2 c3 c4 c5 c6 K0 K1 C0 C1 HBK X0 X1
    obtain ⟨c0, c1, c2, c3, c4, c5, c6⟩ := C2.out.cells
    go_wp2_with fail
    refine (config_any base lim ord _).mono ?_
    rintro e w5 ⟨rfl, hk⟩
    have ka : Kept none' w2 (w5.alloc (.cells #[.int .u64 (base : Int), .int .i64 lim, .int .i64 ord] 33)) := hk.alloc _
    have S6 := hid (show RiI w (w5.alloc (.cells #[.int .u64 (base : Int), .int .i64 lim, .int .i64 ord] 33)) cx w5.heap.size g cap base lim ord n (.slice oa l.length oc) r dn p s l from ⟨none_trans K2.out ka, C2.out.keep ka, X2.out.keep ka, heap_new w5 _, P2.out.keep ka⟩)
    clear hk ka c0 c1 c2 c3 c4 c5 c6 K2 C2 P2 X2
    go_wp2_with fail
    generalize w5.alloc (.cells #[.int .u64 (base : Int), .int .i64 lim, .int .i64 ord] 33) = w6 at *
    generalize w5.heap.size = kx at *
    obtain ⟨c0, c1, c2, c3, c4, c5, c6⟩ := S6.out.aq.all
    obtain ⟨d0, d1, d2⟩ := S6.out.cb.all
    refine wp_region_kept (by kernel_rfl) (by kernel_rfl) ?_
    repeat (go_big_quiet_step (first | (go_at_call 12; exact Calls.kept_of (HN.out _ _ (S6.out.bl.keep (KW.k _))))))
    refine wpQuiet_nil ?_
    intro x
    have S7 := hid (S6.out.keep x.k)
    clear c0 c1 c2 c3 c4 c5 c6 d0 d1 d2 S6
    go_wp2_with fail
    go_ret
    exact ⟨rfl, S7.out.kp⟩
  | true =>
    have HN := hid (show ∀ W v, BL W v l → Calls Try.prog 12 #[cfgV base lim ord, .int .i64 n, v, .int .u64 (r : Int)] W fun e w' => e = .returned (.bool true) ∧ Kept none' W w' from fun W v h => by
      have := HNr.out r hr W v h
      rw [hnv] at this
      exact this)
    obtain ⟨h1, h2, h3, h4⟩ := nofV_facts hnv
    obtain ⟨k, rr, L, rfl, rfl, rfl, hk8, hL1, hL64, hrL, hLR, hb0, hbm, hbe⟩ := mayR_facts h1
    have HZ := hid (show szB k r = true by rw [Int.toNat_natCast] at h3; exact h3)
    have HNV := hid hnv
    obtain ⟨R, hR⟩ : ∃ R, R = RS k := ⟨_, rfl⟩
    have hRl := RS_le k hk8
    have HRR := hid (fun W => refR (base : Int) (L : Int) k hk8 W)
    rw [← hR] at hRl HRR
    have hr16 : 16 ≤ r := (szB_iff.1 HZ.out).2.1
    have hrR : r ≤ R := by rw [hR]; exact (szB_iff.1 HZ.out).2.2
    have HR := hid hR
    clear hnv h1 h2 h3 h4 hR hrL hLR hb0 hbm hbe
    have K0 := hid (show Kept none' w ((w.alloc (.cells #[.int .u64 (base : Int), .int .i64 (L : Int), .int .i64 (k : Int), .int .i64 (rr : Int), .slice oa l.length oc, .int .u64 (r : Int), .bool dn] 27)).alloc (.cells #[.int .u64 (p : Int), .int .u64 (s : Int)] 41)) from ((Kept.refl _ w).alloc _).alloc _)
    have C0 := hid (show AQ ((w.alloc (.cells #[.int .u64 (base : Int), .int .i64 (L : Int), .int .i64 (k : Int), .int .i64 (rr : Int), .slice oa l.length oc, .int .u64 (r : Int), .bool dn] 27)).alloc (.cells #[.int .u64 (p : Int), .int .u64 (s : Int)] 41)) w.heap.size base (L : Int) (k : Int) (rr : Int) (.slice oa l.length oc) r dn from AQ.keep (W := w.alloc (.cells #[.int .u64 (base : Int), .int .i64 (L : Int), .int .i64 (k : Int), .int .i64 (rr : Int), .slice oa l.length oc, .int .u64 (r : Int), .bool dn] 27)) (heap_new w _) ((Kept.refl _ _).alloc _))
    have X0 := hid (show KB ((w.alloc (.cells #[.int .u64 (base : Int), .int .i64 (L : Int), .int .i64 (k : Int), .int .i64 (rr : Int), .slice oa l.length oc, .int .u64 (r : Int), .bool dn] 27)).alloc (.cells #[.int .u64 (p : Int), .int .u64 (s : Int)] 41)) (w.heap.size + 1) p s from by
      unfold KB
      rw [show w.heap.size + 1 = (w.alloc (.cells #[.int .u64 (base : Int), .int .i64 (L : Int), .int .i64 (k : Int), .int .i64 (rr : Int), .slice oa l.length oc, .int .u64 (r : Int), .bool dn] 27)).heap.size by simp]
      exact heap_new _ _)
    go_enter Try.func4, Try.ntmps4
    go_wp2_with fail
    generalize (w.alloc (.cells #[.int .u64 (base : Int), .int .i64 (L : Int), .int .i64 (k : Int), .int .i64 (rr : Int), .slice oa l.length oc, .int .u64 (r : Int), .bool dn] 27)).alloc (.cells #[.int .u64 (p : Int), .int .u64 (s : Int)] 41) = W0 at *
    generalize w.heap.size = cx at *
    refine (awake_any _).mono ?_
    rintro e w1 ⟨rfl, hk⟩
    have K1 := hid (none_trans K0.out hk)
    have C1 := hid (C0.out.keep hk)
    have X1 := hid (X0.out.keep hk)
    clear hk
    obtain ⟨c0, c1, c2, c3, c4, c5, c6⟩ := C1.out.cells
    go_wp2_with fail
    refine (HBK.out _ _ (BL0.out.keep K1.out)).mono ?_
    rintro e w2 ⟨g, cap, rfl, hcap, hA, hk⟩
    have K2 := hid (none_trans K1.out hk)
    have C2 := hid (C1.out.keep hk)
    have X2 := hid (X1.out.keep hk)
    have P2 := hid (BL.pre hA)
    have hc1 : (l.length : Int) ≤ (cap : Int) := by omega
    clear hk hA c0 c1 c2 c3 c4 c5 c6 K0 K1 C0 C1 HBK X0 X1
    obtain ⟨c0, c1, c2, c3, c4, c5, c6⟩ := C2.out.cells
    go_wp2_with fail
    refine (config_any base (L : Int) (k : Int) _).mono ?_
    rintro e w5 ⟨rfl, hk⟩
    have ka : Kept none' w2 (w5.alloc (.cells #[.int .u64 (base : Int), .int .i64 (L : Int), .int .i64 (k : Int)] 33)) := hk.alloc _
    have S6 := hid (show RiI w (w5.alloc (.cells #[.int .u64 (base : Int), .int .i64 (L : Int), .int .i64 (k : Int)] 33)) cx w5.heap.size g cap base (L : Int) (k : Int) (rr : Int) (.slice oa l.length oc) r dn p s l from ⟨none_trans K2.out ka, C2.out.keep ka, X2.out.keep ka, heap_new w5 _, P2.out.keep ka⟩)
    clear hk ka c0 c1 c2 c3 c4 c5 c6 K2 C2 P2 X2
    go_wp2_with fail
    generalize w5.alloc (.cells #[.int .u64 (base : Int), .int .i64 (L : Int), .int .i64 (k : Int)] 33) = w6 at *
    generalize w5.heap.size = kx at *
    obtain ⟨c0, c1, c2, c3, c4, c5, c6⟩ := S6.out.aq.all
    obtain ⟨d0, d1, d2⟩ := S6.out.cb.all
    refine wp_region_kept (by kernel_rfl) (by kernel_rfl) ?_
    repeat (go_big_quiet_step (first | (go_at_call 12; exact Calls.kept_of (HN.out _ _ (S6.out.bl.keep (KW.k _))))))
    refine wpQuiet_nil ?_
    intro x
    have S7 := hid (S6.out.keep x.k)
    clear c0 c1 c2 c3 c4 c5 c6 d0 d1 d2 S6
    obtain ⟨c0, c1, c2, c3, c4, c5, c6⟩ := S7.out.aq.cells
    go_wp2_with fail
    generalize x.v = w7 at *
    clear c0 c1 c2 c3 c4 c5 c6
    go_loopw [7] (fun i W => ∃ r' : Nat, i = .int .u64 (r' : Int) ∧ r ≤ r' ∧ r' ≤ 2 * R ∧ (r' ≤ R → szB k r' = true) ∧ Hid (RiI w W cx kx g cap base (L : Int) (k : Int) (rr : Int) (.slice oa l.length oc) r dn p s l)) (fun i _ => 2 * R - (intOf i).toNat)
    case atStart => exact ⟨r, rfl, Nat.le_refl _, by omega, fun _ => HZ.out, S7⟩
    case round =>
      clear S7
      obtain ⟨r', rfl, hr1, hr2, hr3, HS⟩ := hrel
      obtain ⟨c0, c1, c2, c3, c4, c5, c6⟩ := HS.out.aq.cells
      go_wp2_with fail
      refine (HRR.out _).mono ?_
      rintro e w8 ⟨rfl, hk⟩
      have S8 := hid (HS.out.keep hk)
      clear hk c0 c1 c2 c3 c4 c5 c6 HS
      by_cases hle : r' ≤ R
      · have hlei : (r' : Int) ≤ (R : Int) := by omega
        have hzr := hid (hr3 hle)
        clear hr3
        by_cases h4 : 4096 ≤ r'
        · have h4i : decide (4096 ≤ (r' : Int)) = true := decide_eq_true (by omega)
          have HNx := hid (show ∀ W v, BL W v l → Calls Try.prog 12 #[cfgV base (L : Int) (k : Int), .int .i64 (rr : Int), v, .int .u64 (r' : Int)] W fun e w' => e = .returned (.bool true) ∧ Kept none' W w' from fun W v h => by
            have := HNr.out r' (by omega) W v h
            rw [nofV_rise HNV.out (by rw [Int.toNat_natCast]; exact hzr.out) h4 hr1] at this
            exact this)
          have h4n : decide (4096 ≤ r') = true := decide_eq_true h4
          go_wp2_with fail
          obtain ⟨c0, c1, c2, c3, c4, c5, c6⟩ := S8.out.aq.all
          obtain ⟨d0, d1, d2⟩ := S8.out.cb.all
          refine wp_region_kept (by kernel_rfl) (by kernel_rfl) ?_
          repeat (go_big_quiet_step (first | (go_at_call 12; exact Calls.kept_of (HNx.out _ _ (S8.out.bl.keep (KW.k _))))))
          refine wpQuiet_nil ?_
          intro y
          have S9 := hid (S8.out.keep y.k)
          clear c0 c1 c2 c3 c4 c5 c6 d0 d1 d2 S8
          go_wp2_with fail
          go_round
          case rel => exact ⟨r' * 2, by go_num, by omega, by omega, fun h => szB_dbl hzr.out (by rw [← HR.out]; exact h), S9⟩
          case measure => simp [intOf]; omega
        · have h4i : decide (4096 ≤ (r' : Int)) = false := decide_eq_false (by omega)
          have h4n : decide (4096 ≤ r') = false := decide_eq_false h4
          go_wp2_with fail
          obtain ⟨c0, c1, c2, c3, c4, c5, c6⟩ := S8.out.aq.all
          obtain ⟨d0, d1, d2⟩ := S8.out.cb.all
          refine wp_region_kept (by kernel_rfl) (by kernel_rfl) ?_
          repeat (go_big_quiet_step (fail))
          refine wpQuiet_nil ?_
          intro y
          have S9 := hid (S8.out.keep y.k)
          clear c0 c1 c2 c3 c4 c5 c6 d0 d1 d2 S8
          go_wp2_with fail
          go_round
          case rel => exact ⟨r' * 2, by go_num, by omega, by omega, fun h => szB_dbl hzr.out (by rw [← HR.out]; exact h), S9⟩
          case measure => simp [intOf]; omega
      · have hlei : ¬ (r' : Int) ≤ (R : Int) := by omega
        obtain ⟨c0, c1, c2, c3, c4, c5, c6⟩ := S8.out.aq.cells
        obtain ⟨d0, d1⟩ := S8.out.kb.cells
        have KA := hid (show Kept none' w8 ((w8.alloc (.cells #[.int .u64 (p : Int), .int .u64 (s : Int)] 41)).drew) from ((Kept.refl none' w8).alloc _).drew)
        have e4 := ((Kept.refl none' w8).alloc (.cells #[.int .u64 (p : Int), .int .u64 (s : Int)] 41)).cell (fun x => x) c4
        have BL8 := hid (BL0.out.keep S8.out.kp)
        go_wp2_with fail
        go_region_law (first | (refine step_turn (w0 := w8) rfl 55 rfl _ _ BL8.out hlen (by first | exact (Kept.refl none' w8).drew | exact KA.out) rfl ?_; intro va vc W2 HG2 KW2; have m0 := (S8.out.kb.keep HG2.out.kp).cells.1; have m1 := (S8.out.kb.keep HG2.out.kp).cells.2) | (refine step_rbk (HG2.out.keep ((Kept.refl none' W2).alloc _)) (by omega) rfl (.tmp 56) (.tmp 58) rfl rfl W2.heap.size 1 p s rfl (heap_new W2 _) ?_; intro g2 cap2 w9 HG9) | (refine step_rbk HG2.out (by omega) rfl (.tmp 56) (.tmp 58) rfl rfl w8.heap.size 1 p s rfl ((KW2.out.block w8.heap.size (by simp) (fun x => x)).trans (heap_new w8 _)) ?_; intro g2 cap2 w9 HG9))
        all_goals
          clear KW2 HG2 m0 m1
          go_frame
          have S9 := hid (S8.out.keep HG9.out.kp)
          have L9 := hid (show BL w9 (.slice (some ⟨g2, 0, none⟩) (l.length + 1) cap2) l' from by
            have hG := HG9.out
            rw [HLB.out, ← HLL.out] at hG
            have := GS.bl' hG (by rw [HLL.out]; omega) HLV.out
            rw [HLL.out] at this
            exact this)
          clear HG9 S8 BL8 KA c0 c1 c2 c3 c4 c5 c6 d0 d1 e4
          go_wp2_with fail
          refine (HBW.out _ _ L9.out).mono ?_
          rintro e w10 ⟨gb, capb, rfl, hcapb, hA, hk, _⟩
          have S10 := hid (S9.out.keep hk)
          have L10 := hid (L9.out.keep hk)
          have Q10 := hid (show BL w10 (.slice (some ⟨gb, 0, none⟩) (l.length + 1) capb) l' from by have := BL.pre hA; rw [HLL.out] at this; exact this)
          have hll := HLL.out
          have hcb : (l.length : Int) + 1 ≤ (capb : Int) := by omega
          rw [hll]
          clear hll hk hA hcapb S9 L9
          obtain ⟨c0, c1, c2, c3, c4, c5, c6⟩ := S10.out.aq.cells
          go_wp2_with fail
          refine (RSw.out _ _ L10.out).mono ?_
          rintro e w11 ⟨rfl, hk⟩
          have S11 := hid (S10.out.keep hk)
          have Q11 := hid (Q10.out.keep hk)
          clear hk c0 c1 c2 c3 c4 c5 c6 S10 Q10 L10
          obtain ⟨sv, hsv⟩ : ∃ sv, sv = sndV base (L : Int) (k : Int) (rr : Int) l' := ⟨_, rfl⟩
          rw [← hsv]
          by_cases hs1 : sv = -1
          · have HSV := hid (show sndV base (L : Int) (k : Int) (rr : Int) l' = -1 from hsv.symm.trans hs1)
            rw [hs1]
            clear hsv hs1
            obtain ⟨c0, c1, c2, c3, c4, c5, c6⟩ := S11.out.aq.cells
            by_cases h4 : r < 4096
            · have h4i : (r : Int) < 4096 := by omega
              go_wp2_with fail
              go_ret
              exact ⟨rfl, S11.out.kp⟩
            · have h4i : ¬ (r : Int) < 4096 := by omega
              have HNz := hid (show ∀ W v, BL W v l' → Calls Try.prog 12 #[cfgV base (L : Int) (k : Int), .int .i64 (rr : Int), v, .int .u64 (r : Int)] W fun e w' => e = .returned (.bool true) ∧ Kept none' W w' from fun W v h => by
                have := HNw.out W v h
                rw [nofV_more HNV.out (by omega) HLS.out HSV.out] at this
                exact this)
              go_wp2_with fail
              clear c0 c1 c2 c3 c4 c5 c6
              obtain ⟨c0, c1, c2, c3, c4, c5, c6⟩ := S11.out.aq.all
              obtain ⟨d0, d1, d2⟩ := S11.out.cb.all
              refine wp_region_kept (by kernel_rfl) (by kernel_rfl) ?_
              repeat (go_big_quiet_step (first | (go_at_call 12; exact Calls.kept_of (HNz.out _ _ (Q11.out.keep (KW.k _))))))
              refine wpQuiet_nil ?_
              intro y
              have S12 := hid (S11.out.keep y.k)
              clear c0 c1 c2 c3 c4 c5 c6 d0 d1 d2 S11
              go_wp2_with fail
              go_ret
              exact ⟨rfl, S12.out.kp⟩
          · have hs2 : (sv == -1) = false := by rw [beq_eq_false_iff_ne]; exact hs1
            clear hsv
            obtain ⟨c0, c1, c2, c3, c4, c5, c6⟩ := S11.out.aq.cells
            go_wp2_with fail
            go_ret
            exact ⟨rfl, S11.out.kp⟩
end Go.Proofs.Ytibljocjdlgfbab
