/- oracle.pagesOf, Sound. -/
import Derived.Test.YtibljocjdlgfbaaOrG
namespace Go.Proofs.Ytibljocjdlgfbaa
open Go.RowKit
set_option linter.unusedVariables false

/-- A Config's box. -/
def CB (W : World) (x base : Nat) (lim ord : Int) : Prop := W.heap[x]? = some (.cells #[.int .u64 (base : Int), .int .i64 lim, .int .i64 ord] 24)
theorem CB.cells {W : World} {x base : Nat} {lim ord : Int} (h : CB W x base lim ord) : W.cell? ⟨x, 0, none⟩ = some (.int .u64 (base : Int)) ∧ W.cell? ⟨x, 1, none⟩ = some (.int .i64 lim) ∧ W.cell? ⟨x, 2, none⟩ = some (.int .i64 ord) := by
  unfold CB at h
  refine ⟨?_, ?_, ?_⟩ <;> simp [World.cell?, h]
theorem CB.keep {W W' : World} {x base : Nat} {lim ord : Int} (h : CB W x base lim ord) {S : Nat → Prop} (k : Kept S W W') (hS : ¬ S x) : CB W' x base lim ord := (k.block _ (heap_lt h) hS).trans h

/-- A Config and a number of regions that may be. -/
def mayR (base : Nat) (lim ord n : Int) : Bool := mayB base lim ord && decide (0 ≤ n) && decide (n ≤ lim)
/-- What pagesOf tells. -/
def PoP (w : World) (base : Nat) (lim ord n : Int) (l : Bls) (e : Ending) (w' : World) : Prop :=
  Kept none' w w' ∧ ((mayR base lim ord n = false ∧ e = .returned (.tuple #[.map none, .int .i64 0])) ∨
    (mayR base lim ord n = true ∧ sndI base ord.toNat n.toNat l ≠ -1 ∧ e = .returned (.tuple #[.map none, .int .i64 (sndI base ord.toNat n.toNat l)])) ∨
    (mayR base lim ord n = true ∧ sndI base ord.toNat n.toNat l = -1 ∧ ∃ m, e = .returned (.tuple #[.map (some m), .int .i64 (-1)]) ∧ PG w.heap.size w' m (allU base l)))

theorem mayR_facts {base : Nat} {lim ord n : Int} (h : mayR base lim ord n = true) : ∃ k r L : Nat, ord = (k : Int) ∧ n = (r : Int) ∧ lim = (L : Int) ∧ k ≤ 8 ∧ 1 ≤ L ∧ L ≤ 64 ∧ r ≤ L ∧ L * RS k ≤ 4194304 ∧ base ≠ 0 ∧ base % RS k = 0 ∧ base + L * RS k ≤ 9223372036854775808 := by
  simp only [mayR, mayB, Bool.and_eq_true, decide_eq_true_eq] at h
  obtain ⟨⟨⟨⟨hB, h1⟩, ⟨h2, h3⟩, h4⟩, h5⟩, h6⟩ := h
  unfold Bounds at hB
  obtain ⟨k, rfl⟩ := Int.eq_ofNat_of_zero_le hB.1
  obtain ⟨r, rfl⟩ := Int.eq_ofNat_of_zero_le h5
  obtain ⟨L, rfl⟩ := Int.eq_ofNat_of_zero_le (by omega : 0 ≤ lim)
  rw [Int.toNat_natCast, Int.toNat_natCast] at h1 h4
  rw [Int.toNat_natCast] at h3
  refine ⟨k, r, L, rfl, rfl, rfl, by omega, by omega, by omega, by omega, ?_, h2, h3, h4⟩
  have : L * RS k = 4096 * (L * 2 ^ k) := by rw [RS, Nat.mul_left_comm]
  omega

/-- The loop's state. -/
structure PoI (w : World) (N1 : Nat) (W : World) (cx m base : Nat) (lim : Int) (k n : Nat) (l : Bls) (i : Nat) : Prop where
  pg : PG N1 W m (allU base (l.take i))
  cb : CB W cx base lim (k : Int)
  kp : Kept none' w W
  gd : ∀ a, a < i → goodB base k n l a = true
  ci : cx < N1
  nw : w.heap.size ≤ N1
  nz : N1 ≤ W.heap.size
theorem PG.mono {N N' w m U} (h : PG N w m U) (hN : N' ≤ N) : PG N' w m U := by
  obtain ⟨ks, S, B, C, X, h⟩ := h
  exact ⟨ks, S, B, C, X, h.mu, h.st, h.inj, Nat.le_trans hN h.nm, fun n hn => ⟨Nat.le_trans hN (h.nw n hn).1, Nat.le_trans hN (h.nw n hn).2⟩, h.us, h.kin, h.bt, h.cn, h.sz⟩
theorem kept_new {w W W' : World} {N : Nat} (h : Kept none' w W) (k : Kept (fun x => N ≤ x) W W') (hN : w.heap.size ≤ N) : Kept none' w W' :=
  h.trans k (fun _ _ e => e) (fun x hx e => by omega)
/-- A block's box. -/
theorem blk_box {w W : World} (p s : Nat) (hK : Kept none' (w.alloc (.cells #[.int .u64 (p : Int), .int .u64 (s : Int)] 33)) W) :
    W.cell? ⟨w.heap.size, 0, none⟩ = some (.int .u64 (p : Int)) ∧ W.cell? ⟨w.heap.size, 1, none⟩ = some (.int .u64 (s : Int)) := by
  have := (hK.block w.heap.size (by simp) (fun x => x)).trans (heap_new w _)
  exact ⟨by simp [World.cell?, this], by simp [World.cell?, this]⟩

theorem take_succ' {l : Bls} {i : Nat} {b : Nat × Nat} (h : l[i]? = some b) : l.take (i + 1) = l.take i ++ [b] := by
  rw [List.take_add_one, h]; rfl
theorem allU_app (base : Nat) (l : Bls) (b : Nat × Nat) : allU base (l ++ [b]) = allU base l ++ units (b.1 - base) b.2 := by simp [allU]

set_option maxRecDepth 4000 in
theorem pagesOf_any (base : Nat) (hb64 : base < 18446744073709551616) (lim ord n : Int) (hl1 : -9223372036854775808 ≤ lim) (hl2 : lim ≤ 9223372036854775807) (ho1 : -9223372036854775808 ≤ ord) (ho2 : ord ≤ 9223372036854775807) (v : Value) (l : Bls) (w : World) (hbl : BL w v l) :
    Calls Try.prog 35 #[cfgV base lim ord, .int .i64 n, v] w fun e w' => PoP w base lim ord n l e w' := by
  have HM := hid (fun W => mayBe_any base hb64 lim ord hl1 hl2 ho1 ho2 W)
  have C0 := hid (show CB (w.alloc (.cells #[.int .u64 (base : Int), .int .i64 lim, .int .i64 ord] 24)) w.heap.size base lim ord from heap_new w _)
  have K0 := hid (show Kept none' w (w.alloc (.cells #[.int .u64 (base : Int), .int .i64 lim, .int .i64 ord] 24)) from (Kept.refl _ w).alloc _)
  have Z0 := hid (show (w.alloc (.cells #[.int .u64 (base : Int), .int .i64 lim, .int .i64 ord] 24)).heap.size = w.heap.size + 1 by simp)
  have BL0 := hid hbl
  clear hbl
  cases hm : mayB base lim ord with
  | false =>
    rw [hm] at HM
    have FIN := hid (show ∀ w1, Kept none' w w1 → PoP w base lim ord n l (.returned (.tuple #[.map none, .int .i64 0])) w1 from fun w1 h => ⟨h, .inl ⟨by simp [mayR, hm], rfl⟩⟩)
    clear hm
    go_enter Try.func35, Try.ntmps35
    go_wp2_with fail
    generalize w.alloc (.cells #[.int .u64 (base : Int), .int .i64 lim, .int .i64 ord] 24) = W0 at *
    refine (HM.out _).mono ?_
    rintro e w1 ⟨rfl, hk⟩
    have K1 := hid (none_trans K0.out hk)
    clear hk
    go_wp2_with fail
    exact ⟨rfl, .tuple #[.map none, .int .i64 0], by simp [results, Try.results35, go_sem], FIN.out _ K1.out⟩
  | true =>
    rw [hm] at HM
    by_cases hn : 0 ≤ n ∧ n ≤ lim
    · have hmr : mayR base lim ord n = true := by simp [mayR, hm, hn.1, hn.2]
      obtain ⟨k, r, L, rfl, rfl, rfl, hk8, hL1, hL64, hrL, hLR, hb0, hbm, hbe⟩ := mayR_facts hmr
      have hrR : r * RS k ≤ 4194304 := Nat.le_trans (Nat.mul_le_mul_right _ hrL) hLR
      obtain ⟨oa, oc, rfl⟩ : ∃ oa oc, v = .slice oa l.length oc := by
        obtain ⟨_, _, oa, oc, hv, _⟩ := BL0.out
        exact ⟨oa, oc, hv⟩
      have hmk : ∀ w, (Instr.makeMap 72 none).run Try.prog w = .ok (.map (some w.heap.size)) (w.alloc (.map #[] 0)) := fun w => run_makeMap _ w
      have hlen := BL0.out.len.2
      have FB := hid (show ∀ w1 i, Kept none' w w1 → i < l.length → (∀ a, a < i → goodB base k r l a = true) → goodB base k r l i = false → PoP w base (L : Int) (k : Int) (r : Int) l (.returned (.tuple #[.map none, .int .i64 (i : Int)])) w1 from fun w1 i hk h1 h2 h3 => by
        have e := sndI_bad h1 h2 h3
        refine ⟨hk, .inr (.inl ⟨hmr, ?_, ?_⟩)⟩
        · rw [Int.toNat_natCast, Int.toNat_natCast, e]; omega
        · rw [Int.toNat_natCast, Int.toNat_natCast, e])
      have FG := hid (show ∀ w1 m N1, Kept none' w w1 → (∀ a, a < l.length → goodB base k r l a = true) → PG N1 w1 m (allU base l) → w.heap.size ≤ N1 → PoP w base (L : Int) (k : Int) (r : Int) l (.returned (.tuple #[.map (some m), .int .i64 (-1)])) w1 from fun w1 m N1 hk h1 h2 h3 => by
        have e := sndI_ok h1
        refine ⟨hk, .inr (.inr ⟨hmr, ?_, m, rfl, h2.mono h3⟩)⟩
        rw [Int.toNat_natCast, Int.toNat_natCast, e])
      have HB := hid (fun W p s hp hs => isBlock_any base (L : Int) k r hk8 (by omega) (by omega) p s hp hs W)
      have hrl : decide (L < r) = false := decide_eq_false (by omega)
      have hr0 : decide ((r : Int) < 0) = false := decide_eq_false (by omega)
      clear hm hn hmr
      go_enter Try.func35, Try.ntmps35
      go_wp2_with fail
      generalize w.alloc (.cells #[.int .u64 (base : Int), .int .i64 (L : Int), .int .i64 (k : Int)] 24) = W0 at *
      refine (HM.out _).mono ?_
      rintro e w1 ⟨rfl, hk⟩
      have K1 := hid (none_trans K0.out hk)
      have C1 := hid (C0.out.keep hk (fun x => x))
      have Z1 := hid (show w.heap.size < w1.heap.size by have := hk.size; have := Z0.out; omega)
      obtain ⟨c0, c1, c2⟩ := C1.out.cells
      clear hk
      have I0 := hid (show PoI w w1.heap.size (w1.alloc (.map #[] 0)) w.heap.size w1.heap.size base (L : Int) k r l 0 from by
        have ka : Kept none' w1 (w1.alloc (.map #[] 0)) := (Kept.refl _ _).alloc _
        exact ⟨by simpa [allU] using PG.new w1, C1.out.keep ka (fun x => x), none_trans K1.out ka, fun a ha => by omega, Z1.out, Nat.le_of_lt Z1.out, by simp⟩)
      go_wp2_with fail
      generalize w1.alloc (.map #[] 0) = W2 at *
      generalize w1.heap.size = m at *
      generalize w.heap.size = cx at *
      clear c0 c1 c2 hmk
      go_loopw [27] (fun i W => ∃ a : Nat, a ≤ l.length ∧ i = .int .i64 a ∧ Hid (PoI w m W cx m base (L : Int) k r l a)) (fun i _ => l.length - (intOf i).toNat)
      case atStart => exact ⟨0, Nat.zero_le _, rfl, I0⟩
      case round =>
        clear I0 K1 C1 Z1 C0 K0 Z0 HM
        obtain ⟨a, ha, rfl, hI⟩ := hrel
        by_cases hlt : a < l.length
        · have hai : (a : Int) < (l.length : Int) := by omega
          obtain ⟨bl, o, p, s, rfl, hla, hp, hs, q0, q1⟩ := (BL0.out.keep hI.out.kp).at a hlt
          obtain ⟨c0, c1, c2⟩ := hI.out.cb.cells
          have d0 := ((Kept.refl none' wr).alloc (.cells #[.int .u64 (p : Int), .int .u64 (s : Int)] 33)).cell (fun e => e) c0
          have d1 := ((Kept.refl none' wr).alloc (.cells #[.int .u64 (p : Int), .int .u64 (s : Int)] 33)).cell (fun e => e) c1
          have d2 := ((Kept.refl none' wr).alloc (.cells #[.int .u64 (p : Int), .int .u64 (s : Int)] 33)).cell (fun e => e) c2
          have HBK := hid (fun W => HB.out W p s hp hs)
          have GE := hid (show goodB base k r l a = (okB base k r p s && layOk (allU base (l.take a)) (p - base) s) by unfold goodB; rw [hla])
          have HLA := hid hla
          clear hla HB
          go_wp2_with fail
          refine (HBK.out _).mono ?_
          rintro e w2 ⟨rfl, hk⟩
          have KB := hid (none_trans ((Kept.refl none' wr).alloc (.cells #[.int .u64 (p : Int), .int .u64 (s : Int)] 33)) hk)
          obtain ⟨b0, b1⟩ := blk_box p s hk
          have C2 := hid (hI.out.cb.keep KB.out (fun x => x))
          have K2 := hid (none_trans hI.out.kp KB.out)
          have P2 := hid (hI.out.pg.keep KB.out)
          have N2 := hid (Nat.le_trans hI.out.nz KB.out.size)
          generalize wr.heap.size = bx at *
          clear hk c0 c1 c2 q0 q1 d0 d1 d2
          obtain ⟨c0, c1, c2⟩ := C2.out.cells
          cases hok : okB base k r p s with
          | false =>
            have G0 := hid (show goodB base k r l a = false by rw [GE.out, hok]; rfl)
            clear hok
            go_wp2_with fail
            exact ⟨rfl, .tuple #[.map none, .int .i64 (a : Int)], by simp [results, Try.results35, go_sem], FB.out w2 a K2.out hlt hI.out.gd G0.out⟩
          | true =>
            obtain ⟨f1, f2, f3, f4, f5, f6, f7, f8⟩ := okB_facts hbm hrR hok
            have hRk := RS_le k hk8
            obtain ⟨d, hd⟩ : ∃ d, d = p - base := ⟨_, rfl⟩
            have hd1 : (p : Int) - (base : Int) = (d : Int) := by omega
            have hdb : d ≤ 4194304 := by omega
            rw [← hd] at f7 f8 GE
            have LA := hid (lay_any P2.out N2.out d s ⟨f2, by omega⟩ (by omega) f8)
            have GE2 := hid (show goodB base k r l a = layOk (allU base (l.take a)) d s by rw [GE.out, hok]; rfl)
            have EN := hid (show allU base (l.take (a + 1)) = allU base (l.take a) ++ units d s by rw [take_succ' HLA.out, allU_app, hd])
            have hpb : (base : Int) ≤ (p : Int) := by omega
            clear hok GE hd f1 f2 f3 f4 f6 f7 f8 hRk
            go_wp2_with fail
            refine LA.out.mono ?_
            rintro e w3 ⟨rfl, h1, h2⟩
            have K3 := hid (kept_new K2.out h2 hI.out.nw)
            have C3 := hid (C2.out.keep h2 (fun e => by have := hI.out.ci; omega))
            have N3 := hid (Nat.le_trans N2.out h2.size)
            cases hly : layOk (allU base (l.take a)) d s with
            | false =>
              have G0 := hid (show goodB base k r l a = false by rw [GE2.out, hly])
              clear h1 h2 hly LA c0 c1 c2 b0 b1
              go_wp2_with fail
              exact ⟨rfl, .tuple #[.map none, .int .i64 (a : Int)], by simp [results, Try.results35, go_sem], FB.out w3 a K3.out hlt hI.out.gd G0.out⟩
            | true =>
              have I2 := hid (show PoI w m w3 cx m base (L : Int) k r l (a + 1) from by
                refine ⟨by rw [EN.out]; exact h1 hly, C3.out, K3.out, fun i hi => ?_, hI.out.ci, hI.out.nw, N3.out⟩
                by_cases e : i = a
                · rw [e, GE2.out]; exact hly
                · exact hI.out.gd i (by omega))
              clear h1 h2 hly LA c0 c1 c2 b0 b1
              go_wp2_with fail
              go_round
              case rel => exact ⟨a + 1, by omega, by go_num, I2⟩
              case measure => simp [intOf]; omega
        · have hae : a = l.length := by omega
          have hai : ¬ (a : Int) < (l.length : Int) := by omega
          have FIN := hid (show PoP w base (L : Int) (k : Int) (r : Int) l (.returned (.tuple #[.map (some m), .int .i64 (-1)])) wr from
            FG.out wr m m hI.out.kp (fun i hi => hI.out.gd i (by omega)) (by have := hI.out.pg; rw [hae, List.take_length] at this; exact this) (Nat.le_of_lt hI.out.ci))
          clear hI
          go_wp2_with fail
          exact ⟨rfl, .tuple #[.map (some m), .int .i64 (-1)], by simp [results, Try.results35, go_sem], FIN.out⟩
    · have FIN := hid (show ∀ w1, Kept none' w w1 → PoP w base lim ord n l (.returned (.tuple #[.map none, .int .i64 0])) w1 from fun w1 h => ⟨h, .inl ⟨by
          simp only [mayR, hm, Bool.true_and]
          by_cases h0 : 0 ≤ n
          · rw [decide_eq_true h0, decide_eq_false (by omega)]; rfl
          · rw [decide_eq_false h0]; rfl, rfl⟩⟩)
      clear hm
      by_cases h0 : n < 0
      · clear hn
        go_enter Try.func35, Try.ntmps35
        go_wp2_with fail
        generalize w.alloc (.cells #[.int .u64 (base : Int), .int .i64 lim, .int .i64 ord] 24) = W0 at *
        refine (HM.out _).mono ?_
        rintro e w1 ⟨rfl, hk⟩
        have K1 := hid (none_trans K0.out hk)
        clear hk
        go_wp2_with fail
        exact ⟨rfl, .tuple #[.map none, .int .i64 0], by simp [results, Try.results35, go_sem], FIN.out _ K1.out⟩
      · have h1 : lim < n := by omega
        clear hn
        go_enter Try.func35, Try.ntmps35
        go_wp2_with fail
        generalize w.alloc (.cells #[.int .u64 (base : Int), .int .i64 lim, .int .i64 ord] 24) = W0 at *
        refine (HM.out _).mono ?_
        rintro e w1 ⟨rfl, hk⟩
        have K1 := hid (none_trans K0.out hk)
        obtain ⟨c0, c1, c2⟩ := (C0.out.keep hk (fun x => x)).cells
        clear hk
        go_wp2_with fail
        exact ⟨rfl, .tuple #[.map none, .int .i64 0], by simp [results, Try.results35, go_sem], FIN.out _ K1.out⟩

/-- What Sound tells. -/
def sndV (base : Nat) (lim ord n : Int) (l : Bls) : Int := if mayR base lim ord n = true then sndI base ord.toNat n.toNat l else 0
theorem Sound_any (base : Nat) (hb64 : base < 18446744073709551616) (lim ord n : Int) (hl1 : -9223372036854775808 ≤ lim) (hl2 : lim ≤ 9223372036854775807) (ho1 : -9223372036854775808 ≤ ord) (ho2 : ord ≤ 9223372036854775807) (v : Value) (l : Bls) (w : World) (hbl : BL w v l) :
    Calls Try.prog 13 #[cfgV base lim ord, .int .i64 n, v] w fun e w' => e = .returned (.int .i64 (sndV base lim ord n l)) ∧ Kept none' w w' := by
  have PO := hid (fun W h => pagesOf_any base hb64 lim ord n hl1 hl2 ho1 ho2 v l W h)
  have C0 := hid (show CB (w.alloc (.cells #[.int .u64 (base : Int), .int .i64 lim, .int .i64 ord] 24)) w.heap.size base lim ord from heap_new w _)
  have K0 := hid (show Kept none' w (w.alloc (.cells #[.int .u64 (base : Int), .int .i64 lim, .int .i64 ord] 24)) from (Kept.refl _ w).alloc _)
  have BL0 := hid (hbl.keep K0.out)
  clear hbl
  go_enter Try.func13, Try.ntmps13
  go_wp2_with fail
  generalize w.alloc (.cells #[.int .u64 (base : Int), .int .i64 lim, .int .i64 ord] 24) = W0 at *
  refine (PO.out _ BL0.out).mono ?_
  rintro e w1 ⟨hk, he⟩
  have K1 := hid (none_trans K0.out hk)
  rcases he with ⟨h1, rfl⟩ | ⟨h1, h2, rfl⟩ | ⟨h1, h2, m, rfl, h3⟩
  · have E := hid (show (0 : Int) = sndV base lim ord n l by simp [sndV, h1])
    clear hk h1
    go_wp2_with fail
    go_ret
    exact ⟨ret_int E.out, K1.out⟩
  · have E := hid (show sndI base ord.toNat n.toNat l = sndV base lim ord n l by simp [sndV, h1])
    clear hk h1 h2
    go_wp2_with fail
    go_ret
    exact ⟨ret_int E.out, K1.out⟩
  · have E := hid (show (-1 : Int) = sndV base lim ord n l by simp [sndV, h1, h2])
    clear hk h1 h2 h3
    go_wp2_with fail
    go_ret
    exact ⟨ret_int E.out, K1.out⟩
end Go.Proofs.Ytibljocjdlgfbaa
