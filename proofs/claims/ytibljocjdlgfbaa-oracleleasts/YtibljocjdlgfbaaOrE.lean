/- (pages).take: a cell is taken. -/
import Derived.Test.YtibljocjdlgfbaaOrD
namespace Go.Proofs.Ytibljocjdlgfbaa
open Go.RowKit
set_option linter.unusedVariables false

/-- bits.NewSet of few. -/
theorem newS (n : Nat) (hn : n ≤ 4096) (w : World) :
    Calls Try.prog 62 #[.int .i64 (n : Int)] w fun e w' => e = .returned (.pointer (some ⟨w.heap.size + 1, 0, none⟩)) ∧ SetAt w' (w.heap.size + 1) w.heap.size n (zeros ((n + 63) / 64)) ∧ Kept none' w w' ∧ w'.heap.size = w.heap.size + 2 := by
  refine (newSet_any (n : Int) (by omega) (by omega) w).mono ?_
  rintro e w' ⟨he, hr, hk, hz⟩
  have hf : fit (n : Int) = n := by unfold fit; rw [if_neg (by omega), if_neg (by omega)]; simp
  rw [hf] at hr
  exact ⟨he, hr.set (zeros_ok n), hk, hz⟩

theorem inR_nat (n j : Nat) : inR n (j : Int) = decide (j < n) := by
  simp only [inR]
  exact decide_eq_decide.2 (by omega)
theorem inS_nat (n : Nat) (ws : List Nat) (j : Nat) (hj : j < n) : inS n ws (j : Int) = bit ws j := by
  simp [inS, inR_nat, hj]
theorem put_bit (n : Nat) (ws : List Nat) (j : Nat) (hj : j < n) (hb : bit ws j = false) : putI n ws (j : Int) true = flipW ws j := by
  simp [putI, inS_nat n ws j hj, hb, flipI, inR_nat, hj]

/-- What take leaves. -/
def TkP (N : Nat) (w : World) (m : Nat) (U : List Un) (n j s : Nat) (e : Ending) (w' : World) : Prop :=
  e = .returned (.bool (okU U n j s)) ∧ (okU U n j s = true → PG N w' m (U ++ [(n, j, s)])) ∧ Kept (fun x => N ≤ x) w w'

/-- A page's box. -/
structure BxP (W : World) (h s b : Nat) : Prop where
  c : W.heap[h]? = some (.cells #[.int .u64 (s : Int), .pointer (some ⟨b, 0, none⟩)] 98)
theorem BxP.cells {W : World} {h s b : Nat} (x : BxP W h s b) : W.cell? ⟨h, 0, none⟩ = some (.int .u64 (s : Int)) ∧ W.cell? ⟨h, 1, none⟩ = some (.pointer (some ⟨b, 0, none⟩)) := by
  refine ⟨?_, ?_⟩ <;> simp [World.cell?, x.c]

set_option maxRecDepth 4000 in
theorem take_old {N w m U ks S B C W} (h : PGx N w m U ks S B C W) (hN : N ≤ w.heap.size) (n off s j : Nat) (hn : n ∈ ks) (hs : 16 ≤ s ∧ s ≤ 1048576) (hoff : off < 4096) (hj : j = off / s) (hjc : j < celN s) :
    Calls Try.prog 60 #[.map (some m), .int .u64 (n : Int), .int .u64 (off : Int), .int .u64 (s : Int)] w fun e w' => TkP N w m U n j s e w' := by
  have hnb : n < 1024 := by
    obtain ⟨u, hu, rfl⟩ := h.kin n hn
    exact (h.sz u hu).2.2.1
  have hsn : 16 ≤ S n ∧ S n ≤ 1048576 := by
    obtain ⟨u, hu, rfl⟩ := h.kin n hn
    rw [(h.us u hu).2.1]
    exact ⟨(h.sz u hu).1, (h.sz u hu).2.1⟩
  have hf := h.fnd_in hn
  have HL1 := hid (show (fnd (ks.map fun n => (n, pgV (S n) (B n))) n).getD (.agg #[.int .u64 0, .pointer none]) = pgV (S n) (B n) by rw [hf]; rfl)
  have HL2 := hid (show (fnd (ks.map fun n => (n, pgV (S n) (B n))) n).isSome = true by rw [hf]; rfl)
  have HM := hid h.mu
  have hj1 : (off : Int) / (s : Int) = (j : Int) := by rw [hj]; simp
  have hj2 : j ≤ 256 := by have := celN_b s hs.1; omega
  have hs0 : ¬ (s : Int) = 0 := by omega
  have KA := hid (show Kept none' w (w.alloc (.cells #[.int .u64 (S n : Int), .pointer (some ⟨B n, 0, none⟩)] 98)) from (Kept.refl _ w).alloc _)
  have B0 := hid (show BxP (w.alloc (.cells #[.int .u64 (S n : Int), .pointer (some ⟨B n, 0, none⟩)] 98)) w.heap.size (S n) (B n) from ⟨heap_new w _⟩)
  have hS2 := hid (show SetAt (w.alloc (.cells #[.int .u64 (S n : Int), .pointer (some ⟨B n, 0, none⟩)] 98)) (B n) (C n) (celN (S n)) (W n) from (h.st n hn).kept KA.out (fun x => x) (fun x => x))
  have hx := hid h
  have HN := hid hn
  have hnw := hid (h.nw n hn)
  clear hf h hn hj
  by_cases h1 : S n = s
  · subst h1
    have hok := hid (hx.out.ok_bit HN.out j)
    generalize hW : w.alloc (.cells #[.int .u64 (S n : Int), .pointer (some ⟨B n, 0, none⟩)] 98) = W1 at *
    cases hb : bit (W n) j with
    | true =>
      have HF := hid (show TkP N w m U n j (S n) (.returned (.bool false)) W1 from by
        refine ⟨by rw [hok.out, hb]; rfl, fun e => ?_, KA.out.mono (fun _ _ e => e.elim)⟩
        rw [hok.out, hb] at e
        cases e)
      have HG := hid (show Calls Try.prog 63 #[.pointer (some ⟨B n, 0, none⟩), .int .i64 (j : Int)] W1 fun e w' => e = .returned (.bool true) ∧ w' = W1 from by
        have := get_any (B n) (C n) (celN (S n)) (W n) (j : Int) W1 hS2.out
        rw [inS_nat _ _ _ hjc, hb] at this
        exact this)
      clear hb hok
      have HW := hid hW
      clear hW
      go_enter Try.func60, Try.ntmps60
      go_wp2_with (first | (at_lookup; refine wpl_look_ok _ rfl _ _ 72 rfl 22 98 Try.underlying22 Try.underlying72 (zero_page _) m _ rfl HM.out n (by omega) rfl _ _ HL1.out HL2.out ?_; simp only [pgV]))
      rw [HW.out]
      obtain ⟨b0, b1⟩ := B0.out.cells
      refine HG.out.mono ?_
      rintro e w' ⟨rfl, rfl⟩
      go_wp2
      go_ret
      exact HF.out
    | false =>
      have HF := hid (show ∀ w2, SetAt w2 (B n) (C n) (celN (S n)) (flipW (W n) j) → Kept (fun x => x = C n) W1 w2 → TkP N w m U n j (S n) (.returned (.bool true)) w2 from fun w2 q1 q2 => by
        have q3 : PGx N W1 m U ks S B C W := by
          have q := hx.out
          refine ⟨q.mu.kept KA.out (fun x => x), fun x hx => (q.st x hx).kept KA.out (fun x => x) (fun x => x), q.inj, q.nm, q.nw, q.us, q.kin, q.bt, q.cn, q.sz⟩
        have q4 := q3.put HN.out (j := j) hjc hb (w' := w2) q1 q2 ⟨hs.1, hs.2, hnb⟩
        refine ⟨by rw [hok.out, hb]; rfl, fun _ => ⟨_, _, _, _, _, q4⟩, KA.out.trans q2 (fun _ _ e => e.elim) (fun x _ e => by rw [e]; exact hnw.out.2)⟩)
      have HG := hid (show Calls Try.prog 63 #[.pointer (some ⟨B n, 0, none⟩), .int .i64 (j : Int)] W1 fun e w' => e = .returned (.bool false) ∧ w' = W1 from by
        have := get_any (B n) (C n) (celN (S n)) (W n) (j : Int) W1 hS2.out
        rw [inS_nat _ _ _ hjc, hb] at this
        exact this)
      have HP := hid (show Calls Try.prog 64 #[.pointer (some ⟨B n, 0, none⟩), .int .i64 (j : Int), .bool true] W1 fun e w' => e = .returned (.bool true) ∧ SetAt w' (B n) (C n) (celN (S n)) (flipW (W n) j) ∧ Kept (fun x => x = C n) W1 w' ∧ w'.heap.size = W1.heap.size from by
        have := put_any (B n) (C n) (celN (S n)) (W n) (j : Int) true W1 hS2.out
        rw [inR_nat, decide_eq_true hjc, put_bit _ _ _ hjc hb] at this
        exact this)
      clear hb hok
      have HW := hid hW
      clear hW
      go_enter Try.func60, Try.ntmps60
      go_wp2_with (first | (at_lookup; refine wpl_look_ok _ rfl _ _ 72 rfl 22 98 Try.underlying22 Try.underlying72 (zero_page _) m _ rfl HM.out n (by omega) rfl _ _ HL1.out HL2.out ?_; simp only [pgV]))
      rw [HW.out]
      obtain ⟨b0, b1⟩ := B0.out.cells
      refine HG.out.mono ?_
      rintro e w' ⟨rfl, rfl⟩
      go_wp2_with fail
      refine HP.out.mono ?_
      rintro e w2 ⟨rfl, q1, q2, q3⟩
      have Q1 := hid q1
      have Q2 := hid q2
      clear q1 q2 q3
      go_wp2
      go_ret
      exact HF.out w2 Q1.out Q2.out
  · have hok := hid (hx.out.ok_size HN.out j s h1)
    have h1' : ((S n : Int) == (s : Int)) = false := by rw [beq_eq_false_iff_ne]; omega
    have HF := hid (show TkP N w m U n j s (.returned (.bool false)) (w.alloc (.cells #[.int .u64 (S n : Int), .pointer (some ⟨B n, 0, none⟩)] 98)) from by
      refine ⟨by rw [hok.out], fun e => ?_, KA.out.mono (fun _ _ e => e.elim)⟩
      rw [hok.out] at e
      cases e)
    clear hok hS2
    go_enter Try.func60, Try.ntmps60
    go_wp2_with (first | (at_lookup; refine wpl_look_ok _ rfl _ _ 72 rfl 22 98 Try.underlying22 Try.underlying72 (zero_page _) m _ rfl HM.out n (by omega) rfl _ _ HL1.out HL2.out ?_; simp only [pgV]))
    go_ret
    exact HF.out

theorem box_store {w2 : World} {h : Nat} {a b : Value} {t : TypeId} (hx : w2.heap[h]? = some (.cells #[a, b] t)) (u v : Value) : ((w2.setCell ⟨h, 0, none⟩ u).setCell ⟨h, 1, none⟩ v).heap[h]? = some (.cells #[u, v] t) := by
  have h1 := heap_set hx 0 u
  have h2 := heap_set h1 1 v
  simpa using h2

set_option maxRecDepth 4000 in
theorem take_new {N w m U ks S B C W} (h : PGx N w m U ks S B C W) (hN : N ≤ w.heap.size) (n off s j : Nat) (hn : n ∉ ks) (hnb : n < 1024) (hs : 16 ≤ s ∧ s ≤ 1048576) (hoff : off < 4096) (hj : j = off / s) (hjc : j < celN s) :
    Calls Try.prog 60 #[.map (some m), .int .u64 (n : Int), .int .u64 (off : Int), .int .u64 (s : Int)] w fun e w' => TkP N w m U n j s e w' := by
  have hf := h.fnd_out hn
  have hlen := h.len
  obtain ⟨L, hL⟩ : ∃ L, L = ks.map fun n => (n, pgV (S n) (B n)) := ⟨_, rfl⟩
  have hl2 : L.length < maxLen := by rw [hL, List.length_map]; unfold maxLen; omega
  have HL2 := hid hl2
  rw [← hL] at hf
  have HL1 := hid (show (fnd L n).getD (.agg #[.int .u64 0, .pointer none]) = .agg #[.int .u64 0, .pointer none] by rw [hf]; rfl)
  have HL3 := hid (show (fnd L n).isSome = false by rw [hf]; rfl)
  have HL4 := hid (show ∀ v, putL L n v = L ++ [(n, v)] from fun v => by simp [putL, hf])
  have HM := hid (show MU w m L by rw [hL]; exact h.mu)
  have hj1 : (off : Int) / (s : Int) = (j : Int) := by rw [hj]; simp
  have hc := celN_b s hs.1
  have hj2 : j ≤ 256 := by omega
  have hs0 : ¬ (s : Int) = 0 := by omega
  have KA := hid (show Kept none' w (w.alloc (.cells #[.int .u64 0, .pointer none] 98)) from (Kept.refl _ w).alloc _)
  have B0 := hid (heap_new w (.cells #[.int .u64 0, .pointer none] 98))
  have hok := hid (h.ok_none hn j s)
  have HMN := hid h.nm
  have HA := hid (fun (w' : World) (b c : Nat) => @PGx.add N w m U ks S B C W h n s j b c hn hjc ⟨hs.1, hs.2, hnb⟩ w')
  rw [← hL] at HA
  obtain ⟨q, hq⟩ : ∃ q, q = celN s := ⟨_, rfl⟩
  have HCO := hid (fun W => cellsOf_any s (by omega) (by omega) W)
  have HNS := hid (fun W => newS q (by omega) W)
  rw [← hq] at HCO HA hc hjc
  have HM2 := hid (show MU (w.alloc (.cells #[.int .u64 0, .pointer none] 98)) m L from HM.out.kept KA.out (fun x => x))
  have HS2 := hid (show (w.alloc (.cells #[.int .u64 0, .pointer none] 98)).heap.size = w.heap.size + 1 by simp)
  clear h hf hn hj hL hl2 hq hlen
  go_enter Try.func60, Try.ntmps60
  go_wp2_with (first | (at_lookup; refine wpl_look_ok _ rfl _ _ 72 rfl 22 98 Try.underlying22 Try.underlying72 (zero_page _) m _ rfl HM.out n (by omega) rfl _ _ HL1.out HL3.out ?_) | (go_at_call 57; refine (HCO.out _).mono ?_; rintro e w' ⟨rfl, rfl⟩))
  generalize w.alloc (.cells #[.int .u64 0, .pointer none] 98) = W1 at *
  refine (HNS.out _).mono ?_
  rintro e w2 ⟨rfl, hS, hk, hz⟩
  have B2 := hid ((hk.block _ (heap_lt B0.out) (fun x => x)).trans B0.out)
  have M2 := hid (HM2.out.kept hk (fun x => x))
  have K2 := hid (none_trans KA.out hk)
  have S2 := hid hS
  have Z2 := hid (show w2.heap.size = w.heap.size + 3 by have := HS2.out; omega)
  have W1s := HS2.out
  rw [W1s] at S2
  have d0 : w2.cell? ⟨w.heap.size, 0, none⟩ = some (.int .u64 0) := by simp [World.cell?, B2.out]
  have d1 : w2.cell? ⟨w.heap.size, 1, none⟩ = some (.pointer none) := by simp [World.cell?, B2.out]
  have f0 : w2.frozen? ⟨w.heap.size, 0, none⟩ = false := by simp [World.frozen?, B2.out]
  have f1 : w2.frozen? ⟨w.heap.size, 1, none⟩ = false := by simp [World.frozen?, B2.out]
  have hne : m ≠ w.heap.size := by have := HM.out.ltsz; omega
  have MS := hid (fun u v => (M2.out.setCell (p := ⟨w.heap.size, 0, none⟩) hne u).setCell (p := ⟨w.heap.size, 1, none⟩) hne v)
  have BS := hid (fun u v => box_store B2.out u v)
  have HNE := hid hne
  clear hS hk hz HM2 B0 HS2 hne
  have hml := hid HM.out.ltsz
  go_wp2_with (first | (at_mapUpdate; refine wpl_store _ rfl _ _ _ 72 rfl 22 98 Try.underlying22 Try.underlying72 m L rfl (MS.out _ _) HL2.out n (by omega) rfl (pgV s (w.heap.size + 1 + 1)) rfl ?_; intro w4 m4 k4 z4; rw [HL4.out] at m4; have e4 := (k4.block _ (heap_lt (BS.out _ _)) (fun e => HNE.out e.symm)).trans (BS.out _ _); have M4 := hid m4; have K4 := hid ((((Kept.refl (fun x => x = w.heap.size) w2).setCell (p := ⟨w.heap.size, 0, none⟩) rfl _).setCell (p := ⟨w.heap.size, 1, none⟩) rfl _).trans (U := fun x => x = w.heap.size ∨ x = m) k4 (fun _ _ e => Or.inl e) (fun _ _ e => Or.inr e)); have g0 : w4.cell? ⟨w.heap.size, 0, none⟩ = some (.int .u64 (s : Int)) := (by simp [World.cell?, e4]); have g1 : w4.cell? ⟨w.heap.size, 1, none⟩ = some (.pointer (some ⟨w.heap.size + 1 + 1, 0, none⟩)) := (by simp [World.cell?, e4]); have S4 := hid (S2.out.kept K4.out (fun e => by have := hml.out; omega) (fun e => by have := hml.out; omega)); clear m4 k4 z4 e4))
  refine (get_any _ _ _ _ _ _ S4.out).mono ?_
  have eg : inS q (zeros ((q + 63) / 64)) (j : Int) = false := by rw [inS_nat _ _ _ hjc, bit_zeros]
  rw [eg]
  rintro e w' ⟨rfl, rfl⟩
  clear eg
  go_wp2_with fail
  refine (put_any _ _ _ _ _ true _ S4.out).mono ?_
  rw [inR_nat, decide_eq_true hjc, put_bit _ _ _ hjc (bit_zeros _ _)]
  rintro e w5 ⟨rfl, hS5, hk5, hz5⟩
  have S5 := hid hS5
  have K5 := hid hk5
  have FIN := hid (show TkP N w m U n j s (.returned (.bool true)) w5 from by
    have kk := K2.out.trans (U := fun x => x = m ∨ w.heap.size ≤ x) K4.out (fun _ _ e => e.elim) (fun _ _ e => by omega)
    have kl := kk.trans (U := fun x => x = m ∨ w.heap.size ≤ x) K5.out (fun _ _ e => e) (fun _ _ e => by omega)
    refine ⟨by rw [hok.out], fun _ => HA.out w5 _ _ (M4.out.kept K5.out (fun e => by have := hml.out; omega)) S5.out kl (by omega) (by omega) hN, kl.mono (fun x hx e => ?_)⟩
    rcases e with e | e
    · rw [e]; exact HMN.out
    · omega)
  clear hS5 hk5 hz5
  go_wp2
  go_ret
  exact FIN.out

/-- A cell is taken, if it may be. -/
theorem take_any {N w m U} (h : PG N w m U) (hN : N ≤ w.heap.size) (n off s j : Nat) (hnb : n < 1024) (hs : 16 ≤ s ∧ s ≤ 1048576) (hoff : off < 4096) (hj : j = off / s) (hjc : j < celN s) :
    Calls Try.prog 60 #[.map (some m), .int .u64 (n : Int), .int .u64 (off : Int), .int .u64 (s : Int)] w fun e w' => TkP N w m U n j s e w' := by
  obtain ⟨ks, S, B, C, W, h⟩ := h
  by_cases hn : n ∈ ks
  · exact take_old h hN n off s j hn hs hoff hj hjc
  · exact take_new h hN n off s j hn hnb hs hoff hj hjc
end Go.Proofs.Ytibljocjdlgfbaa
