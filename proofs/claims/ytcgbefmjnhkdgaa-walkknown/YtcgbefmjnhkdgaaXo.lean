import Derived.Test.YtcgbefmjnhkdgaaXb
import Derived.Test.YtcgbefmjnhkdgaaXc
import Derived.Laws.StructEq
set_option maxRecDepth 1000000
set_option maxHeartbeats 80000000
/- Bits and counts of sets. -/
namespace Go.Proofs.Ytcgbefmjnhkdgaa
open Go.RowKit
set_option linter.unusedVariables false

def cntB (f : Nat → Bool) : Nat → Nat
  | 0 => 0
  | k + 1 => cntB f k + (if f k = true then 1 else 0)
theorem cntB_le (f : Nat → Bool) (k : Nat) : cntB f k ≤ k := by
  induction k with
  | zero => simp [cntB]
  | succ k ih => simp only [cntB]; split <;> omega

theorem cntB_true (f : Nat → Bool) (k : Nat) (h : f k = true) : cntB f (k + 1) = cntB f k + 1 := by simp [cntB, h]
theorem cntB_false (f : Nat → Bool) (k : Nat) (h : f k = false) : cntB f (k + 1) = cntB f k := by simp [cntB, h]

theorem bit_tb (ws : List Nat) (j : Nat) : bit ws j = (ws.getD (j / 64) 0).testBit (j % 64) := by
  unfold bit
  rw [Nat.testBit_eq_decide_div_mod_eq]
  rfl
theorem bit_flip (ws : List Nat) (k j : Nat) (hk : k / 64 < ws.length) : bit (flipW ws k) j = (if j = k then !bit ws k else bit ws j) := by
  rw [bit_tb, bit_tb, bit_tb]
  unfold flipW
  by_cases e : j / 64 = k / 64
  · rw [e, getD_set_same _ _ _ hk, Nat.testBit_xor, Nat.testBit_two_pow]
    by_cases e2 : j = k
    · subst e2; simp
    · have : ¬ k % 64 = j % 64 := by omega
      simp [e2, this]
  · rw [getD_set_ne _ _ _ _ e]
    have : ¬ j = k := by intro h; subst h; exact e rfl
    simp [this]
theorem bit_ofW (zs : List Nat) (N j : Nat) (hz : ∀ i, zs.getD i 0 < 2 ^ 64) (hj : j < N) : bit (ofW zs N) j = bit zs j := by
  rw [bit_tb, bit_tb, ofW_get zs N (j / 64) hz (by omega), Nat.testBit_mod_two_pow]
  have : j % 64 < min 64 (N - 64 * (j / 64)) := by omega
  simp [this]

theorem cntB_congr (f g : Nat → Bool) (n : Nat) (h : ∀ j, j < n → f j = g j) : cntB f n = cntB g n := by
  induction n with
  | zero => rfl
  | succ n ih => simp only [cntB]; rw [ih (fun j hj => h j (by omega)), h n (by omega)]
theorem cntB_front (f : Nat → Bool) (k : Nat) : cntB f (k + 1) = (if f 0 = true then 1 else 0) + cntB (fun j => f (j + 1)) k := by
  induction k with
  | zero => simp [cntB]
  | succ k ih => rw [cntB, ih]; simp only [cntB]; omega
theorem cntB_add (f : Nat → Bool) (a k : Nat) : cntB f (a + k) = cntB f a + cntB (fun j => f (a + j)) k := by
  induction k with
  | zero => simp [cntB]
  | succ k ih => rw [← Nat.add_assoc, cntB, ih]; simp only [cntB]; omega
theorem cntF_cntB (k x : Nat) : cntF k x = cntB (fun p => x / 2 ^ p % 2 == 1) k := by
  induction k generalizing x with
  | zero => rfl
  | succ k ih =>
    rw [cntB_front, cntF, ih (x / 2)]
    congr 1
    · by_cases h : x % 2 = 1
      · simp [h]
      · have : x % 2 = 0 := by omega
        simp [this]
    · apply cntB_congr
      intro j hj
      rw [Nat.div_div_eq_div_mul, Nat.pow_succ, Nat.mul_comm]
theorem cntTo_cntB (ws : List Nat) (hz : ∀ i, ws.getD i 0 < 2 ^ 64) (m : Nat) : cntTo ws m = cntB (bit ws) (64 * m) := by
  induction m with
  | zero => rfl
  | succ m ih =>
    rw [cntTo_succ, ih, Nat.mul_add, Nat.mul_one, cntB_add]
    congr 1
    rw [cnt_eq 64 _ (hz m), cntF_cntB]
    apply cntB_congr
    intro p hp
    exact (bit_form ws m p hp).symm
theorem cntB_past (f : Nat → Bool) (n k : Nat) (h : ∀ j, n ≤ j → f j = false) : cntB f (n + k) = cntB f n := by
  rw [cntB_add]
  have : ∀ k, cntB (fun j => f (n + j)) k = 0 := by
    intro k
    induction k with
    | zero => rfl
    | succ k ih => simp only [cntB, ih, h (n + k) (by omega)]; simp
  rw [this]; rfl

theorem cntB_flip (f g : Nat → Bool) (j M : Nat) (h : ∀ i, i ≠ j → f i = g i) (hf : f j = true) (hg : g j = false) (hj : j < M) : cntB g M + 1 = cntB f M := by
  induction M with
  | zero => omega
  | succ M ih =>
    by_cases e : j = M
    · subst e
      rw [cntB_true f j hf, cntB_false g j hg, cntB_congr f g j (fun i hi => h i (by omega))]
    · have := ih (by omega)
      simp only [cntB, h M (fun x => e x.symm)]
      omega
theorem cntB_none (f : Nat → Bool) (M : Nat) (h : ∀ j, j < M → f j = false) : cntB f M = 0 := by
  induction M with
  | zero => rfl
  | succ M ih => rw [cntB_false f M (h M (by omega)), ih (fun j hj => h j (by omega))]
theorem cntS_flip (ws : List Nat) (j : Nat) (hz : ∀ i, ws.getD i 0 < 2 ^ 64) (hz2 : ∀ i, (flipW ws j).getD i 0 < 2 ^ 64) (hj : j / 64 < ws.length) (hb : bit ws j = true) : cntS (flipW ws j) + 1 = cntS ws := by
  unfold cntS
  rw [cntTo_cntB _ hz2, cntTo_cntB _ hz, flipW_len]
  refine cntB_flip (bit ws) (bit (flipW ws j)) j _ ?_ hb ?_ (by omega)
  · intro i hi; rw [bit_flip ws j i hj, if_neg hi]
  · rw [bit_flip ws j j hj, if_pos rfl, hb]; rfl
theorem cntS_none (ws : List Nat) (hz : ∀ i, ws.getD i 0 < 2 ^ 64) (h : ∀ j, bit ws j = false) : cntS ws = 0 := by
  unfold cntS
  rw [cntTo_cntB _ hz]
  exact cntB_none _ _ (fun j _ => h j)
theorem nxtN_cases (n : Nat) (ws : List Nat) (k : Nat) : (nxtN n ws k = -1 ∧ ∀ j, k ≤ j → j < n → bit ws j = false) ∨ ∃ j : Nat, nxtN n ws k = (j : Int) ∧ j < n ∧ k ≤ j ∧ bit ws j = true ∧ ∀ i, k ≤ i → i < j → bit ws i = false := by
  unfold nxtN
  cases h : (List.range n).find? (fun j => decide (k ≤ j) && bit ws j) with
  | none =>
    left
    rw [List.find?_eq_none] at h
    refine ⟨rfl, fun j h1 h2 => ?_⟩
    have := h j (List.mem_range.2 h2)
    simpa [h1] using this
  | some j =>
    right
    rw [List.find?_range_eq_some] at h
    obtain ⟨h1, h2, h3⟩ := h
    simp only [Bool.and_eq_true, decide_eq_true_eq] at h1
    refine ⟨j, rfl, by simpa using h2, h1.1, h1.2, fun i g1 g2 => ?_⟩
    have := h3 i g2
    simpa [g1] using this
theorem nxtN_low (n : Nat) (ws : List Nat) (k : Nat) (h : ∀ j, j < k → bit ws j = false) : nxtN n ws k = nxtN n ws 0 := by
  rcases nxtN_cases n ws k with ⟨e, h1⟩ | ⟨j, e, h1, h2, h3, h4⟩
  · rw [e, nxtN_none n ws 0 (fun j _ hj => by
      by_cases g : j < k
      · exact h j g
      · exact h1 j (by omega) hj)]
  · rw [e, nxtN_some n ws 0 j h1 (Nat.zero_le _) h3 (fun i _ hi => by
      by_cases g : i < k
      · exact h i g
      · exact h4 i (by omega) hi)]
end Go.Proofs.Ytcgbefmjnhkdgaa
/- pagemap: Own. -/
namespace Go.Proofs.Ytcgbefmjnhkdgaa.H
open Go.RowKit
set_option linter.unusedVariables false

theorem _root_.Go.Proofs.Ytcgbefmjnhkdgaa.MapAt.rowg {w b B m} {g : Nat} (h : MapAt w b B m) (hg : B.g = some g) : Row w g m.n m.pg := by
  have hr := h.row
  rwa [hg] at hr
theorem ncell_le {c : Int} (h : 0 ≤ c) : ncell c ≤ 256 := Nat.div_le_self _ _
theorem inCell {cl c : Int} (h0 : 0 ≤ cl) (h : inR (ncell cl) c = true) : ∃ k : Nat, c = k ∧ k < 256 := by
  obtain ⟨k, rfl, hk⟩ := inR_nat h
  exact ⟨k, rfl, Nat.lt_of_lt_of_le hk (ncell_le h0)⟩
theorem _root_.Go.Proofs.Ytcgbefmjnhkdgaa.Row.bits {w g n pg} (h : Row w g n pg) (i : Nat) (hi : i < n) (t : Pg) (x : Int) (hr : t.kd = (pg i).kd ∧ t.od = (pg i).od ∧ t.cl = (pg i).cl ∧ t.lv = (pg i).lv ∧ t.nx = (pg i).nx ∧ t.pv = (pg i).pv ∧ t.fs = (pg i).fs) :
    Row (((((w.setCell ⟨g, i * 11 + 7, none⟩ (.int .u64 (t.b0 : Int))).setCell ⟨g, i * 11 + 7 + 1, none⟩ (.int .u64 (t.b1 : Int))).setCell ⟨g, i * 11 + 7 + 2, none⟩ (.int .u64 (t.b2 : Int))).setCell ⟨g, i * 11 + 7 + 3, none⟩ (.int .u64 (t.b3 : Int))).setCell ⟨g, i * 11 + 3, none⟩ (.int .i64 x)) g n (upp pg i { t with lv := x }) := by
  have := (((((RowC.set h i 7 hi (by decide) (.int .u64 (t.b0 : Int))).set i 8 hi (by decide) (.int .u64 (t.b1 : Int))).set i 9 hi (by decide) (.int .u64 (t.b2 : Int))).set i 10 hi (by decide) (.int .u64 (t.b3 : Int))).set i 3 hi (by decide) (.int .i64 x))
  obtain ⟨e0, e1, e2, e3, e4, e5, e6⟩ := hr
  refine RowC.congr this (fun a ha b hb => fld_up a b hb (fun j hj => ?_) (fun e => ?_))
  · revert j
    apply lt11 <;> simp [upc, Pg.fld, e0, e1, e2, e4, e5, e6]
  · simp [upc, e]
def ownP (p : Pg) (c : Nat) : Pg := { turnP p c with lv := wrap64 (if litP p c = true then p.lv - 1 else p.lv + 1) }
end Go.Proofs.Ytcgbefmjnhkdgaa.H
/- Pages are compared. -/
namespace Go.Proofs.Ytcgbefmjnhkdgaa.H
open Go.RowKit
set_option linter.unusedVariables false

/-- The four words. -/
theorem arr_eq (a0 a1 a2 a3 b0 b1 b2 b3 : Int) (w : World) :
    (Op.equalIn 9999 37 (.agg #[.int .u64 a0, .int .u64 a1, .int .u64 a2, .int .u64 a3]) (.agg #[.int .u64 b0, .int .u64 b1, .int .u64 b2, .int .u64 b3])).run Try.prog w = .ok (a0 == b0 && (a1 == b1 && (a2 == b2 && a3 == b3))) w := by
  have u3 := Try.underlying22
  have s3 := Try.isAgg22
  have z3 := Try.sizeOf22
  rw [show (9999 : Nat) = 9998 + 1 from rfl, Op.equalIn]
  simp only [Sem.run_bind, run_underlying Try.underlying37, Result.andThen_ok]
  simp only [Std.Legacy.Range.forIn_eq_forIn_range', Std.Legacy.Range.size, Nat.sub_zero, Nat.add_sub_cancel, Nat.div_one, List.range'_succ, List.range'_zero, List.forIn_cons, List.forIn_nil]
  go_simp
  by_cases h1 : a0 = b0 <;> by_cases h2 : a1 = b1 <;> by_cases h3 : a2 = b2 <;> by_cases h4 : a3 = b3 <;> simp [h1, h2, h3, h4]
end Go.Proofs.Ytcgbefmjnhkdgaa.H
