import Derived.Test.YthjokkihlodapaaGreatZd
import Derived.Test.YthjokkihlodapaaGreatZe
set_option maxRecDepth 1000000
set_option maxHeartbeats 80000000
/- Bits and counts of sets. -/
namespace Go.Proofs.YthjokkihlodapaaGreat
open Go.RowKit
set_option linter.unusedVariables false

def cntB (f : Nat → Bool) : Nat → Nat
  | 0 => 0
  | k + 1 => cntB f k + (if f k = true then 1 else 0)
theorem cntB_le (f : Nat → Bool) (k : Nat) : cntB f k ≤ k := by
  induction k with
  | zero => simp [cntB]
  | succ k ih => simp only [cntB]; split <;> omega

theorem cntB_true (f : Nat → Bool) (k : Nat) (h : f k = true) : cntB f (k + 1) = cntB f k + 1 := by simp [cntB, h]
theorem cntB_false (f : Nat → Bool) (k : Nat) (h : f k = false) : cntB f (k + 1) = cntB f k := by simp [cntB, h]

theorem bit_tb (ws : List Nat) (j : Nat) : bit ws j = (ws.getD (j / 64) 0).testBit (j % 64) := by
  unfold bit
  rw [Nat.testBit_eq_decide_div_mod_eq]
  rfl
theorem bit_flip (ws : List Nat) (k j : Nat) (hk : k / 64 < ws.length) : bit (flipW ws k) j = (if j = k then !bit ws k else bit ws j) := by
  rw [bit_tb, bit_tb, bit_tb]
  unfold flipW
  by_cases e : j / 64 = k / 64
  · rw [e, getD_set_same _ _ _ hk, Nat.testBit_xor, Nat.testBit_two_pow]
    by_cases e2 : j = k
    · subst e2; simp
    · have : ¬ k % 64 = j % 64 := by omega
      simp [e2, this]
  · rw [getD_set_ne _ _ _ _ e]
    have : ¬ j = k := by intro h; subst h; exact e rfl
    simp [this]
theorem bit_ofW (zs : List Nat) (N j : Nat) (hz : ∀ i, zs.getD i 0 < 2 ^ 64) (hj : j < N) : bit (ofW zs N) j = bit zs j := by
  rw [bit_tb, bit_tb, ofW_get zs N (j / 64) hz (by omega), Nat.testBit_mod_two_pow]
  have : j % 64 < min 64 (N - 64 * (j / 64)) := by omega
  simp [this]

theorem cntB_congr (f g : Nat → Bool) (n : Nat) (h : ∀ j, j < n → f j = g j) : cntB f n = cntB g n := by
  induction n with
  | zero => rfl
  | succ n ih => simp only [cntB]; rw [ih (fun j hj => h j (by omega)), h n (by omega)]
theorem cntB_front (f : Nat → Bool) (k : Nat) : cntB f (k + 1) = (if f 0 = true then 1 else 0) + cntB (fun j => f (j + 1)) k := by
  induction k with
  | zero => simp [cntB]
  | succ k ih => rw [cntB, ih]; simp only [cntB]; omega
theorem cntB_add (f : Nat → Bool) (a k : Nat) : cntB f (a + k) = cntB f a + cntB (fun j => f (a + j)) k := by
  induction k with
  | zero => simp [cntB]
  | succ k ih => rw [← Nat.add_assoc, cntB, ih]; simp only [cntB]; omega
theorem cntF_cntB (k x : Nat) : cntF k x = cntB (fun p => x / 2 ^ p % 2 == 1) k := by
  induction k generalizing x with
  | zero => rfl
  | succ k ih =>
    rw [cntB_front, cntF, ih (x / 2)]
    congr 1
    · by_cases h : x % 2 = 1
      · simp [h]
      · have : x % 2 = 0 := by omega
        simp [this]
    · apply cntB_congr
      intro j hj
      rw [Nat.div_div_eq_div_mul, Nat.pow_succ, Nat.mul_comm]
theorem cntTo_cntB (ws : List Nat) (hz : ∀ i, ws.getD i 0 < 2 ^ 64) (m : Nat) : cntTo ws m = cntB (bit ws) (64 * m) := by
  induction m with
  | zero => rfl
  | succ m ih =>
    rw [cntTo_succ, ih, Nat.mul_add, Nat.mul_one, cntB_add]
    congr 1
    rw [cnt_eq 64 _ (hz m), cntF_cntB]
    apply cntB_congr
    intro p hp
    exact (bit_form ws m p hp).symm
theorem cntB_past (f : Nat → Bool) (n k : Nat) (h : ∀ j, n ≤ j → f j = false) : cntB f (n + k) = cntB f n := by
  rw [cntB_add]
  have : ∀ k, cntB (fun j => f (n + j)) k = 0 := by
    intro k
    induction k with
    | zero => rfl
    | succ k ih => simp only [cntB, ih, h (n + k) (by omega)]; simp
  rw [this]; rfl

theorem cntB_flip (f g : Nat → Bool) (j M : Nat) (h : ∀ i, i ≠ j → f i = g i) (hf : f j = true) (hg : g j = false) (hj : j < M) : cntB g M + 1 = cntB f M := by
  induction M with
  | zero => omega
  | succ M ih =>
    by_cases e : j = M
    · subst e
      rw [cntB_true f j hf, cntB_false g j hg, cntB_congr f g j (fun i hi => h i (by omega))]
    · have := ih (by omega)
      simp only [cntB, h M (fun x => e x.symm)]
      omega
theorem cntB_none (f : Nat → Bool) (M : Nat) (h : ∀ j, j < M → f j = false) : cntB f M = 0 := by
  induction M with
  | zero => rfl
  | succ M ih => rw [cntB_false f M (h M (by omega)), ih (fun j hj => h j (by omega))]
theorem cntS_flip (ws : List Nat) (j : Nat) (hz : ∀ i, ws.getD i 0 < 2 ^ 64) (hz2 : ∀ i, (flipW ws j).getD i 0 < 2 ^ 64) (hj : j / 64 < ws.length) (hb : bit ws j = true) : cntS (flipW ws j) + 1 = cntS ws := by
  unfold cntS
  rw [cntTo_cntB _ hz2, cntTo_cntB _ hz, flipW_len]
  refine cntB_flip (bit ws) (bit (flipW ws j)) j _ ?_ hb ?_ (by omega)
  · intro i hi; rw [bit_flip ws j i hj, if_neg hi]
  · rw [bit_flip ws j j hj, if_pos rfl, hb]; rfl
theorem cntS_none (ws : List Nat) (hz : ∀ i, ws.getD i 0 < 2 ^ 64) (h : ∀ j, bit ws j = false) : cntS ws = 0 := by
  unfold cntS
  rw [cntTo_cntB _ hz]
  exact cntB_none _ _ (fun j _ => h j)
theorem nxtN_cases (n : Nat) (ws : List Nat) (k : Nat) : (nxtN n ws k = -1 ∧ ∀ j, k ≤ j → j < n → bit ws j = false) ∨ ∃ j : Nat, nxtN n ws k = (j : Int) ∧ j < n ∧ k ≤ j ∧ bit ws j = true ∧ ∀ i, k ≤ i → i < j → bit ws i = false := by
  unfold nxtN
  cases h : (List.range n).find? (fun j => decide (k ≤ j) && bit ws j) with
  | none =>
    left
    rw [List.find?_eq_none] at h
    refine ⟨rfl, fun j h1 h2 => ?_⟩
    have := h j (List.mem_range.2 h2)
    simpa [h1] using this
  | some j =>
    right
    rw [List.find?_range_eq_some] at h
    obtain ⟨h1, h2, h3⟩ := h
    simp only [Bool.and_eq_true, decide_eq_true_eq] at h1
    refine ⟨j, rfl, by simpa using h2, h1.1, h1.2, fun i g1 g2 => ?_⟩
    have := h3 i g2
    simpa [g1] using this
theorem nxtN_low (n : Nat) (ws : List Nat) (k : Nat) (h : ∀ j, j < k → bit ws j = false) : nxtN n ws k = nxtN n ws 0 := by
  rcases nxtN_cases n ws k with ⟨e, h1⟩ | ⟨j, e, h1, h2, h3, h4⟩
  · rw [e, nxtN_none n ws 0 (fun j _ hj => by
      by_cases g : j < k
      · exact h j g
      · exact h1 j (by omega) hj)]
  · rw [e, nxtN_some n ws 0 j h1 (Nat.zero_le _) h3 (fun i _ hi => by
      by_cases g : i < k
      · exact h i g
      · exact h4 i (by omega) hi)]
end Go.Proofs.YthjokkihlodapaaGreat
/- pagemap: has, Pages, blank, At, Head, Slab. -/
namespace Go.Proofs.YthjokkihlodapaaGreat.H
open Go.RowKit
set_option linter.unusedVariables false

abbrev pval (p : Pg) : Value := .agg #[.int .i64 p.kd, .int .i64 p.od, .int .i64 p.cl, .int .i64 p.lv, .int .i64 p.nx, .int .i64 p.pv, .int .i64 p.fs, .int .u64 (p.b0 : Int), .int .u64 (p.b1 : Int), .int .u64 (p.b2 : Int), .int .u64 (p.b3 : Int)]
abbrev pobj (p : Pg) : Obj := .cells #[.int .i64 p.kd, .int .i64 p.od, .int .i64 p.cl, .int .i64 p.lv, .int .i64 p.nx, .int .i64 p.pv, .int .i64 p.fs, .int .u64 (p.b0 : Int), .int .u64 (p.b1 : Int), .int .u64 (p.b2 : Int), .int .u64 (p.b3 : Int)] 52
theorem pages_any (b : Nat) (B : Bs) (m : Mp) (w : World) (h : MapAt w b B m) :
    Calls Tryz.prog 80 #[.pointer (some ⟨b, 0, none⟩)] w fun e w' => e = .returned (.int .i64 (m.n : Int)) ∧ w' = w := by
  obtain ⟨cq, c0, c1, c2⟩ := h.cb
  clear h
  go_enter Tryz.func80, Tryz.ntmps80
  go_wp2
  go_ret
  exact ⟨rfl, rfl⟩
/-- A page in a box of its own. -/
theorem box11 {w : World} {x : Nat} {p : Pg} (h : w.heap[x]? = some (pobj p)) : w.cell? ⟨x, 0, none⟩ = some (.int .i64 p.kd) ∧ w.cell? ⟨x, 1, none⟩ = some (.int .i64 p.od) ∧ w.cell? ⟨x, 2, none⟩ = some (.int .i64 p.cl) ∧ w.cell? ⟨x, 3, none⟩ = some (.int .i64 p.lv) ∧ w.cell? ⟨x, 4, none⟩ = some (.int .i64 p.nx) ∧ w.cell? ⟨x, 5, none⟩ = some (.int .i64 p.pv) ∧ w.cell? ⟨x, 6, none⟩ = some (.int .i64 p.fs) ∧ w.cell? ⟨x, 7, none⟩ = some (.int .u64 (p.b0 : Int)) ∧ w.cell? ⟨x, 8, none⟩ = some (.int .u64 (p.b1 : Int)) ∧ w.cell? ⟨x, 9, none⟩ = some (.int .u64 (p.b2 : Int)) ∧ w.cell? ⟨x, 10, none⟩ = some (.int .u64 (p.b3 : Int)) := by
  refine ⟨?_, ?_, ?_, ?_, ?_, ?_, ?_, ?_, ?_, ?_, ?_⟩ <;> simp [World.cell?, h]
theorem boxz {w : World} {x : Nat} {p : Pg} (h : w.heap[x]? = some (pobj p)) (i : Nat) : w.frozen? ⟨x, i, none⟩ = false := by simp [World.frozen?, h]
abbrev setB (w : World) (x : Nat) (p : Pg) : World := (((((((((((w.setCell ⟨x, 0, none⟩ (.int .i64 p.kd)).setCell ⟨x, 1, none⟩ (.int .i64 p.od)).setCell ⟨x, 2, none⟩ (.int .i64 p.cl)).setCell ⟨x, 3, none⟩ (.int .i64 p.lv)).setCell ⟨x, 4, none⟩ (.int .i64 p.nx)).setCell ⟨x, 5, none⟩ (.int .i64 p.pv)).setCell ⟨x, 6, none⟩ (.int .i64 p.fs)).setCell ⟨x, 7, none⟩ (.int .u64 (p.b0 : Int))).setCell ⟨x, 8, none⟩ (.int .u64 (p.b1 : Int))).setCell ⟨x, 9, none⟩ (.int .u64 (p.b2 : Int))).setCell ⟨x, 10, none⟩ (.int .u64 (p.b3 : Int)))
theorem setB_kept {S : Nat → Prop} {a w : World} (h : Kept S a w) (x : Nat) (hx : x < a.heap.size → S x) (p : Pg) : Kept S a (setB w x p) := (((((((((((h.setNew (p := ⟨x, 0, none⟩) hx _).setNew (p := ⟨x, 1, none⟩) hx _).setNew (p := ⟨x, 2, none⟩) hx _).setNew (p := ⟨x, 3, none⟩) hx _).setNew (p := ⟨x, 4, none⟩) hx _).setNew (p := ⟨x, 5, none⟩) hx _).setNew (p := ⟨x, 6, none⟩) hx _).setNew (p := ⟨x, 7, none⟩) hx _).setNew (p := ⟨x, 8, none⟩) hx _).setNew (p := ⟨x, 9, none⟩) hx _).setNew (p := ⟨x, 10, none⟩) hx _)
def atP (m : Mp) (i : Int) : Pg := if inR m.n i = true then m.pg i.toNat else zeroP
theorem inR_nat {n : Nat} {i : Int} (h : inR n i = true) : ∃ k : Nat, i = k ∧ k < n := by
  have hi0 : 0 ≤ i ∧ i < (n : Int) := by simpa [inR] using h
  obtain ⟨k, rfl⟩ := Int.eq_ofNat_of_zero_le hi0.1
  exact ⟨k, rfl, by omega⟩
theorem inR_yes {n k : Nat} (h : k < n) : inR n (k : Int) = true := by simp [inR]; omega
end Go.Proofs.YthjokkihlodapaaGreat.H
/- pagemap: pair bits. -/
namespace Go.Proofs.YthjokkihlodapaaGreat.H
open Go.RowKit
set_option linter.unusedVariables false

theorem pairCount_any (k c : Nat) (hk : k < 8) (hc : c ≤ 1024) (w : World) :
    Calls Tryz.prog 110 #[.int .i64 (k : Int), .int .i64 (c : Int)] w fun e w' => e = .returned (.int .i64 ((c / 2 ^ (k + 1) : Nat) : Int)) ∧ w' = w := by
  go_enter Tryz.func110, Tryz.ntmps110
  go_wp2_with fail
  go_ret
  exact ⟨ret_int (by simp), rfl⟩
theorem _root_.Go.Proofs.YthjokkihlodapaaGreat.MapAt.c2 {w b B m} {q : Nat} (h : MapAt w b B m) (hq : B.P = some q) : ∃ cq, w.cell? ⟨b, 2, none⟩ = some (.slice (some ⟨q, 0, none⟩) m.o cq) := by
  obtain ⟨cq, hb, _⟩ := h.hb
  exact ⟨cq, by simp [World.cell?, hb, hq, adr]⟩
theorem pw_pos (k : Nat) : 0 < 2 ^ k := Nat.pow_pos (by decide)
end Go.Proofs.YthjokkihlodapaaGreat.H
/- Pages are made and copied. -/
namespace Go.Proofs.YthjokkihlodapaaGreat.H
open Go.RowKit
set_option linter.unusedVariables false

theorem info_page : (Tryz.prog.info? 52).map (fun i => (i.zero, i.size, i.bytes)) = some (some (pval zeroP), 11, 88) := by kernel_rfl
theorem info_page_parts : ∃ i, Tryz.prog.info? 52 = some i ∧ i.zero = some (pval zeroP) ∧ i.size = 11 ∧ i.bytes = 88 := by
  obtain ⟨i, hi, hzz⟩ := Option.map_eq_some_iff.1 info_page
  simp only [Prod.mk.injEq] at hzz
  exact ⟨i, hi, hzz.1, hzz.2.1, hzz.2.2⟩
theorem fld_one (p : Pg) (j : Nat) : (p.fld j).oneCell' = true := by unfold Pg.fld; split <;> rfl
theorem make_pages (c : Nat) (hc : c ≤ 1024) (w : World) :
    ∃ w1, (Instr.makeSlice 26 (.int .i64 (c : Int)) (.int .i64 (c : Int))).run Tryz.prog w = .ok (.slice (some ⟨w.heap.size, 0, none⟩) c c) w1 ∧ Row w1 w.heap.size c (fun _ => zeroP) ∧ Kept none' w w1 ∧ w1.heap.size = w.heap.size + 1 := by
  obtain ⟨i, hi, hz, hs, hb⟩ := info_page_parts
  have hr := run_make (P := Tryz.prog) w 26 52 i (pval zeroP) Tryz.underlying26 hi hz .i64 .i64 (c : Int) (c : Int) (by omega) (Int.le_refl _) (by rw [hb]; omega) (by omega)
  simp only [Int.toNat_natCast] at hr
  refine ⟨_, hr, ⟨_, heap_new w _, by rw [size_madeCells, hs], fun a ha b hb => ?_⟩, (Kept.refl none' w).alloc _, by simp⟩
  rw [hs]
  have hlt : a * 11 + b < c * 11 := by omega
  have hsz : (Value.cells (pval zeroP)).size = 11 := rfl
  simp only [madeCells]
  rw [Array.getElem?_map, Array.getElem?_range, if_pos hlt, Option.map_some, hsz, show (a * 11 + b) % 11 = b by omega]
  exact lt11 (P := fun b => some ((Value.cells (pval zeroP))[b]!) = some (zeroP.fld b)) rfl rfl rfl rfl rfl rfl rfl rfl rfl rfl rfl b hb
theorem run_copy_pages (w : World) (ty : TypeId) (g dLen dCap : Nat) (a : Addr) (sLen sCap : Nat) (cur : Array Value) (cs : List Value)
    (hg : w.heap[g]? = some (.cells cur 52 (0, 0))) (hn : cs.length = Nat.min sLen dLen * 11)
    (hsrc : ∀ j v, cs[j]? = some v → w.cell? (a.add j) = some v) (hfit : cs.length ≤ cur.size) (h1 : ∀ v ∈ cs, v.oneCell' = true) :
    (Builtin.copy_ #[26, 26] ty #[.slice (some ⟨g, 0, none⟩) dLen dCap, .slice (some a) sLen sCap]).run Tryz.prog w =
      .ok (goInt (Nat.min sLen dLen : Nat)) (w.setRow g (cur.toList.take 0 ++ cs ++ cur.toList.drop (0 + cs.length)).toArray) := by
  have hl := run_loadCells_list (P := Tryz.prog) w a cs hsrc
  have hst := run_storeCells_at Tryz.prog g 0 52 cs 0 cur w hg (by simpa using hfit) h1
  obtain ⟨i, hi, hz, hs, hb⟩ := info_page_parts
  rw [hn] at hl
  simp [Builtin.copy_, run_underlying Tryz.underlying26, Builtin.lenOf, Builtin.firstCells, sizeOf, typeInfo, hi, hs, hl, hst]
theorem copy_pages (w : World) (g c : Nat) (gs : Option Nat) (n : Nat) (pd pg : Nat → Pg) (hg : Row w g c pd) (hs : Rows w gs n pg) :
    ∃ (k : Nat) (w2 : World), (∀ ty, (Builtin.copy_ #[26, 26] ty #[.slice (some ⟨g, 0, none⟩) c c, .slice (adr gs) n n]).run Tryz.prog w = .ok (goInt k) w2) ∧ Row w2 g c (fun i => if i < n then pg i else pd i) ∧ Kept (fun x => x = g) w w2 ∧ w2.heap.size = w.heap.size := by
  cases gs with
  | none =>
    have h0 : n = 0 := hs
    subst h0
    refine ⟨0, w, fun ty => ?_, ?_, Kept.refl _ _, rfl⟩
    · exact run_copy_nil (P := Tryz.prog) w 26 26 ty 52 _ c c Tryz.underlying26 (by obtain ⟨i, hi, _⟩ := info_page_parts; rw [hi]; rfl)
    · exact Row.congr hg (fun i hi => by simp)
  | some q =>
    obtain ⟨cur, hgb, hsz, hcc⟩ := hg
    obtain ⟨sr, hqb, hsz2, hsc⟩ := hs
    obtain ⟨cs, hcs⟩ : ∃ cs : List Value, cs = sr.toList.take (Nat.min n c * 11) := ⟨_, rfl⟩
    have hmn : Nat.min n c ≤ n ∧ Nat.min n c ≤ c := ⟨Nat.min_le_left _ _, Nat.min_le_right _ _⟩
    have hmm : (n ≤ c ∧ Nat.min n c = n) ∨ (c ≤ n ∧ Nat.min n c = c) := (Nat.le_total n c).imp (fun h => ⟨h, Nat.min_eq_left h⟩) (fun h => ⟨h, Nat.min_eq_right h⟩)
    have hlen : cs.length = Nat.min n c * 11 := by rw [hcs, List.length_take, Array.length_toList, hsz2]; omega
    refine ⟨Nat.min n c, w.setRow g (cur.toList.take 0 ++ cs ++ cur.toList.drop (0 + cs.length)).toArray, fun ty => ?_, ?_, ⟨rfl, rfl, rfl, by simp [World.setRow], fun k hk hn => setRow_other w g k _ hn⟩, by simp [World.setRow]⟩
    · refine run_copy_pages w ty g c c ⟨q, 0, none⟩ n n cur cs hgb hlen (fun j v hj => ?_) (by omega) (fun v hv => ?_)
      · rw [Addr.add_lit, Nat.zero_add]
        rw [hcs, List.getElem?_take] at hj
        split at hj
        · simpa [World.cell?, hqb] using hj
        · cases hj
      · rw [hcs] at hv
        have hv2 := List.mem_of_mem_take hv
        obtain ⟨j, hj, rfl⟩ := List.mem_iff_getElem.1 hv2
        have hj2 : j < n * 11 := by simpa [hsz2] using hj
        have := hsc (j / 11) (by omega) (j % 11) (by omega)
        rw [show j / 11 * 11 + j % 11 = j by omega] at this
        have e : sr.toList[j] = ((pg (j / 11)).fld (j % 11)) := by
          have h2 : sr[j]? = some sr.toList[j] := by simp
          rw [h2] at this
          exact Option.some.inj this
        rw [e]
        exact fld_one _ _
    · refine ⟨_, setRow_heap w g cur _ 52 (0, 0) hgb, ?_, fun a ha b hb => ?_⟩
      · simp [hlen, hsz]; omega
      · simp only [List.take_zero, List.nil_append, Nat.zero_add, List.getElem?_toArray]
        by_cases hl : a * 11 + b < cs.length
        · rw [List.getElem?_append_left hl, if_pos (by omega), hcs, List.getElem?_take, if_pos (by omega)]
          simpa using hsc a (by omega) b hb
        · rw [List.getElem?_append_right (by omega), List.getElem?_drop, if_neg (by omega)]
          rw [show cs.length + (a * 11 + b - cs.length) = a * 11 + b by omega]
          simpa using hcc a ha b hb
end Go.Proofs.YthjokkihlodapaaGreat.H
/- pagemap: resize. -/
namespace Go.Proofs.YthjokkihlodapaaGreat.H
open Go.RowKit
set_option linter.unusedVariables false

def resizeM (m : Mp) (c : Nat) : Mp := ⟨m.o, c, fun i => if i < m.n then m.pg i else zeroP, fun k => ofW (m.wd k) (c / 2 ^ (k + 1))⟩
/-- Where the blocks of a map come from: they were its own, or they are new. -/
def From (w : World) (b : Nat) (B B' : Bs) (o : Nat) : Prop := ∀ x, mown b B' o x → mown b B o x ∨ w.heap.size ≤ x
/-- While the sets are resized. -/
structure Rz (w W : World) (b : Nat) (B : Bs) (m : Mp) (c g k : Nat) (C : Nat → Nat) : Prop where
  hb : ∃ cq, W.heap[b]? = some (.cells #[.int .i64 (m.o : Int), .slice (some ⟨g, 0, none⟩) c c, .slice (adr B.P) m.o cq] 125 (0, 0)) ∧ Prs W B.P m.o cq B.S
  row : Row W g c (fun i => if i < m.n then m.pg i else zeroP)
  old : ∀ j, k ≤ j → j < m.o → SetAt W (B.S j) (C j) (m.n / 2 ^ (j + 1)) (m.wd j)
  new : ∀ j, j < k → j < m.o → SetAt W (B.S j) (C j) (c / 2 ^ (j + 1)) (ofW (m.wd j) (c / 2 ^ (j + 1)))
  inj : ∀ i j, i < m.o → j < m.o → C i = C j → i = j
  kp : Kept (mown b B m.o) w W
  hg : w.heap.size ≤ g
  fr : ∀ j, j < m.o → C j = B.C j ∨ w.heap.size ≤ C j
theorem Rz.any {w W b B m c g k C} (h : Rz w W b B m c g k C) (j : Nat) (hj : j < m.o) : ∃ n ws, SetAt W (B.S j) (C j) n ws := by
  by_cases e : j < k
  · exact ⟨_, _, h.new j e hj⟩
  · exact ⟨_, _, h.old j (by omega) hj⟩
theorem Rz.next {w W W' b B m c g k C} (h : Rz w W b B m c g k C) (hk : k < m.o) (inS : ∀ i j, i < m.o → j < m.o → B.S i = B.S j → i = j) (hS : SetAt W' (B.S k) W.heap.size (c / 2 ^ (k + 1)) (ofW (m.wd k) (c / 2 ^ (k + 1)))) (kp : Kept (fun x => x = B.S k) W W') :
    Rz w W' b B m c g (k + 1) (fun j => if j = k then W.heap.size else C j) := by
  obtain ⟨cq, hb, hp⟩ := h.hb
  obtain ⟨n0, ws0, s0⟩ := h.any k hk
  obtain ⟨cs, hgb, hrow⟩ := h.row
  have lt : ∀ j, j < m.o → C j < W.heap.size := fun j hj => by
    obtain ⟨_, _, s⟩ := h.any j hj
    exact heap_lt s.hc
  refine ⟨⟨cq, (kp.block b (heap_lt hb) (ty_ne hb s0.hb (by decide))).trans hb, hp.kept kp (fun x e => ?_)⟩, RowC.kept h.row kp (ty_ne hgb s0.hb (by decide)), fun j hj hj2 => ?_, fun j hj hj2 => ?_, fun i j hi hj e => ?_, h.kp.trans kp (fun _ _ x => x) (fun x _ e => .inr (.inr (.inr ⟨k, hk, .inl e⟩))), h.hg, fun j hj => ?_⟩
  · rw [e] at hp
    obtain ⟨ds, hq, _⟩ := hp
    exact ty_ne hq s0.hb (by decide)
  · rw [if_neg (by omega)]
    have s := h.old j (by omega) hj2
    exact s.kept kp (fun e => by have := inS j k hj2 hk e; omega) (ty_ne s.hc s0.hb (by decide))
  · by_cases e : j = k
    · rw [if_pos e, e]
      exact hS
    · rw [if_neg e]
      have s := h.new j (by omega) hj2
      exact s.kept kp (fun e => by have := inS j k hj2 hk e; omega) (ty_ne s.hc s0.hb (by decide))
  · by_cases e1 : i = k <;> by_cases e2 : j = k
    · omega
    · rw [if_pos e1, if_neg e2] at e
      have := lt j hj
      omega
    · rw [if_neg e1, if_pos e2] at e
      have := lt i hi
      omega
    · rw [if_neg e1, if_neg e2] at e
      exact h.inj i j hi hj e
  · by_cases e : j = k
    · rw [if_pos e]
      exact .inr h.kp.size
    · rw [if_neg e]
      exact h.fr j hj
theorem fit_nat (n : Nat) (h : n ≤ 1048576) : fit (n : Int) = n := by unfold fit; split <;> (try split) <;> omega
theorem _root_.Go.Proofs.YthjokkihlodapaaGreat.Prs.cell {w q o cq S} (h : Prs w (some q) o cq S) (k : Nat) (hk : k < o) : w.cell? ⟨q, k, none⟩ = some (.pointer (some ⟨S k, 0, none⟩)) := by
  obtain ⟨cs, hg, h2, h3, h4⟩ := h
  simp [World.cell?, hg, h4 k hk]
set_option maxRecDepth 4000 in
theorem mresize_0 (b : Nat) (B : Bs) (m : Mp) (c : Nat) (hc : c ≤ 1024) (hd : ∃ r, c = r * 2 ^ m.o) (w : World) (h : MapAt w b B m) (h0 : m.o = 0) :
    Calls Tryz.prog 83 #[.pointer (some ⟨b, 0, none⟩), .int .i64 (c : Int)] w fun e w' => e = .returned (.tuple #[]) ∧ ∃ B', MapAt w' b B' (resizeM m c) ∧ Kept (mown b B m.o) w w' ∧ From w b B B' m.o := by
  obtain ⟨cq, c0, c1, c2⟩ := h.cb
  obtain ⟨w1, hmk, hr1, hk1, hs1⟩ := make_pages c hc w
  have M1 := hid (h.keep hk1)
  obtain ⟨kk, w2, hcp, hr2, hk2, hs2⟩ := copy_pages w1 w.heap.size c B.g m.n (fun _ => zeroP) m.pg hr1 M1.out.row
  obtain ⟨cq1, d0, d1, d2⟩ := M1.out.cb
  have R2 := hid hr2
  have K2 := hid (show Kept none' w w2 from hk1.trans hk2 (fun _ _ x => x) (fun x hx e => by omega))
  have M2 := hid (h.keep K2.out)
  obtain ⟨cq2, e0, e1, e2⟩ := M2.out.cb
  have z := M2.out.bz
  have HO := hid h
  have hbl : b < w.heap.size := h.own_lt b (.inl rfl)
  have HBL := hid hbl
  have HD := hid hd
  have HZ := hid h0
  clear h hr1 hk1 hr2 hk2 hd h0
  go_enter Tryz.func83, Tryz.ntmps83
  go_wp2_with fail
  have H0 := hid (show Rz w (w2.setCell ⟨b, 1, none⟩ (.slice (some ⟨w.heap.size, 0, none⟩) c c)) b B m c w.heap.size 0 B.C from by
    obtain ⟨cq, hb, hp⟩ := M2.out.hb
    obtain ⟨cs, hgb, _⟩ := R2.out
    have k : Kept (fun x => x = b) w2 (w2.setCell ⟨b, 1, none⟩ (.slice (some ⟨w.heap.size, 0, none⟩) c c)) := (Kept.refl (fun x => x = b) w2).setCell (p := ⟨b, 1, none⟩) rfl _
    refine ⟨⟨cq, (heap_set hb 1 _).trans (by simp), hp.kept k (fun x e => ?_)⟩, Row.kept R2.out k (fun e => by have := HBL.out; omega), fun j _ hj => (M2.out.set j hj).kept k (ty_ne (M2.out.set j hj).hb hb (by decide)) (ty_ne (M2.out.set j hj).hc hb (by decide)), fun j hj => absurd hj (by omega), M2.out.injC, K2.out.trans k (fun _ _ x => x.elim) (fun x _ e => .inl e), Nat.le_refl _, fun j _ => .inl rfl⟩
    rw [e] at hp
    obtain ⟨ds, hq, _⟩ := hp
    exact ty_ne hq hb (by decide))
  clear M1 M2 R2 K2 c0 c1 c2 d0 d1 d2 e0 e1 e2 z hmk hcp hs1 hs2
  go_loopw [5, 6, 24] (fun x y i W => ∃ k : Nat, k ≤ m.o ∧ i = .int .i64 k ∧ Hid (∃ C, Rz w W b B m c w.heap.size k C)) (fun _ _ i _ => m.o - (intOf i).toNat)
  case atStart => exact ⟨0, by omega, rfl, ⟨B.C, H0.out⟩⟩
  case round =>
    clear H0
    obtain ⟨k, hk, rfl, hR⟩ := hrel
    obtain ⟨C, hR⟩ := hR.out
    have HR := hid hR
    clear hR
    have hki : ¬ (k : Int) < (m.o : Int) := by have := HZ.out; omega
    · obtain rfl : k = m.o := by have := HZ.out; omega
      go_wp2_with fail
      go_end0
      refine ⟨rfl, ⟨some w.heap.size, B.P, B.S, C⟩, ?_, HR.out.kp, ?_⟩
      · refine ⟨HO.out.o8, hc, HD.out, HR.out.hb, HR.out.row, fun j hj => HR.out.new j hj hj, HO.out.injS, HR.out.inj, fun i hi => ?_⟩
        show PgOk (if i < m.n then m.pg i else zeroP)
        split
        · rename_i e
          exact HO.out.ok i e
        · exact PgOk.zero
      · rintro x (e | e | e | ⟨j, hj, e | e⟩)
        · exact .inl (.inl e)
        · cases e
          exact .inr (Nat.le_refl _)
        · exact .inl (.inr (.inr (.inl e)))
        · exact .inl (.inr (.inr (.inr ⟨j, hj, .inl e⟩)))
        · rcases HR.out.fr j hj with e2 | e2
          · exact .inl (.inr (.inr (.inr ⟨j, hj, .inr (e.trans e2)⟩)))
          · exact .inr (by rw [show x = C j from e]; exact e2)
set_option maxRecDepth 4000 in
theorem mresize_q (b q : Nat) (B : Bs) (m : Mp) (c : Nat) (hc : c ≤ 1024) (hd : ∃ r, c = r * 2 ^ m.o) (w : World) (h : MapAt w b B m) (hq : B.P = some q) :
    Calls Tryz.prog 83 #[.pointer (some ⟨b, 0, none⟩), .int .i64 (c : Int)] w fun e w' => e = .returned (.tuple #[]) ∧ ∃ B', MapAt w' b B' (resizeM m c) ∧ Kept (mown b B m.o) w w' ∧ From w b B B' m.o := by
  obtain ⟨cq, c0, c1, c2⟩ := h.cb
  obtain ⟨w1, hmk, hr1, hk1, hs1⟩ := make_pages c hc w
  have M1 := hid (h.keep hk1)
  obtain ⟨kk, w2, hcp, hr2, hk2, hs2⟩ := copy_pages w1 w.heap.size c B.g m.n (fun _ => zeroP) m.pg hr1 M1.out.row
  obtain ⟨cq1, d0, d1, d2⟩ := M1.out.cb
  have R2 := hid hr2
  have K2 := hid (show Kept none' w w2 from hk1.trans hk2 (fun _ _ x => x) (fun x hx e => by omega))
  have M2 := hid (h.keep K2.out)
  obtain ⟨cq2, e0, e1, e2⟩ := M2.out.cb
  have z := M2.out.bz
  rw [show adr B.P = some ⟨q, 0, none⟩ by rw [hq]; rfl] at c2 d2 e2
  have HQ := hid hq
  have HO := hid h
  have hbl : b < w.heap.size := h.own_lt b (.inl rfl)
  have HBL := hid hbl
  have HD := hid hd
  clear h hr1 hk1 hr2 hk2 hd hq
  go_enter Tryz.func83, Tryz.ntmps83
  go_wp2_with fail
  have H0 := hid (show Rz w (w2.setCell ⟨b, 1, none⟩ (.slice (some ⟨w.heap.size, 0, none⟩) c c)) b B m c w.heap.size 0 B.C from by
    obtain ⟨cq, hb, hp⟩ := M2.out.hb
    obtain ⟨cs, hgb, _⟩ := R2.out
    have k : Kept (fun x => x = b) w2 (w2.setCell ⟨b, 1, none⟩ (.slice (some ⟨w.heap.size, 0, none⟩) c c)) := (Kept.refl (fun x => x = b) w2).setCell (p := ⟨b, 1, none⟩) rfl _
    refine ⟨⟨cq, (heap_set hb 1 _).trans (by simp), hp.kept k (fun x e => ?_)⟩, Row.kept R2.out k (fun e => by have := HBL.out; omega), fun j _ hj => (M2.out.set j hj).kept k (ty_ne (M2.out.set j hj).hb hb (by decide)) (ty_ne (M2.out.set j hj).hc hb (by decide)), fun j hj => absurd hj (by omega), M2.out.injC, K2.out.trans k (fun _ _ x => x.elim) (fun x _ e => .inl e), Nat.le_refl _, fun j _ => .inl rfl⟩
    rw [e] at hp
    obtain ⟨ds, hq, _⟩ := hp
    exact ty_ne hq hb (by decide))
  clear M1 M2 R2 K2 c0 c1 c2 d0 d1 d2 e0 e1 e2 z hmk hcp hs1 hs2
  go_loopw [5, 6, 24] (fun x y i W => ∃ k : Nat, k ≤ m.o ∧ i = .int .i64 k ∧ Hid (∃ C, Rz w W b B m c w.heap.size k C)) (fun _ _ i _ => m.o - (intOf i).toNat)
  case atStart => exact ⟨0, by omega, rfl, ⟨B.C, H0.out⟩⟩
  case round =>
    clear H0
    obtain ⟨k, hk, rfl, hR⟩ := hrel
    obtain ⟨C, hR⟩ := hR.out
    have HR := hid hR
    clear hR
    by_cases hlt : k < m.o
    · have hki : (k : Int) < (m.o : Int) := by omega
      have hpc : wr.cell? ⟨q, k, none⟩ = some (.pointer (some ⟨B.S k, 0, none⟩)) := by
        obtain ⟨cq, _, hp⟩ := HR.out.hb
        rw [HQ.out] at hp
        exact hp.cell k hlt
      have hk8 : k < 8 := by have := HO.out.o8; omega
      have PC := hid (pairCount_any k c hk8 hc)
      have hle : c / 2 ^ (k + 1) ≤ 1024 := Nat.le_trans (Nat.div_le_self _ _) hc
      have HN := hid (fun W2 hS hK => HR.out.next (W' := W2) hlt HO.out.injS hS hK)
      generalize c / 2 ^ (k + 1) = d at PC hle HN
      have RS := hid (resize_any (B.S k) (C k) (m.n / 2 ^ (k + 1)) (m.wd k) (d : Int) (by omega) (by omega) wr (HR.out.old k (Nat.le_refl _) hlt))
      rw [fit_nat _ (by omega)] at RS
      clear hle
      go_wp2_with fail
      refine (PC.out _).mono ?_
      rintro e W1 ⟨rfl, rfl⟩
      go_wp2_with fail
      refine RS.out.mono ?_
      rintro e W2 ⟨rfl, hS, hK, hsz⟩
      have HN := hid (HN.out W2 hS hK)
      clear hS hK hsz
      go_wp2_with fail
      exact ⟨⟨k + 1, by omega, by simp, ⟨_, HN.out⟩⟩, by simp [intOf]; omega⟩
    · obtain rfl : k = m.o := by omega
      go_wp2_with fail
      go_end0
      refine ⟨rfl, ⟨some w.heap.size, B.P, B.S, C⟩, ?_, HR.out.kp, ?_⟩
      · refine ⟨HO.out.o8, hc, HD.out, HR.out.hb, HR.out.row, fun j hj => HR.out.new j hj hj, HO.out.injS, HR.out.inj, fun i hi => ?_⟩
        show PgOk (if i < m.n then m.pg i else zeroP)
        split
        · rename_i e
          exact HO.out.ok i e
        · exact PgOk.zero
      · rintro x (e | e | e | ⟨j, hj, e | e⟩)
        · exact .inl (.inl e)
        · cases e
          exact .inr (Nat.le_refl _)
        · exact .inl (.inr (.inr (.inl e)))
        · exact .inl (.inr (.inr (.inr ⟨j, hj, .inl e⟩)))
        · rcases HR.out.fr j hj with e2 | e2
          · exact .inl (.inr (.inr (.inr ⟨j, hj, .inr (e.trans e2)⟩)))
          · exact .inr (by rw [show x = C j from e]; exact e2)
theorem mresize_any (b : Nat) (B : Bs) (m : Mp) (c : Nat) (hc : c ≤ 1024) (hd : ∃ r, c = r * 2 ^ m.o) (w : World) (h : MapAt w b B m) :
    Calls Tryz.prog 83 #[.pointer (some ⟨b, 0, none⟩), .int .i64 (c : Int)] w fun e w' => e = .returned (.tuple #[]) ∧ ∃ B', MapAt w' b B' (resizeM m c) ∧ Kept (mown b B m.o) w w' ∧ From w b B B' m.o := by
  by_cases h0 : m.o = 0
  · exact mresize_0 b B m c hc hd w h h0
  · obtain ⟨q, hq, _⟩ := h.cp 0 (by omega)
    exact mresize_q b q B m c hc hd w h hq
end Go.Proofs.YthjokkihlodapaaGreat.H
/- pagemap: Flip. -/
namespace Go.Proofs.YthjokkihlodapaaGreat.H
open Go.RowKit
set_option linter.unusedVariables false

def upw (wd : Nat → List Nat) (k : Nat) (ws : List Nat) : Nat → List Nat := fun j => if j = k then ws else wd j
theorem _root_.Go.Proofs.YthjokkihlodapaaGreat.MapAt.words {w w' b B m} {ws : List Nat} (h : MapAt w b B m) (k : Nat) (hk : k < m.o) (kp : Kept (fun x => x = B.C k) w w') (hS : SetAt w' (B.S k) (B.C k) (m.n / 2 ^ (k + 1)) ws) : MapAt w' b B { m with wd := upw m.wd k ws } := by
  obtain ⟨cq, hb, hp⟩ := h.hb
  have s0 := h.set k hk
  refine ⟨h.o8, h.n1, h.dv, ⟨cq, (kp.block b (heap_lt hb) (ty_ne hb s0.hc (by decide))).trans hb, hp.kept kp (fun x e => ?_)⟩, Rows.kept h.row kp (fun x e => ?_), fun j hj => ?_, h.injS, h.injC, h.ok⟩
  · rw [e] at hp
    obtain ⟨ds, hq, _⟩ := hp
    exact ty_ne hq s0.hc (by decide)
  · have hr := h.row
    rw [e] at hr
    obtain ⟨cs, hgb, _⟩ := hr
    exact ty_ne hgb s0.hc (by decide)
  · show SetAt w' (B.S j) (B.C j) (m.n / 2 ^ (j + 1)) (upw m.wd k ws j)
    unfold upw
    by_cases e : j = k
    · rw [if_pos e, e]
      exact hS
    · rw [if_neg e]
      have s := h.set j hj
      exact s.kept kp (ty_ne s.hb s0.hc (by decide)) (fun e2 => e (h.injC j k hj hk e2))
theorem shr_run (i k : Nat) (hk : k < 8) (W : World) : Sem.run Tryz.prog (Op.shift BinOp.shr IntKind.i64 (i : Int) IntKind.i64 (IntKind.i64.wrap ((k : Int) + 1))) W = Result.ok (.int .i64 ((i / 2 ^ (k + 1) : Nat) : Int)) W := by
  have hw : IntKind.i64.wrap ((k : Int) + 1) = ((k + 1 : Nat) : Int) := by rw [IntKind.wrap_i64]; omega
  rw [hw]
  unfold Op.shift
  simp [go_sem]
  rw [if_neg (by omega), Nat.min_eq_left (by omega), Int.fdiv_eq_ediv_of_nonneg _ (Int.le_of_lt (Int.pow_pos (by decide)))]
theorem flipI_in {n k : Nat} (ws : List Nat) (h : k < n) : flipI n ws (k : Int) = flipW ws k := by
  unfold flipI
  rw [if_pos (inR_yes h)]
  simp
end Go.Proofs.YthjokkihlodapaaGreat.H
/- A set of a map is put anew. -/
namespace Go.Proofs.YthjokkihlodapaaGreat.H
open Go.RowKit
set_option linter.unusedVariables false

def upn (f : Nat → Nat) (k x : Nat) : Nat → Nat := fun j => if j = k then x else f j
theorem _root_.Go.Proofs.YthjokkihlodapaaGreat.MapAt.newset {w w' b B m q k} {ws : List Nat} (h : MapAt w b B m) (hk : k < m.o) (hq : B.P = some q) (kp : Kept none' w w') (hS : SetAt w' (w.heap.size + 1) w.heap.size (m.n / 2 ^ (k + 1)) ws) :
    MapAt (w'.setCell ⟨q, k, none⟩ (.pointer (some ⟨w.heap.size + 1, 0, none⟩))) b ⟨B.g, B.P, upn B.S k (w.heap.size + 1), upn B.C k w.heap.size⟩ { m with wd := upw m.wd k ws } := by
  have h2 := h.keep kp
  obtain ⟨cq, hb, hp⟩ := h2.hb
  rw [hq] at hp
  obtain ⟨cs, hqb, hs, ho, hc⟩ := hp
  have ks : Kept (fun x => x = q) w' (w'.setCell ⟨q, k, none⟩ (.pointer (some ⟨w.heap.size + 1, 0, none⟩))) := (Kept.refl (fun x => x = q) w').setCell (p := ⟨q, k, none⟩) rfl _
  have ltS : ∀ j, j < m.o → B.S j < w.heap.size := fun j hj => heap_lt (h.set j hj).hb
  have ltC : ∀ j, j < m.o → B.C j < w.heap.size := fun j hj => heap_lt (h.set j hj).hc
  have hP : Prs (w'.setCell ⟨q, k, none⟩ (.pointer (some ⟨w.heap.size + 1, 0, none⟩))) B.P m.o cq (upn B.S k (w.heap.size + 1)) := by
    rw [hq]
    refine ⟨_, heap_set hqb k _, by simpa using hs, ho, fun j hj => ?_⟩
    rw [Array.getElem?_setIfInBounds]
    unfold upn
    by_cases e : j = k
    · subst e
      rw [if_pos rfl, if_pos (by omega), if_pos rfl]
    · rw [if_neg (by omega), if_neg e]
      exact hc j hj
  refine ⟨h.o8, h.n1, h.dv, ⟨cq, (ks.block b (heap_lt hb) (ty_ne hb hqb (by decide))).trans hb, hP⟩, Rows.kept h2.row ks (fun x e => ?_), fun j hj => ?_, fun i j hi hj e => ?_, fun i j hi hj e => ?_, h.ok⟩
  · have hr := h2.row
    rw [e] at hr
    obtain ⟨rs, hrb, _⟩ := hr
    exact ty_ne hrb hqb (by decide)
  · show SetAt _ (upn B.S k (w.heap.size + 1) j) (upn B.C k w.heap.size j) (m.n / 2 ^ (j + 1)) (upw m.wd k ws j)
    unfold upn upw
    by_cases e : j = k
    · subst e
      rw [if_pos rfl, if_pos rfl, if_pos rfl]
      exact hS.kept ks (ty_ne hS.hb hqb (by decide)) (ty_ne hS.hc hqb (by decide))
    · rw [if_neg e, if_neg e, if_neg e]
      have s := h2.set j hj
      exact s.kept ks (ty_ne s.hb hqb (by decide)) (ty_ne s.hc hqb (by decide))
  · have hi' : i < m.o := hi
    have hj' : j < m.o := hj
    have e : upn B.S k (w.heap.size + 1) i = upn B.S k (w.heap.size + 1) j := e
    unfold upn at e
    by_cases e1 : i = k <;> by_cases e2 : j = k <;> simp only [e1, e2, if_true, if_false] at e
    · omega
    · have := ltS j hj'; omega
    · have := ltS i hi'; omega
    · exact h.injS i j hi' hj' e
  · have hi' : i < m.o := hi
    have hj' : j < m.o := hj
    have e : upn B.C k w.heap.size i = upn B.C k w.heap.size j := e
    unfold upn at e
    by_cases e1 : i = k <;> by_cases e2 : j = k <;> simp only [e1, e2, if_true, if_false] at e
    · omega
    · have := ltC j hj'; omega
    · have := ltC i hi'; omega
    · exact h.injC i j hi' hj' e
end Go.Proofs.YthjokkihlodapaaGreat.H
/- pagemap: the cells of a slab page: slab, hasCell, isLive, turned. -/
namespace Go.Proofs.YthjokkihlodapaaGreat.H
open Go.RowKit
set_option linter.unusedVariables false

def ncell (cl : Int) : Nat := 256 / 2 ^ cl.toNat
theorem live_eq (x r : Nat) (hx : x < 18446744073709551616) : ((bits BinOp.and IntKind.u64 ((x : Int) / 2 ^ r) 1) == 1) = (x / 2 ^ r % 2 == 1) := by
  have e : ((x : Int) / 2 ^ r) = ((x / 2 ^ r : Nat) : Int) := by simp
  rw [e]
  have hd2 : x / 2 ^ r < 2 ^ 64 := Nat.lt_of_le_of_lt (Nat.div_le_self _ _) hx
  have := u64_and_nat (x / 2 ^ r) 1 (by omega) (by decide)
  rw [nat_mask1] at this
  rw [show (1 : Int) = ((1 : Nat) : Int) from rfl, this, Bool.eq_iff_iff]
  simp only [beq_iff_eq]
  omega
theorem turn_eq (x r : Nat) (hx : x < 18446744073709551616) (hr : r < 64) : bits BinOp.xor IntKind.u64 (x : Int) (2 ^ r) = ((x ^^^ 2 ^ r : Nat) : Int) := by
  have hp : 2 ^ r < 2 ^ 64 := (pow_lt r 64).2 hr
  have := bits_xor_u64_nat x (2 ^ r) hx hp
  rw [← this]; simp
theorem wrap2_pow (r : Nat) (hr : r < 64) : IntKind.u64.wrap (2 ^ r) = 2 ^ r := by
  have hp : 2 ^ r < 2 ^ 64 := (pow_lt r 64).2 hr
  rw [wrap_u64]
  have : ((2 : Int) ^ r) = ((2 ^ r : Nat) : Int) := by simp
  rw [this]
  obtain ⟨p, hp2⟩ : ∃ p, p = 2 ^ r := ⟨_, rfl⟩
  rw [← hp2] at hp ⊢
  omega
theorem turn_lt (x r : Nat) (hx : x < 18446744073709551616) (hr : r < 64) : x ^^^ 2 ^ r < 18446744073709551616 := Nat.xor_lt_two_pow (n := 64) hx ((pow_lt r 64).2 hr)

/-- The word of a page's bits in which a cell's stands; the bit; the page with it turned. -/
def wP (p : Pg) : Nat → Nat
  | 0 => p.b0
  | 1 => p.b1
  | 2 => p.b2
  | _ => p.b3
def litP (p : Pg) (c : Nat) : Bool := wP p (c / 64) / 2 ^ (c % 64) % 2 == 1
def turnP (p : Pg) (c : Nat) : Pg :=
  match c / 64 with
  | 0 => { p with b0 := p.b0 ^^^ 2 ^ (c % 64) }
  | 1 => { p with b1 := p.b1 ^^^ 2 ^ (c % 64) }
  | 2 => { p with b2 := p.b2 ^^^ 2 ^ (c % 64) }
  | _ => { p with b3 := p.b3 ^^^ 2 ^ (c % 64) }
abbrev bval (p : Pg) : Value := .agg #[.int .u64 (p.b0 : Int), .int .u64 (p.b1 : Int), .int .u64 (p.b2 : Int), .int .u64 (p.b3 : Int)]
theorem lt4 {c : Nat} (hc : c < 256) : c / 64 = 0 ∨ c / 64 = 1 ∨ c / 64 = 2 ∨ c / 64 = 3 := by omega
theorem _root_.Go.Proofs.YthjokkihlodapaaGreat.PgOk.turn {p : Pg} (ok : PgOk p) (c : Nat) : PgOk (turnP p c) := by
  have hr : c % 64 < 64 := by omega
  unfold turnP
  split
  · exact ⟨ok.o0, ok.o8, ok.c0, ok.c7, turn_lt _ _ ok.b0 hr, ok.b1, ok.b2, ok.b3⟩
  · exact ⟨ok.o0, ok.o8, ok.c0, ok.c7, ok.b0, turn_lt _ _ ok.b1 hr, ok.b2, ok.b3⟩
  · exact ⟨ok.o0, ok.o8, ok.c0, ok.c7, ok.b0, ok.b1, turn_lt _ _ ok.b2 hr, ok.b3⟩
  · exact ⟨ok.o0, ok.o8, ok.c0, ok.c7, ok.b0, ok.b1, ok.b2, turn_lt _ _ ok.b3 hr⟩
/-- What is not its bits is as it was. -/
theorem turn_rest (p : Pg) (c : Nat) : (turnP p c).kd = p.kd ∧ (turnP p c).od = p.od ∧ (turnP p c).cl = p.cl ∧ (turnP p c).lv = p.lv ∧ (turnP p c).nx = p.nx ∧ (turnP p c).pv = p.pv ∧ (turnP p c).fs = p.fs := by
  unfold turnP
  split <;> exact ⟨rfl, rfl, rfl, rfl, rfl, rfl, rfl⟩
end Go.Proofs.YthjokkihlodapaaGreat.H
/- pagemap: Own. -/
namespace Go.Proofs.YthjokkihlodapaaGreat.H
open Go.RowKit
set_option linter.unusedVariables false

theorem _root_.Go.Proofs.YthjokkihlodapaaGreat.MapAt.rowg {w b B m} {g : Nat} (h : MapAt w b B m) (hg : B.g = some g) : Row w g m.n m.pg := by
  have hr := h.row
  rwa [hg] at hr
theorem ncell_le {c : Int} (h : 0 ≤ c) : ncell c ≤ 256 := Nat.div_le_self _ _
theorem inCell {cl c : Int} (h0 : 0 ≤ cl) (h : inR (ncell cl) c = true) : ∃ k : Nat, c = k ∧ k < 256 := by
  obtain ⟨k, rfl, hk⟩ := inR_nat h
  exact ⟨k, rfl, Nat.lt_of_lt_of_le hk (ncell_le h0)⟩
theorem _root_.Go.Proofs.YthjokkihlodapaaGreat.Row.bits {w g n pg} (h : Row w g n pg) (i : Nat) (hi : i < n) (t : Pg) (x : Int) (hr : t.kd = (pg i).kd ∧ t.od = (pg i).od ∧ t.cl = (pg i).cl ∧ t.lv = (pg i).lv ∧ t.nx = (pg i).nx ∧ t.pv = (pg i).pv ∧ t.fs = (pg i).fs) :
    Row (((((w.setCell ⟨g, i * 11 + 7, none⟩ (.int .u64 (t.b0 : Int))).setCell ⟨g, i * 11 + 7 + 1, none⟩ (.int .u64 (t.b1 : Int))).setCell ⟨g, i * 11 + 7 + 2, none⟩ (.int .u64 (t.b2 : Int))).setCell ⟨g, i * 11 + 7 + 3, none⟩ (.int .u64 (t.b3 : Int))).setCell ⟨g, i * 11 + 3, none⟩ (.int .i64 x)) g n (upp pg i { t with lv := x }) := by
  have := (((((RowC.set h i 7 hi (by decide) (.int .u64 (t.b0 : Int))).set i 8 hi (by decide) (.int .u64 (t.b1 : Int))).set i 9 hi (by decide) (.int .u64 (t.b2 : Int))).set i 10 hi (by decide) (.int .u64 (t.b3 : Int))).set i 3 hi (by decide) (.int .i64 x))
  obtain ⟨e0, e1, e2, e3, e4, e5, e6⟩ := hr
  refine RowC.congr this (fun a ha b hb => fld_up a b hb (fun j hj => ?_) (fun e => ?_))
  · revert j
    apply lt11 <;> simp [upc, Pg.fld, e0, e1, e2, e4, e5, e6]
  · simp [upc, e]
def ownP (p : Pg) (c : Nat) : Pg := { turnP p c with lv := wrap64 (if litP p c = true then p.lv - 1 else p.lv + 1) }
end Go.Proofs.YthjokkihlodapaaGreat.H
/- pagemap: Run. -/
namespace Go.Proofs.YthjokkihlodapaaGreat.H
open Go.RowKit
set_option linter.unusedVariables false

def runP (pg : Nat → Pg) (p o : Nat) (k : Int) : Nat → Pg := fun i => if i = p then blankP k o else if p < i ∧ i < p + 2 ^ o then blankP (k + 1) o else pg i
theorem run_fits {n mo p o r : Nat} (hn : n = r * 2 ^ mo) (ho : o ≤ mo) (hp : p < n) (hm : p % 2 ^ o = 0) : p + 2 ^ o ≤ n := by
  obtain ⟨d, rfl⟩ : ∃ d, mo = o + d := ⟨mo - o, by omega⟩
  obtain ⟨a, ha⟩ : ∃ a, p = a * 2 ^ o := ⟨p / 2 ^ o, by have := Nat.div_add_mod p (2 ^ o); rw [hm, Nat.add_zero, Nat.mul_comm] at this; exact this.symm⟩
  obtain ⟨b, hb⟩ : ∃ b, n = b * 2 ^ o := ⟨r * 2 ^ d, by rw [hn, Nat.pow_add, Nat.mul_comm (2 ^ o), Nat.mul_assoc]⟩
  have h0 : 0 < 2 ^ o := pw_pos o
  generalize 2 ^ o = z at *
  subst ha hb
  have : a < b := Nat.lt_of_mul_lt_mul_right hp
  calc a * z + z = (a + 1) * z := by rw [Nat.add_mul, Nat.one_mul]
    _ ≤ b * z := Nat.mul_le_mul_right _ this
end Go.Proofs.YthjokkihlodapaaGreat.H
/- pagemap: Run that is refused, Grow, Shrink. -/
namespace Go.Proofs.YthjokkihlodapaaGreat.H
open Go.RowKit
set_option linter.unusedVariables false

/-- May it run? -/
def canRun (m : Mp) (p o k : Int) : Bool := decide ((k = 0 ∨ k = 2) ∧ 0 ≤ o ∧ o ≤ m.o) && (inR m.n p && decide (p % 2 ^ o.toNat = 0))
def runM (m : Mp) (p o k : Int) : Mp := if canRun m p o k = true then { m with pg := runP m.pg p.toNat o.toNat k } else m
def runE (m : Mp) (p o k : Int) : Int := if canRun m p o k = true then 0 else 1
theorem From.kept {w w1 w2 : World} {b : Nat} {B B' : Bs} {o : Nat} (k : Kept (mown b B o) w w1) (f : From w b B B' o) (k2 : Kept (mown b B' o) w1 w2) : Kept (mown b B o) w w2 :=
  k.trans k2 (fun _ _ x => x) (fun x hx e => (f x e).resolve_right (by omega))
def growM (m : Mp) : Mp := if 1024 < m.n + 2 ^ m.o then m else { resizeM m (m.n + 2 ^ m.o) with pg := runP (resizeM m (m.n + 2 ^ m.o)).pg m.n m.o 2 }
theorem dv_add {n o : Nat} (h : ∃ r, n = r * 2 ^ o) : ∃ r, n + 2 ^ o = r * 2 ^ o := by
  obtain ⟨r, hr⟩ := h
  exact ⟨r + 1, by rw [hr, Nat.add_mul, Nat.one_mul]⟩
theorem dv_mod {n o : Nat} (h : ∃ r, n = r * 2 ^ o) : n % 2 ^ o = 0 := by
  obtain ⟨r, hr⟩ := h
  rw [hr]; exact Nat.mul_mod_left _ _
theorem From.refl (w : World) (b : Nat) (B : Bs) (o : Nat) : From w b B B o := fun _ h => .inl h
end Go.Proofs.YthjokkihlodapaaGreat.H
