import Derived.Test.YthomkkboeldgnaaGreatRxR
import Derived.Test.YthomkkboeldgnaaGreatRea
import Derived.Test.YthomkkboeldgnaaGreatRgL
import Derived.Deep.QuietTactic
import Derived.BigQuiet
/- RegionExact: the book of spans; meets, full. -/
namespace Go.Proofs.YthomkkboeldgnaaGreat
open Go.RowKit
set_option linter.unusedVariables false

/-- The spans as cells: live blocks, and what was written into them last. -/
def spn (b : Nat) : List (Nat × Nat) → List Value → List Value
  | r :: l, d :: m => .int .u64 ((b + 4096 * r.1 : Nat) : Int) :: .int .u64 ((4096 * 2 ^ r.2 : Nat) : Int) :: .int .i64 (r.2 : Int) :: d :: spn b l m
  | _, _ => []
theorem spn_len (b : Nat) : ∀ (l : List (Nat × Nat)) (m : List Value), m.length = l.length → (spn b l m).length = l.length * 4
  | [], m, h => by rw [List.length_nil, Nat.zero_mul]; cases m <;> rfl
  | r :: l, [], h => by cases h
  | r :: l, d :: m, h => by
    rw [spn, List.length_cons, List.length_cons, List.length_cons, List.length_cons, spn_len b l m (by simpa using h), List.length_cons]
    omega
theorem spn_get (b : Nat) : ∀ (l : List (Nat × Nat)) (m : List Value) (i : Nat), m.length = l.length → i < l.length → (spn b l m)[i * 4]? = some (.int .u64 ((b + 4096 * (l.getD i (0, 0)).1 : Nat) : Int)) ∧ (spn b l m)[i * 4 + 1]? = some (.int .u64 ((4096 * 2 ^ (l.getD i (0, 0)).2 : Nat) : Int)) ∧ (spn b l m)[i * 4 + 2]? = some (.int .i64 ((l.getD i (0, 0)).2 : Int)) ∧ (spn b l m)[i * 4 + 3]? = some (m.getD i (.slice none 0 0))
  | [], m, i, h, hi => absurd hi (Nat.not_lt_zero _)
  | r :: l, [], i, h, hi => by cases h
  | r :: l, d :: m, 0, h, hi => ⟨rfl, rfl, rfl, rfl⟩
  | r :: l, d :: m, i + 1, h, hi => by
    have := spn_get b l m i (by simpa using h) (by simpa using hi)
    rw [spn, show (i + 1) * 4 = i * 4 + 1 + 1 + 1 + 1 by omega, show i * 4 + 1 + 1 + 1 + 1 + 1 = i * 4 + 1 + 1 + 1 + 1 + 1 from rfl]
    exact this
theorem spn_app (b : Nat) : ∀ (l : List (Nat × Nat)) (m : List Value) (l2 : List (Nat × Nat)) (m2 : List Value), m.length = l.length → spn b (l ++ l2) (m ++ m2) = spn b l m ++ spn b l2 m2
  | [], [], l2, m2, h => rfl
  | [], d :: m, l2, m2, h => by cases h
  | r :: l, [], l2, m2, h => by cases h
  | r :: l, d :: m, l2, m2, h => by
    rw [List.cons_append, List.cons_append, spn, spn, spn_app b l m l2 m2 (by simpa using h)]
    rfl
/-- A row of spans. -/
def SPR (W : World) (b : Nat) (v : Value) (ls : List (Nat × Nat)) (dl : List Value) : Prop := dl.length = ls.length ∧ W.ownsRow 0 50 4 v ls.length (spn b ls dl)
theorem SPR.get {W b a ls c dl} (h : SPR W b (.slice a ls.length c) ls dl) {i : Nat} (hi : i < ls.length) : ∃ g, a = some ⟨g, 0, none⟩ ∧ W.cell? ⟨g, i * 4, none⟩ = some (.int .u64 ((b + 4096 * (ls.getD i (0, 0)).1 : Nat) : Int)) ∧ W.cell? ⟨g, i * 4 + 1, none⟩ = some (.int .u64 ((4096 * 2 ^ (ls.getD i (0, 0)).2 : Nat) : Int)) ∧ W.cell? ⟨g, i * 4 + 2, none⟩ = some (.int .i64 ((ls.getD i (0, 0)).2 : Int)) ∧ W.cell? ⟨g, i * 4 + 3, none⟩ = some (dl.getD i (.slice none 0 0)) := by
  obtain ⟨h1, h2, h3, h4⟩ := spn_get b ls dl i h.1 hi
  obtain ⟨g, hg, c1⟩ := own_get h.2 h1
  obtain ⟨g', hg', c2⟩ := own_get h.2 h2
  obtain ⟨g3, hg3, c3⟩ := own_get h.2 h3
  obtain ⟨g4, hg4, c4⟩ := own_get h.2 h4
  rw [hg] at hg' hg3 hg4
  injection hg' with e1
  injection hg3 with e2
  injection hg4 with e3
  injection e1 with e1
  injection e2 with e2
  injection e3 with e3
  subst e1 e2 e3
  exact ⟨g, hg, c1, c2, c3, c4⟩
theorem SPR.keep {W W' b v ls dl} (h : SPR W b v ls dl) (k : Kept none' W W') : SPR W' b v ls dl := ⟨h.1, own_kept h.2 k (fun _ _ e => e)⟩
/-- Does a stretch of pages meet a live block? -/
def mtL (ls : List (Nat × Nat)) (q j : Nat) : Bool := ls.any fun r => decide (q < r.1 + 2 ^ r.2) && decide (r.1 < q + 2 ^ j)
theorem mtL_iff {ls : List (Nat × Nat)} {q j : Nat} : mtL ls q j = true ↔ ∃ p k, (p, k) ∈ ls ∧ q < p + 2 ^ k ∧ p < q + 2 ^ j := by
  unfold mtL
  rw [List.any_eq_true]
  constructor
  · rintro ⟨⟨p, k⟩, h1, h2⟩
    rw [Bool.and_eq_true, decide_eq_true_iff, decide_eq_true_iff] at h2
    exact ⟨p, k, h1, h2⟩
  · rintro ⟨p, k, h1, h2⟩
    exact ⟨(p, k), h1, by rw [Bool.and_eq_true, decide_eq_true_iff, decide_eq_true_iff]; exact h2⟩
theorem mtL_take (l : List (Nat × Nat)) (q j : Nat) {i : Nat} (hi : i < l.length) : mtL (l.take (i + 1)) q j = (mtL (l.take i) q j || (decide (q < (l.getD i (0, 0)).1 + 2 ^ (l.getD i (0, 0)).2) && decide ((l.getD i (0, 0)).1 < q + 2 ^ j))) := by
  rw [take_nextP l hi]
  unfold mtL
  rw [List.any_append]
  simp
theorem mtL_mono (l : List (Nat × Nat)) (q j i : Nat) (h : mtL (l.take i) q j = true) : mtL l q j = true := by
  rw [mtL_iff] at h ⊢
  obtain ⟨p, k, h1, h2⟩ := h
  exact ⟨p, k, List.mem_of_mem_take h1, h2⟩
set_option maxRecDepth 4000 in
set_option maxHeartbeats 1000000 in
theorem meets6 (b : Nat) (hb : b ≤ 9223372036854775808) (va : Option Addr) (n vc : Nat) (ls : List (Nat × Nat)) (dl : List Value) (hn : n = ls.length) (hn2 : n ≤ 1024) (hL : ∀ p k, (p, k) ∈ ls → p ≤ 1024 ∧ k ≤ 8) (q j a z : Nat) (hq : q ≤ 1024) (hj : j ≤ 8) (ha : a = b + 4096 * q) (hz : z = 4096 * 2 ^ j) (w : World) (h : SPR w b (.slice va n vc) ls dl) :
    Calls Tryz.prog 9 #[.slice va n vc, .int .u64 (a : Int), .int .u64 (z : Int)] w fun e w' => e = .returned (.bool (mtL ls q j)) ∧ Kept none' w w' := by
  have H0 := hid h
  have HN := hid hn
  have HL := hid hL
  have hz9 : 2 ^ j ≤ 2 ^ 8 := Nat.pow_le_pow_right (by decide) hj
  have hz2 : z ≤ 1048576 := by omega
  have HA := hid ha
  have HZ := hid hz
  have hab : a ≤ 9223372036859019264 := by omega
  obtain ⟨MM, hMM⟩ : ∃ MM, MM = mtL ls q j := ⟨_, rfl⟩
  rw [← hMM]
  have HMM := hid hMM
  clear h hn hL hMM ha hz hz9
  go_enter Tryz.func9, Tryz.ntmps9
  go_wp2_with fail
  go_loopw [6, 7] (fun s6 s7 W => ∃ i : Nat, i ≤ n ∧ s7 = .int .i64 i ∧ Hid (mtL (ls.take i) q j = false ∧ Kept none' w W)) (fun _ i _ => n - (intOf i).toNat)
  case atStart => exact ⟨0, by omega, rfl, hid ⟨rfl, Kept.refl none' w⟩⟩
  case round =>
    obtain ⟨i, hi, rfl, hR⟩ := hrel
    have KD := hid (fun m => (Kept.refl none' wr).drewN m)
    have K1 := hid hR.out.2
    by_cases hlt : i < n
    · have hii : (i : Int) < (n : Int) := by omega
      have hil : i < ls.length := by rw [← HN.out]; exact hlt
      have h1 := H0.out.keep hR.out.2
      rw [HN.out] at h1
      obtain ⟨g, hg, r0, r1, _, _⟩ := h1.get hil
      subst hg
      have TK := hid (mtL_take ls q j hil)
      rw [hR.out.1, Bool.false_or] at TK
      have hm : ((ls.getD i (0, 0)).1, (ls.getD i (0, 0)).2) ∈ ls := getD_mem hil
      obtain ⟨l1, l2⟩ := HL.out _ _ hm
      clear h1 hm hil
      generalize ls.getD i (0, 0) = x at *
      obtain ⟨p, k⟩ := x
      dsimp only at *
      obtain ⟨c, hc⟩ : ∃ c, c = b + 4096 * p := ⟨_, rfl⟩
      obtain ⟨y, hy⟩ : ∃ y, y = 4096 * 2 ^ k := ⟨_, rfl⟩
      have hy9 : 2 ^ k ≤ 2 ^ 8 := Nat.pow_le_pow_right (by decide) l2
      have hy2 : y ≤ 1048576 := by omega
      have hcb : c ≤ 9223372036859019264 := by omega
      have E1 : (q < p + 2 ^ k) ↔ a < c + y := by have := HA.out; omega
      have E2 : (p < q + 2 ^ j) ↔ c < a + z := by have := HA.out; have := HZ.out; omega
      rw [← hc] at r0
      rw [← hy] at r1
      have TE := hid (And.intro E1 E2)
      clear hc hy hy9 E1 E2
      by_cases e1 : a < c + y
      · have e1i : (a : Int) < (c : Int) + (y : Int) := by omega
        by_cases e2 : c < a + z
        · have e2i : (c : Int) < (a : Int) + (z : Int) := by omega
          have MN := hid (show MM = true by rw [HMM.out]; exact mtL_mono ls q j (i + 1) (by rw [TK.out, decide_eq_true (TE.out.1.2 e1), decide_eq_true (TE.out.2.2 e2)]; rfl))
          go_wp2_with fail
          go_quiet (fail)
          go_wp2_with fail
          go_ret
          exact ⟨by rw [MN.out]; rfl, none_trans K1.out (KD.out _)⟩
        · have e2i : ¬ (c : Int) < (a : Int) + (z : Int) := by omega
          have MN := hid (show mtL (ls.take (i + 1)) q j = false ∧ Kept none' w wr from ⟨by rw [TK.out, decide_eq_false (fun e => e2 (TE.out.2.1 e)), Bool.and_false], K1.out⟩)
          go_wp2_with fail
          go_quiet (fail)
          go_wp2_with fail
          exact ⟨⟨i + 1, by omega, by simp, hid ⟨MN.out.1, none_trans MN.out.2 (KD.out _)⟩⟩, by simp [intOf]; omega⟩
      · have e1i : ¬ (a : Int) < (c : Int) + (y : Int) := by omega
        have e1d : decide ((a : Int) < (c : Int) + (y : Int)) = false := decide_eq_false e1i
        have e1l : (c : Int) + (y : Int) ≤ (a : Int) := by omega
        have MN := hid (show mtL (ls.take (i + 1)) q j = false ∧ Kept none' w wr from ⟨by rw [TK.out, decide_eq_false (fun e => e1 (TE.out.1.1 e)), Bool.false_and], K1.out⟩)
        go_wp2_with fail
        go_quiet (fail)
        go_wp2_with fail
        exact ⟨⟨i + 1, by omega, by simp, hid ⟨MN.out.1, none_trans MN.out.2 (KD.out _)⟩⟩, by simp [intOf]; omega⟩
    · obtain rfl : i = n := by omega
      have hii : ¬ (i : Int) < (i : Int) := by omega
      have MN := hid (show MM = false by
        have := hR.out.1
        rw [HN.out, List.take_length] at this
        rw [HMM.out, this])
      go_wp2_with fail
      go_ret
      exact ⟨by rw [MN.out]; rfl, K1.out⟩
end Go.Proofs.YthomkkboeldgnaaGreat
