/- BitsKept. -/
import Derived.Test.YtahdjaocfejjeaaRel
import Derived.Test.YtahdjaocfejjeaaSrc
namespace Go.Proofs.Ytahdjaocfejjeaa
open Go.RowKit
set_option linter.unusedVariables false

theorem bits_mask (zs : List Nat) (N : Nat) (hz : ∀ i, zs.getD i 0 < 2 ^ 64) : ∀ j, N ≤ j → bit (ofW zs N) j = false := by
  intro j hj
  by_cases h2 : j / 64 < (N + 63) / 64
  · rw [bit_tb, ofW_get zs N (j / 64) hz h2, Nat.testBit_mod_two_pow]
    have : ¬ j % 64 < min 64 (N - 64 * (j / 64)) := by omega
    simp [this]
  · unfold bit
    have : (ofW zs N).getD (j / 64) 0 = 0 := by simp only [List.getD]; rw [List.getElem?_eq_none (by rw [ofW_len]; omega)]; rfl
    rw [this]; simp
theorem ofW_lt (zs : List Nat) (N : Nat) (hz : ∀ i, zs.getD i 0 < 2 ^ 64) (i : Nat) : (ofW zs N).getD i 0 < 2 ^ 64 := by
  by_cases h : i < (N + 63) / 64
  · rw [ofW_get zs N i hz h]; exact Nat.lt_of_le_of_lt (Nat.mod_le _ _) (hz i)
  · have : (ofW zs N).getD i 0 = 0 := by simp only [List.getD]; rw [List.getElem?_eq_none (by rw [ofW_len]; omega)]; rfl
    rw [this]; decide

/-- The words of a set as the document's own road tells them. -/
theorem refWordsOf (g c : Nat) (zs : List Nat) (N : Nat) (hz : ∀ i, zs.getD i 0 < 2 ^ 64) (w : World) (h : TrueAt w g (tOf zs N)) :
    Calls Try.prog 44 #[.slice (some ⟨g, 0, none⟩) N c] w fun e w' => e = .returned (.slice (some ⟨w.heap.size, 0, none⟩) (ofW zs N).length (ofW zs N).length) ∧ w'.heap[w.heap.size]? = some (.cells (wcells (ofW zs N)) 33 (0, 0)) ∧ Kept (fun _ => False) w w' ∧ w'.heap.size = w.heap.size + 1 :=
  refWords g c N (ofW zs N) w (by rw [← tOf_ofW zs N hz]; exact h) (ofW_len zs N) (ofW_ok zs N hz) (ofW_lt zs N hz)

/-- A block of words that is still there. -/
theorem block_kept {w w' : World} {g : Nat} {o : Obj} {S : Nat → Prop} (h : w.heap[g]? = some o) (k : Kept S w w') (hS : ¬ S g) : w'.heap[g]? = some o :=
  (k.block g (Array.getElem?_eq_some_iff.1 h).1 hS).trans h

theorem sameK (w : World) (g1 g2 c1 c2 : Nat) (zs : List Nat) (h1 : w.heap[g1]? = some (.cells (wcells zs) 33 (0, 0))) (h2 : w.heap[g2]? = some (.cells (wcells zs) 33 (0, 0)))
    (b1 : zs.length ≤ 1048576) (l1 : ∀ i, zs.getD i 0 < 2 ^ 64) :
    Calls Try.prog 24 #[.slice (some ⟨g1, 0, none⟩) zs.length c1, .slice (some ⟨g2, 0, none⟩) zs.length c2] w fun e w' => e = .returned (.bool true) ∧ Kept (fun _ => False) w w' := by
  refine (same_any w g1 g2 c1 c2 zs zs h1 h2 b1 b1 l1 l1).mono ?_
  rintro e w' ⟨rfl, n, rfl⟩
  exact ⟨by rw [decide_eq_true rfl], (Kept.refl _ _).drewN n⟩

/-- The first k words are 77. -/
def sev (ws : List Nat) (k : Nat) : List Nat := (List.range ws.length).map fun j => if j < k then 77 else ws.getD j 0
theorem sev_len (ws : List Nat) (k : Nat) : (sev ws k).length = ws.length := by simp [sev]
theorem sev_zero (ws : List Nat) : sev ws 0 = ws := by
  apply list_eq_getD
  · rw [sev_len]
  · intro i hi
    rw [sev_len] at hi
    simp [sev, List.getD, hi]
theorem sev_full (ws : List Nat) : sev ws ws.length = List.replicate ws.length 77 := by
  apply List.ext_getElem
  · simp [sev]
  · intro i h1 h2
    have : i < ws.length := by simpa [sev] using h1
    simp [sev, this]
theorem sev_step (ws : List Nat) (k : Nat) (h : k < ws.length) : (sev ws k).set k 77 = sev ws (k + 1) := by
  simp only [sev]
  apply List.ext_getElem
  · simp
  · intro i h1 h2
    simp only [List.getElem_set, List.getElem_map, List.getElem_range]
    by_cases e : k = i
    · subst e; simp
    · have : (i < k) ↔ (i < k + 1) := by omega
      simp [e, this]

theorem row_base {w : World} {base base' : Nat} {e : TypeId} {size : Nat} {v : Value} {n : Nat} {xs : List Value} (h : w.ownsRow base e size v n xs) (hb : base' ≤ base) : w.ownsRow base' e size v n xs := by
  obtain ⟨h1, h2⟩ := h
  refine ⟨h1, ?_⟩
  rcases h2 with h2 | ⟨g, cap, cur, hv, hg, r⟩
  · exact Or.inl h2
  · exact Or.inr ⟨g, cap, cur, hv, Nat.le_trans hb hg, r⟩
theorem kept_grown {w0 w w' : World} {row : Option Nat} (h : Kept (fun _ => False) w0 w) (hg : w.grownBy w' row) (hr : ∀ k, row = some k → w0.heap.size ≤ k) : Kept (fun _ => False) w0 w' :=
  ⟨hg.os.trans h.os, hg.tape.trans h.tape, hg.output.trans h.output, Nat.le_trans h.size hg.size, fun i hi _ => (hg.block i (Nat.lt_of_lt_of_le hi h.size) (fun e => by have := hr i e.symm; omega)).trans (h.block i hi (fun x => x))⟩

set_option maxHeartbeats 4000000 in
theorem kept_any (v : Value) (zs : List Nat) (hzl : zs.length ≤ 9223372036854775807) (n : Int) (hlo : -9223372036854775808 ≤ n) (hhi : n ≤ 9223372036854775807) (w : World) (hs : Src w v zs) :
    Calls Try.prog 8 #[v, .int .i64 n] w fun e w' => e = .returned (.bool true) ∧ Below w.heap.size w w' := by
  have HS := hid hs
  have hN := fit_le n
  clear hs
  go_enter Try.func8, Try.ntmps8
  go_wp2_with fail
  refine (awake_any _).mono ?_
  rintro e w1 ⟨rfl, hk1⟩
  have HK1 := hid hk1
  have HS1 := hid (HS.out.kept hk1 (fun _ _ x => x))
  clear hk1
  go_wp2_with fail
  refine (of_any v zs n hlo hhi _ HS1.out).mono ?_
  rintro e w2 ⟨rfl, hA, hk, hsz⟩
  have HA2 := hid hA
  have HS2 := hid (HS1.out.kept hk (fun _ _ x => x))
  have HK2 := hid (HK1.out.trans (U := fun _ => False) hk (fun _ _ x => x) (fun _ _ x => x))
  have HZ2 := hid hsz
  clear hA hk hsz
  go_wp2_with fail
  refine (words_any _ _ _ _ _ HA2.out).mono ?_
  rintro e w3 ⟨rfl, hg, hk, hsz⟩
  have HG3 := hid hg
  have HA3 := hid (HA2.out.kept hk (fun x => x) (fun x => x))
  have HS3 := hid (HS2.out.kept hk (fun _ _ x => x))
  have HK3 := hid (HK2.out.trans (U := fun _ => False) hk (fun _ _ x => x) (fun _ _ x => x))
  have HZ3 := hid hsz
  clear hg hk hsz
  go_wp2_with fail
  refine (words_any _ _ _ _ _ HA3.out).mono ?_
  rintro e w4 ⟨rfl, hg, hk, hsz⟩
  have HH4 := hid hg
  have HG4 := hid (block_kept HG3.out hk (fun x => x))
  have HA4 := hid (HA3.out.kept hk (fun x => x) (fun x => x))
  have HS4 := hid (HS3.out.kept hk (fun _ _ x => x))
  have HK4 := hid (HK3.out.trans (U := fun _ => False) hk (fun _ _ x => x) (fun _ _ x => x))
  have HZ4 := hid hsz
  clear hg hk hsz
  go_wp2_with fail
  refine (refOf v zs hzl n _ HS4.out).mono ?_
  rintro e w5 ⟨rfl, hT, hk, hsz⟩
  have HT5 := hid hT
  have HH5 := hid (block_kept HH4.out hk (fun x => x))
  have HG5 := hid (block_kept HG4.out hk (fun x => x))
  have HA5 := hid (HA4.out.kept hk (fun x => x) (fun x => x))
  have HK5 := hid (HK4.out.trans (U := fun _ => False) hk (fun _ _ x => x) (fun _ _ x => x))
  have HZ5 := hid hsz
  clear hT hk hsz
  go_wp2_with fail
  refine (refWordsOf _ _ zs (fit n) HS.out.1 _ HT5.out).mono ?_
  rintro e w6 ⟨rfl, hg, hk, hsz⟩
  have HQ6 := hid hg
  have HH6 := hid (block_kept HH5.out hk (fun x => x))
  have HG6 := hid (block_kept HG5.out hk (fun x => x))
  have HA6 := hid (HA5.out.kept hk (fun x => x) (fun x => x))
  have HK6 := hid (HK5.out.trans (U := fun _ => False) hk (fun _ _ x => x) (fun _ _ x => x))
  have HZ6 := hid hsz
  have HZS := hid HS.out.1
  have HZW := hid HK1.out.size
  clear hg hk hsz HS1 HS2 HS3 HS4 HA2 HA3 HA4 HA5 HG3 HG4 HG5 HH4 HH5 HT5 HK1 HK2 HK3 HK4 HK5 HS
  obtain ⟨ws, hws⟩ : ∃ ws, ws = ofW zs (fit n) := ⟨_, rfl⟩
  have hwl := ofW_len zs (fit n)
  have hlt := ofW_lt zs (fit n) HZS.out
  rw [← hws] at hwl hlt
  rw [← hws] at HA6 HG6 HH6 HQ6 ⊢
  have hlb : ws.length ≤ 1048576 := by omega
  have hdec : decide (ws = ws) = true := decide_eq_true rfl
  clear hws hwl
  go_wp2_with fail
  refine (sameK _ _ _ _ _ ws HG6.out HQ6.out hlb hlt).mono ?_
  rintro e w7 ⟨rfl, hk⟩
  have HQ7 := hid (block_kept HQ6.out hk (fun x => x))
  have HH7 := hid (block_kept HH6.out hk (fun x => x))
  have HG7 := hid (block_kept HG6.out hk (fun x => x))
  have HA7 := hid (HA6.out.kept hk (fun x => x) (fun x => x))
  have HK7 := hid (HK6.out.trans (U := fun _ => False) hk (fun _ _ x => x) (fun _ _ x => x))
  clear hk HQ6 HH6 HG6 HA6 HK6
  go_wp2_with fail
  refine (sameK _ _ _ _ _ ws HH7.out HQ7.out hlb hlt).mono ?_
  rintro e w8 ⟨rfl, hk⟩
  have HQ8 := hid (block_kept HQ7.out hk (fun x => x))
  have HH8 := hid (block_kept HH7.out hk (fun x => x))
  have HG8 := hid (block_kept HG7.out hk (fun x => x))
  have HA8 := hid (HA7.out.kept hk (fun x => x) (fun x => x))
  have HK8 := hid (HK7.out.trans (U := fun _ => False) hk (fun _ _ x => x) (fun _ _ x => x))
  have HZ := hid (show w2.heap.size = w1.heap.size + 2 ∧ w3.heap.size = w2.heap.size + 1 ∧ w4.heap.size = w3.heap.size + 1 ∧ w5.heap.size = w4.heap.size + 1 ∧ w6.heap.size = w5.heap.size + 1 ∧ w.heap.size ≤ w2.heap.size from ⟨HZ2.out, HZ3.out, HZ4.out, HZ5.out, HZ6.out, by have := HZW.out; have := HZ2.out; omega⟩)
  clear hk HQ7 HH7 HG7 HA7 HK7 HZ2 HZ3 HZ4 HZ5 HZ6 HZW
  go_wp2_with fail
  go_loopw [9] (fun i wr => ∃ k : Nat, k ≤ ws.length ∧ i = .int .i64 k ∧ Hid (wr.heap[w2.heap.size]? = some (.cells (wcells (sev ws k)) 33 (0, 0))) ∧ Hid (Kept (fun x => x = w2.heap.size) w8 wr)) (fun i _ => ws.length - (intOf i).toNat)
  case atStart => exact ⟨0, by omega, rfl, by rw [sev_zero]; exact HG8, Kept.refl _ _⟩
  case round =>
    obtain ⟨k, hk, rfl, hG, hK⟩ := hrel
    by_cases hlt2 : k < ws.length
    · have hc := word_cell hG.out k (by rw [sev_len]; exact hlt2)
      have hf := block_fro hG.out k
      obtain ⟨old, hold⟩ : ∃ old, old = (sev ws k).getD k 0 := ⟨_, rfl⟩
      rw [← hold] at hc
      have FIN := hid (show (wr.setCell ⟨w2.heap.size, k, none⟩ (.int .u64 77)).heap[w2.heap.size]? = some (.cells (wcells (sev ws (k + 1))) 33 (0, 0)) ∧ Kept (fun x => x = w2.heap.size) w8 (wr.setCell ⟨w2.heap.size, k, none⟩ (.int .u64 77)) from ⟨by rw [← sev_step ws k hlt2]; exact block_write hG.out k 77, hK.out.setCell (p := ⟨w2.heap.size, k, none⟩) rfl _⟩)
      have hik : (k : Int) < (ws.length : Int) := by omega
      clear hold hG hK
      go_wp2
      go_roundw
      case rel => exact ⟨k + 1, by omega, by go_num, FIN.out.1, FIN.out.2⟩
      case measure => simp [intOf]; omega
    · obtain ⟨w9, rfl⟩ : ∃ w9, w9 = wr := ⟨_, rfl⟩
      have hkl : k = ws.length := by omega
      subst hkl
      have G9 := hid (show w9.heap[w2.heap.size]? = some (.cells (wcells (List.replicate ws.length 77)) 33 (0, 0)) by have := hG.out; rw [sev_full] at this; exact this)
      have Q9 := hid (block_kept HQ8.out hK.out (fun e => by have := HZ.out; omega))
      have H9 := hid (block_kept HH8.out hK.out (fun e => by have := HZ.out; omega))
      have A9 := hid (HA8.out.kept hK.out (fun e => by have := HZ.out; omega) (fun e => by have := HZ.out; omega))
      have B9 := hid ((HK8.out.below (Nat.le_refl _) (fun _ h => h.elim)).trans (hK.out.below HK8.out.size (fun x e => by have := HZ.out; omega)))
      clear hG hK HQ8 HH8 HG8 HA8 HK8
      obtain ⟨i0, hi0, hz0, hz1, hz2⟩ := info_parts info_u64
      have hlen77 : (List.replicate ws.length (Value.int .u64 77)).length = ws.length * 1 := by simp
      have holds : ∀ (W : World), W.heap[w2.heap.size]? = some (.cells (wcells (List.replicate ws.length 77)) 33 (0, 0)) → ∀ (b : Addr), some (⟨w2.heap.size, 0, none⟩ : Addr) = some b → ∀ j u, (List.replicate ws.length (Value.int .u64 77))[j]? = some u → W.cell? (b.add j) = some u := by
        intro W hW b hb j u hj
        obtain rfl := Option.some.inj hb
        have hjl : j < ws.length := by
          have := (List.getElem?_eq_some_iff.1 hj).1
          simpa using this
        rw [Addr.add_lit, Nat.zero_add, word_cell hW j (by simpa using hjl)]
        rw [List.getElem?_replicate, if_pos hjl] at hj
        rw [← hj]
        simp [List.getD, hjl]
      have HO := hid holds
      clear holds
      go_wp2_with fail
      go_loopw [10, 11] (fun gv i wr => ∃ k : Nat, k ≤ 5 ∧ i = .int .i64 k ∧ Hid (Kept (fun _ => False) w9 wr) ∧ Hid ((k = 0 ∧ gv = .slice (some ⟨w2.heap.size, 0, none⟩) ws.length ws.length) ∨ (1 ≤ k ∧ ∃ xs, wr.ownsRow w9.heap.size 33 1 gv (ws.length + k) xs))) (fun _ i _ => 5 - (intOf i).toNat)
      case atStart => exact ⟨0, by omega, rfl, Kept.refl _ _, Or.inl ⟨rfl, rfl⟩⟩
      case round =>
        obtain ⟨k, hk, rfl, hK, hor⟩ := hrel
        by_cases hlt5 : k < 5
        · rcases hor.out with ⟨rfl, rfl⟩ | ⟨hk1, xs, hown⟩
          · have G1 := block_kept G9.out (hK.out.alloc (.cells #[.int .u64 77] 33)) (fun x => x)
            have HG1 := hid G1
            clear G1 hor
            go_wp2_with (at_builtin; refine wpList_append_grows _ rfl _ _ 41 rfl 33 i0 (.int .u64 0) 1 8 Try.underlying41 hi0 hz0 hz1 hz2 rfl (by decide) (some ⟨w2.heap.size, 0, none⟩) ws.length ws.length (List.replicate ws.length (Value.int .u64 77)) rfl (fun h => by cases h) hlen77 (HO.out _ HG1.out) ⟨wr.heap.size, 0, none⟩ 1 1 [.int .u64 77] rfl rfl (cell_one_new _ _ _) (by simp [Value.oneCell']) (by omega) (by unfold maxLen; omega) (by omega) ?_; intro v' w' hown' hgrow)
            go_roundw
            case rel => exact ⟨1, by omega, rfl, kept_grown (hK.out.alloc _) hgrow (fun k h => by cases h), Or.inr ⟨by omega, _, row_base hown' (by have := hK.out.size; simp; omega)⟩⟩
            case measure => simp [intOf]
          · have HOW := hid hown
            have hbs := hid (show w9.heap.size ≤ (wr.alloc (.cells #[.int .u64 77] 33)).heap.size by have := hK.out.size; simp; omega)
            clear hown hor
            go_wp2_with (at_builtin; refine wpList_append_own _ rfl _ _ 41 rfl w9.heap.size 33 i0 (.int .u64 0) 1 8 Try.underlying41 hi0 hz0 hz1 hz2 rfl (by decide) _ _ _ rfl (HOW.out.alloc _) ⟨wr.heap.size, 0, none⟩ 1 1 [.int .u64 77] rfl rfl (cell_one_new _ _ _) (by simp [Value.oneCell']) (by unfold maxLen; omega) (by omega) hbs.out ?_; intro v' w' hown' hgrow hnil; have HOW' := hid hown'; have HGR := hid hgrow; clear hown' hgrow hnil)
            go_roundw
            case rel => exact ⟨k + 1, by omega, by go_num, kept_grown (hK.out.alloc _) HGR.out (fun j h => (HOW.out.lt j h).1), Or.inr ⟨by omega, _, HOW'.out⟩⟩
            case measure => simp [intOf]; omega
        · obtain ⟨w10, rfl⟩ : ∃ w10, w10 = wr := ⟨_, rfl⟩
          have hk5 : k = 5 := by omega
          subst hk5
          have hform : ∃ g' cap', u10 = .slice (some ⟨g', 0, none⟩) (ws.length + 5) cap' := by
            rcases hor.out with ⟨e, _⟩ | ⟨_, xs, h1, h2⟩
            · cases e
            · rcases h2 with ⟨_, e⟩ | ⟨g', cap', cur, hv, _⟩
              · omega
              · exact ⟨g', cap', hv⟩
          obtain ⟨g', cap', rfl⟩ := hform
          have Q10 := hid (block_kept Q9.out hK.out (fun x => x))
          have H10 := hid (block_kept H9.out hK.out (fun x => x))
          have G10 := hid (block_kept G9.out hK.out (fun x => x))
          have A10 := hid (A9.out.kept hK.out (fun x => x) (fun x => x))
          have B10 := hid (B9.out.trans (hK.out.below B9.out.size (fun _ h => h.elim)))
          clear hor hK Q9 H9 G9 A9 HO
          go_wp2_with fail
          refine (sameK _ _ _ _ _ ws H10.out Q10.out hlb hlt).mono ?_
          rintro e w11 ⟨rfl, hk⟩
          have Q11 := hid (block_kept Q10.out hk (fun x => x))
          have G11 := hid (block_kept G10.out hk (fun x => x))
          have A11 := hid (A10.out.kept hk (fun x => x) (fun x => x))
          have B11 := hid (B10.out.trans (hk.below B10.out.size (fun _ h => h.elim)))
          clear hk H10 Q10 G10 A10
          go_wp2_with fail
          refine (words_any _ _ _ _ _ A11.out).mono ?_
          rintro e w12 ⟨rfl, hg, hk, hsz⟩
          have W12 := hid hg
          have Q12 := hid (block_kept Q11.out hk (fun x => x))
          have G12 := hid (block_kept G11.out hk (fun x => x))
          have B12 := hid (B11.out.trans (hk.below B11.out.size (fun _ h => h.elim)))
          clear hg hk hsz Q11 G11 A11
          go_wp2_with fail
          refine (sameK _ _ _ _ _ ws W12.out Q12.out hlb hlt).mono ?_
          rintro e w13 ⟨rfl, hk⟩
          have G13 := hid (block_kept G12.out hk (fun x => x))
          have B13 := hid (B12.out.trans (hk.below B12.out.size (fun _ h => h.elim)))
          clear hk W12 Q12 G12
          go_wp2_with fail
          go_loop [12] (fun i => ∃ k : Nat, k ≤ ws.length ∧ i = .int .i64 k) (fun i => ws.length - (intOf i).toNat)
          case atStart => exact ⟨0, by omega, rfl⟩
          case round =>
            obtain ⟨k, hk, rfl⟩ := hrel
            by_cases hlt3 : k < ws.length
            · have hc := word_cell G13.out k (by simpa using hlt3)
              have e77 : (List.replicate ws.length 77).getD k 0 = 77 := by simp [List.getD, hlt3]
              rw [e77] at hc
              have hc2 : w13.cell? ⟨w2.heap.size, k, none⟩ = some (.int .u64 77) := hc
              have hik : (k : Int) < (ws.length : Int) := by omega
              clear hc e77
              go_wp2
              go_round
              case rel => exact ⟨k + 1, by omega, by go_num⟩
              case measure => simp [intOf]; omega
            · go_wp2
              go_ret
              exact ⟨rfl, B13.out⟩
end Go.Proofs.Ytahdjaocfejjeaa
