/- croftref4: Words, SameWords. -/
import Derived.Test.YtbhheimedbfmeaaRfD
import Derived.Test.YtbhheimedbfmeaaSam
namespace Go.Proofs.Ytbhheimedbfmeaa
open Go.RowKit
set_option linter.unusedVariables false

theorem word_cellR {w : World} {g : Nat} {zs : List Nat} (hg : w.heap[g]? = some (.cells (wcells zs) 27 (0, 0))) (i : Nat) (hi : i < zs.length) : w.cell? ⟨g, i, none⟩ = some (.int .u64 ((zs.getD i 0 : Nat) : Int)) := by
  simp [World.cell?, hg, wcells, hi]
theorem bit_int (i : Int) (n : Nat) (hi : i = (n : Int)) (hn : n ≤ 100000) (w : World) :
    Calls Try.prog 50 #[.int .i64 i] w fun e w' => e = .returned (.int .u64 ((2 ^ (n % 64) : Nat) : Int)) ∧ w' = w := by
  rw [hi]
  exact bit_ref n hn w
set_option maxRecDepth 4000 in
set_option maxHeartbeats 1000000 in
theorem Words_ref (g n : Nat) (ws : List Nat) (w : World) (h : InB w g n (bit ws)) (hn : n ≤ 1024) (hl : ws.length = (n + 63) / 64) (ok : ∀ i, i < ws.length → ws.getD i 0 < 2 ^ (min 64 (n - 64 * i))) (hz : ∀ i, ws.getD i 0 < 2 ^ 64) :
    Calls Try.prog 67 #[.slice (some ⟨g, 0, none⟩) n n] w fun e w' => e = .returned (.slice (some ⟨w.heap.size, 0, none⟩) ws.length ws.length) ∧ w'.heap[w.heap.size]? = some (.cells (wcells ws) 27 (0, 0)) ∧ Kept none' w w' ∧ w'.heap.size = w.heap.size + 1 := by
  obtain ⟨m, hm⟩ : ∃ m, m = (n + 63) / 64 := ⟨_, rfl⟩
  have hmi : ((n : Int) + 63) / 64 = (m : Int) := by omega
  have hml : m ≤ 1048576 := by omega
  obtain ⟨w1, hmk, hg1, hk1, hs1⟩ := make_own m hml w
  have hwm : ws.length = m := by omega
  have hfull : partW ws m n = ws := by rw [hm]; exact partW_full ws n hl ok
  rw [hwm]
  have HA := hid h
  have HG1 := hid hg1
  have HK1 := hid hk1
  have HS1 := hid hs1
  have HM := hid hm
  have HFU := hid hfull
  have HZ := hid hz
  clear h hg1 hk1 hs1 hm hl ok hwm hfull hz
  go_enter Try.func67, Try.ntmps67
  go_wp2
  go_loopw [4] (fun i wr => ∃ k : Nat, k ≤ n ∧ i = .int .i64 k ∧ Hid (wr.heap[w.heap.size]? = some (.cells (wcells (partW ws m k)) 27 (0, 0))) ∧ Hid (Kept none' w wr) ∧ Hid (wr.heap.size = w.heap.size + 1)) (fun i _ => n - (intOf i).toNat)
  case atStart => exact ⟨0, by omega, rfl, by rw [partW_zero]; exact HG1, HK1, HS1⟩
  case round =>
    obtain ⟨k, hk, rfl, hG, hK, hS⟩ := hrel
    clear hmk hmi
    by_cases hlt : k < n
    · have hc := (HA.out.kept hK.out (fun x => x)).cell k hlt
      have hi1 : (k : Int) < (n : Int) := by omega
      cases hb : bit ws k with
      | false =>
        rw [hb] at hc
        have E := hid (partW_no ws m k HZ.out hb)
        clear hb
        go_wp2
        go_roundw
        case rel => exact ⟨k + 1, by omega, by go_num, by rw [E.out]; exact hG, hK, hS⟩
        case measure => simp [intOf]; omega
      | true =>
        rw [hb] at hc
        obtain ⟨q, hq⟩ : ∃ q, q = k / 64 := ⟨_, rfl⟩
        obtain ⟨r, hr⟩ : ∃ r, r = k % 64 := ⟨_, rfl⟩
        have hqm : q < m := by have := HM.out; omega
        have E := partW_yes ws m k HZ.out (by rw [← hq]; exact hqm) hb
        rw [← hq, ← hr] at E
        have hxc := word_cellR hG.out q (by rw [partW_len]; exact hqm)
        have hxf := block_fro hG.out q
        have hxl := partW_lt ws m k HZ.out q
        have hzl := partW_lt ws m (k + 1) HZ.out q
        rw [E, getD_set_same _ _ _ (by rw [partW_len]; exact hqm)] at hzl
        obtain ⟨x, hx⟩ : ∃ x, x = (partW ws m k).getD q 0 := ⟨_, rfl⟩
        rw [← hx] at E hxc hxl hzl
        obtain ⟨p2, hp2⟩ : ∃ p2, p2 = 2 ^ r := ⟨_, rfl⟩
        have HP2 := hid (show 2 ^ (k % 64) = p2 by rw [hp2, hr])
        obtain ⟨z, hzd⟩ : ∃ z, z = x + 2 ^ r := ⟨_, rfl⟩
        rw [← hzd] at E hzl
        have hq1 : (k : Int) / 64 = (q : Int) := by omega
        have hadd : (x : Int) + (p2 : Int) = (z : Int) := by rw [hzd, hp2]; simp
        have hzw : IntKind.u64.wrap (z : Int) = (z : Int) := by rw [wrap_u64]; omega
        have hqb : q ≤ 1048576 := by omega
        have hkb : k ≤ 1048576 := by omega
        have hqw : IntKind.i64.wrap (q : Int) = (q : Int) := by rw [IntKind.wrap_i64]; omega
        have hqi : (q : Int) < (m : Int) := by omega
        have FIN := hid (show ((wr.setCell ⟨w.heap.size, q, none⟩ (.int .u64 (z : Int))).drew).heap[w.heap.size]? = some (.cells (wcells (partW ws m (k + 1))) 27 (0, 0)) ∧ Kept none' w (wr.setCell ⟨w.heap.size, q, none⟩ (.int .u64 (z : Int))).drew ∧ (wr.setCell ⟨w.heap.size, q, none⟩ (.int .u64 (z : Int))).drew.heap.size = w.heap.size + 1 from ⟨by rw [E]; exact block_write hG.out q z, (hK.out.setNew (p := ⟨w.heap.size, q, none⟩) (fun e => absurd e (Nat.lt_irrefl _)) _).drew, by show (wr.setCell _ _).heap.size = _; simp; exact hS.out⟩)
        clear hb hq hr hx hzd E hG hK hS hp2
        go_wp2
        go_region_with (go_at_call 50; refine (bit_int _ k (by omega) (by omega) _).mono ?_; rintro e w2 ⟨rfl, rfl⟩; rw [HP2.out])
        all_goals go_wp2
        all_goals
          go_roundw
          case rel => exact ⟨k + 1, by omega, by go_num, FIN.out.1, FIN.out.2.1, FIN.out.2.2⟩
          case measure => simp [intOf]; omega
    · have hi1 : ¬ (k : Int) < (n : Int) := by omega
      obtain rfl : k = n := by omega
      rw [HFU.out] at hG
      go_wp2
      go_ret
      exact ⟨rfl, hG.out, hK.out, hS.out⟩
set_option maxRecDepth 4000 in
set_option maxHeartbeats 1000000 in
/-- The pairs' words that a map told are those of the document's own map. -/
theorem SameWords_ref (g : Option Nat) (cp : Nat) (q : Value) (R : Nat → Nat) (m : Mp) (gq : Nat) (D : Nat → Nat) (w : World) (h : RefAt w g cp q R m) (hq : ∀ k, k < m.o → w.cell? ⟨gq, k, none⟩ = some (.slice (some ⟨D k, 0, none⟩) (m.wd k).length (m.wd k).length)) (hd : ∀ k, k < m.o → w.heap[D k]? = some (.cells (wcells (m.wd k)) 27 (0, 0)))
    (hl : ∀ k, k < m.o → (m.wd k).length = (ln m.n k + 63) / 64) (ok : ∀ k, k < m.o → ∀ i, i < (m.wd k).length → (m.wd k).getD i 0 < 2 ^ (min 64 (ln m.n k - 64 * i))) (hz : ∀ k, k < m.o → ∀ i, (m.wd k).getD i 0 < 2 ^ 64) :
    Calls Try.prog 47 #[.slice (some ⟨gq, 0, none⟩) m.o m.o, rv m.o g m.n cp q] w fun e w' => e = .returned (.bool true) ∧ Kept none' w w' := by
  have K0 := hid (box_new w m.o g m.n cp q).1
  have X0 := hid (box_new w m.o g m.n cp q).2
  have HR := hid h
  have HQ := hid hq
  have HD := hid hd
  have HL := hid hl
  have HOK := hid ok
  have HZ := hid hz
  have ho8 := h.o8
  have NL := hid (show ∀ k, ln m.n k ≤ 1024 from fun k => Nat.le_trans (Nat.div_le_self _ _) h.n1)
  obtain ⟨qa, qc, hqv⟩ : ∃ qa qc, q = .slice qa m.o qc := by
    rcases h.pr.2 with ⟨rfl, h0⟩ | ⟨g', cap, cur, rfl, _⟩
    · exact ⟨none, 0, by rw [h0]⟩
    · exact ⟨_, cap, rfl⟩
  subst hqv
  clear h hq hd hl ok hz
  go_enter Try.func47, Try.ntmps47
  go_wp2_with fail
  go_loopw [5] (fun i W => ∃ k : Nat, k ≤ m.o ∧ i = .int .i64 k ∧ Hid (Kept none' w W ∧ W.heap[w.heap.size]? = some (ro m.o g m.n cp (.slice qa m.o qc)))) (fun i _ => m.o - (intOf i).toNat)
  case atStart => exact ⟨0, by omega, rfl, ⟨K0.out, X0.out⟩⟩
  case round =>
    clear K0 X0
    obtain ⟨k, hk, rfl, hX⟩ := hrel
    by_cases hlt : k < m.o
    · have hki : (k : Int) < (m.o : Int) := by omega
      obtain ⟨c0, c1, c2⟩ := box3 hX.out.2
      have RW := hid (HR.out.keep hX.out.1)
      obtain ⟨g', cap', e1, e2⟩ := RW.out.pcell k hlt
      obtain ⟨rfl, rfl⟩ : qa = some ⟨g', 0, none⟩ ∧ qc = cap' := by simpa using e1
      have hn := NL.out k
      have hlk := HL.out k hlt
      have hln : (m.wd k).length ≤ 16 := by omega
      obtain ⟨l, hl⟩ : ∃ l, l = ln m.n k := ⟨_, rfl⟩
      replace e2 : wr.cell? ⟨g', k, none⟩ = some (.slice (some ⟨R k, 0, none⟩) l l) := by rw [hl]; exact e2
      have WC := hid (Words_ref (R k) l (m.wd k) wr (by rw [hl]; exact RW.out.bs k hlt) (by rw [hl]; exact hn) (by rw [hl]; exact hlk) (by rw [hl]; exact HOK.out k hlt) (HZ.out k hlt))
      clear e1 hl hlk hn
      go_wp2_with fail
      refine WC.out.mono ?_
      rintro e w2 ⟨rfl, hw, hK, hs⟩
      have X2 := hid (And.intro (none_trans hX.out.1 hK) ((hK.block _ (heap_lt hX.out.2) (fun x => x)).trans hX.out.2))
      obtain ⟨S, hS⟩ : ∃ S, S = wr.heap.size := ⟨_, rfl⟩
      rw [← hS] at hw ⊢
      have HW := hid hw
      have EC := hid (fun W (k2 : Kept none' w2 W) => And.intro ((none_trans X2.out.1 k2).cell (fun x => x) (HQ.out k hlt)) (fun i (hi : i < (m.wd k).length) => And.intro (word_cellR ((k2.block _ (heap_lt hw) (fun x => x)).trans hw) i hi) (word_cellR (((none_trans X2.out.1 k2).block _ (heap_lt (HD.out k hlt)) (fun x => x)).trans (HD.out k hlt)) i hi)))
      clear hw hK hs hS hX c0 c1 c2 e2 RW WC
      obtain ⟨a1, a2⟩ := EC.out w2 (Kept.refl none' w2)
      clear a2
      generalize hzl : (m.wd k).length = zl at *
      clear hzl
      go_wp2_with fail
      go_loopw [7] (fun i W => ∃ j : Nat, j ≤ zl ∧ i = .int .i64 j ∧ Hid (∃ q, W = w2.drewN q)) (fun i _ => zl - (intOf i).toNat)
      case atStart => exact ⟨0, by omega, rfl, ⟨0, rfl⟩⟩
      case round =>
        clear a1
        obtain ⟨j, hj, rfl, hQ⟩ := hrel
        have kk : Kept none' w2 wr := by obtain ⟨q, hq⟩ := hQ.out; rw [hq]; exact (Kept.refl none' w2).drewN q
        by_cases hlt3 : j < zl
        · have hji : (j : Int) < (zl : Int) := by omega
          obtain ⟨a1, a2⟩ := EC.out wr kk
          obtain ⟨a3, a4⟩ := a2 j hlt3
          clear a2 kk
          go_wp2_with fail
          go_quiet (fail)
          go_wp2_with fail
          exact ⟨⟨j + 1, by omega, by simp, by obtain ⟨q, hq⟩ := hQ.out; exact ⟨q + nq, by rw [hq]; exact drewN_add w2 q nq⟩⟩, by simp [intOf]; omega⟩
        · have hji : ¬ (j : Int) < (zl : Int) := by omega
          have X3 := hid (And.intro (none_trans X2.out.1 kk) ((kk.block _ (heap_lt X2.out.2) (fun x => x)).trans X2.out.2))
          clear kk hQ
          go_wp2_with fail
          exact ⟨⟨k + 1, by omega, by simp, X3⟩, by simp [intOf]; omega⟩
    · have hki : ¬ (k : Int) < (m.o : Int) := by omega
      go_wp2_with fail
      go_ret
      exact ⟨rfl, hX.out.1⟩
end Go.Proofs.Ytbhheimedbfmeaa
