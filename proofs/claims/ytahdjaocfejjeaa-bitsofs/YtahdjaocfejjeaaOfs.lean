/- BitsOfs. -/
import Derived.Test.YtahdjaocfejjeaaKept
namespace Go.Proofs.Ytahdjaocfejjeaa
open Go.RowKit
set_option linter.unusedVariables false

def cellsOf64 (zs : List Nat) : List Value := zs.map fun (x : Nat) => Value.int .u64 (x : Int)
theorem cellsOf64_snoc (zs : List Nat) (k : Nat) (h : k < zs.length) : cellsOf64 (zs.take k) ++ [Value.int .u64 ((zs.getD k 0 : Nat) : Int)] = cellsOf64 (zs.take (k + 1)) := by
  unfold cellsOf64
  rw [List.take_succ_eq_append_getElem h, List.map_append]
  simp [List.getD, h]

theorem src_owned {w : World} {base : Nat} {lv : Value} {zs : List Nat} (hz : ∀ i, zs.getD i 0 < 2 ^ 64) (h : w.ownsRow base 33 1 lv zs.length (cellsOf64 zs)) : Src w lv zs := by
  obtain ⟨h1, h2⟩ := h
  refine ⟨hz, ?_⟩
  rcases h2 with ⟨rfl, h0⟩ | ⟨g, cap, cur, rfl, hg, hh, hle, hm, hsz, htk⟩
  · exact ⟨none, 0, by rw [h0], Or.inl (List.eq_nil_of_length_eq_zero h0)⟩
  · refine ⟨some ⟨g, 0, none⟩, cap, rfl, Or.inr ⟨⟨g, 0, none⟩, rfl, (Array.getElem?_eq_some_iff.1 hh).1, fun j hj => ?_⟩⟩
    rw [Addr.add_lit, Nat.zero_add]
    have e : cur.toList[j]? = some (.int .u64 ((zs.getD j 0 : Nat) : Int)) := by
      have : (cur.toList.take (zs.length * 1))[j]? = (cellsOf64 zs)[j]? := by rw [htk]
      rw [List.getElem?_take, if_pos (by omega)] at this
      rw [this]
      simp [cellsOf64, List.getD, hj]
    simp only [World.cell?, hh]
    simpa using e

theorem Src.keptE {w w' : World} {S : Nat → Prop} {v : Value} {zs : List Nat} (h : Src w v zs) (k : Kept S w w') (hS : zs ≠ [] → ∀ b, v.ownBlock = some b → ¬ S b) : Src w' v zs := by
  by_cases h0 : zs = []
  · obtain ⟨h1, ao, cap, e, _⟩ := h
    exact ⟨h1, ao, cap, e, Or.inl h0⟩
  · exact h.kept k (hS h0)
theorem src_nil0 (w : World) : Src w (.slice none 0 0) [] := ⟨fun i => by simp, none, 0, rfl, Or.inl rfl⟩
theorem ofW_nil (N : Nat) : ofW [] N = zeros ((N + 63) / 64) := by
  apply list_eq_getD
  · rw [ofW_len, zeros_len]
  · intro i hi
    rw [ofW_len] at hi
    rw [ofW_get [] N i (fun i => by simp) hi, zeros_get]
    simp
theorem bit_zeros (m j : Nat) : bit (zeros m) j = false := by unfold bit; rw [zeros_get]; simp
theorem zeros_lt (m i : Nat) : (zeros m).getD i 0 < 2 ^ 64 := by rw [zeros_get]; decide

/-- Of the row that is written over: from k on it is as it was. -/
def RowR (zs : List Nat) (g : Nat) (lo : Option Addr) (k : Nat) (W : World) : Prop :=
  zs.length = 0 ∨ (lo = some ⟨g, 0, none⟩ ∧ ∃ cur : Array Value, W.heap[g]? = some (.cells cur 33 (0, 0)) ∧ ∀ j, k ≤ j → j < zs.length → cur[j]? = some (.int .u64 ((zs.getD j 0 : Nat) : Int)))

set_option maxHeartbeats 1000000 in
theorem ofs_any (v : Value) (zs : List Nat) (hzl : zs.length * 8 ≤ 140737488351232) (n : Int) (hlo : -9223372036854775808 ≤ n) (hhi : n ≤ 9223372036854775807) (w : World) (hs : Src w v zs) :
    Calls Try.prog 7 #[v, .int .i64 n] w fun e w' => e = .returned (.bool true) ∧ Below w.heap.size w w' := by
  have HS := hid hs
  have hN := fit_le n
  obtain ⟨hz, ao, vcap, rfl, hcells⟩ := hs
  have HC := hid hcells
  have HZ := hid hz
  have VB := hid (show ∀ b, (Value.slice ao zs.length vcap).ownBlock = some b → zs ≠ [] → b < w.heap.size from by
    intro b hb h0
    rcases hcells with e | ⟨a, e, hab, _⟩
    · exact absurd e h0
    · subst e
      have : a.block = b := by simpa [Value.ownBlock] using hb
      omega)
  clear hcells hz
  obtain ⟨i0, hi0, hz0, hz1, hz2⟩ := info_parts info_u64
  go_enter Try.func7, Try.ntmps7
  go_wp2_with fail
  refine (awake_any _).mono ?_
  rintro e w1 ⟨rfl, hk1⟩
  have HK1 := hid hk1
  have HS1 := hid (HS.out.kept hk1 (fun _ _ x => x))
  clear hk1
  go_wp2_with fail
  go_loopw [5, 6] (fun lv i wr => ∃ k : Nat, k ≤ zs.length ∧ i = .int .i64 k ∧ Hid (Kept (fun _ => False) w1 wr) ∧ Hid (wr.ownsRow w1.heap.size 33 1 lv k (cellsOf64 (zs.take k)))) (fun _ i _ => zs.length - (intOf i).toNat)
  case atStart => exact ⟨0, by omega, rfl, Kept.refl _ _, World.ownsRow_nil _ _ _ _⟩
  case round =>
    obtain ⟨k, hk, rfl, hK, hO⟩ := hrel
    by_cases hlt : k < zs.length
    · have hpq : ∃ b o, ao = some ⟨b, o, none⟩ ∧ wr.cell? ⟨b, o + k, none⟩ = some (.int .u64 ((zs.getD k 0 : Nat) : Int)) := by
        rcases HC.out with e | ⟨a, e, hab, hac⟩
        · rw [e] at hlt; simp at hlt
        · obtain ⟨b, o, rfl⟩ := addr_plain (hac 0 (by omega))
          refine ⟨b, o, e, ?_⟩
          have h1 := hac k hlt
          rw [Addr.add_lit] at h1
          rw [← h1]
          exact World.cell?_of_block (((HK1.out.trans (U := fun _ => False) hK.out (fun _ _ x => x) (fun _ _ x => x)).block b hab (fun x => x)))
      obtain ⟨b, o, rfl, hx1⟩ := hpq
      have hsn := hid (cellsOf64_snoc zs k hlt)
      obtain ⟨x, hx⟩ : ∃ x, x = zs.getD k 0 := ⟨_, rfl⟩
      rw [← hx] at hx1 hsn
      have hik : (k : Int) < (zs.length : Int) := by omega
      have hbs := hid (show w1.heap.size ≤ (wr.alloc (.cells #[.int .u64 (x : Int)] 33)).heap.size by have := hK.out.size; simp; omega)
      clear hx HC
      go_wp2_with (at_builtin; refine wpList_append_own _ rfl _ _ 41 rfl w1.heap.size 33 i0 (.int .u64 0) 1 8 Try.underlying41 hi0 hz0 hz1 hz2 rfl (by decide) _ _ _ rfl (hO.out.alloc _) ⟨wr.heap.size, 0, none⟩ 1 1 [.int .u64 (x : Int)] rfl rfl (cell_one_new _ _ _) (by simp [Value.oneCell']) (by unfold maxLen; omega) (by omega) hbs.out ?_; intro v' w' hown' hgrow hnil; have HOW' := hid hown'; have HGR := hid hgrow; clear hown' hgrow hnil)
      go_roundw
      case rel => exact ⟨k + 1, by omega, by go_num, kept_grown (hK.out.alloc _) HGR.out (fun j h => (hO.out.lt j h).1), by have := HOW'.out; rw [hsn.out] at this; exact this⟩
      case measure => simp [intOf]; omega
    · obtain ⟨w2, rfl⟩ : ∃ w2, w2 = wr := ⟨_, rfl⟩
      have hkl : k = zs.length := by omega
      subst hkl
      have O2 := hid (show w2.ownsRow w1.heap.size 33 1 u5 zs.length (cellsOf64 zs) by have := hO.out; rw [List.take_of_length_le (Nat.le_refl _)] at this; exact this)
      have S2 := hid (src_owned HZ.out O2.out)
      have K2 := hid (HK1.out.trans (U := fun _ => False) hK.out (fun _ _ x => x) (fun _ _ x => x))
      have V2 := hid (HS1.out.kept hK.out (fun _ _ x => x))
      have Z2 := hid (show w.heap.size ≤ w1.heap.size ∧ w1.heap.size ≤ w2.heap.size from ⟨HK1.out.size, hK.out.size⟩)
      clear hO hK HC HS HS1 HK1 hlt hk
      go_wp2_with fail
      refine (of_any _ zs n hlo hhi _ S2.out).mono ?_
      rintro e w3 ⟨rfl, hA, hk, hsz⟩
      have A3 := hid hA
      have K3 := hid (K2.out.trans (U := fun _ => False) hk (fun _ _ x => x) (fun _ _ x => x))
      have V3 := hid (V2.out.kept hk (fun _ _ x => x))
      have Z3 := hid hsz
      have KO := hid hk
      clear hA hk hsz K2 V2 S2
      have hform : ∃ lo lcap g, u5 = .slice lo zs.length lcap ∧ w.heap.size ≤ g ∧ g ≠ w2.heap.size ∧ g ≠ w2.heap.size + 1 ∧ (zs.length = 0 ∨ (lo = some ⟨g, 0, none⟩ ∧ ∃ cur : Array Value, w3.heap[g]? = some (.cells cur 33 (0, 0)) ∧ ∀ j, j < zs.length → cur[j]? = some (.int .u64 ((zs.getD j 0 : Nat) : Int)))) := by
        have hz2 := Z2.out
        rcases O2.out.2 with ⟨e, h0⟩ | ⟨g, cap, cur, e, hg, hh, hle, hm, hcs, htk⟩
        · exact ⟨none, 0, w2.heap.size + 2, by rw [e, h0], by omega, by omega, by omega, Or.inl h0⟩
        · have hgl := (Array.getElem?_eq_some_iff.1 hh).1
          refine ⟨some ⟨g, 0, none⟩, cap, g, e, by omega, by omega, by omega, Or.inr ⟨rfl, cur, block_kept hh KO.out (fun x => x), fun j hj => ?_⟩⟩
          have : (cur.toList.take (zs.length * 1))[j]? = (cellsOf64 zs)[j]? := by rw [htk]
          rw [List.getElem?_take, if_pos (by omega)] at this
          simp only [Array.getElem?_toList] at this
          rw [this]
          simp [cellsOf64, List.getD, hj]
      obtain ⟨lo, lcap, g, rfl, hg1, hg2, hg3, hrow⟩ := hform
      have HROW := hid hrow
      have HGG := hid (show w.heap.size ≤ g ∧ g ≠ w2.heap.size ∧ g ≠ w2.heap.size + 1 from ⟨hg1, hg2, hg3⟩)
      have hzb : zs.length ≤ 17592186043904 := by omega
      clear hrow hg1 hg2 hg3 O2 KO
      go_wp2_with fail
      go_loopw [8] (fun i wr => ∃ k : Nat, k ≤ zs.length ∧ i = .int .i64 k ∧ Hid (Kept (fun x => x = g) w3 wr) ∧ RowR zs g lo k wr) (fun i _ => zs.length - (intOf i).toNat)
      case atStart =>
        refine ⟨0, by omega, rfl, Kept.refl _ _, ?_⟩
        rcases HROW.out with h | ⟨h1, cur, h2, h3⟩
        · exact Or.inl h
        · exact Or.inr ⟨h1, cur, h2, fun j _ hj => h3 j hj⟩
      case round =>
        obtain ⟨k, hk, rfl, hK, hR⟩ := hrel
        clear HROW
        by_cases hlt : k < zs.length
        · have hR2 : lo = some ⟨g, 0, none⟩ ∧ ∃ cur : Array Value, wr.heap[g]? = some (.cells cur 33 (0, 0)) ∧ ∀ j, k ≤ j → j < zs.length → cur[j]? = some (.int .u64 ((zs.getD j 0 : Nat) : Int)) := by
            rcases hR with h | h
            · omega
            · exact h
          obtain ⟨rfl, cur, hh, hcur⟩ := hR2
          have hc : wr.cell? ⟨g, k, none⟩ = some (.int .u64 ((zs.getD k 0 : Nat) : Int)) := by
            simp only [World.cell?, hh]
            simpa using hcur k (Nat.le_refl _) hlt
          have hf : wr.frozen? ⟨g, k, none⟩ = false := by simp [World.frozen?, hh]
          have FIN := hid (show ∀ u : Value, Kept (fun x => x = g) w3 (wr.setCell ⟨g, k, none⟩ u) ∧ RowR zs g (some ⟨g, 0, none⟩) (k + 1) (wr.setCell ⟨g, k, none⟩ u) from fun u => ⟨hK.out.setCell (p := ⟨g, k, none⟩) rfl _, Or.inr ⟨rfl, cur.setIfInBounds k u, by simp only [World.setCell]; rw [Array.getElem?_modify, if_pos rfl, hh]; simp, fun j h1 h2 => by rw [Array.getElem?_setIfInBounds_ne (by omega)]; exact hcur j (by omega) h2⟩⟩)
          obtain ⟨x, hx⟩ : ∃ x, x = zs.getD k 0 := ⟨_, rfl⟩
          rw [← hx] at hc
          have hik : (k : Int) < (zs.length : Int) := by omega
          clear hx hh hcur hR hK
          go_wp2
          go_roundw
          case rel => exact ⟨k + 1, by omega, by go_num, (FIN.out _).1, (FIN.out _).2⟩
          case measure => simp [intOf]; omega
        · obtain ⟨w4, rfl⟩ : ∃ w4, w4 = wr := ⟨_, rfl⟩
          have hnk : decide ((k : Int) < (zs.length : Int)) = false := decide_eq_false (by omega)
          have A4 := hid (A3.out.kept hK.out (fun e => HGG.out.2.2 e.symm) (fun e => HGG.out.2.1 e.symm))
          have B4 := hid ((K3.out.below (Nat.le_refl _) (fun _ h => h.elim)).trans (hK.out.below K3.out.size (fun x e => by rw [e]; exact HGG.out.1)))
          clear hR
          go_wp2_with fail
          have V4 := hid (V3.out.keptE hK.out (fun h0 b hb e => by have h1 := VB.out b hb h0; have h2 := HGG.out.1; omega))
          clear hK V3 A3 K3
          refine (newSetS_any n hlo hhi _).mono ?_
          rintro e w5 ⟨rfl, hE, hk5, hsz5⟩
          have A5 := hid (A4.out.kept hk5 (fun x => x) (fun x => x))
          have E5 := hid hE
          have V5 := hid (V4.out.kept hk5 (fun _ _ x => x))
          have B5 := hid (B4.out.trans (hk5.below B4.out.size (fun _ h => h.elim)))
          clear hE hk5 hsz5 A4 V4
          go_wp2_with fail
          refine (refOf _ zs (by omega) n _ V5.out).mono ?_
          rintro e w6 ⟨rfl, hT, hk6, hsz6⟩
          have A6 := hid (A5.out.kept hk6 (fun x => x) (fun x => x))
          have E6 := hid (E5.out.kept hk6 (fun x => x) (fun x => x))
          have T6 := hid hT
          have B6 := hid (B5.out.trans (hk6.below B5.out.size (fun _ h => h.elim)))
          clear hT hk6 hsz6 A5 E5 V5
          go_wp2_with fail
          refine (words_any _ _ _ _ _ A6.out).mono ?_
          rintro e w7 ⟨rfl, hg, hk7, hsz7⟩
          have G7 := hid hg
          have E7 := hid (E6.out.kept hk7 (fun x => x) (fun x => x))
          have T7 := hid (T6.out.kept hk7 (fun x => x))
          have B7 := hid (B6.out.trans (hk7.below B6.out.size (fun _ h => h.elim)))
          clear hg hk7 hsz7 E6 T6 A6
          go_wp2_with fail
          refine (refWordsOf _ _ zs (fit n) HZ.out _ T7.out).mono ?_
          rintro e w8 ⟨rfl, hg, hk8, hsz8⟩
          have Q8 := hid hg
          have G8 := hid (block_kept G7.out hk8 (fun x => x))
          have E8 := hid (E7.out.kept hk8 (fun x => x) (fun x => x))
          have B8 := hid (B7.out.trans (hk8.below B7.out.size (fun _ h => h.elim)))
          clear hg hk8 hsz8 G7 E7 T7
          have hwl : (ofW zs (fit n)).length ≤ 1048576 := by rw [ofW_len]; omega
          go_wp2_with fail
          refine (sameK _ _ _ _ _ (ofW zs (fit n)) G8.out Q8.out hwl (ofW_lt zs (fit n) HZ.out)).mono ?_
          rintro e w9 ⟨rfl, hk9⟩
          have E9 := hid (E8.out.kept hk9 (fun x => x) (fun x => x))
          have B9 := hid (B8.out.trans (hk9.below B8.out.size (fun _ h => h.elim)))
          clear hk9 G8 Q8 E8 hwl
          obtain ⟨N, hNd⟩ : ∃ N, N = fit n := ⟨_, rfl⟩
          rw [← hNd] at E9 ⊢
          have hNb : N ≤ 1048576 := by omega
          have HND := hid hNd
          clear hNd
          have hc0 : ((cntS (zeros ((N + 63) / 64)) : Nat) : Int) = 0 := by rw [cntS_none _ (zeros_lt _) (bit_zeros _)]; rfl
          have hx0 : nxt N (zeros ((N + 63) / 64)) 0 = -1 := by unfold nxt; exact nxtN_none _ _ _ (fun j _ _ => bit_zeros _ j)
          go_wp2_with fail
          refine (len_any _ _ _ _ _ E9.out).mono ?_
          rintro e w' ⟨rfl, hw⟩
          subst hw
          go_wp2_with fail
          refine (countS_any _ _ _ _ _ E9.out).mono ?_
          rintro e w' ⟨rfl, hw⟩
          subst hw
          go_wp2_with fail
          refine (next_any _ _ _ _ 0 (by decide) _ E9.out).mono ?_
          rintro e w' ⟨rfl, hw⟩
          subst hw
          go_wp2_with fail
          refine (words_any _ _ _ _ _ E9.out).mono ?_
          rintro e w10 ⟨rfl, hg, hk10, hsz10⟩
          have G10 := hid hg
          have B10 := hid (B9.out.trans (hk10.below B9.out.size (fun _ h => h.elim)))
          clear hg hk10 hsz10 E9 hc0 hx0
          go_wp2_with fail
          refine (refOf _ [] (by simp) n _ (src_nil0 _)).mono ?_
          rintro e w11 ⟨rfl, hT, hk11, hsz11⟩
          rw [← HND.out] at hT
          have T11 := hid hT
          have G11 := hid (block_kept G10.out hk11 (fun x => x))
          have B11 := hid (B10.out.trans (hk11.below B10.out.size (fun _ h => h.elim)))
          clear hT hk11 hsz11 G10
          rw [← HND.out]
          go_wp2_with fail
          refine (refWordsOf _ _ [] N (fun i => by simp) _ T11.out).mono ?_
          rintro e w12 ⟨rfl, hg, hk12, hsz12⟩
          rw [ofW_nil] at hg
          rw [ofW_nil]
          have Q12 := hid hg
          have G12 := hid (block_kept G11.out hk12 (fun x => x))
          have B12 := hid (B11.out.trans (hk12.below B11.out.size (fun _ h => h.elim)))
          clear hg hk12 hsz12 G11 T11
          have hzn : (zeros ((N + 63) / 64)).length ≤ 1048576 := by rw [zeros_len]; omega
          go_wp2_with fail
          refine (sameK _ _ _ _ _ (zeros ((N + 63) / 64)) G12.out Q12.out hzn (zeros_lt _)).mono ?_
          rintro e w13 ⟨rfl, hk13⟩
          have B13 := hid (B12.out.trans (hk13.below B12.out.size (fun _ h => h.elim)))
          clear hk13 G12 Q12
          go_wp2
          go_ret
          exact ⟨rfl, B13.out⟩
end Go.Proofs.Ytahdjaocfejjeaa
