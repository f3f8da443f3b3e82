/- A list held against what it should hold; one number ahead of a row. -/
import Derived.Test.YtnkoheanjaapjaaChn2
import Derived.Test.YtnkoheanjaapjaaLawD
namespace Go.Proofs.Ytnkoheanjaapjaa
open Go.RowKit Go.Shelf
set_option linter.unusedVariables false

theorem Lst.apart {w v xs r c b ao base R lim n f hd} (h : Lst w v xs) (hr : v.ownBlock = some r) (hL : LS w c b ao base R lim n f hd) : ¬ lown c b ao r := by
  obtain ⟨cs, hcs⟩ := h.blk hr
  obtain ⟨cap, hb, hrow⟩ := hL.s.ex
  rintro (e | e | e)
  · subst e
    rw [hL.l.hc] at hcs
    simp at hcs
  · subst e
    rw [hb] at hcs
    simp at hcs
  · subst e
    obtain ⟨_, rs, _, hg, _⟩ := hrow
    rw [hg] at hcs
    simp at hcs
theorem Lst.lown {w w' v xs c b ao base R lim n f hd} (h : Lst w v xs) (hL : LS w c b ao base R lim n f hd) (k : Kept (lown c b ao) w w') : Lst w' v xs := h.kept k (fun r hr => h.apart hr hL)

theorem prepend_run (w : World) (k x : Nat) (v : Value) (xs : List Nat) (hk : w.heap[k]? = some (.cells #[e64 x] 27 (0, 0))) (h : Lst w v xs) (hx : x < 18446744073709551616) (hlen : xs.length + 1 ≤ 4194305) :
    ∃ v' w', (∀ ty, (Builtin.append_ #[31, 31] ty #[.slice (some ⟨k, 0, none⟩) 1 1, v]).run Try.prog w = .ok v' w') ∧ Lst w' v' (x :: xs) ∧ Kept none' w w' ∧
      (∃ r, v'.ownBlock = some r ∧ (r = k ∨ w.heap.size ≤ r)) ∧ ∃ g cap, v' = .slice (some ⟨g, 0, none⟩) (xs.length + 1) cap := by
  obtain ⟨i, hi, hz0, hz1, hz2⟩ := info_parts info_u64
  have hlt : ∀ y ∈ x :: xs, y < 18446744073709551616 := by
    intro y hy
    rcases List.mem_cons.1 hy with rfl | hy
    · exact hx
    · exact h.lt y hy
  by_cases h0 : xs = []
  · subst h0
    have hrun : ∀ ty, (Builtin.append_ #[31, 31] ty #[.slice (some ⟨k, 0, none⟩) 1 1, v]).run Try.prog w = .ok (.slice (some ⟨k, 0, none⟩) 1 1) w := by
      intro ty
      have hfc : ∃ ao cap, v = .slice ao 0 cap := by
        rcases h.own.2 with ⟨rfl, _⟩ | ⟨g, cap, cur, rfl, _⟩
        · exact ⟨_, _, rfl⟩
        · exact ⟨_, _, rfl⟩
      obtain ⟨ao, cap, rfl⟩ := hfc
      have hf2 : (Builtin.firstCells 1 0 (.slice ao 0 cap)).run Try.prog w = .ok #[] w := by
        cases ao with
        | none => simp [run_firstCells_none]
        | some a => exact run_firstCells_some (P := Try.prog) w 1 0 a 0 cap [] (by simp) (by simp)
      simp [Builtin.append_, run_underlying Try.underlying31, sizeOf, typeInfo, hi, Builtin.lenOf, hz1, hf2, storeCells]
    refine ⟨_, w, hrun, ⟨hlt, rfl, .inr ⟨k, 1, #[e64 x], rfl, Nat.zero_le _, hk, Nat.le_refl _, by decide, rfl, rfl⟩⟩, Kept.refl _ _, ⟨k, rfl, .inl rfl⟩, k, 1, rfl⟩
  · rcases h.own.2 with ⟨rfl, h1⟩ | ⟨g, cap, cur, rfl, hb, hg, hnc, hcm, hcs, htake⟩
    · exact absurd (List.eq_nil_of_length_eq_zero h1) h0
    · have hpos : 0 < xs.length := by
        cases xs with
        | nil => exact absurd rfl h0
        | cons y r => simp
      obtain ⟨v', w', hrun, hown, hgr⟩ := run_append_arg_grows (P := Try.prog) w 31 0 27 i (.int .u64 0) 1 8 Try.underlying31 hi hz0 hz1 hz2 rfl (by decide) ⟨k, 0, none⟩ 1 1 [e64 x] rfl (fun j u hj => by
          match j, hj with
          | 0, hj =>
            simp at hj
            subst hj
            rw [Addr.add_lit]
            exact cell_of hk
          | j + 1, hj => simp at hj) ⟨g, 0, none⟩ xs.length cap (xs.map e64) (by simp) (fun j u hj => by
          rw [Addr.add_lit, Nat.zero_add]
          rw [← htake, List.getElem?_take] at hj
          split at hj
          · simp only [World.cell?, hg]
            rw [← Array.getElem?_toList, hj]
            rfl
          · cases hj) (by omega) (by simp only [maxLen]; omega) (by omega)
      rcases hown.2 with ⟨_, h2⟩ | ⟨g', cap', cur', rfl, hb', hg', h3⟩
      · omega
      · have e1 : 1 + xs.length = xs.length + 1 := by omega
        rw [e1] at hrun hown h3
        refine ⟨.slice (some ⟨g', 0, none⟩) (xs.length + 1) cap', w', fun ty => ?_, ⟨hlt, ?_⟩, (grown_kept hgr).mono (fun _ _ e => by cases e), ⟨g', rfl, .inr hb'⟩, g', cap', rfl⟩
        · rw [← hrun]; simp [Builtin.append_]
        · exact ⟨hown.1, .inr ⟨g', cap', cur', rfl, Nat.zero_le _, hg', h3⟩⟩

theorem held_true (c b g f hd) (xs : List Nat) (v : Value) (w : World) (hL : LS w c b (some g) 4096 4096 1 4096 f hd) (hC : Chn f hd xs) (hv : Wds w v xs) :
    Calls Try.prog 28 #[.pointer (some ⟨b, 0, none⟩), .pointer (some ⟨c, 0, none⟩), v] w fun e w' => e = .returned (.bool true) ∧ Kept none' w w' := by
  have hlen := hC.len
  have HL := hid hL
  have HC := hid hC
  have HV := hid hv
  obtain ⟨hxl, ao, ac, rfl, hA, hac⟩ := hv
  have HA := hid hA
  have HAC := hid hac
  obtain ⟨m, hm⟩ : ∃ m, m = xs.length := ⟨_, rfl⟩
  have HM := hid hm
  rw [← hm] at hlen HV ⊢
  clear hL hC hxl hA hac hm
  go_enter Try.func28, Try.ntmps28
  go_wp2_with fail
  refine (all_any c b (some g) 4096 4096 1 4096 f hd 0 (by decide) (by decide) _ HL.out).mono ?_
  rintro e w1 ⟨va, rfl, hV, hK, -⟩
  rw [show walkR 4096 4096 f (4096 / 16) 0 hd = xs from HC.out.all 256 HC.out.len] at hV
  have K1 := hid hK
  have HVA := hid hV
  clear hV hK
  go_wp2_with fail
  refine (same_any va _ xs xs (by have := HC.out.len; omega) _ HVA.out.wds (HV.out.keep K1.out)).mono ?_
  rintro e w2 ⟨rfl, hK⟩
  rw [decide_eq_true rfl]
  have K2 := hid (none_trans K1.out hK)
  clear hK K1 HVA
  go_wp2_with fail
  go_loopw [7] (fun i wr => ∃ k : Nat, k ≤ m ∧ i = .int .i64 k ∧ Kept none' w wr) (fun i _ => m - (intOf i).toNat)
  case atStart => exact ⟨0, by omega, rfl, K2.out⟩
  case round =>
    obtain ⟨k, hk, rfl, kr⟩ := hrel
    have KR := hid kr
    clear kr K2
    by_cases hlt : k < m
    · have hkx : k < xs.length := by have := HM.out; omega
      have hne : xs ≠ [] := fun e => by rw [e] at hkx; simp at hkx
      obtain ⟨ga, rfl⟩ := HA.out hne
      rw [show adr (some ga) = some ⟨ga, 0, none⟩ from rfl]
      have hca := KR.out.cell (fun x => x) ((HAC.out ga rfl).2.2 k hkx)
      have hcell := HC.out.cellD hkx
      have hnx := HC.out.nxt k hkx
      have hpv := HC.out.prv k hkx
      have W1 := hid (fun w' (kk : Kept none' w w') => lword_any b (some g) 4096 4096 1 4096 f (xs.getD k 0) hcell.lt w' (HL.out.keep kk).s)
      have W2 := hid (fun w' (kk : Kept none' w w') => lword_any b (some g) 4096 4096 1 4096 f (xs.getD k 0 + 8) (by unfold IsCell at hcell; omega) w' (HL.out.keep kk).s)
      rw [if_pos (by unfold IsCell at hcell; unfold In; omega), show word f (xs.getD k 0 - 4096) = xs.getD (k + 1) 0 from hnx] at W1
      rw [if_pos (by unfold IsCell at hcell; unfold In; omega), show word f (xs.getD k 0 + 8 - 4096) = if k = 0 then 0 else xs.getD (k - 1) 0 from hpv] at W2
      have hx8 : xs.getD k 0 + 8 ≤ 8200 := by unfold IsCell at hcell; omega
      rw [show ((xs.getD k 0 + 8 : Nat) : Int) = (xs.getD k 0 : Int) + 8 by omega] at W2
      have hik : (k : Int) < (m : Int) := by omega
      unfold e64 at hca
      have HCP := hid (fun (h : ¬ k = 0) => KR.out.cell (fun x => x) ((HAC.out ga rfl).2.2 (k - 1) (by omega)))
      have HCN := hid (fun (h : k + 1 < m) => KR.out.cell (fun x => x) ((HAC.out ga rfl).2.2 (k + 1) (by have := HM.out; omega)))
      have HOUT := hid (fun (h : ¬ k + 1 < m) => show xs.getD (k + 1) 0 = 0 from getD_out (by have := HM.out; omega))
      unfold e64 at HCP HCN
      generalize xs.getD k 0 = x at *
      generalize xs.getD (k + 1) 0 = y at *
      clear hnx hpv hcell hne
      by_cases h1 : k + 1 < m
      · have hcn := HCN.out h1
        have h1i : (k : Int) + 1 < (m : Int) := by omega
        by_cases h0 : k = 0
        · subst h0
          rw [if_pos rfl] at W2
          clear HCP HCN HOUT
          go_wp2_with fail
          refine (W1.out _ KR.out).mono ?_
          rintro e w3 ⟨rfl, k3⟩
          have K3 := hid (none_trans KR.out k3)
          have hca2 := k3.cell (fun x => x) hca
          clear k3
          go_wp2_with fail
          refine (W2.out _ K3.out).mono ?_
          rintro e w4 ⟨rfl, k4⟩
          have K4 := hid (none_trans K3.out k4)
          clear k4
          go_wp2_with fail
          exact ⟨⟨0 + 1, by omega, by simp, K4.out⟩, by simp [intOf]; omega⟩
        · rw [if_neg h0] at W2
          have hcp := HCP.out h0
          have h0i : (0 : Int) < (k : Int) := by omega
          have ek : ((k - 1 : Nat) : Int) = (k : Int) - 1 := by omega
          obtain ⟨k', rfl⟩ : ∃ k', k = k' + 1 := ⟨k - 1, by omega⟩
          rw [Nat.add_sub_cancel] at hcp W2
          generalize xs.getD k' 0 = z at *
          clear HCP HCN HOUT
          go_wp2_with fail
          refine (W1.out _ KR.out).mono ?_
          rintro e w3 ⟨rfl, k3⟩
          have K3 := hid (none_trans KR.out k3)
          have hca2 := k3.cell (fun x => x) hca
          clear k3
          go_wp2_with fail
          refine (W2.out _ K3.out).mono ?_
          rintro e w4 ⟨rfl, k4⟩
          have K4 := hid (none_trans K3.out k4)
          clear k4
          go_wp2_with fail
          exact ⟨⟨k' + 1 + 1, by omega, by simp, K4.out⟩, by simp [intOf]; omega⟩
      · have hy0 := HOUT.out h1
        subst hy0
        have h1i : ¬ (k : Int) + 1 < (m : Int) := by omega
        by_cases h0 : k = 0
        · subst h0
          rw [if_pos rfl] at W2
          clear HCP HCN HOUT
          go_wp2_with fail
          refine (W1.out _ KR.out).mono ?_
          rintro e w3 ⟨rfl, k3⟩
          have K3 := hid (none_trans KR.out k3)
          have hca2 := k3.cell (fun x => x) hca
          clear k3
          go_wp2_with fail
          refine (W2.out _ K3.out).mono ?_
          rintro e w4 ⟨rfl, k4⟩
          have K4 := hid (none_trans K3.out k4)
          clear k4
          go_wp2_with fail
          exact ⟨⟨0 + 1, by omega, by simp, K4.out⟩, by simp [intOf]; omega⟩
        · rw [if_neg h0] at W2
          have hcp := HCP.out h0
          have h0i : (0 : Int) < (k : Int) := by omega
          obtain ⟨k', rfl⟩ : ∃ k', k = k' + 1 := ⟨k - 1, by omega⟩
          rw [Nat.add_sub_cancel] at hcp W2
          generalize xs.getD k' 0 = z at *
          clear HCP HCN HOUT
          go_wp2_with fail
          refine (W1.out _ KR.out).mono ?_
          rintro e w3 ⟨rfl, k3⟩
          have K3 := hid (none_trans KR.out k3)
          have hca2 := k3.cell (fun x => x) hca
          clear k3
          go_wp2_with fail
          refine (W2.out _ K3.out).mono ?_
          rintro e w4 ⟨rfl, k4⟩
          have K4 := hid (none_trans K3.out k4)
          clear k4
          go_wp2_with fail
          exact ⟨⟨k' + 1 + 1, by omega, by simp, K4.out⟩, by simp [intOf]; omega⟩
    · obtain rfl : k = m := by omega
      have HHD := hid (fun w' (kk : Kept none' wr w') => Head_any c b hd w' ((HL.out.keep KR.out).keep kk).l)
      have HH := hid HC.out.head
      by_cases h0 : k = 0
      · subst h0
        have hd0 : hd = 0 := by rw [HH.out]; exact getD_out (by have := HM.out; omega)
        subst hd0
        clear HV
        go_wp2_with fail
        go_quiet ((go_at_call 15; exact Calls.quiet_of_same (HHD.out _ ((Kept.refl none' _).drewN _))))
        go_wp2
        go_ret
        exact ⟨rfl, KR.out.drewN _⟩
      · have hkx : 0 < xs.length := by have := HM.out; omega
        have hne : xs ≠ [] := fun e => by rw [e] at hkx; simp at hkx
        obtain ⟨ga, rfl⟩ := HA.out hne
        rw [show adr (some ga) = some ⟨ga, 0, none⟩ from rfl]
        have hca := KR.out.cell (fun x => x) ((HAC.out ga rfl).2.2 0 hkx)
        rw [← HH.out] at hca
        unfold e64 at hca
        have h0i : decide ((0 : Int) < (k : Int)) = true := decide_eq_true (by omega)
        have h0j : (0 : Int) < (k : Int) := by omega
        have h0n : decide (0 < k) = true := decide_eq_true (by omega)
        have h0m : 0 < k := by omega
        have h0b : ((k : Int) == 0) = false := beq_eq_false_iff_ne.2 (by omega)
        clear HV hne
        go_wp2_with fail
        go_quiet ((go_at_call 15; exact Calls.quiet_of_same (HHD.out _ ((Kept.refl none' _).drewN _))))
        go_wp2
        go_ret
        exact ⟨rfl, KR.out.drewN _⟩
end Go.Proofs.Ytnkoheanjaapjaa
