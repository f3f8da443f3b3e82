/- LinksSpoilt: the walk. -/
import Derived.Test.YtnkoheanjaapjaaSpoil
import Derived.Test.YtnkoheanjaapjaaArgs
import Derived.Deep.RegionHeld3
namespace Go.Proofs.Ytnkoheanjaapjaa
open Go.RowKit Go.Shelf
set_option linter.unusedVariables false

/-- What stands while the list is laid. -/
structure Spo (B : Nat) (w : World) (c b g : Nat) (wv : Value) (wr : World) : Prop where
  k : Kept (from' B) w wr
  ex : ∃ f hd xs, LS wr c b (some g) 4096 4096 1 4096 f hd ∧ Chn f hd xs ∧ Lst wr wv xs ∧ (∀ r, wv.ownBlock = some r → B ≤ r)

theorem Wds.slice {w : World} {ga ac : Nat} {xs : List Nat} (h : Wds w (.slice (some ⟨ga, 0, none⟩) xs.length ac) xs) (a : Nat) (ha : a ≤ xs.length) : Wds w (.slice (some ⟨ga, 0, none⟩) a ac) (xs.take a) := by
  obtain ⟨h1, ao, cap, he, h2, h3⟩ := h
  have hao : ao = some ga ∧ cap = ac := by
    cases ao with
    | none => simp [adr] at he
    | some g => simp [adr] at he; exact ⟨by rw [he.1], he.2.symm⟩
  obtain ⟨rfl, rfl⟩ := hao
  obtain ⟨g1, g2, g3⟩ := h3 ga rfl
  have hl : (xs.take a).length = a := by rw [List.length_take]; omega
  refine ⟨fun x hx => h1 x (List.mem_of_mem_take hx), some ga, cap, by rw [hl]; rfl, fun _ => ⟨ga, rfl⟩, fun g hg => ?_⟩
  cases hg
  refine ⟨g1, by omega, fun i hi => ?_⟩
  rw [g3 i (by omega)]
  congr 2
  rw [hl] at hi
  simp only [List.getD_eq_getElem?_getD, List.getElem?_take, if_pos hi]

set_option maxHeartbeats 40000000 in
set_option maxRecDepth 5000 in
theorem spoilt_any (cv : Value) (m : Nat) (at' : Int) (hat : I64 at') (nxt : Bool) (v : Nat) (hv : v < 18446744073709551616) (w : World) (hM : Ints w cv m) :
    Calls Try.prog 6 #[cv, .int .i64 at', .bool nxt, .int .u64 (v : Int)] w fun e w' => e = .returned (.bool true) ∧ Kept none' w w' := by
  obtain ⟨hm63, oa, oc, rfl, hmv⟩ := hM
  have HMV := hid hmv
  have HAT := hid hat
  clear hmv hat
  go_enter Try.func6, Try.ntmps6
  go_wp2_with fail
  refine (small_any _).mono ?_
  rintro e w1 ⟨b, g, rfl, hS, hK, hb, hg⟩
  have HS := hid hS
  have K1 := hid (fresh_none (B := w.heap.size) hK)
  have HB := hid hb
  have HG := hid hg
  clear hS hK hb hg
  go_wp2_with fail
  refine (lives_any _).mono ?_
  rintro e w2 ⟨rfl, hK⟩
  have HS2 := hid (HS.out.keep hK)
  have K2 := hid (K1.out.then' (fresh_none hK))
  clear hK HS K1
  go_wp2_with fail
  refine (newList_any b 0 (by decide) _).mono ?_
  rintro e w3 ⟨c, rfl, hL, hK, hc⟩
  have HC := hid (show w.heap.size ≤ c from Nat.le_trans K2.out.size hc)
  have H0 := hid (show Spo w.heap.size w c b g (.slice none 0 0) w3 from
    ⟨K2.out.then' (fresh_none hK), fun _ => 0, 0, [], ⟨HS2.out.keep hK, hL⟩, Chn.nil _, Lst.nil _, fun r h => (by cases h)⟩)
  clear hL hK hc HS2 K2
  go_wp2_with fail
  obtain ⟨M1, hM1⟩ : ∃ M1 : Nat, M1 = 100 := ⟨_, rfl⟩
  have HM1 := hid hM1
  clear hM1
  go_loopw [11, 12] (fun wv i wr => ∃ k : Nat, k ≤ m ∧ k ≤ M1 ∧ i = .int .i64 k ∧ Spo w.heap.size w c b g wv wr) (fun _ i _ => m - (intOf i).toNat)
  case atStart => exact ⟨0, by omega, by omega, rfl, H0.out⟩
  case round =>
    clear H0
    obtain ⟨k, hk, hk6, rfl, hst⟩ := hrel
    have HST := hid hst
    clear hst
    by_cases hlt : k < m ∧ k < M1
    · obtain ⟨bl, o, rfl, hbl, hrow⟩ := HMV.out.resolve_left (by omega)
      obtain ⟨ce, hce, hc1⟩ := hrow k hlt.1
      have hkept := HST.out.k
      have hcB := hkept.cell (p := ⟨bl, o + k, none⟩) (fun h => by unfold from' at h; simp at h; omega) hc1
      have hki : (k : Int) < (m : Int) := by omega
      have hk6i : (k : Int) < 100 := by have := HM1.out; omega
      obtain ⟨p, hp⟩ : ∃ p, p = cellA ce := ⟨_, rfl⟩
      have HP := hid (show IsCell p by rw [hp]; exact cellA_bounds ce)
      have hp64 := HP.out.lt
      have A := hid (cell_any ce hce.1 hce.2)
      rw [← hp] at A
      have HM63 := hid hm63
      have HLT := hid hlt
      obtain ⟨f, hd, xs, hLS, hC, hW, hwr⟩ := HST.out.ex
      have HLS := hid hLS
      have HCH := hid hC
      have HW := hid hW
      have HWR := hid hwr
      have hxl := hC.len
      clear hp hc1 hrow hkept hce hm63 hlt hk6 hLS hC hW hwr
      go_wp2_with fail
      refine (A.out _).mono ?_
      rintro e w4 ⟨rfl, hw⟩
      subst hw
      go_wp2_with fail
      refine (has_any u11 xs p hp64 (by omega) _ HW.out.wds).mono ?_
      rintro e w5 ⟨rfl, hk⟩
      have HLS5 := hid (HLS.out.keep hk)
      have K5 := hid (HST.out.k.then' (fresh_none hk))
      have HW5 := hid (HW.out.keep hk)
      clear hk HLS HW
      by_cases hpx : p ∈ xs
      · rw [decide_eq_true hpx]
        clear hpx
        go_wp2_with fail
        exact ⟨⟨k + 1, by have := HLT.out; omega, by have := HLT.out; omega, by simp, K5.out, f, hd, xs, HLS5.out, HCH.out, HW5.out, HWR.out⟩, by have := HLT.out; simp [intOf]; omega⟩
      · rw [decide_eq_false hpx]
        obtain ⟨hr1, hr2, hr3⟩ := HCH.out.push p HP.out hpx
        have A2 := hid (Push_any c b (some g) 4096 4096 1 4096 f hd p hp64 w5 HLS5.out)
        rw [hr1] at A2
        have HCH5 := hid hr2
        generalize (pushR 4096 4096 f hd p).1 = f5 at *
        generalize (pushR 4096 4096 f hd p).2.1 = hd5 at *
        clear hr1 hr2 hr3 hpx
        go_wp2_with fail
        refine A2.out.mono ?_
        rintro e w6 ⟨rfl, h6, k6⟩
        have hW6 := HW5.out.lown HLS5.out k6
        have hK6 := K5.out.then' (fresh_lown k6 HC.out HB.out HG.out)
        have ka : Kept none' w6 (w6.alloc (.cells #[.int .u64 (p : Int)] 27)) := (Kept.refl none' w6).alloc _
        obtain ⟨v7, w7, hap, hL7, hk7, hr7, g7, cap7, hv7⟩ := prepend_run (w6.alloc (.cells #[.int .u64 (p : Int)] 27)) w6.heap.size p u11 xs (heap_new _ _) (hW6.keep ka) hp64 (by omega)
        have HAP := hid hap
        have HLS7 := hid ((h6.keep ka).keep hk7)
        have HW7 := hid hL7
        have K7 := hid ((hK6.then' (fresh_none ka)).then' (fresh_none hk7))
        have HR7 := hid (show ∀ r, v7.ownBlock = some r → w.heap.size ≤ r from fun r hr => by
          have := hK6.size
          obtain ⟨r', e', h'⟩ := hr7
          rw [e'] at hr
          cases hr
          rcases h' with h' | h'
          · omega
          · simp at h'; omega)
        subst hv7
        clear h6 k6 hW6 hK6 ka hap hL7 hk7 hr7 HLS5 HW5
        go_wp2_with (at_builtin; refine Lib.wpList_append_run _ rfl _ _ _ _ rfl (.slice (some ⟨w6.heap.size, 0, none⟩) 1 1) u11 rfl rfl _ _ (HAP.out _) ?_)
        exact ⟨⟨k + 1, by have := HLT.out; omega, by have := HLT.out; omega, by simp, K7.out, f5, hd5, p :: xs, HLS7.out, HCH5.out, HW7.out, HR7.out⟩, by have := HLT.out; simp [intOf]; omega⟩
    · obtain ⟨f, hd, xs, hLS, hC, hW, hwr⟩ := HST.out.ex
      have HLS := hid hLS
      have HCH := hid hC
      have HW := hid hW
      have HWR := hid hwr
      have hxl := hC.len
      have KB := hid HST.out.k
      obtain ⟨-, ao, ac, hu, hne, hcell⟩ := hW.wds
      have HNE := hid hne
      have HCELL := hid hcell
      obtain ⟨L, hL⟩ : ∃ L, L = xs.length := ⟨_, rfl⟩
      have HLL := hid hL
      rw [← hL] at hu hxl
      subst hu
      clear hLS hC hW hwr hne hcell hL
      have hg2 : ((k : Int) < (m : Int) ∧ ¬ (k : Int) < 100) ∨ ¬ (k : Int) < (m : Int) := by have := HM1.out; omega
      by_cases hneg : at' < 0
      · clear hlt hk6
        rcases hg2 with ⟨h1, h2⟩ | h1
        all_goals
          go_wp2_with fail
          refine (held_true c b g _ _ _ _ _ HLS.out HCH.out HW.out.wds).mono ?_
          rintro e w4 ⟨rfl, hK⟩
          have K4 := hid hK
          clear hK
          go_wp2_with fail
          go_ret
          exact ⟨rfl, from_none (KB.out.then' (fresh_none K4.out))⟩
      · obtain ⟨a, rfl⟩ : ∃ a : Nat, at' = (a : Int) := ⟨at'.toNat, by omega⟩
        have hat63 : (a : Int) ≤ 9223372036854775807 := HAT.out.2
        by_cases hge : L ≤ a
        · clear hlt hk6
          have hgei : (L : Int) ≤ (a : Int) := by omega
          rcases hg2 with ⟨h1, h2⟩ | h1
          all_goals
            go_wp2_with fail
            refine (held_true c b g _ _ _ _ _ HLS.out HCH.out HW.out.wds).mono ?_
            rintro e w4 ⟨rfl, hK⟩
            have K4 := hid hK
            clear hK
            go_wp2_with fail
            go_ret
            exact ⟨rfl, from_none (KB.out.then' (fresh_none K4.out))⟩
        · have hgei : ¬ (L : Int) ≤ (a : Int) := by omega
          have haL : a < xs.length := by have := HLL.out; omega
          obtain ⟨ga, rfl⟩ := HNE.out (fun e => by rw [e] at haL; simp at haL)
          have hca := (HCELL.out ga rfl).2.2 a haL
          have hpc := HCH.out.cellD haL
          have hp64 := hpc.lt
          have hp8 : xs.getD a 0 + 8 ≤ 8200 := by unfold IsCell at hpc; omega
          have HIN := hid (show In 4096 4096 (xs.getD a 0) 8 ∧ In 4096 4096 (xs.getD a 0 + 8) 8 by unfold IsCell at hpc; unfold In; omega)
          have W1 := hid (fun w' (kk : Kept none' wr w') => lword_any b (some g) 4096 4096 1 4096 f (xs.getD a 0) hp64 w' (HLS.out.keep kk).s)
          have W2 := hid (fun w' (kk : Kept none' wr w') => lword_any b (some g) 4096 4096 1 4096 f (xs.getD a 0 + 8) (by omega) w' (HLS.out.keep kk).s)
          rw [if_pos HIN.out.1] at W1
          rw [if_pos HIN.out.2, show ((xs.getD a 0 + 8 : Nat) : Int) = (xs.getD a 0 : Int) + 8 by omega] at W2
          have HN := hid (show word f (xs.getD a 0 - 4096) = nx 4096 f (xs.getD a 0) from rfl)
          have HV := hid (show word f (xs.getD a 0 + 8 - 4096) = pv 4096 f (xs.getD a 0) from rfl)
          have HNV := hid (show nx 4096 f (xs.getD a 0) ≠ 12345 ∧ pv 4096 f (xs.getD a 0) ≠ 12345 from by
            have h16 : ∀ i, xs.getD i 0 % 16 = 0 := fun i => by
              rcases Nat.lt_or_ge i xs.length with h | h
              · have := HCH.out.cellD h; unfold IsCell at this; omega
              · rw [getD_out h]
            rw [HCH.out.nxt a haL, HCH.out.prv a haL]
            have h1 := h16 (a + 1)
            have h2 := h16 (a - 1)
            refine ⟨by omega, ?_⟩
            split
            · omega
            · omega)
          have HBN := hid (fun (h1 : a + 1 < xs.length) (h2 : nx 4096 f (xs.getD a 0) ≠ v) => HCH.out.badNext a h1 v hv h2)
          have HCN := hid (fun (h1 : a + 1 < xs.length) => (HCELL.out ga rfl).2.2 (a + 1) h1)
          have HLN := hid (fun (h1 : a + 1 < xs.length) => (HCH.out.cellD h1).lt)
          rw [HN.out] at W1
          rw [HV.out] at W2
          unfold e64 at hca HCN
          rw [show adr (some ga) = some ⟨ga, 0, none⟩ from rfl] at HW HWR ⊢
          have haLi : (a : Int) < (L : Int) := by omega
          have hgd2 : k = k := rfl
          clear hlt hk6
          cases nxt with
          | true =>
            by_cases hnv : nx 4096 f (xs.getD a 0) = v
            · have hnvi : ((nx 4096 f (xs.getD a 0) : Int) == (v : Int)) = true := beq_iff_eq.2 (by omega)
              have hv1 : ((v : Int) != 12345) = true := bne_iff_ne.2 (by have := HNV.out.1; omega)
              have hv2 : ¬ (v : Int) = 12345 := by have := HNV.out.1; omega
              generalize nx 4096 f (xs.getD a 0) = x at *
              generalize xs.getD a 0 = p at *
              subst hnv
              clear HN HV HNV HBN HCN HLN HIN
              rcases hg2 with ⟨h1, h2⟩ | h1
              all_goals
                go_wp2_with fail
                refine (W1.out _ (Kept.refl _ _)).mono ?_
                rintro e w4 ⟨rfl, hK⟩
                have K4 := hid hK
                clear hK
                go_wp2_with fail
                refine (W1.out _ K4.out).mono ?_
                rintro e w5 ⟨rfl, hK⟩
                have K5 := hid (none_trans K4.out hK)
                clear hK
                go_wp2_with fail
                go_ret
                exact ⟨rfl, from_none (KB.out.then' (fresh_none K5.out))⟩
            · have hnvi : ((nx 4096 f (xs.getD a 0) : Int) == (v : Int)) = false := beq_eq_false_iff_ne.2 (by omega)
              have SW := hid (fun w' (kk : Kept none' wr w') => SetWord_in b g 4096 4096 1 4096 f (xs.getD a 0) v hv w' (HLS.out.keep kk).s HIN.out.1)
              by_cases hlast : a + 1 = L
              · have hli : ((a : Int) + 1 == (L : Int)) = true := beq_iff_eq.2 (by omega)
                have haa : (a : Int) + 1 = (L : Int) := by omega
                generalize nx 4096 f (xs.getD a 0) = x at *
                generalize xs.getD a 0 = p at *
                clear HN HV HNV HBN HCN HLN HIN hnv
                rcases hg2 with ⟨h1, h2⟩ | h1
                all_goals
                  go_wp2_with fail
                  refine (W1.out _ (Kept.refl _ _)).mono ?_
                  rintro e w4 ⟨rfl, hK⟩
                  have K4 := hid hK
                  clear hK
                  go_wp2_with fail
                  refine (SW.out _ K4.out).mono ?_
                  rintro e w5 ⟨rfl, hS5, hK⟩
                  have K5 := hid ((KB.out.then' (fresh_none K4.out)).then' (fresh_lown (hK.lown' (c := c)) HC.out HB.out HG.out))
                  clear hK hS5
                  go_wp2_with fail
                  go_ret
                  exact ⟨rfl, from_none K5.out⟩
              · have hli : ((a : Int) + 1 == (L : Int)) = false := beq_eq_false_iff_ne.2 (by omega)
                have h1L : a + 1 < xs.length := by have := HLL.out; omega
                have hcn := HCN.out h1L
                have hln := HLN.out h1L
                have RM := hid (fun w' (hl : LS w' c b (some g) 4096 4096 1 4096 (stw 4096 f (xs.getD a 0) v) hd) => Remove_any c b (some g) 4096 4096 1 4096 (stw 4096 f (xs.getD a 0) v) hd (xs.getD (a + 1) 0) hln w' hl)
                rw [HBN.out h1L hnv] at RM
                have haLi2 : (a : Int) + 1 < (L : Int) := by have := HLL.out; omega
                have HST2 := hid (fun w' (hS : SpaceAt w' b (some g) 4096 4096 1 4096 (upd f (xs.getD a 0 - 4096) 8 (byteOf v))) => show SpaceAt w' b (some g) 4096 4096 1 4096 (stw 4096 f (xs.getD a 0) v) from hS)
                generalize stw 4096 f (xs.getD a 0) v = f2 at *
                generalize nx 4096 f (xs.getD a 0) = x at *
                generalize xs.getD a 0 = p at *
                generalize xs.getD (a + 1) 0 = y at *
                clear HN HV HNV HBN HCN HLN HIN hnv
                rcases hg2 with ⟨h1, h2⟩ | h1
                all_goals
                  go_wp2_with fail
                  refine (W1.out _ (Kept.refl _ _)).mono ?_
                  rintro e w4 ⟨rfl, hK⟩
                  have K4 := hid hK
                  clear hK
                  go_wp2_with fail
                  refine (SW.out _ K4.out).mono ?_
                  rintro e w5 ⟨rfl, hS5, hK⟩
                  have HL5 := hid ((HLS.out.keep K4.out).stored (HST2.out _ hS5) hK)
                  have K5 := hid ((KB.out.then' (fresh_none K4.out)).then' (fresh_lown (hK.lown' (c := c)) HC.out HB.out HG.out))
                  have hcn5 := (K4.out.trans (U := lown c b (some g)) (hK.lown' (c := c)) (fun _ _ h => h.elim) (fun _ _ h => h)).cell (p := ⟨ga, a + 1, none⟩) (HW.out.apart rfl HLS.out) hcn
                  clear hK hS5
                  go_wp2_with fail
                  refine (RM.out _ HL5.out).mono ?_
                  rintro e w6 ⟨rfl, hL6, hK⟩
                  have K6 := hid (K5.out.then' (fresh_lown hK HC.out HB.out HG.out))
                  clear hK hL6
                  go_wp2_with fail
                  go_ret
                  exact ⟨rfl, from_none K6.out⟩
          | false =>
            by_cases hnv : pv 4096 f (xs.getD a 0) = v
            · have hnvi : ((pv 4096 f (xs.getD a 0) : Int) == (v : Int)) = true := beq_iff_eq.2 (by omega)
              have hv1 : ((v : Int) != 12345) = true := bne_iff_ne.2 (by have := HNV.out.2; omega)
              have hv2 : ¬ (v : Int) = 12345 := by have := HNV.out.2; omega
              generalize pv 4096 f (xs.getD a 0) = x at *
              generalize xs.getD a 0 = p at *
              subst hnv
              clear HN HV HNV HBN HCN HLN HIN
              rcases hg2 with ⟨h1, h2⟩ | h1
              all_goals
                go_wp2_with fail
                refine (W2.out _ (Kept.refl _ _)).mono ?_
                rintro e w4 ⟨rfl, hK⟩
                have K4 := hid hK
                clear hK
                go_wp2_with fail
                refine (W2.out _ K4.out).mono ?_
                rintro e w5 ⟨rfl, hK⟩
                have K5 := hid (none_trans K4.out hK)
                clear hK
                go_wp2_with fail
                go_ret
                exact ⟨rfl, from_none (KB.out.then' (fresh_none K5.out))⟩
            · have hnvi : ((pv 4096 f (xs.getD a 0) : Int) == (v : Int)) = false := beq_eq_false_iff_ne.2 (by omega)
              have SW := hid (fun w' (kk : Kept none' wr w') => SetWord_in b g 4096 4096 1 4096 f (xs.getD a 0 + 8) v hv w' (HLS.out.keep kk).s HIN.out.2)
              rw [show ((xs.getD a 0 + 8 : Nat) : Int) = (xs.getD a 0 : Int) + 8 by omega] at SW
              obtain ⟨f2, hf2⟩ : ∃ f2, f2 = stw 4096 f (xs.getD a 0 + 8) v := ⟨_, rfl⟩
              have HST2 := hid (fun w' (hS : SpaceAt w' b (some g) 4096 4096 1 4096 (upd f (xs.getD a 0 + 8 - 4096) 8 (byteOf v))) => show SpaceAt w' b (some g) 4096 4096 1 4096 f2 from by rw [hf2]; exact hS)
              have AL := hid (fun w' (hl : LS w' c b (some g) 4096 4096 1 4096 f2 hd) => all_any c b (some g) 4096 4096 1 4096 f2 hd 0 (by decide) (by decide) w' hl)
              rw [show walkR 4096 4096 f2 (4096 / 16) 0 hd = xs.take a by rw [hf2]; exact HCH.out.allBad a haL v hv hnv] at AL
              have RS := hid (fun (h0 : v = 0 ∨ v ∈ xs) w' (hl : LS w' c b (some g) 4096 4096 1 4096 f2 hd) => show Calls Try.prog 14 #[.pointer (some ⟨c, 0, none⟩), .int .u64 (xs.getD a 0 : Int)] w' fun e w'' => e = .returned (.int .i64 8) ∧ LS w'' c b (some g) 4096 4096 1 4096 f2 hd ∧ Kept (lown c b (some g)) w' w'' from by
                have := Remove_any c b (some g) 4096 4096 1 4096 f2 hd (xs.getD a 0) hp64 w' hl
                rw [hf2, HCH.out.badSelf a haL v hv hnv h0, ← hf2] at this
                exact this)
              have RA := hid (fun (h0 : 0 < a) w' (hl : LS w' c b (some g) 4096 4096 1 4096 f2 hd) => show Calls Try.prog 14 #[.pointer (some ⟨c, 0, none⟩), .int .u64 (xs.getD (a - 1) 0 : Int)] w' fun e w'' => e = .returned (.int .i64 8) ∧ LS w'' c b (some g) 4096 4096 1 4096 f2 hd ∧ Kept (lown c b (some g)) w' w'' from by
                obtain ⟨a', rfl⟩ : ∃ a', a = a' + 1 := ⟨a - 1, by omega⟩
                rw [Nat.add_sub_cancel]
                have := Remove_any c b (some g) 4096 4096 1 4096 f2 hd (xs.getD a' 0) (HCH.out.cellD (i := a') (by omega)).lt w' hl
                rw [hf2, HCH.out.badAhead a' haL v hv hnv, ← hf2] at this
                exact this)
              have HSL := hid (fun w' (hw : Wds w' (.slice (some ⟨ga, 0, none⟩) L ac) xs) => show Wds w' (.slice (some ⟨ga, 0, none⟩) a ac) (xs.take a) from by
                have hL := HLL.out
                rw [hL] at hw
                exact hw.slice a (by omega))
              have HTL := hid (show (xs.take a).length ≤ 4194305 by rw [List.length_take]; omega)
              have HCP := hid (fun (h1 : 0 < a) => (HCELL.out ga rfl).2.2 (a - 1) (by omega))
              have hLac : (L : Int) ≤ (ac : Int) := by have := (HCELL.out ga rfl).2.1; have := HLL.out; omega
              have haci : (a : Int) ≤ (ac : Int) := by omega
              have hacn : a ≤ ac := by omega
              have HPS := hid (fun h0 : 0 < a => show xs.getD (a - 1) 0 < 18446744073709551616 from HCH.out.lt _)
              unfold e64 at HCP
              clear hf2
              generalize pv 4096 f (xs.getD a 0) = x at *
              generalize xs.getD a 0 = p at *
              clear HN HV HNV HBN HCN HLN HIN hnv HCELL HNE
              by_cases ha0 : a = 0
              · have ha0d : decide ((0 : Int) < (a : Int)) = false := decide_eq_false (by omega)
                have ha0e : decide (0 < a) = false := decide_eq_false (by omega)
                have ha0n : ¬ 0 < a := by omega
                have ha0i : ¬ (0 : Int) < (a : Int) := by omega
                clear ha0
                rcases hg2 with ⟨h1, h2⟩ | h1
                · go_wp2_with fail
                  refine (W2.out _ (Kept.refl _ _)).mono ?_
                  rintro e w4 ⟨rfl, hK⟩
                  have K4 := hid hK
                  clear hK
                  go_wp2_with fail
                  refine (SW.out _ K4.out).mono ?_
                  rintro e w5 ⟨rfl, hS5, hK⟩
                  have HL5 := hid ((HLS.out.keep K4.out).stored (HST2.out _ hS5) hK)
                  have kk5 := K4.out.trans (U := lown c b (some g)) (hK.lown' (c := c)) (fun _ _ h => h.elim) (fun _ _ h => h)
                  have HW5 := hid (HW.out.lown HLS.out kk5)
                  have K5 := hid (KB.out.then' (fresh_lown kk5 HC.out HB.out HG.out))
                  clear hK hS5 kk5
                  go_wp2_with fail
                  refine wp_region_held_drew (S := fun _ => True) (by kernel_rfl) trivial (fun _ => ?_)
                  refine wpAnyH_take (i := 0) (v := (.pointer (some ⟨c, 0, none⟩))) rfl (by kernel_rfl) (by kernel_rfl) (by kernel_rfl) (fun _ _ _ h => h) (Or.inl ⟨rfl, fun w hSw => ?_⟩) trivial ?_
                  · go_simp
                  simp only [List.getElem_toArray, List.getElem_cons_zero, Act.put, List.setIfInBounds_toArray, List.set_cons_zero, List.set_cons_succ]
                  refine wpAnyH_take (i := 2) (v := (.slice (some ⟨ga, 0, none⟩) L ac)) rfl (by kernel_rfl) (by kernel_rfl) (by kernel_rfl) (fun _ _ _ h => h) (Or.inl ⟨rfl, fun w hSw => ?_⟩) trivial ?_
                  · go_simp
                  simp only [List.getElem_toArray, List.getElem_cons_zero, List.getElem_cons_succ, Act.put, List.setIfInBounds_toArray, List.set_cons_zero, List.set_cons_succ]
                  refine wpAnyH_take (i := 3) (v := (.int .i64 (a : Int))) rfl (by kernel_rfl) (by kernel_rfl) (by kernel_rfl) (fun _ _ _ h => h) (Or.inl ⟨rfl, fun w hSw => ?_⟩) trivial ?_
                  · go_simp
                  simp only [List.getElem_toArray, List.getElem_cons_zero, List.getElem_cons_succ, Act.put, List.setIfInBounds_toArray, List.set_cons_zero, List.set_cons_succ]
                  refine wpAnyH_take (i := 4) (v := (.slice (some ⟨ga, 0, none⟩) a ac)) rfl (by kernel_rfl) (by kernel_rfl) (by kernel_rfl) (fun _ _ _ h => h) (Or.inl ⟨rfl, fun w hSw => ?_⟩) trivial ?_
                  · go_simp
                  simp only [List.getElem_toArray, List.getElem_cons_zero, List.getElem_cons_succ, Act.put, List.setIfInBounds_toArray, List.set_cons_zero, List.set_cons_succ]
                  refine wpAnyH_ready (rs := [1]) (by kernel_rfl) (by simp) ?_
                  refine AllReadyH.cons rfl (fun K hK => ?_) AllReadyH.nil
                  go_simp
                  refine (AL.out _ (HL5.out.keep (Kept.refl none' w5).drew)).mono ?_
                  rintro e w6 ⟨va, rfl, hV, hKK, -⟩
                  have HV6 := hid hV
                  have HL6 := hid ((HL5.out.keep (Kept.refl none' w5).drew).keep hKK)
                  have HW6 := hid ((HW5.out.keep (Kept.refl none' w5).drew).keep hKK)
                  have K6 := hid (K5.out.drew.then' (fresh_none hKK))
                  clear hV hKK
                  refine hK.out _ _ trivial (fun _ => ?_)
                  clear hK K
                  try simp only [List.getElem_toArray, List.getElem_cons_zero, List.getElem_cons_succ, Act.put, List.setIfInBounds_toArray, List.set_cons_zero, List.set_cons_succ]
                  refine wpAnyH_ready (rs := [5]) (by kernel_rfl) (by simp) ?_
                  refine AllReadyH.cons rfl (fun K hK => ?_) AllReadyH.nil
                  go_simp
                  refine (same_any va _ (xs.take a) (xs.take a) HTL.out _ HV6.out.wds (HSL.out _ HW6.out.wds)).mono ?_
                  rw [decide_eq_true (rfl : xs.take a = xs.take a)]
                  rintro e w7 ⟨rfl, hKK⟩
                  have HL7 := hid (HL6.out.keep hKK)
                  have HW7 := hid (HW6.out.keep hKK)
                  have K7 := hid (K6.out.then' (fresh_none hKK))
                  clear hKK
                  refine hK.out _ _ trivial (fun _ => ?_)
                  clear hK K
                  try simp only [List.getElem_toArray, List.getElem_cons_zero, List.getElem_cons_succ, Act.put, List.setIfInBounds_toArray, List.set_cons_zero, List.set_cons_succ]
                  refine wpAnyH_take (i := 6) (v := (.bool false)) rfl (by kernel_rfl) (by kernel_rfl) (by kernel_rfl) (fun _ _ _ h => h) (Or.inl ⟨rfl, fun w hSw => ?_⟩) trivial ?_
                  · go_simp
                  simp only [List.getElem_toArray, List.getElem_cons_zero, List.getElem_cons_succ, Act.put, List.setIfInBounds_toArray, List.set_cons_zero, List.set_cons_succ]
                  refine wpAnyH_take (i := 7) (v := (.bool false)) rfl (by kernel_rfl) (by kernel_rfl) (by kernel_rfl) (fun _ _ _ h => h) (Or.inl ⟨rfl, fun w hSw => ?_⟩) trivial ?_
                  · go_simp
                  simp only [List.getElem_toArray, List.getElem_cons_zero, List.getElem_cons_succ, Act.put, List.setIfInBounds_toArray, List.set_cons_zero, List.set_cons_succ]
                  refine wpAnyH_take (i := 8) (v := (.int .i64 (a : Int))) rfl (by kernel_rfl) (by kernel_rfl) (by kernel_rfl) (fun _ _ _ h => h) (Or.inl ⟨rfl, fun w hSw => ?_⟩) trivial ?_
                  · go_simp
                  simp only [List.getElem_toArray, List.getElem_cons_zero, List.getElem_cons_succ, Act.put, List.setIfInBounds_toArray, List.set_cons_zero, List.set_cons_succ]
                  refine wpAnyH_take (i := 9) (v := (.bool false)) rfl (by kernel_rfl) (by kernel_rfl) (by kernel_rfl) (fun _ _ _ h => h) (Or.inl ⟨rfl, fun w hSw => ?_⟩) trivial ?_
                  · go_simp
                  simp only [List.getElem_toArray, List.getElem_cons_zero, List.getElem_cons_succ, Act.put, List.setIfInBounds_toArray, List.set_cons_zero, List.set_cons_succ]
                  refine wpAnyH_take (i := 10) (v := (.bool false)) rfl (by kernel_rfl) (by kernel_rfl) (by kernel_rfl) (fun _ _ _ h => h) (Or.inl ⟨rfl, fun w hSw => ?_⟩) trivial ?_
                  · go_simp
                  simp only [List.getElem_toArray, List.getElem_cons_zero, List.getElem_cons_succ, Act.put, List.setIfInBounds_toArray, List.set_cons_zero, List.set_cons_succ]
                  refine wpAnyH_take (i := 11) (v := undef) rfl (by kernel_rfl) (by kernel_rfl) (by kernel_rfl) (fun _ _ _ h => h) (Or.inr ⟨by kernel_rfl, rfl⟩) trivial ?_
                  simp only [List.getElem_toArray, List.getElem_cons_zero, List.getElem_cons_succ, Act.put, List.setIfInBounds_toArray, List.set_cons_zero, List.set_cons_succ]
                  refine wpAnyH_take (i := 12) (v := undef) rfl (by kernel_rfl) (by kernel_rfl) (by kernel_rfl) (fun _ _ _ h => h) (Or.inr ⟨by kernel_rfl, rfl⟩) trivial ?_
                  simp only [List.getElem_toArray, List.getElem_cons_zero, List.getElem_cons_succ, Act.put, List.setIfInBounds_toArray, List.set_cons_zero, List.set_cons_succ]
                  refine wpAnyH_take (i := 13) (v := undef) rfl (by kernel_rfl) (by kernel_rfl) (by kernel_rfl) (fun _ _ _ h => h) (Or.inr ⟨by kernel_rfl, rfl⟩) trivial ?_
                  simp only [List.getElem_toArray, List.getElem_cons_zero, List.getElem_cons_succ, Act.put, List.setIfInBounds_toArray, List.set_cons_zero, List.set_cons_succ]
                  refine wpAnyH_take (i := 14) (v := undef) rfl (by kernel_rfl) (by kernel_rfl) (by kernel_rfl) (fun _ _ _ h => h) (Or.inr ⟨by kernel_rfl, rfl⟩) trivial ?_
                  simp only [List.getElem_toArray, List.getElem_cons_zero, List.getElem_cons_succ, Act.put, List.setIfInBounds_toArray, List.set_cons_zero, List.set_cons_succ]
                  refine wpAnyH_take (i := 15) (v := undef) rfl (by kernel_rfl) (by kernel_rfl) (by kernel_rfl) (fun _ _ _ h => h) (Or.inr ⟨by kernel_rfl, rfl⟩) trivial ?_
                  simp only [List.getElem_toArray, List.getElem_cons_zero, List.getElem_cons_succ, Act.put, List.setIfInBounds_toArray, List.set_cons_zero, List.set_cons_succ]
                  refine wpAnyH_take (i := 16) (v := undef) rfl (by kernel_rfl) (by kernel_rfl) (by kernel_rfl) (fun _ _ _ h => h) (Or.inr ⟨by kernel_rfl, rfl⟩) trivial ?_
                  simp only [List.getElem_toArray, List.getElem_cons_zero, List.getElem_cons_succ, Act.put, List.setIfInBounds_toArray, List.set_cons_zero, List.set_cons_succ]
                  refine wpAnyH_take (i := 17) (v := undef) rfl (by kernel_rfl) (by kernel_rfl) (by kernel_rfl) (fun _ _ _ h => h) (Or.inr ⟨by kernel_rfl, rfl⟩) trivial ?_
                  simp only [List.getElem_toArray, List.getElem_cons_zero, List.getElem_cons_succ, Act.put, List.setIfInBounds_toArray, List.set_cons_zero, List.set_cons_succ]
                  refine wpAnyH_take (i := 18) (v := undef) rfl (by kernel_rfl) (by kernel_rfl) (by kernel_rfl) (fun _ _ _ h => h) (Or.inr ⟨by kernel_rfl, rfl⟩) trivial ?_
                  simp only [List.getElem_toArray, List.getElem_cons_zero, List.getElem_cons_succ, Act.put, List.setIfInBounds_toArray, List.set_cons_zero, List.set_cons_succ]
                  refine wpAnyH_take (i := 19) (v := .bool false) rfl (by kernel_rfl) (by kernel_rfl) (by kernel_rfl) (fun _ _ _ h => h) (Or.inl ⟨by kernel_rfl, fun w hSw => by kernel_rfl⟩) trivial ?_
                  simp only [List.getElem_toArray, List.getElem_cons_zero, List.getElem_cons_succ, Act.put, List.setIfInBounds_toArray, List.set_cons_zero, List.set_cons_succ]
                  refine wpAnyH_take (i := 20) (v := .bool false) rfl (by kernel_rfl) (by kernel_rfl) (by kernel_rfl) (fun _ _ _ h => h) (Or.inl ⟨by kernel_rfl, fun w hSw => by kernel_rfl⟩) trivial ?_
                  simp only [List.getElem_toArray, List.getElem_cons_zero, List.getElem_cons_succ, Act.put, List.setIfInBounds_toArray, List.set_cons_zero, List.set_cons_succ]
                  refine wpAnyH_done (by kernel_rfl) ?_ _
                  all_goals
                    by_cases hv0 : v = 0
                    · have hv0i : ((v : Int) != 0) = false := by rw [hv0]; rfl
                      have RS2 := hid (RS.out (.inl hv0))
                      clear hv0
                      go_wp2_with fail
                      refine (RS2.out _ HL7.out).mono ?_
                      rintro e w9 ⟨rfl, hL, hK⟩
                      have K9 := hid (K7.out.then' (fresh_lown hK HC.out HB.out HG.out))
                      clear hL hK
                      go_wp2_with fail
                      go_ret
                      exact ⟨rfl, from_none K9.out⟩
                    · have hv0i : ((v : Int) != 0) = true := bne_iff_ne.2 (by omega)
                      go_wp2_with fail
                      refine (has_any _ xs v hv (by have := HLL.out; omega) _ HW7.out.wds).mono ?_
                      rintro e w9 ⟨rfl, hK⟩
                      have HL9 := hid (HL7.out.keep hK)
                      have K9 := hid (K7.out.then' (fresh_none hK))
                      clear hK
                      by_cases hvx : v ∈ xs
                      · rw [decide_eq_true hvx]
                        have RS2 := hid (RS.out (.inr hvx))
                        clear hvx hv0
                        go_wp2_with fail
                        refine (RS2.out _ HL9.out).mono ?_
                        rintro e w10 ⟨rfl, hL, hK⟩
                        have K10 := hid (K9.out.then' (fresh_lown hK HC.out HB.out HG.out))
                        clear hL hK
                        go_wp2_with fail
                        go_ret
                        exact ⟨rfl, from_none K10.out⟩
                      · rw [decide_eq_false hvx]
                        clear hvx hv0
                        go_wp2_with fail
                        go_ret
                        exact ⟨rfl, from_none K9.out⟩
                · go_wp2_with fail
                  refine (W2.out _ (Kept.refl _ _)).mono ?_
                  rintro e w4 ⟨rfl, hK⟩
                  have K4 := hid hK
                  clear hK
                  go_wp2_with fail
                  refine (SW.out _ K4.out).mono ?_
                  rintro e w5 ⟨rfl, hS5, hK⟩
                  have HL5 := hid ((HLS.out.keep K4.out).stored (HST2.out _ hS5) hK)
                  have kk5 := K4.out.trans (U := lown c b (some g)) (hK.lown' (c := c)) (fun _ _ h => h.elim) (fun _ _ h => h)
                  have HW5 := hid (HW.out.lown HLS.out kk5)
                  have K5 := hid (KB.out.then' (fresh_lown kk5 HC.out HB.out HG.out))
                  clear hK hS5 kk5
                  go_wp2_with fail
                  refine wp_region_held_drew (S := fun _ => True) (by kernel_rfl) trivial (fun _ => ?_)
                  refine wpAnyH_take (i := 0) (v := (.pointer (some ⟨c, 0, none⟩))) rfl (by kernel_rfl) (by kernel_rfl) (by kernel_rfl) (fun _ _ _ h => h) (Or.inl ⟨rfl, fun w hSw => ?_⟩) trivial ?_
                  · go_simp
                  simp only [List.getElem_toArray, List.getElem_cons_zero, Act.put, List.setIfInBounds_toArray, List.set_cons_zero, List.set_cons_succ]
                  refine wpAnyH_take (i := 2) (v := (.slice (some ⟨ga, 0, none⟩) L ac)) rfl (by kernel_rfl) (by kernel_rfl) (by kernel_rfl) (fun _ _ _ h => h) (Or.inl ⟨rfl, fun w hSw => ?_⟩) trivial ?_
                  · go_simp
                  simp only [List.getElem_toArray, List.getElem_cons_zero, List.getElem_cons_succ, Act.put, List.setIfInBounds_toArray, List.set_cons_zero, List.set_cons_succ]
                  refine wpAnyH_take (i := 3) (v := (.int .i64 (a : Int))) rfl (by kernel_rfl) (by kernel_rfl) (by kernel_rfl) (fun _ _ _ h => h) (Or.inl ⟨rfl, fun w hSw => ?_⟩) trivial ?_
                  · go_simp
                  simp only [List.getElem_toArray, List.getElem_cons_zero, List.getElem_cons_succ, Act.put, List.setIfInBounds_toArray, List.set_cons_zero, List.set_cons_succ]
                  refine wpAnyH_take (i := 4) (v := (.slice (some ⟨ga, 0, none⟩) a ac)) rfl (by kernel_rfl) (by kernel_rfl) (by kernel_rfl) (fun _ _ _ h => h) (Or.inl ⟨rfl, fun w hSw => ?_⟩) trivial ?_
                  · go_simp
                  simp only [List.getElem_toArray, List.getElem_cons_zero, List.getElem_cons_succ, Act.put, List.setIfInBounds_toArray, List.set_cons_zero, List.set_cons_succ]
                  refine wpAnyH_ready (rs := [1]) (by kernel_rfl) (by simp) ?_
                  refine AllReadyH.cons rfl (fun K hK => ?_) AllReadyH.nil
                  go_simp
                  refine (AL.out _ (HL5.out.keep (Kept.refl none' w5).drew)).mono ?_
                  rintro e w6 ⟨va, rfl, hV, hKK, -⟩
                  have HV6 := hid hV
                  have HL6 := hid ((HL5.out.keep (Kept.refl none' w5).drew).keep hKK)
                  have HW6 := hid ((HW5.out.keep (Kept.refl none' w5).drew).keep hKK)
                  have K6 := hid (K5.out.drew.then' (fresh_none hKK))
                  clear hV hKK
                  refine hK.out _ _ trivial (fun _ => ?_)
                  clear hK K
                  try simp only [List.getElem_toArray, List.getElem_cons_zero, List.getElem_cons_succ, Act.put, List.setIfInBounds_toArray, List.set_cons_zero, List.set_cons_succ]
                  refine wpAnyH_ready (rs := [5]) (by kernel_rfl) (by simp) ?_
                  refine AllReadyH.cons rfl (fun K hK => ?_) AllReadyH.nil
                  go_simp
                  refine (same_any va _ (xs.take a) (xs.take a) HTL.out _ HV6.out.wds (HSL.out _ HW6.out.wds)).mono ?_
                  rw [decide_eq_true (rfl : xs.take a = xs.take a)]
                  rintro e w7 ⟨rfl, hKK⟩
                  have HL7 := hid (HL6.out.keep hKK)
                  have HW7 := hid (HW6.out.keep hKK)
                  have K7 := hid (K6.out.then' (fresh_none hKK))
                  clear hKK
                  refine hK.out _ _ trivial (fun _ => ?_)
                  clear hK K
                  try simp only [List.getElem_toArray, List.getElem_cons_zero, List.getElem_cons_succ, Act.put, List.setIfInBounds_toArray, List.set_cons_zero, List.set_cons_succ]
                  refine wpAnyH_take (i := 6) (v := (.bool false)) rfl (by kernel_rfl) (by kernel_rfl) (by kernel_rfl) (fun _ _ _ h => h) (Or.inl ⟨rfl, fun w hSw => ?_⟩) trivial ?_
                  · go_simp
                  simp only [List.getElem_toArray, List.getElem_cons_zero, List.getElem_cons_succ, Act.put, List.setIfInBounds_toArray, List.set_cons_zero, List.set_cons_succ]
                  refine wpAnyH_take (i := 7) (v := (.bool false)) rfl (by kernel_rfl) (by kernel_rfl) (by kernel_rfl) (fun _ _ _ h => h) (Or.inl ⟨rfl, fun w hSw => ?_⟩) trivial ?_
                  · go_simp
                  simp only [List.getElem_toArray, List.getElem_cons_zero, List.getElem_cons_succ, Act.put, List.setIfInBounds_toArray, List.set_cons_zero, List.set_cons_succ]
                  refine wpAnyH_take (i := 8) (v := (.int .i64 (a : Int))) rfl (by kernel_rfl) (by kernel_rfl) (by kernel_rfl) (fun _ _ _ h => h) (Or.inl ⟨rfl, fun w hSw => ?_⟩) trivial ?_
                  · go_simp
                  simp only [List.getElem_toArray, List.getElem_cons_zero, List.getElem_cons_succ, Act.put, List.setIfInBounds_toArray, List.set_cons_zero, List.set_cons_succ]
                  refine wpAnyH_take (i := 9) (v := (.bool false)) rfl (by kernel_rfl) (by kernel_rfl) (by kernel_rfl) (fun _ _ _ h => h) (Or.inl ⟨rfl, fun w hSw => ?_⟩) trivial ?_
                  · go_simp
                  simp only [List.getElem_toArray, List.getElem_cons_zero, List.getElem_cons_succ, Act.put, List.setIfInBounds_toArray, List.set_cons_zero, List.set_cons_succ]
                  refine wpAnyH_take (i := 10) (v := (.bool false)) rfl (by kernel_rfl) (by kernel_rfl) (by kernel_rfl) (fun _ _ _ h => h) (Or.inl ⟨rfl, fun w hSw => ?_⟩) trivial ?_
                  · go_simp
                  simp only [List.getElem_toArray, List.getElem_cons_zero, List.getElem_cons_succ, Act.put, List.setIfInBounds_toArray, List.set_cons_zero, List.set_cons_succ]
                  refine wpAnyH_take (i := 11) (v := undef) rfl (by kernel_rfl) (by kernel_rfl) (by kernel_rfl) (fun _ _ _ h => h) (Or.inr ⟨by kernel_rfl, rfl⟩) trivial ?_
                  simp only [List.getElem_toArray, List.getElem_cons_zero, List.getElem_cons_succ, Act.put, List.setIfInBounds_toArray, List.set_cons_zero, List.set_cons_succ]
                  refine wpAnyH_take (i := 12) (v := undef) rfl (by kernel_rfl) (by kernel_rfl) (by kernel_rfl) (fun _ _ _ h => h) (Or.inr ⟨by kernel_rfl, rfl⟩) trivial ?_
                  simp only [List.getElem_toArray, List.getElem_cons_zero, List.getElem_cons_succ, Act.put, List.setIfInBounds_toArray, List.set_cons_zero, List.set_cons_succ]
                  refine wpAnyH_take (i := 13) (v := undef) rfl (by kernel_rfl) (by kernel_rfl) (by kernel_rfl) (fun _ _ _ h => h) (Or.inr ⟨by kernel_rfl, rfl⟩) trivial ?_
                  simp only [List.getElem_toArray, List.getElem_cons_zero, List.getElem_cons_succ, Act.put, List.setIfInBounds_toArray, List.set_cons_zero, List.set_cons_succ]
                  refine wpAnyH_take (i := 14) (v := undef) rfl (by kernel_rfl) (by kernel_rfl) (by kernel_rfl) (fun _ _ _ h => h) (Or.inr ⟨by kernel_rfl, rfl⟩) trivial ?_
                  simp only [List.getElem_toArray, List.getElem_cons_zero, List.getElem_cons_succ, Act.put, List.setIfInBounds_toArray, List.set_cons_zero, List.set_cons_succ]
                  refine wpAnyH_take (i := 15) (v := undef) rfl (by kernel_rfl) (by kernel_rfl) (by kernel_rfl) (fun _ _ _ h => h) (Or.inr ⟨by kernel_rfl, rfl⟩) trivial ?_
                  simp only [List.getElem_toArray, List.getElem_cons_zero, List.getElem_cons_succ, Act.put, List.setIfInBounds_toArray, List.set_cons_zero, List.set_cons_succ]
                  refine wpAnyH_take (i := 16) (v := undef) rfl (by kernel_rfl) (by kernel_rfl) (by kernel_rfl) (fun _ _ _ h => h) (Or.inr ⟨by kernel_rfl, rfl⟩) trivial ?_
                  simp only [List.getElem_toArray, List.getElem_cons_zero, List.getElem_cons_succ, Act.put, List.setIfInBounds_toArray, List.set_cons_zero, List.set_cons_succ]
                  refine wpAnyH_take (i := 17) (v := undef) rfl (by kernel_rfl) (by kernel_rfl) (by kernel_rfl) (fun _ _ _ h => h) (Or.inr ⟨by kernel_rfl, rfl⟩) trivial ?_
                  simp only [List.getElem_toArray, List.getElem_cons_zero, List.getElem_cons_succ, Act.put, List.setIfInBounds_toArray, List.set_cons_zero, List.set_cons_succ]
                  refine wpAnyH_take (i := 18) (v := undef) rfl (by kernel_rfl) (by kernel_rfl) (by kernel_rfl) (fun _ _ _ h => h) (Or.inr ⟨by kernel_rfl, rfl⟩) trivial ?_
                  simp only [List.getElem_toArray, List.getElem_cons_zero, List.getElem_cons_succ, Act.put, List.setIfInBounds_toArray, List.set_cons_zero, List.set_cons_succ]
                  refine wpAnyH_take (i := 19) (v := .bool false) rfl (by kernel_rfl) (by kernel_rfl) (by kernel_rfl) (fun _ _ _ h => h) (Or.inl ⟨by kernel_rfl, fun w hSw => by kernel_rfl⟩) trivial ?_
                  simp only [List.getElem_toArray, List.getElem_cons_zero, List.getElem_cons_succ, Act.put, List.setIfInBounds_toArray, List.set_cons_zero, List.set_cons_succ]
                  refine wpAnyH_take (i := 20) (v := .bool false) rfl (by kernel_rfl) (by kernel_rfl) (by kernel_rfl) (fun _ _ _ h => h) (Or.inl ⟨by kernel_rfl, fun w hSw => by kernel_rfl⟩) trivial ?_
                  simp only [List.getElem_toArray, List.getElem_cons_zero, List.getElem_cons_succ, Act.put, List.setIfInBounds_toArray, List.set_cons_zero, List.set_cons_succ]
                  refine wpAnyH_done (by kernel_rfl) ?_ _
                  all_goals
                    by_cases hv0 : v = 0
                    · have hv0i : ((v : Int) != 0) = false := by rw [hv0]; rfl
                      have RS2 := hid (RS.out (.inl hv0))
                      clear hv0
                      go_wp2_with fail
                      refine (RS2.out _ HL7.out).mono ?_
                      rintro e w9 ⟨rfl, hL, hK⟩
                      have K9 := hid (K7.out.then' (fresh_lown hK HC.out HB.out HG.out))
                      clear hL hK
                      go_wp2_with fail
                      go_ret
                      exact ⟨rfl, from_none K9.out⟩
                    · have hv0i : ((v : Int) != 0) = true := bne_iff_ne.2 (by omega)
                      go_wp2_with fail
                      refine (has_any _ xs v hv (by have := HLL.out; omega) _ HW7.out.wds).mono ?_
                      rintro e w9 ⟨rfl, hK⟩
                      have HL9 := hid (HL7.out.keep hK)
                      have K9 := hid (K7.out.then' (fresh_none hK))
                      clear hK
                      by_cases hvx : v ∈ xs
                      · rw [decide_eq_true hvx]
                        have RS2 := hid (RS.out (.inr hvx))
                        clear hvx hv0
                        go_wp2_with fail
                        refine (RS2.out _ HL9.out).mono ?_
                        rintro e w10 ⟨rfl, hL, hK⟩
                        have K10 := hid (K9.out.then' (fresh_lown hK HC.out HB.out HG.out))
                        clear hL hK
                        go_wp2_with fail
                        go_ret
                        exact ⟨rfl, from_none K10.out⟩
                      · rw [decide_eq_false hvx]
                        clear hvx hv0
                        go_wp2_with fail
                        go_ret
                        exact ⟨rfl, from_none K9.out⟩
              · have ha0i : (0 : Int) < (a : Int) := by omega
                have ha0d : decide ((0 : Int) < (a : Int)) = true := decide_eq_true (by omega)
                have ha0e : decide (0 < a) = true := decide_eq_true (by omega)
                have ha0n : 0 < a := by omega
                have hcp := HCP.out (by omega)
                have RA2 := hid (RA.out (by omega))
                have hps := HPS.out (by omega)
                obtain ⟨a', ha'⟩ : ∃ a', a = a' + 1 := ⟨a - 1, by omega⟩
                rw [show a - 1 = a' by omega] at hcp RA2 hps
                have hw1 : IntKind.i64.wrap ((a : Int) - 1) = (a' : Int) := by rw [IntKind.wrap_i64]; omega
                have hw2 : IntKind.i64.wrap (a' : Int) = (a' : Int) := by rw [IntKind.wrap_i64]; omega
                have hw3 : (a' : Int) < (L : Int) := by omega
                have hw4 : (0 : Int) ≤ (a' : Int) := by omega
                have hw5 : (a : Int) - 1 = (a' : Int) := by omega
                have hw6 : a' < L := by omega
                clear ha'
                generalize xs.getD a' 0 = z at *
                rcases hg2 with ⟨h1, h2⟩ | h1
                · go_wp2_with fail
                  refine (W2.out _ (Kept.refl _ _)).mono ?_
                  rintro e w4 ⟨rfl, hK⟩
                  have K4 := hid hK
                  clear hK
                  go_wp2_with fail
                  refine (SW.out _ K4.out).mono ?_
                  rintro e w5 ⟨rfl, hS5, hK⟩
                  have HL5 := hid ((HLS.out.keep K4.out).stored (HST2.out _ hS5) hK)
                  have kk5 := K4.out.trans (U := lown c b (some g)) (hK.lown' (c := c)) (fun _ _ h => h.elim) (fun _ _ h => h)
                  have HW5 := hid (HW.out.lown HLS.out kk5)
                  have K5 := hid (KB.out.then' (fresh_lown kk5 HC.out HB.out HG.out))
                  have hcp5 := kk5.cell (p := ⟨ga, a', none⟩) (HW.out.apart rfl HLS.out) hcp
                  clear hK hS5 kk5 hcp
                  go_wp2_with fail
                  go_region_held3 (fun w' => w'.cell? ⟨ga, a', none⟩ = some (.int .u64 (z : Int))) (first | exact hcp5 | exact hcp6 | exact hcp7 | exact hcp8) (first | (go_at_call 12; refine (AL.out _ (HL5.out.keep (Kept.refl none' w5).drew)).mono ?_; rintro e w6 ⟨va, rfl, hV, hK, -⟩; have HV6 := hid hV; have HL6 := hid ((HL5.out.keep (Kept.refl none' w5).drew).keep hK); have HW6 := hid ((HW5.out.keep (Kept.refl none' w5).drew).keep hK); have K6 := hid (K5.out.drew.then' (fresh_none hK)); have hcp6 := hK.cell (fun x => x) (show w5.drew.cell? ⟨ga, a', none⟩ = _ from hcp5); clear hV hK) | (go_at_call 17; refine (same_any va _ (xs.take a) (xs.take a) HTL.out _ HV6.out.wds (HSL.out _ HW6.out.wds)).mono ?_; rw [decide_eq_true (rfl : xs.take a = xs.take a)]; rintro e w7 ⟨rfl, hK⟩; have HL7 := hid (HL6.out.keep hK); have HW7 := hid (HW6.out.keep hK); have K7 := hid (K6.out.then' (fresh_none hK)); have hcp7 := hK.cell (fun x => x) hcp6; clear hK) | (go_at_call 14; refine (RA2.out _ HL7.out).mono ?_; rintro e w8 ⟨rfl, hL, hK⟩; have HL8 := hid hL; have HW8 := hid (HW7.out.lown HL7.out hK); have K8 := hid (K7.out.then' (fresh_lown hK HC.out HB.out HG.out)); have hcp8 := hK.cell (p := ⟨ga, a', none⟩) (HW7.out.apart rfl HL7.out) hcp7; clear hL hK))
                  all_goals
                    by_cases hv0 : v = 0
                    · have hv0i : ((v : Int) != 0) = false := by rw [hv0]; rfl
                      have RS2 := hid (RS.out (.inl hv0))
                      clear hv0
                      go_wp2_with fail
                      refine (RS2.out _ HL8.out).mono ?_
                      rintro e w9 ⟨rfl, hL, hK⟩
                      have K9 := hid (K8.out.then' (fresh_lown hK HC.out HB.out HG.out))
                      clear hL hK
                      go_wp2_with fail
                      go_ret
                      exact ⟨rfl, from_none K9.out⟩
                    · have hv0i : ((v : Int) != 0) = true := bne_iff_ne.2 (by omega)
                      go_wp2_with fail
                      refine (has_any _ xs v hv (by have := HLL.out; omega) _ HW8.out.wds).mono ?_
                      rintro e w9 ⟨rfl, hK⟩
                      have HL9 := hid (HL8.out.keep hK)
                      have K9 := hid (K8.out.then' (fresh_none hK))
                      clear hK
                      by_cases hvx : v ∈ xs
                      · rw [decide_eq_true hvx]
                        have RS2 := hid (RS.out (.inr hvx))
                        clear hvx hv0
                        go_wp2_with fail
                        refine (RS2.out _ HL9.out).mono ?_
                        rintro e w10 ⟨rfl, hL, hK⟩
                        have K10 := hid (K9.out.then' (fresh_lown hK HC.out HB.out HG.out))
                        clear hL hK
                        go_wp2_with fail
                        go_ret
                        exact ⟨rfl, from_none K10.out⟩
                      · rw [decide_eq_false hvx]
                        clear hvx hv0
                        go_wp2_with fail
                        go_ret
                        exact ⟨rfl, from_none K9.out⟩
                · go_wp2_with fail
                  refine (W2.out _ (Kept.refl _ _)).mono ?_
                  rintro e w4 ⟨rfl, hK⟩
                  have K4 := hid hK
                  clear hK
                  go_wp2_with fail
                  refine (SW.out _ K4.out).mono ?_
                  rintro e w5 ⟨rfl, hS5, hK⟩
                  have HL5 := hid ((HLS.out.keep K4.out).stored (HST2.out _ hS5) hK)
                  have kk5 := K4.out.trans (U := lown c b (some g)) (hK.lown' (c := c)) (fun _ _ h => h.elim) (fun _ _ h => h)
                  have HW5 := hid (HW.out.lown HLS.out kk5)
                  have K5 := hid (KB.out.then' (fresh_lown kk5 HC.out HB.out HG.out))
                  have hcp5 := kk5.cell (p := ⟨ga, a', none⟩) (HW.out.apart rfl HLS.out) hcp
                  clear hK hS5 kk5 hcp
                  go_wp2_with fail
                  go_region_held3 (fun w' => w'.cell? ⟨ga, a', none⟩ = some (.int .u64 (z : Int))) (first | exact hcp5 | exact hcp6 | exact hcp7 | exact hcp8) (first | (go_at_call 12; refine (AL.out _ (HL5.out.keep (Kept.refl none' w5).drew)).mono ?_; rintro e w6 ⟨va, rfl, hV, hK, -⟩; have HV6 := hid hV; have HL6 := hid ((HL5.out.keep (Kept.refl none' w5).drew).keep hK); have HW6 := hid ((HW5.out.keep (Kept.refl none' w5).drew).keep hK); have K6 := hid (K5.out.drew.then' (fresh_none hK)); have hcp6 := hK.cell (fun x => x) (show w5.drew.cell? ⟨ga, a', none⟩ = _ from hcp5); clear hV hK) | (go_at_call 17; refine (same_any va _ (xs.take a) (xs.take a) HTL.out _ HV6.out.wds (HSL.out _ HW6.out.wds)).mono ?_; rw [decide_eq_true (rfl : xs.take a = xs.take a)]; rintro e w7 ⟨rfl, hK⟩; have HL7 := hid (HL6.out.keep hK); have HW7 := hid (HW6.out.keep hK); have K7 := hid (K6.out.then' (fresh_none hK)); have hcp7 := hK.cell (fun x => x) hcp6; clear hK) | (go_at_call 14; refine (RA2.out _ HL7.out).mono ?_; rintro e w8 ⟨rfl, hL, hK⟩; have HL8 := hid hL; have HW8 := hid (HW7.out.lown HL7.out hK); have K8 := hid (K7.out.then' (fresh_lown hK HC.out HB.out HG.out)); have hcp8 := hK.cell (p := ⟨ga, a', none⟩) (HW7.out.apart rfl HL7.out) hcp7; clear hL hK))
                  all_goals
                    by_cases hv0 : v = 0
                    · have hv0i : ((v : Int) != 0) = false := by rw [hv0]; rfl
                      have RS2 := hid (RS.out (.inl hv0))
                      clear hv0
                      go_wp2_with fail
                      refine (RS2.out _ HL8.out).mono ?_
                      rintro e w9 ⟨rfl, hL, hK⟩
                      have K9 := hid (K8.out.then' (fresh_lown hK HC.out HB.out HG.out))
                      clear hL hK
                      go_wp2_with fail
                      go_ret
                      exact ⟨rfl, from_none K9.out⟩
                    · have hv0i : ((v : Int) != 0) = true := bne_iff_ne.2 (by omega)
                      go_wp2_with fail
                      refine (has_any _ xs v hv (by have := HLL.out; omega) _ HW8.out.wds).mono ?_
                      rintro e w9 ⟨rfl, hK⟩
                      have HL9 := hid (HL8.out.keep hK)
                      have K9 := hid (K8.out.then' (fresh_none hK))
                      clear hK
                      by_cases hvx : v ∈ xs
                      · rw [decide_eq_true hvx]
                        have RS2 := hid (RS.out (.inr hvx))
                        clear hvx hv0
                        go_wp2_with fail
                        refine (RS2.out _ HL9.out).mono ?_
                        rintro e w10 ⟨rfl, hL, hK⟩
                        have K10 := hid (K9.out.then' (fresh_lown hK HC.out HB.out HG.out))
                        clear hL hK
                        go_wp2_with fail
                        go_ret
                        exact ⟨rfl, from_none K10.out⟩
                      · rw [decide_eq_false hvx]
                        clear hvx hv0
                        go_wp2_with fail
                        go_ret
                        exact ⟨rfl, from_none K9.out⟩
end Go.Proofs.Ytnkoheanjaapjaa
