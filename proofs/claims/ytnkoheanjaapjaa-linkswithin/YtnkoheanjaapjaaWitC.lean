/- LinksWithin: the walk. -/
import Derived.Test.YtnkoheanjaapjaaWitB
namespace Go.Proofs.Ytnkoheanjaapjaa
open Go.RowKit Go.Shelf
set_option linter.unusedVariables false
attribute [local go_sem] Oper.semAt_some

set_option maxHeartbeats 40000000 in
set_option maxRecDepth 5000 in
theorem within_any (cv sv : Value) (mc m : Nat) (w : World) (hM : Ints w cv mc) (hS : Steps w sv m) :
    Calls Try.prog 7 #[cv, sv] w fun e w' => e = .returned (.bool true) ∧ Kept none' w w' := by
  obtain ⟨hmc63, oa, oc, rfl, hcv⟩ := hM
  obtain ⟨hm63, oa2, oc2, rfl, hsv⟩ := hS
  have HCV := hid hcv
  have HSV := hid hsv
  have HM63 := hid hm63
  clear hcv hsv hm63
  have hmf := mkf
  have hfe := fnil
  refine calls_marks Try.func7 rfl ?_
  simp only [Try.ntmps7, List.size_toArray, List.length_cons, List.length_nil, Nat.reduceAdd, Nat.reduceSub, Array.replicate_succ, Array.replicate_zero, List.push_toArray, List.append_toArray, List.nil_append, List.cons_append]
  go_wp2_with fail
  refine (small_any _).mono ?_
  rintro e w1 ⟨b, g, rfl, hS, hK, hb, hg⟩
  have B1 := hid (show Boxed w1 w.heap.size 37 (.slice oa2 m oc2) from bkp0 ((Below.heap_alloc (w.alloc (.cells #[.slice oa2 m oc2] 37)) _ w.heap.size (by simp)).trans (heap_new w _)) hK)
  have B2 := hid (show Boxed w1 (w.heap.size + 1) 4 (.bool false) from bkp0 (heap_new2 w _ _) hK)
  have HS1 := hid hS
  have K1 := hid (fresh_none (B := w.heap.size) (none_trans (((Kept.refl none' w).alloc (.cells #[.slice oa2 m oc2] 37)).alloc (.cells #[.bool false] 4)) hK))
  have HB := hid (show w.heap.size + 2 ≤ b by simp at hb; omega)
  have HG := hid (show w.heap.size + 2 ≤ g by simp at hg; omega)
  have HZ1 := hid (show w.heap.size + 2 ≤ w1.heap.size by have := hK.size; simp at this; omega)
  clear hS hK hb hg
  have hpc := cell_of (Boxed.new w1 22 (.pointer (some ⟨b, 0, none⟩)))
  go_wp2_with fail
  refine (lives_any _).mono ?_
  rintro e w2 ⟨rfl, hK⟩
  have ka : Kept none' w1 (w1.alloc (.cells #[.pointer (some ⟨b, 0, none⟩)] 22)) := (Kept.refl none' w1).alloc _
  have B12 := hid (bkp0 (bkp0 B1.out ka) hK)
  have B22 := hid (bkp0 (bkp0 B2.out ka) hK)
  have B32 := hid (bkp0 (Boxed.new w1 22 (.pointer (some ⟨b, 0, none⟩))) hK)
  have HS2 := hid ((HS1.out.keep ka).keep hK)
  have K2 := hid ((K1.out.then' (fresh_none ka)).then' (fresh_none hK))
  have hpc2 := cell_of B32.out
  have HZ2 := hid (show w1.heap.size < w2.heap.size from B32.out.lt)
  clear hK ka HS1 B1 B2 hpc K1
  go_wp2_with fail
  refine (newList_any b 0 (by decide) _).mono ?_
  rintro e w3 ⟨c, rfl, hL, hK, hc⟩
  have ka : Kept none' w3 (w3.alloc (.cells #[.pointer (some ⟨c, 0, none⟩)] 25)) := (Kept.refl none' w3).alloc _
  have F0 := hid (show Fil w w.heap.size (w.heap.size + 1) w1.heap.size w3.heap.size (.slice oa2 m oc2) c b g (w3.alloc (.cells #[.pointer (some ⟨c, 0, none⟩)] 25)) from
    ⟨(K2.out.then' (fresh_none hK)).then' (fresh_none ka), ⟨bkp0 (bkp0 B12.out hK) ka, bkp0 (bkp0 B22.out hK) ka, bkp0 (bkp0 B32.out hK) ka, Boxed.new _ _ _⟩, _, _, ⟨(HS2.out.keep hK).keep ka, hL.keep ka⟩⟩)
  have HC := hid (show w2.heap.size ≤ c from hc)
  have HZ3 := hid (show w1.heap.size < w3.heap.size by have := hK.size; have := HZ2.out; omega)
  clear hL hK hc ka HS2 B12 B22 B32 hpc2 K2
  go_wp2_with fail
  obtain ⟨M1, hM1⟩ : ∃ M1 : Nat, M1 = 60 := ⟨_, rfl⟩
  have HM1 := hid hM1
  clear hM1
  obtain ⟨pb, hpb⟩ : ∃ pb, pb = w1.heap.size := ⟨_, rfl⟩
  obtain ⟨lb, hlb⟩ : ∃ lb, lb = w3.heap.size := ⟨_, rfl⟩
  rw [← hpb, ← hlb] at F0 HZ3
  rw [← hpb] at HZ1 HZ2
  rw [← hpb, ← hlb]
  clear hpb hlb
  go_loopw [7] (fun i wr => ∃ k : Nat, k ≤ mc ∧ k ≤ M1 ∧ i = .int .i64 k ∧ Fil w w.heap.size (w.heap.size + 1) pb lb (.slice oa2 m oc2) c b g wr) (fun i _ => mc - (intOf i).toNat)
  case atStart => exact ⟨0, by omega, by omega, rfl, F0.out⟩
  case round =>
    clear F0
    obtain ⟨k, hk, hk6, rfl, hst⟩ := hrel
    have HST := hid hst
    clear hst
    by_cases hlt : k < mc ∧ k < M1
    · obtain ⟨bl, o, rfl, hbl, hrow⟩ := HCV.out.resolve_left (by omega)
      obtain ⟨ce, hce, hc1⟩ := hrow k hlt.1
      have hkept := HST.out.k
      have hcB := hkept.cell (p := ⟨bl, o + k, none⟩) (fun h => by unfold from' at h; simp at h; omega) hc1
      have hcL := cell_of HST.out.bx.l
      have hki : (k : Int) < (mc : Int) := by omega
      have hk6i : (k : Int) < 60 := by have := HM1.out; omega
      obtain ⟨p, hp⟩ : ∃ p, p = cellA ce := ⟨_, rfl⟩
      have HP := hid (show IsCell p by rw [hp]; exact cellA_bounds ce)
      have hp64 := HP.out.lt
      have A := hid (cell_any ce hce.1 hce.2)
      rw [← hp] at A
      have HLT := hid hlt
      have HNB := hid (show ¬ lown c b (some g) bl from fun hh => by
        have := HB.out; have := HG.out; have := HC.out; have := HZ1.out; have := HZ2.out
        rcases hh with e | e | e
        · omega
        · omega
        · cases e; omega)
      obtain ⟨f, hd, hLS⟩ := HST.out.ex
      have HLS := hid hLS
      have A2 := hid (Push_any c b (some g) 4096 4096 1 4096 f hd p hp64)
      have h4 := push_ne4 f hd p HP.out.inn
      have h48 := push_le 4096 4096 f hd p
      generalize (pushR 4096 4096 f hd p).1 = f5 at *
      generalize (pushR 4096 4096 f hd p).2.1 = hd5 at *
      generalize (pushR 4096 4096 f hd p).2.2 = x5 at *
      have h4i : ((x5 : Int) == 4) = false := beq_eq_false_iff_ne.2 (by omega)
      clear hp hc1 hrow hkept hce hlt hk6 hLS h4 hbl
      go_wp2_with fail
      go_region_held3 (fun w' => w'.cell? ⟨lb, 0, none⟩ = some (.pointer (some ⟨c, 0, none⟩)) ∧ w'.cell? ⟨bl, o + k, none⟩ = some (.int .i64 ce)) (first | exact ⟨hcL, hcB⟩ | exact ⟨hcL5, hcB5⟩) (first | (go_at_call 25; refine (A.out _).mono ?_; rintro e w4 ⟨rfl, rfl⟩) | (go_at_call 13; refine (A2.out _ (HLS.out.keep (Kept.refl none' wr).drew)).mono ?_; rintro e w5 ⟨rfl, h5, k5⟩; have HLS5 := hid h5; have HK5 := hid k5; have hcL5 := k5.cell (p := ⟨lb, 0, none⟩) (boxed_apart (HST.out.bx.keep (Kept.refl none' wr).drew).l (HLS.out.keep (Kept.refl none' wr).drew) (by decide) (by decide) (by decide)) (show wr.drew.cell? ⟨lb, 0, none⟩ = _ from hcL); have hcB5 := k5.cell (p := ⟨bl, o + k, none⟩) HNB.out (show wr.drew.cell? ⟨bl, o + k, none⟩ = _ from hcB); clear h5 k5))
      all_goals go_wp2_with fail
      all_goals exact ⟨⟨k + 1, by have := HLT.out; omega, by have := HLT.out; omega, by simp, HST.out.k.drew.then' (fresh_lown HK5.out (by have := HC.out; have := HZ1.out; have := HZ2.out; omega) (by have := HB.out; omega) (by have := HG.out; omega)), (HST.out.bx.keep (Kept.refl none' wr).drew).lown (HLS.out.keep (Kept.refl none' wr).drew) HK5.out, f5, hd5, HLS5.out⟩, by have := HLT.out; simp [intOf]; omega⟩
    · obtain ⟨f, hd, hLS⟩ := HST.out.ex
      have HLS := hid hLS
      have hg2 : ((k : Int) < (mc : Int) ∧ ¬ (k : Int) < 60) ∨ ¬ (k : Int) < (mc : Int) := by have := HM1.out; omega
      have HBX := hid HST.out.bx
      have KB := hid HST.out.k
      have hcL := cell_of HBX.out.l
      clear hLS hlt hk6
      obtain ⟨W0, hW0⟩ : ∃ W0, W0 = wr := ⟨_, rfl⟩
      subst hW0
      have AL := hid (all_any c b (some g) 4096 4096 1 4096 f hd 0 (by decide) (by decide) W0 HLS.out)
      rw [show (4096 / 16 : Nat) = 256 from rfl] at AL
      rcases hg2 with ⟨h1, h2⟩ | h1
      · go_wp2_with fail
        refine AL.out.mono ?_
        rintro e w4 ⟨fv, rfl, hV, hK, hr⟩
        obtain ⟨xs0, hxs⟩ : ∃ xs0, walkR 4096 4096 f 256 0 hd = xs0 := ⟨_, rfl⟩
        rw [hxs] at hV
        have HXS := hid hxs
        clear hxs
        obtain ⟨-, ao, ac, hfv, hne, hcf⟩ := hV.wds
        obtain ⟨L0, hL0⟩ : ∃ L0, L0 = xs0.length := ⟨_, rfl⟩
        have HL0 := hid hL0
        rw [← hL0] at hfv
        obtain ⟨aa, haa⟩ : ∃ aa, aa = adr ao := ⟨_, rfl⟩
        rw [← haa] at hfv
        have HAA := hid haa
        subst hfv
        have HNE := hid hne
        have HCF := hid hcf
        have k3 : Kept none' w4 (((w4.alloc (.cells #[.slice aa L0 ac] 31)).alloc (.cells #[.int .i64 0] 3)).alloc (.cells #[.int .i64 0] 3)) := (((Kept.refl none' w4).alloc _).alloc _).alloc _
        have hcL4 := (none_trans hK k3).cell (p := ⟨lb, 0, none⟩) (fun x => x) hcL
        have HV := hid (hV.keep k3)
        have HK4 := hid (none_trans hK k3)
        have HR := hid hr
        have HZ4 := hid (show W0.heap.size ≤ w4.heap.size from hK.size)
        have B5 := hid (show Boxed (((w4.alloc (.cells #[.slice aa L0 ac] 31)).alloc (.cells #[.int .i64 0] 3)).alloc (.cells #[.int .i64 0] 3)) w4.heap.size 31 (.slice aa L0 ac) from
          (Below.heap_alloc _ _ _ (by simp; omega)).trans ((Below.heap_alloc _ _ _ (by simp)).trans (heap_new _ _)))
        have B6 := hid (show Boxed (((w4.alloc (.cells #[.slice aa L0 ac] 31)).alloc (.cells #[.int .i64 0] 3)).alloc (.cells #[.int .i64 0] 3)) (w4.heap.size + 1) 3 (.int .i64 ((0 : Nat) : Int)) from
          (Below.heap_alloc _ _ _ (by simp)).trans (heap_new2 _ _ _))
        have B7 := hid (show Boxed (((w4.alloc (.cells #[.slice aa L0 ac] 31)).alloc (.cells #[.int .i64 0] 3)).alloc (.cells #[.int .i64 0] 3)) (w4.heap.size + 2) 3 (.int .i64 ((0 : Nat) : Int)) from by
          have := heap_new ((w4.alloc (.cells #[.slice aa L0 ac] 31)).alloc (.cells #[.int .i64 0] 3)) (.cells #[.int .i64 0] 3)
          rw [World.size_alloc, World.size_alloc] at this
          exact this)
        clear hV hK hr haa hne hcf hL0 k3
        go_wp2_with fail
        refine (All_any c _).mono ?_
        rintro e w5 ⟨rfl, hw5⟩
        rw [World.size_alloc, World.size_alloc, World.size_alloc]
        obtain ⟨z, hz⟩ : ∃ z, z = w4.heap.size := ⟨_, rfl⟩
        have k5 : Kept none' (((w4.alloc (.cells #[.slice aa L0 ac] 31)).alloc (.cells #[.int .i64 0] 3)).alloc (.cells #[.int .i64 0] 3)) w5 := by rw [hw5]; exact (Kept.refl none' _).alloc _
        have C7 := hid (show Bx7 w5 w.heap.size (w.heap.size + 1) pb lb z (z + 1) (z + 2) (.slice oa2 m oc2) (.slice aa L0 ac) b c 0 0 from by
          rw [hz]
          exact ⟨(HBX.out.keep HK4.out).keep k5, bkp0 B5.out k5, bkp0 B6.out k5, bkp0 B7.out k5⟩)
        have C8 := hid (show PtrB w5 (z + 3) c by
          rw [hw5, hz]
          have := heap_new (((w4.alloc (.cells #[.slice aa L0 ac] 31)).alloc (.cells #[.int .i64 0] 3)).alloc (.cells #[.int .i64 0] 3)) (.cells #[.pointer (some ⟨c, 0, none⟩)] 25)
          rw [World.size_alloc, World.size_alloc, World.size_alloc] at this
          exact this)
        have hz5 : w5.heap.size = z + 4 := by rw [hw5, hz]; simp
        have C9 := hid (HV.out.keep k5)
        have K5 := hid (none_trans HK4.out k5)
        have HLS5 := hid (HLS.out.keep K5.out)
        have HZW := hid (show W0.heap.size ≤ z by rw [hz]; exact HZ4.out)
        have HFR := hid (show ∀ r, Value.ownBlock (.slice aa L0 ac) = some r → r < z from fun r hr => by
          have := HV.out.wds.lt hr
          simp at this
          rcases Nat.lt_or_ge r z with h | h
          · exact h
          · exfalso
            obtain ⟨cs, hcs⟩ := HV.out.blk hr
            have : r = z ∨ r = z + 1 ∨ r = z + 2 := by omega
            rcases this with e | e | e
            · rw [e, hz, show _ = _ from B5.out] at hcs; simp at hcs
            · rw [e, hz, show _ = _ from B6.out] at hcs; simp at hcs
            · rw [e, hz, show _ = _ from B7.out] at hcs; simp at hcs)
        have HLOW := hid (show ∀ x, lown c b (some g) x → x < W0.heap.size from fun x hx => HLS.out.lt x hx)
        have HBL := hid (show lb < W0.heap.size from HBX.out.l.lt)
        have ez : ∀ t, w4.heap.size + t = z + t := fun t => by rw [hz]
        rw [← hz, show z + 1 + 1 = z + 2 from rfl, show z + 2 + 1 = z + 3 from rfl]
        clear hw5 hcL4 hcL k5 HLS HBX HK4 HV B5 B6 B7 ez hz
        go_wp2_with fail
        refine wp_range (gf := 55) (lb := #[.pointer (some ⟨z + 3, 0, none⟩)]) rfl (enters_of Try.func55 (by kernel_rfl) rfl) ?_
        intro fn rc hrc
        have HRC := hid hrc
        clear hrc
        rw [hz5]
        obtain ⟨W6, hW6⟩ : ∃ W6, W6 = (w5.alloc (.deferred (some []))).alloc (.loop (rc .ready none)) := ⟨_, rfl⟩
        have k6 : Kept none' w5 W6 := by rw [hW6]; exact ((Kept.refl none' w5).alloc _).alloc _
        have HZ6 := hid (show W6.heap.size = z + 6 by rw [hW6]; simp; omega)
        have G3 := hid (show RecAt W6 (z + 5) (rc .ready none) by
          rw [hW6]
          have := heap_new2 w5 (.deferred (some [])) (.loop (rc .ready none))
          rw [hz5] at this
          exact this)
        have G4 := hid (show DefAt W6 (z + 4) by
          rw [hW6]
          have := (Below.heap_alloc (w5.alloc (.deferred (some []))) (.loop (rc .ready none)) w5.heap.size (by simp)).trans (heap_new w5 _)
          rw [hz5] at this
          exact this)
        have K6 := hid (KB.out.then' (fresh_none (none_trans K5.out k6)))
        have HLS6 := hid (HLS5.out.keep k6)
        have O7 := hid (show Ord7 (z + 6) w.heap.size (w.heap.size + 1) pb lb z (z + 1) (z + 2) from by
          have := HZ1.out; have := HZ3.out; have := HBL.out; have := HZW.out
          exact ⟨by omega, by omega, by omega, by omega, by omega, by omega, by omega⟩)
        have HWZ := hid (show w.heap.size ≤ z + 6 by have := KB.out.size; have := HZW.out; omega)
        have HFR2 := hid (show ∀ r, Value.ownBlock (.slice aa L0 ac) = some r → r < z + 6 from fun r hr => by have := HFR.out r hr; omega)
        have H0 := hid (show Wth (z + 6) w w.heap.size (w.heap.size + 1) pb lb z (z + 1) (z + 2) (z + 3) (z + 4) (z + 5) (.slice oa2 m oc2) (.slice aa L0 ac) c b g m f hd xs0 rc .ready 0 0 hd f W6 from by
          refine ⟨⟨hd, HLS6.out⟩, ?_, C8.out.keep k6, G3.out, G4.out, C9.out.keep k6, K6.out, HLS6.out.l.h64, by decide, by omega, by rw [HZ6.out]; omega, fun x hx => by have := HLOW.out x hx; have := HZW.out; omega, fun _ => ⟨rfl, HXS.out⟩⟩
          rw [Nat.zero_min]
          exact C7.out.keep k6)
        rw [← hW6]
        clear hW6 k6 C7 C8 C9 K5 HLS5 G3 G4 hz5
        refine (All1_any (z + 3) (z + 5) c b (some g) 4096 4096 1 4096 0 (by decide) (by decide) (z + 6)
          (fun i q p f' S W => Wth (z + 6) w w.heap.size (w.heap.size + 1) pb lb z (z + 1) (z + 2) (z + 3) (z + 4) (z + 5) (.slice oa2 m oc2) (.slice aa L0 ac) c b g m f hd xs0 rc .ready i q p f' W ∧ S = fun x => x < z + 6) (fun _ _ => False)
          ?hK1 ?hK2 (fun _ _ _ _ h => h.elim) ?hY hd f (fun x => x < z + 6) W6 (by rw [HZ6.out]; omega) HLS6.out ⟨H0.out, rfl⟩).mono ?hend
        case hK1 =>
          rintro i q p f' S W ⟨h, rfl⟩
          exact ⟨h.hp, h.hq, h.ls, fun x hx => Nat.lt_of_lt_of_le hx h.hB, h.pk⟩
        case hK2 =>
          rintro i q p f' S T W W' ⟨h, rfl⟩ hk hT
          exact ⟨h.far O7.out (by omega) (by omega) (by omega) HFR2.out HWZ.out hk (fun x hx => (hT x hx).1), rfl⟩
        case hend =>
          rintro e W' ⟨hv, ⟨i, q, p, f', S, ⟨h, hS⟩, hi, hor⟩ | ⟨_, h⟩⟩
          · refine ⟨hv, .ready, none, by simp, h.rcd, fun _ => ?_, fun c hc => by cases hc⟩
            have hdone : L0 ≤ i ∨ 0 < min i m := by
              by_cases h0 : i = 0 ∨ m = 0
              · left
                obtain ⟨hf, hwk⟩ := h.hw h0
                have hnil : walkR 4096 4096 f (256 - i) q p = [] := by
                  rcases Nat.eq_zero_or_pos (256 - i) with e | e
                  · rw [e]; rfl
                  · obtain ⟨k', hk'⟩ : ∃ k', 256 - i = k' + 1 := ⟨256 - i - 1, by omega⟩
                    rw [hk']
                    unfold walkR
                    rw [if_neg]
                    rintro ⟨a1, a2, a3⟩
                    rw [hf] at hor
                    rcases hor with e | e | e | e
                    · exact a1 e
                    · exact e a2
                    · exact e a3
                    · omega
                rw [hnil] at hwk
                have := List.drop_eq_nil_iff.1 hwk.symm
                rw [HL0.out]
                exact this
              · right
                omega
            have kx : Kept (fun x => x = z + 5) W' (W'.putObj (z + 5) (.loop (rc .exhausted none))) := (Kept.refl (fun x => x = z + 5) W').putObj (fun _ => rfl) _
            obtain ⟨Wx, hWx⟩ : ∃ Wx, Wx = W'.putObj (z + 5) (.loop (rc .exhausted none)) := ⟨_, rfl⟩
            rw [← hWx] at kx
            have o7 := O7.out
            have bx := h.bx.kept kx (fun x hx e => by obtain ⟨o1, o2, o3, o4, o5, o6, o7⟩ := o7; omega)
            have dx := h.df.kept kx (by omega)
            have KX := hid (h.k.trans kx (U := from' w.heap.size) (fun _ _ x => x) (fun x _ hx => by subst hx; show w.heap.size ≤ z + 5; have := HWZ.out; obtain ⟨o1, o2, o3, o4, o5, o6, o7⟩ := o7; omega))
            have hcn := cell_of bx.n
            have hck := cell_of bx.k
            have hcf := cell_of bx.f
            have hcr := cell_of bx.four.r
            have hfr := frozen_of bx.four.r
            have RB := hid bx.four.r
            have hi256 : i ≤ 256 := h.hi
            rw [show z + 4 + 1 = z + 5 from rfl, ← hWx]
            have DX := hid dx
            have HDN := hid hdone
            obtain ⟨kq, hkq⟩ : ∃ kq, kq = min i m := ⟨_, rfl⟩
            have hkq2 : kq ≤ 256 := by omega
            rw [← hkq] at hck HDN
            clear hkq
            clear hdone h hor kx hWx bx dx hv o7
            have kf : Kept (fun x => x = w.heap.size + 1 ∨ x = z + 4) Wx ((Wx.setCell ⟨w.heap.size + 1, 0, none⟩ (.bool true)).putObj (z + 4) (.deferred none)) := ((Kept.refl _ Wx).setCell (fun _ => .inl rfl) _).putObj (fun _ => .inr rfl) _
            have KF := hid (KX.out.trans (U := from' w.heap.size) kf (fun _ _ x => x) (fun x _ hx => by show w.heap.size ≤ x; have := HWZ.out; have := O7.out.o1; have := O7.out.o2; have := O7.out.o3; have := O7.out.o4; omega))
            have hne : w.heap.size + 1 ≠ z + 4 := by have := O7.out.o2; have := O7.out.o3; have := O7.out.o4; omega
            have DF := hid (show DefAt (Wx.setCell ⟨w.heap.size + 1, 0, none⟩ (.bool true)) (z + 4) from DX.out.kept ((Kept.refl (fun x => x = w.heap.size + 1) Wx).setCell (fun _ => rfl) _) (fun e => hne e.symm))
            have RF := hid (show ((Wx.setCell ⟨w.heap.size + 1, 0, none⟩ (.bool true)).putObj (z + 4) (.deferred none)).cell? ⟨w.heap.size + 1, 0, none⟩ = some (.bool true) from cell_of (t := 4) ((World.putObj_heap_other hne).trans (heap_set RB.out 0 _)))
            clear kf hne KX DX RB
            by_cases hge : L0 ≤ i
            · have hgei : (L0 : Int) ≤ (i : Int) := by omega
              have hged : decide ((L0 : Int) ≤ (i : Int)) = true := decide_eq_true hgei
              go_wp2_with fail
              refine ⟨by simp, .inl ⟨_, _, rfl, run_takeDeferred DF.out, ?_⟩⟩
              exact ⟨_, by simp [results, Try.results7, go_sem, RF.out], rfl, from_none KF.out⟩
            · have hgei : ¬ (L0 : Int) ≤ (i : Int) := by omega
              have hged : decide ((L0 : Int) ≤ (i : Int)) = false := decide_eq_false hgei
              have hkp : (0 : Int) < (kq : Int) := by have := HDN.out; omega
              have HKP := hid (show decide (0 < kq) = true from decide_eq_true (by omega))
              go_wp2_with fail
              rw [HKP.out]
              refine ⟨by simp, .inl ⟨_, _, rfl, run_takeDeferred DF.out, ?_⟩⟩
              exact ⟨_, by simp [results, Try.results7, go_sem, RF.out], rfl, from_none KF.out⟩
          · exact h.elim
        case hY =>
          rintro i q p f' S W ⟨h, rfl⟩ hi hp0 hin hpv
          have hL := h.rcd
          rw [HRC.out] at hL
          refine yield_round hL rfl ?_
          rw [← HRC.out]
          have hi2 : i < 256 := hi
          have kk : Kept (fun x => x = z + 5) W (W.putObj (z + 5) (.loop (rc .busy none))) := (Kept.refl (fun x => x = z + 5) W).putObj (fun _ => rfl) _
          obtain ⟨W2, hW2⟩ : ∃ W2, W2 = W.putObj (z + 5) (.loop (rc .busy none)) := ⟨_, rfl⟩
          rw [← hW2] at kk
          obtain ⟨hd', hls⟩ := h.ls
          have HLOW2 := hid (show ∀ x, lown c b (some g) x → x < z from fun x hx => by have := HLOW.out x hx; have := HZW.out; omega)
          have hls2 := hls.kept kk (fun x hx e => by have := HLOW2.out x hx; omega)
          have bx2 := h.bx.kept kk (fun x hx e => by obtain ⟨o1, o2, o3, o4, o5, o6, o7⟩ := O7.out; omega)
          have R2 : RecAt W2 (z + 5) (rc .busy none) := by rw [hW2]; exact h.rcd.put _
          have fst2 := h.fst.kept kk (fun r hr e => by have := HFR.out r hr; omega)
          have k2 := h.k.trans kk (U := from' w.heap.size) (fun _ _ x => x) (fun x _ hx => by subst hx; show w.heap.size ≤ z + 5; have := KB.out.size; have := HZW.out; omega)
          have HTH := hid h
          have HLS2 := hid hls2
          have BX2 := hid bx2
          have HR2 := hid R2
          have FST2 := hid fst2
          have K2 := hid k2
          have HKK := hid kk
          have HIN := hid hin
          have HPV := hid hpv
          have HPP := hid hp0
          have hp64 := h.hp
          have HREC := hid h.rcd
          have HW0 := hid h.hw
          have hcn := cell_of bx2.n
          have hcf := cell_of bx2.f
          have hck := cell_of bx2.k
          have hcs := cell_of bx2.four.s
          have hcl := cell_of bx2.four.l
          have hcp := cell_of bx2.four.p
          have hfn := frozen_of bx2.n
          have hfk := frozen_of bx2.k
          clear h hL hls hls2 bx2 R2 fst2 k2 kk hin hpv hp0
          gi_wp2_with fail
          refine ⟨HREC.out, ?_⟩
          rw [← hW2]
          clear hW2
          have bx3 : Bx7 (W2.setCell ⟨z + 2, 0, none⟩ (.int .i64 ((i : Int) + 1))) w.heap.size (w.heap.size + 1) pb lb z (z + 1) (z + 2) (.slice oa2 m oc2) (.slice aa L0 ac) b c (min i m) (i + 1) := by
            have := BX2.out.setN O7.out (i + 1)
            rw [show ((i + 1 : Nat) : Int) = (i : Int) + 1 by omega] at this
            exact this
          have k3 : Kept (fun x => x = z + 2) W2 (W2.setCell ⟨z + 2, 0, none⟩ (.int .i64 ((i : Int) + 1))) := (Kept.refl (fun x => x = z + 2) W2).setCell (fun _ => rfl) _
          have ls3 := HLS2.out.kept k3 (fun x hx e => by have := HLOW2.out x hx; omega)
          have R3 := HR2.out.kept k3 (by omega)
          have hcn3 : (W2.setCell ⟨z + 2, 0, none⟩ (.int .i64 ((i : Int) + 1))).cell? ⟨z + 2, 0, none⟩ = some (.int .i64 ((i : Int) + 1)) := cell_of (heap_set BX2.out.n 0 _)
          have hck3 := cell_of bx3.k
          have hcs3 := cell_of bx3.four.s
          have BX3 := hid bx3
          have LS3 := hid ls3
          have HR3 := hid R3
          have HK3 := hid k3
          clear bx3 k3 ls3 R3
          have hfirst : i = 0 → ∃ ga, aa = some ⟨ga, 0, none⟩ ∧ W2.cell? ⟨ga, 0, none⟩ = some (.int .u64 (p : Int)) ∧ 0 < L0 := fun h0 => by
            obtain ⟨hf, hwk⟩ := HW0.out (.inl h0)
            rw [show 256 - i = (255 - i) + 1 by omega, walkR_cons _ _ _ _ _ _ ⟨HPP.out, HIN.out, by rw [← hf]; exact HPV.out⟩] at hwk
            generalize walkR 4096 4096 f (255 - i) p (nx 4096 f p) = tl at hwk
            rw [h0, List.drop_zero] at hwk
            have hpos : 0 < xs0.length := by rw [← hwk]; simp
            have hne : xs0 ≠ [] := fun e => by rw [e] at hpos; simp at hpos
            obtain ⟨h1, ao2, ac2, he, h2, h3⟩ := FST2.out.wds
            obtain ⟨g2, hg2⟩ := h2 hne
            have hcc := (h3 g2 hg2).2.2 0 hpos
            subst hg2
            have hg : aa = some ⟨g2, 0, none⟩ := by
              simp [adr] at he
              exact he.1
            refine ⟨g2, hg, ?_, by rw [HL0.out]; exact hpos⟩
            rw [hcc, ← hwk]
            rfl
          by_cases him : i < m
          · have hkm : min i m = i := by omega
            rw [hkm] at hck3
            obtain ⟨bl, o, rfl, hbl, hrow⟩ := HSV.out.resolve_left (by omega)
            obtain ⟨op, li, P, V, hop, hli, hP, hV, c0, c1, c2, c3⟩ := hrow i him
            have kq3 : Kept (from' w.heap.size) w (W2.setCell ⟨z + 2, 0, none⟩ (.int .i64 ((i : Int) + 1))) := K2.out.setCell (fun h => by simp at h; show w.heap.size ≤ z + 2; have := KB.out.size; have := HZW.out; omega) _
            have hnf : ∀ j, ¬ from' w.heap.size (Addr.block ⟨bl, j, none⟩) := fun j h => by unfold from' at h; simp at h; omega
            have d0 := kq3.cell (p := ⟨bl, o + i * 4 + 0, none⟩) (hnf _) c0
            have d1 := kq3.cell (p := ⟨bl, o + i * 4 + 1, none⟩) (hnf _) c1
            have d2 := kq3.cell (p := ⟨bl, o + i * 4 + 2, none⟩) (hnf _) c2
            have d3 := kq3.cell (p := ⟨bl, o + i * 4 + 3, none⟩) (hnf _) c3
            rw [show o + i * 4 + 0 = o + i * 4 from rfl] at d0
            have him2 : (i : Int) < (m : Int) := by omega
            obtain ⟨W3, hW3⟩ : ∃ W3, W3 = W2.setCell ⟨z + 2, 0, none⟩ (.int .i64 ((i : Int) + 1)) := ⟨_, rfl⟩
            have hz3 : W3.heap.size = W2.heap.size := by rw [hW3]; simp
            -- the step's box, and how many are done
            obtain ⟨W5, hW5⟩ : ∃ W5, W5 = (W3.alloc (.cells #[.int .i64 op, .int .i64 li, .int .u64 (P : Int), .int .u64 (V : Int)] 55)).setCell ⟨z + 1, 0, none⟩ (.int .i64 ((i : Int) + 1)) := ⟨_, rfl⟩
            have ka : Kept none' W3 (W3.alloc (.cells #[.int .i64 op, .int .i64 li, .int .u64 (P : Int), .int .u64 (V : Int)] 55)) := (Kept.refl none' W3).alloc _
            have k5 : Kept (fun x => x = z + 1) W3 W5 := by rw [hW5]; exact ((Kept.refl (fun x => x = z + 1) W3).alloc _).setCell (fun _ => rfl) _
            rw [← hW3] at BX3 LS3 HR3 HK3
            have bx5 : Bx7 W5 w.heap.size (w.heap.size + 1) pb lb z (z + 1) (z + 2) (.slice (some ⟨bl, o, none⟩) m oc2) (.slice aa L0 ac) b c (i + 1) (i + 1) := by
              have := (BX3.out.keep ka).setK O7.out (i + 1)
              rw [show ((i + 1 : Nat) : Int) = (i : Int) + 1 by omega, ← hW5] at this
              exact this
            have ls5 := LS3.out.kept k5 (fun x hx e => by have := HLOW2.out x hx; omega)
            have R5 := HR3.out.kept k5 (by omega)
            have hzz : z + 2 < W3.heap.size := BX3.out.n.lt
            have hbb : W5.heap[W3.heap.size]? = some (.cells #[.int .i64 op, .int .i64 li, .int .u64 (P : Int), .int .u64 (V : Int)] 55 (0, 0)) := by
              rw [hW5, Below.heap_setCell _ _ _ _ (by simp; omega)]
              exact heap_new _ _
            have e0 : W5.cell? ⟨W2.heap.size, 0, none⟩ = some (.int .i64 op) := by rw [← hz3]; simp [World.cell?, hbb]
            have e2 : W5.cell? ⟨W2.heap.size, 2, none⟩ = some (.int .u64 (P : Int)) := by rw [← hz3]; simp [World.cell?, hbb]
            have e3 : W5.cell? ⟨W2.heap.size, 3, none⟩ = some (.int .u64 (V : Int)) := by rw [← hz3]; simp [World.cell?, hbb]
            have hcl5 := cell_of bx5.four.l
            have hcp5 := cell_of bx5.four.p
            have h3 := and_3 op
            obtain ⟨x, hx⟩ : ∃ x : Nat, op % 4 = (x : Int) := ⟨(op % 4).toNat, by omega⟩
            have hx4 : x < 4 := by omega
            rw [hx] at h3
            have KWW5 := hid (show Kept (rch c b g (z + 1) (z + 2) (z + 5)) W W5 from ((HKK.out.mono (fun x _ e => .inr (.inr (.inr e)))).trans (U := rch c b g (z + 1) (z + 2) (z + 5)) HK3.out (fun _ _ h => h) (fun x _ e => .inr (.inr (.inl e)))).trans k5 (fun _ _ h => h) (fun x _ e => .inr (.inl e)))
            have hck5 : (W3.alloc (.cells #[.int .i64 op, .int .i64 li, .int .u64 (P : Int), .int .u64 (V : Int)] 55)).cell? ⟨z + 1, 0, none⟩ = some (.int .i64 (i : Int)) := by
              have := cell_of (BX3.out.keep ka).k
              rw [hkm] at this
              exact this
            have hcs5 := cell_of (BX3.out.keep ka).four.s
            have hfk5 := frozen_of (BX3.out.keep ka).k
            rw [hW3] at hck5 hcs5 hfk5
            have BX5 := hid bx5
            have LS5 := hid ls5
            have HR5 := hid R5
            have HW5 := hid hW5
            have HW3 := hid hW3
            clear c0 c1 c2 c3 hrow hnf kq3 ka k5 bx5 ls5 R5 hbb hx hop hli hkm hW3 hzz
            rw [HW3.out] at HW5
            have hFIN : ∀ (f9 : Nat → Nat) (W9 : World), (∃ hd9, LS W9 c b (some g) 4096 4096 1 4096 f9 hd9) → Kept (lown c b (some g)) W5 W9 →
                Wth (z + 6) w w.heap.size (w.heap.size + 1) pb lb z (z + 1) (z + 2) (z + 3) (z + 4) (z + 5) (.slice (some ⟨bl, o, none⟩) m oc2) (.slice aa L0 ac) c b g m f hd xs0 rc .ready (i + 1) p (nx 4096 f' p) f9 (W9.putObj (z + 5) (.loop (rc .ready none))) ∧
                Kept (fun x => x < z + 6) W (W9.putObj (z + 5) (.loop (rc .ready none))) ∧ RecAt W9 (z + 5) (rc .busy none) := fun f9 W9 hl9 hk9 => by
              obtain ⟨hd9, hl9⟩ := hl9
              have hR9 : RecAt W9 (z + 5) (rc .busy none) := HR5.out.kept hk9 (fun hx => by have := HLOW2.out _ hx; omega)
              have kW : Kept (rch c b g (z + 1) (z + 2) (z + 5)) W (W9.putObj (z + 5) (.loop (rc .ready none))) := (KWW5.out.trans (U := rch c b g (z + 1) (z + 2) (z + 5)) hk9 (fun _ _ h => h) (fun x _ e => .inl e)).putObj (fun _ => .inr (.inr (.inr rfl))) _
              refine ⟨HTH.out.next kW HLOW2.out ?_ ?_ (fun r hr => HFR.out r hr) ⟨hd9, hl9.kept ((Kept.refl (fun x => x = z + 5) _).putObj (fun _ => rfl) _) (fun x hx e => by have := HLOW2.out x hx; omega)⟩ ?_ (hR9.put _) (by omega) (HLS2.out.s.nx_lt p HIN.out) (fun h0 => by omega), kW.mono (fun x _ h => ?_), hR9⟩
              · intro x hx
                have := HB.out; have := HG.out; have := HC.out; have := HZ1.out; have := HZ2.out
                rcases hx with e | e | e
                · omega
                · omega
                · cases e; omega
              · have := KB.out.size; have := HZW.out; omega
              · have hb := (BX5.out.lown LS5.out hk9).kept ((Kept.refl (fun x => x = z + 5) _).putObj (fun _ => rfl) (.loop (rc .ready none))) (fun x hx e => by obtain ⟨o1, o2, o3, o4, o5, o6, o7⟩ := O7.out; omega)
                rw [show min (i + 1) m = i + 1 by omega]
                exact hb
              · rcases h with h | h | h | h
                · have := HLOW2.out x h; omega
                · omega
                · omega
                · omega
            have HFIN := hid hFIN
            clear hFIN
            rw [HW5.out] at e0 e2 e3 hcl5 hcp5
            have hi256 : ¬ (256 : Int) < (i : Int) + 1 := by omega
            by_cases h0 : i = 0
            · obtain ⟨ga, hga, hcg, hL0⟩ := hfirst h0
              subst hga
              have hi0 : ((i : Int) == 0) = true := beq_iff_eq.2 (by omega)
              have hl0 : ((L0 : Int) == 0) = false := beq_eq_false_iff_ne.2 (by omega)
              have hl0i : (0 : Int) < (L0 : Int) := by omega
              clear hfirst h0
              have hx0123 : x = 0 ∨ x = 1 ∨ x = 2 ∨ x = 3 := by omega
              rcases hx0123 with rfl | rfl | rfl | rfl
              · gi_wp2_with fail
                rw [← HW5.out]
                refine ⟨trivial, rfl, ?_⟩
                refine (CallsIn.inRound (z + 5) (callsIn_wide.2 (Push_any c b (some g) 4096 4096 1 4096 f' hd' P hP W5 LS5.out))).mono ?_
                rintro e W9 ⟨rfl, hl9, hk9⟩
                have HL9 := hid hl9
                have K9 := hid hk9
                clear hl9 hk9
                gi_wp2_with fail
                obtain ⟨g1, g2, g3⟩ := HFIN.out _ W9 ⟨_, HL9.out⟩ K9.out
                exact ⟨g3, rfl, _, _, ⟨g1, rfl⟩, g2, fun x hx => .inl hx⟩
              · gi_wp2_with fail
                rw [← HW5.out]
                refine ⟨trivial, rfl, ?_⟩
                refine (CallsIn.inRound (z + 5) (callsIn_wide.2 (Remove_any c b (some g) 4096 4096 1 4096 f' hd' P hP W5 LS5.out))).mono ?_
                rintro e W9 ⟨rfl, hl9, hk9⟩
                have HL9 := hid hl9
                have K9 := hid hk9
                clear hl9 hk9
                gi_wp2_with fail
                obtain ⟨g1, g2, g3⟩ := HFIN.out _ W9 ⟨_, HL9.out⟩ K9.out
                exact ⟨g3, rfl, _, _, ⟨g1, rfl⟩, g2, fun x hx => .inl hx⟩
              · by_cases hinP : In 4096 4096 P 8
                · have HNP := hid hinP
                  clear hinP
                  gi_wp2_with fail
                  rw [← HW5.out]
                  refine ⟨trivial, rfl, ?_⟩
                  refine (CallsIn.inRound (z + 5) (callsIn_wide.2 (SetWord_in b g 4096 4096 1 4096 f' P V hV W5 LS5.out.s HNP.out))).mono ?_
                  rintro e W9 ⟨rfl, hs9, hk9⟩
                  have HL9 := hid (LS5.out.stored hs9 hk9)
                  have K9 := hid (hk9.lown' (c := c))
                  clear hs9 hk9
                  gi_wp2_with fail
                  obtain ⟨g1, g2, g3⟩ := HFIN.out _ W9 ⟨_, HL9.out⟩ K9.out
                  exact ⟨g3, rfl, _, _, ⟨g1, rfl⟩, g2, fun x hx => .inl hx⟩
                · have HNP := hid hinP
                  clear hinP
                  gi_wp2_with fail
                  rw [← HW5.out]
                  refine ⟨trivial, rfl, ?_⟩
                  refine (CallsIn.inRound (z + 5) (callsIn_wide.2 (SetWord_out b (some g) 4096 4096 1 4096 f' P 8 V none 0 W5 LS5.out.s hP (by decide) (by decide) HNP.out))).mono ?_
                  rintro e W9 ⟨rfl, hk9⟩
                  have HL9 := hid (LS5.out.keep hk9)
                  have K9 := hid (hk9.lown (c := c) (b := b) (ao := some g))
                  clear hk9
                  gi_wp2_with fail
                  obtain ⟨g1, g2, g3⟩ := HFIN.out _ W9 ⟨_, HL9.out⟩ K9.out
                  exact ⟨g3, rfl, _, _, ⟨g1, rfl⟩, g2, fun x hx => .inl hx⟩
              · gi_wp2_with fail
                rw [← HW5.out]
                refine ⟨trivial, rfl, ?_⟩
                refine (CallsIn.inRound (z + 5) (callsIn_wide.2 (Remove_any c b (some g) 4096 4096 1 4096 f' hd' p hp64 W5 LS5.out))).mono ?_
                rintro e W9 ⟨rfl, hl9, hk9⟩
                have HL9 := hid hl9
                have K9 := hid hk9
                clear hl9 hk9
                gi_wp2_with fail
                obtain ⟨g1, g2, g3⟩ := HFIN.out _ W9 ⟨_, HL9.out⟩ K9.out
                exact ⟨g3, rfl, _, _, ⟨g1, rfl⟩, g2, fun x hx => .inl hx⟩
            · have hi0 : ((i : Int) == 0) = false := beq_eq_false_iff_ne.2 (by omega)
              clear hfirst h0
              have hx0123 : x = 0 ∨ x = 1 ∨ x = 2 ∨ x = 3 := by omega
              rcases hx0123 with rfl | rfl | rfl | rfl
              · gi_wp2_with fail
                rw [← HW5.out]
                refine ⟨trivial, rfl, ?_⟩
                refine (CallsIn.inRound (z + 5) (callsIn_wide.2 (Push_any c b (some g) 4096 4096 1 4096 f' hd' P hP W5 LS5.out))).mono ?_
                rintro e W9 ⟨rfl, hl9, hk9⟩
                have HL9 := hid hl9
                have K9 := hid hk9
                clear hl9 hk9
                gi_wp2_with fail
                obtain ⟨g1, g2, g3⟩ := HFIN.out _ W9 ⟨_, HL9.out⟩ K9.out
                exact ⟨g3, rfl, _, _, ⟨g1, rfl⟩, g2, fun x hx => .inl hx⟩
              · gi_wp2_with fail
                rw [← HW5.out]
                refine ⟨trivial, rfl, ?_⟩
                refine (CallsIn.inRound (z + 5) (callsIn_wide.2 (Remove_any c b (some g) 4096 4096 1 4096 f' hd' P hP W5 LS5.out))).mono ?_
                rintro e W9 ⟨rfl, hl9, hk9⟩
                have HL9 := hid hl9
                have K9 := hid hk9
                clear hl9 hk9
                gi_wp2_with fail
                obtain ⟨g1, g2, g3⟩ := HFIN.out _ W9 ⟨_, HL9.out⟩ K9.out
                exact ⟨g3, rfl, _, _, ⟨g1, rfl⟩, g2, fun x hx => .inl hx⟩
              · by_cases hinP : In 4096 4096 P 8
                · have HNP := hid hinP
                  clear hinP
                  gi_wp2_with fail
                  rw [← HW5.out]
                  refine ⟨trivial, rfl, ?_⟩
                  refine (CallsIn.inRound (z + 5) (callsIn_wide.2 (SetWord_in b g 4096 4096 1 4096 f' P V hV W5 LS5.out.s HNP.out))).mono ?_
                  rintro e W9 ⟨rfl, hs9, hk9⟩
                  have HL9 := hid (LS5.out.stored hs9 hk9)
                  have K9 := hid (hk9.lown' (c := c))
                  clear hs9 hk9
                  gi_wp2_with fail
                  obtain ⟨g1, g2, g3⟩ := HFIN.out _ W9 ⟨_, HL9.out⟩ K9.out
                  exact ⟨g3, rfl, _, _, ⟨g1, rfl⟩, g2, fun x hx => .inl hx⟩
                · have HNP := hid hinP
                  clear hinP
                  gi_wp2_with fail
                  rw [← HW5.out]
                  refine ⟨trivial, rfl, ?_⟩
                  refine (CallsIn.inRound (z + 5) (callsIn_wide.2 (SetWord_out b (some g) 4096 4096 1 4096 f' P 8 V none 0 W5 LS5.out.s hP (by decide) (by decide) HNP.out))).mono ?_
                  rintro e W9 ⟨rfl, hk9⟩
                  have HL9 := hid (LS5.out.keep hk9)
                  have K9 := hid (hk9.lown (c := c) (b := b) (ao := some g))
                  clear hk9
                  gi_wp2_with fail
                  obtain ⟨g1, g2, g3⟩ := HFIN.out _ W9 ⟨_, HL9.out⟩ K9.out
                  exact ⟨g3, rfl, _, _, ⟨g1, rfl⟩, g2, fun x hx => .inl hx⟩
              · gi_wp2_with fail
                rw [← HW5.out]
                refine ⟨trivial, rfl, ?_⟩
                refine (CallsIn.inRound (z + 5) (callsIn_wide.2 (Remove_any c b (some g) 4096 4096 1 4096 f' hd' p hp64 W5 LS5.out))).mono ?_
                rintro e W9 ⟨rfl, hl9, hk9⟩
                have HL9 := hid hl9
                have K9 := hid hk9
                clear hl9 hk9
                gi_wp2_with fail
                obtain ⟨g1, g2, g3⟩ := HFIN.out _ W9 ⟨_, HL9.out⟩ K9.out
                exact ⟨g3, rfl, _, _, ⟨g1, rfl⟩, g2, fun x hx => .inl hx⟩
          · have hkm : min i m = m := by omega
            rw [hkm] at hck3
            have hmm : ¬ (m : Int) < (m : Int) := by omega
            have HNX := hid (show Wth (z + 6) w w.heap.size (w.heap.size + 1) pb lb z (z + 1) (z + 2) (z + 3) (z + 4) (z + 5) (.slice oa2 m oc2) (.slice aa L0 ac) c b g m f hd xs0 rc .ready (i + 1) p (nx 4096 f' p) f' ((W2.setCell ⟨z + 2, 0, none⟩ (.int .i64 ((i : Int) + 1))).putObj (z + 5) (.loop (rc .ready none))) from by
              refine HTH.out.next ?_ HLOW2.out ?_ ?_ (fun r hr => HFR.out r hr) ⟨hd', LS3.out.kept ((Kept.refl (fun x => x = z + 5) _).putObj (fun _ => rfl) _) (fun x hx e => by have := HLOW2.out x hx; omega)⟩ ?_ (HR3.out.put _) (by omega) ?_ ?_
              · exact ((HKK.out.mono (fun x _ e => .inr (.inr (.inr e)))).trans (U := rch c b g (z + 1) (z + 2) (z + 5)) HK3.out (fun _ _ h => h) (fun x _ e => .inr (.inr (.inl e)))).putObj (fun _ => .inr (.inr (.inr rfl))) _
              · intro x hx
                have := HB.out; have := HG.out; have := HC.out; have := HZ1.out; have := HZ2.out
                rcases hx with e | e | e
                · omega
                · omega
                · cases e; omega
              · have := KB.out.size; have := HZW.out; omega
              · have hb := BX3.out.kept ((Kept.refl (fun x => x = z + 5) _).putObj (fun _ => rfl) (.loop (rc .ready none))) (fun x hx e => by obtain ⟨o1, o2, o3, o4, o5, o6, o7⟩ := O7.out; omega)
                rw [show min (i + 1) m = min i m by omega]
                exact hb
              · exact (HLS2.out.s.nx_lt p HIN.out)
              · intro h0
                have hm0 : m = 0 := by omega
                obtain ⟨hf, hwk⟩ := HW0.out (.inr hm0)
                refine ⟨hf, ?_⟩
                rw [show 256 - i = (256 - (i + 1)) + 1 by omega, walkR_cons _ _ _ _ _ _ ⟨HPP.out, HIN.out, by rw [← hf]; exact HPV.out⟩] at hwk
                have := congrArg List.tail hwk
                rw [List.tail_cons, List.tail_drop] at this
                rw [hf]
                exact this)
            have HKN := hid (show Kept (fun x => x < z + 6) W ((W2.setCell ⟨z + 2, 0, none⟩ (.int .i64 ((i : Int) + 1))).putObj (z + 5) (.loop (rc .ready none))) from
              ((HKK.out.mono (T := fun x => x < z + 6) (fun x _ e => by omega)).trans (U := fun x => x < z + 6) HK3.out (fun _ _ h => h) (fun x _ e => by omega)).putObj (fun _ => by omega) _)
            by_cases h0 : i = 0
            · obtain ⟨ga, hga, hcg, hL0⟩ := hfirst h0
              subst hga
              have hi0 : ((i : Int) == 0) = true := beq_iff_eq.2 (by omega)
              have hl0 : ((L0 : Int) == 0) = false := beq_eq_false_iff_ne.2 (by omega)
              have hl0i : (0 : Int) < (L0 : Int) := by omega
              have hi256 : ¬ (256 : Int) < (i : Int) + 1 := by omega
              clear hfirst h0
              gi_wp2_with fail
              exact ⟨HR3.out, rfl, f', _, ⟨HNX.out, rfl⟩, HKN.out, fun x hx => .inl hx⟩
            · have hi0 : ((i : Int) == 0) = false := beq_eq_false_iff_ne.2 (by omega)
              have hi256 : ¬ (256 : Int) < (i : Int) + 1 := by omega
              clear hfirst h0
              gi_wp2_with fail
              exact ⟨HR3.out, rfl, f', _, ⟨HNX.out, rfl⟩, HKN.out, fun x hx => .inl hx⟩
      · go_wp2_with fail
        refine AL.out.mono ?_
        rintro e w4 ⟨fv, rfl, hV, hK, hr⟩
        obtain ⟨xs0, hxs⟩ : ∃ xs0, walkR 4096 4096 f 256 0 hd = xs0 := ⟨_, rfl⟩
        rw [hxs] at hV
        have HXS := hid hxs
        clear hxs
        obtain ⟨-, ao, ac, hfv, hne, hcf⟩ := hV.wds
        obtain ⟨L0, hL0⟩ : ∃ L0, L0 = xs0.length := ⟨_, rfl⟩
        have HL0 := hid hL0
        rw [← hL0] at hfv
        obtain ⟨aa, haa⟩ : ∃ aa, aa = adr ao := ⟨_, rfl⟩
        rw [← haa] at hfv
        have HAA := hid haa
        subst hfv
        have HNE := hid hne
        have HCF := hid hcf
        have k3 : Kept none' w4 (((w4.alloc (.cells #[.slice aa L0 ac] 31)).alloc (.cells #[.int .i64 0] 3)).alloc (.cells #[.int .i64 0] 3)) := (((Kept.refl none' w4).alloc _).alloc _).alloc _
        have hcL4 := (none_trans hK k3).cell (p := ⟨lb, 0, none⟩) (fun x => x) hcL
        have HV := hid (hV.keep k3)
        have HK4 := hid (none_trans hK k3)
        have HR := hid hr
        have HZ4 := hid (show W0.heap.size ≤ w4.heap.size from hK.size)
        have B5 := hid (show Boxed (((w4.alloc (.cells #[.slice aa L0 ac] 31)).alloc (.cells #[.int .i64 0] 3)).alloc (.cells #[.int .i64 0] 3)) w4.heap.size 31 (.slice aa L0 ac) from
          (Below.heap_alloc _ _ _ (by simp; omega)).trans ((Below.heap_alloc _ _ _ (by simp)).trans (heap_new _ _)))
        have B6 := hid (show Boxed (((w4.alloc (.cells #[.slice aa L0 ac] 31)).alloc (.cells #[.int .i64 0] 3)).alloc (.cells #[.int .i64 0] 3)) (w4.heap.size + 1) 3 (.int .i64 ((0 : Nat) : Int)) from
          (Below.heap_alloc _ _ _ (by simp)).trans (heap_new2 _ _ _))
        have B7 := hid (show Boxed (((w4.alloc (.cells #[.slice aa L0 ac] 31)).alloc (.cells #[.int .i64 0] 3)).alloc (.cells #[.int .i64 0] 3)) (w4.heap.size + 2) 3 (.int .i64 ((0 : Nat) : Int)) from by
          have := heap_new ((w4.alloc (.cells #[.slice aa L0 ac] 31)).alloc (.cells #[.int .i64 0] 3)) (.cells #[.int .i64 0] 3)
          rw [World.size_alloc, World.size_alloc] at this
          exact this)
        clear hV hK hr haa hne hcf hL0 k3
        go_wp2_with fail
        refine (All_any c _).mono ?_
        rintro e w5 ⟨rfl, hw5⟩
        rw [World.size_alloc, World.size_alloc, World.size_alloc]
        obtain ⟨z, hz⟩ : ∃ z, z = w4.heap.size := ⟨_, rfl⟩
        have k5 : Kept none' (((w4.alloc (.cells #[.slice aa L0 ac] 31)).alloc (.cells #[.int .i64 0] 3)).alloc (.cells #[.int .i64 0] 3)) w5 := by rw [hw5]; exact (Kept.refl none' _).alloc _
        have C7 := hid (show Bx7 w5 w.heap.size (w.heap.size + 1) pb lb z (z + 1) (z + 2) (.slice oa2 m oc2) (.slice aa L0 ac) b c 0 0 from by
          rw [hz]
          exact ⟨(HBX.out.keep HK4.out).keep k5, bkp0 B5.out k5, bkp0 B6.out k5, bkp0 B7.out k5⟩)
        have C8 := hid (show PtrB w5 (z + 3) c by
          rw [hw5, hz]
          have := heap_new (((w4.alloc (.cells #[.slice aa L0 ac] 31)).alloc (.cells #[.int .i64 0] 3)).alloc (.cells #[.int .i64 0] 3)) (.cells #[.pointer (some ⟨c, 0, none⟩)] 25)
          rw [World.size_alloc, World.size_alloc, World.size_alloc] at this
          exact this)
        have hz5 : w5.heap.size = z + 4 := by rw [hw5, hz]; simp
        have C9 := hid (HV.out.keep k5)
        have K5 := hid (none_trans HK4.out k5)
        have HLS5 := hid (HLS.out.keep K5.out)
        have HZW := hid (show W0.heap.size ≤ z by rw [hz]; exact HZ4.out)
        have HFR := hid (show ∀ r, Value.ownBlock (.slice aa L0 ac) = some r → r < z from fun r hr => by
          have := HV.out.wds.lt hr
          simp at this
          rcases Nat.lt_or_ge r z with h | h
          · exact h
          · exfalso
            obtain ⟨cs, hcs⟩ := HV.out.blk hr
            have : r = z ∨ r = z + 1 ∨ r = z + 2 := by omega
            rcases this with e | e | e
            · rw [e, hz, show _ = _ from B5.out] at hcs; simp at hcs
            · rw [e, hz, show _ = _ from B6.out] at hcs; simp at hcs
            · rw [e, hz, show _ = _ from B7.out] at hcs; simp at hcs)
        have HLOW := hid (show ∀ x, lown c b (some g) x → x < W0.heap.size from fun x hx => HLS.out.lt x hx)
        have HBL := hid (show lb < W0.heap.size from HBX.out.l.lt)
        have ez : ∀ t, w4.heap.size + t = z + t := fun t => by rw [hz]
        rw [← hz, show z + 1 + 1 = z + 2 from rfl, show z + 2 + 1 = z + 3 from rfl]
        clear hw5 hcL4 hcL k5 HLS HBX HK4 HV B5 B6 B7 ez hz
        go_wp2_with fail
        refine wp_range (gf := 55) (lb := #[.pointer (some ⟨z + 3, 0, none⟩)]) rfl (enters_of Try.func55 (by kernel_rfl) rfl) ?_
        intro fn rc hrc
        have HRC := hid hrc
        clear hrc
        rw [hz5]
        obtain ⟨W6, hW6⟩ : ∃ W6, W6 = (w5.alloc (.deferred (some []))).alloc (.loop (rc .ready none)) := ⟨_, rfl⟩
        have k6 : Kept none' w5 W6 := by rw [hW6]; exact ((Kept.refl none' w5).alloc _).alloc _
        have HZ6 := hid (show W6.heap.size = z + 6 by rw [hW6]; simp; omega)
        have G3 := hid (show RecAt W6 (z + 5) (rc .ready none) by
          rw [hW6]
          have := heap_new2 w5 (.deferred (some [])) (.loop (rc .ready none))
          rw [hz5] at this
          exact this)
        have G4 := hid (show DefAt W6 (z + 4) by
          rw [hW6]
          have := (Below.heap_alloc (w5.alloc (.deferred (some []))) (.loop (rc .ready none)) w5.heap.size (by simp)).trans (heap_new w5 _)
          rw [hz5] at this
          exact this)
        have K6 := hid (KB.out.then' (fresh_none (none_trans K5.out k6)))
        have HLS6 := hid (HLS5.out.keep k6)
        have O7 := hid (show Ord7 (z + 6) w.heap.size (w.heap.size + 1) pb lb z (z + 1) (z + 2) from by
          have := HZ1.out; have := HZ3.out; have := HBL.out; have := HZW.out
          exact ⟨by omega, by omega, by omega, by omega, by omega, by omega, by omega⟩)
        have HWZ := hid (show w.heap.size ≤ z + 6 by have := KB.out.size; have := HZW.out; omega)
        have HFR2 := hid (show ∀ r, Value.ownBlock (.slice aa L0 ac) = some r → r < z + 6 from fun r hr => by have := HFR.out r hr; omega)
        have H0 := hid (show Wth (z + 6) w w.heap.size (w.heap.size + 1) pb lb z (z + 1) (z + 2) (z + 3) (z + 4) (z + 5) (.slice oa2 m oc2) (.slice aa L0 ac) c b g m f hd xs0 rc .ready 0 0 hd f W6 from by
          refine ⟨⟨hd, HLS6.out⟩, ?_, C8.out.keep k6, G3.out, G4.out, C9.out.keep k6, K6.out, HLS6.out.l.h64, by decide, by omega, by rw [HZ6.out]; omega, fun x hx => by have := HLOW.out x hx; have := HZW.out; omega, fun _ => ⟨rfl, HXS.out⟩⟩
          rw [Nat.zero_min]
          exact C7.out.keep k6)
        rw [← hW6]
        clear hW6 k6 C7 C8 C9 K5 HLS5 G3 G4 hz5
        refine (All1_any (z + 3) (z + 5) c b (some g) 4096 4096 1 4096 0 (by decide) (by decide) (z + 6)
          (fun i q p f' S W => Wth (z + 6) w w.heap.size (w.heap.size + 1) pb lb z (z + 1) (z + 2) (z + 3) (z + 4) (z + 5) (.slice oa2 m oc2) (.slice aa L0 ac) c b g m f hd xs0 rc .ready i q p f' W ∧ S = fun x => x < z + 6) (fun _ _ => False)
          ?hK1 ?hK2 (fun _ _ _ _ h => h.elim) ?hY hd f (fun x => x < z + 6) W6 (by rw [HZ6.out]; omega) HLS6.out ⟨H0.out, rfl⟩).mono ?hend
        case hK1 =>
          rintro i q p f' S W ⟨h, rfl⟩
          exact ⟨h.hp, h.hq, h.ls, fun x hx => Nat.lt_of_lt_of_le hx h.hB, h.pk⟩
        case hK2 =>
          rintro i q p f' S T W W' ⟨h, rfl⟩ hk hT
          exact ⟨h.far O7.out (by omega) (by omega) (by omega) HFR2.out HWZ.out hk (fun x hx => (hT x hx).1), rfl⟩
        case hend =>
          rintro e W' ⟨hv, ⟨i, q, p, f', S, ⟨h, hS⟩, hi, hor⟩ | ⟨_, h⟩⟩
          · refine ⟨hv, .ready, none, by simp, h.rcd, fun _ => ?_, fun c hc => by cases hc⟩
            have hdone : L0 ≤ i ∨ 0 < min i m := by
              by_cases h0 : i = 0 ∨ m = 0
              · left
                obtain ⟨hf, hwk⟩ := h.hw h0
                have hnil : walkR 4096 4096 f (256 - i) q p = [] := by
                  rcases Nat.eq_zero_or_pos (256 - i) with e | e
                  · rw [e]; rfl
                  · obtain ⟨k', hk'⟩ : ∃ k', 256 - i = k' + 1 := ⟨256 - i - 1, by omega⟩
                    rw [hk']
                    unfold walkR
                    rw [if_neg]
                    rintro ⟨a1, a2, a3⟩
                    rw [hf] at hor
                    rcases hor with e | e | e | e
                    · exact a1 e
                    · exact e a2
                    · exact e a3
                    · omega
                rw [hnil] at hwk
                have := List.drop_eq_nil_iff.1 hwk.symm
                rw [HL0.out]
                exact this
              · right
                omega
            have kx : Kept (fun x => x = z + 5) W' (W'.putObj (z + 5) (.loop (rc .exhausted none))) := (Kept.refl (fun x => x = z + 5) W').putObj (fun _ => rfl) _
            obtain ⟨Wx, hWx⟩ : ∃ Wx, Wx = W'.putObj (z + 5) (.loop (rc .exhausted none)) := ⟨_, rfl⟩
            rw [← hWx] at kx
            have o7 := O7.out
            have bx := h.bx.kept kx (fun x hx e => by obtain ⟨o1, o2, o3, o4, o5, o6, o7⟩ := o7; omega)
            have dx := h.df.kept kx (by omega)
            have KX := hid (h.k.trans kx (U := from' w.heap.size) (fun _ _ x => x) (fun x _ hx => by subst hx; show w.heap.size ≤ z + 5; have := HWZ.out; obtain ⟨o1, o2, o3, o4, o5, o6, o7⟩ := o7; omega))
            have hcn := cell_of bx.n
            have hck := cell_of bx.k
            have hcf := cell_of bx.f
            have hcr := cell_of bx.four.r
            have hfr := frozen_of bx.four.r
            have RB := hid bx.four.r
            have hi256 : i ≤ 256 := h.hi
            rw [show z + 4 + 1 = z + 5 from rfl, ← hWx]
            have DX := hid dx
            have HDN := hid hdone
            obtain ⟨kq, hkq⟩ : ∃ kq, kq = min i m := ⟨_, rfl⟩
            have hkq2 : kq ≤ 256 := by omega
            rw [← hkq] at hck HDN
            clear hkq
            clear hdone h hor kx hWx bx dx hv o7
            have kf : Kept (fun x => x = w.heap.size + 1 ∨ x = z + 4) Wx ((Wx.setCell ⟨w.heap.size + 1, 0, none⟩ (.bool true)).putObj (z + 4) (.deferred none)) := ((Kept.refl _ Wx).setCell (fun _ => .inl rfl) _).putObj (fun _ => .inr rfl) _
            have KF := hid (KX.out.trans (U := from' w.heap.size) kf (fun _ _ x => x) (fun x _ hx => by show w.heap.size ≤ x; have := HWZ.out; have := O7.out.o1; have := O7.out.o2; have := O7.out.o3; have := O7.out.o4; omega))
            have hne : w.heap.size + 1 ≠ z + 4 := by have := O7.out.o2; have := O7.out.o3; have := O7.out.o4; omega
            have DF := hid (show DefAt (Wx.setCell ⟨w.heap.size + 1, 0, none⟩ (.bool true)) (z + 4) from DX.out.kept ((Kept.refl (fun x => x = w.heap.size + 1) Wx).setCell (fun _ => rfl) _) (fun e => hne e.symm))
            have RF := hid (show ((Wx.setCell ⟨w.heap.size + 1, 0, none⟩ (.bool true)).putObj (z + 4) (.deferred none)).cell? ⟨w.heap.size + 1, 0, none⟩ = some (.bool true) from cell_of (t := 4) ((World.putObj_heap_other hne).trans (heap_set RB.out 0 _)))
            clear kf hne KX DX RB
            by_cases hge : L0 ≤ i
            · have hgei : (L0 : Int) ≤ (i : Int) := by omega
              have hged : decide ((L0 : Int) ≤ (i : Int)) = true := decide_eq_true hgei
              go_wp2_with fail
              refine ⟨by simp, .inl ⟨_, _, rfl, run_takeDeferred DF.out, ?_⟩⟩
              exact ⟨_, by simp [results, Try.results7, go_sem, RF.out], rfl, from_none KF.out⟩
            · have hgei : ¬ (L0 : Int) ≤ (i : Int) := by omega
              have hged : decide ((L0 : Int) ≤ (i : Int)) = false := decide_eq_false hgei
              have hkp : (0 : Int) < (kq : Int) := by have := HDN.out; omega
              have HKP := hid (show decide (0 < kq) = true from decide_eq_true (by omega))
              go_wp2_with fail
              rw [HKP.out]
              refine ⟨by simp, .inl ⟨_, _, rfl, run_takeDeferred DF.out, ?_⟩⟩
              exact ⟨_, by simp [results, Try.results7, go_sem, RF.out], rfl, from_none KF.out⟩
          · exact h.elim
        case hY =>
          rintro i q p f' S W ⟨h, rfl⟩ hi hp0 hin hpv
          have hL := h.rcd
          rw [HRC.out] at hL
          refine yield_round hL rfl ?_
          rw [← HRC.out]
          have hi2 : i < 256 := hi
          have kk : Kept (fun x => x = z + 5) W (W.putObj (z + 5) (.loop (rc .busy none))) := (Kept.refl (fun x => x = z + 5) W).putObj (fun _ => rfl) _
          obtain ⟨W2, hW2⟩ : ∃ W2, W2 = W.putObj (z + 5) (.loop (rc .busy none)) := ⟨_, rfl⟩
          rw [← hW2] at kk
          obtain ⟨hd', hls⟩ := h.ls
          have HLOW2 := hid (show ∀ x, lown c b (some g) x → x < z from fun x hx => by have := HLOW.out x hx; have := HZW.out; omega)
          have hls2 := hls.kept kk (fun x hx e => by have := HLOW2.out x hx; omega)
          have bx2 := h.bx.kept kk (fun x hx e => by obtain ⟨o1, o2, o3, o4, o5, o6, o7⟩ := O7.out; omega)
          have R2 : RecAt W2 (z + 5) (rc .busy none) := by rw [hW2]; exact h.rcd.put _
          have fst2 := h.fst.kept kk (fun r hr e => by have := HFR.out r hr; omega)
          have k2 := h.k.trans kk (U := from' w.heap.size) (fun _ _ x => x) (fun x _ hx => by subst hx; show w.heap.size ≤ z + 5; have := KB.out.size; have := HZW.out; omega)
          have HTH := hid h
          have HLS2 := hid hls2
          have BX2 := hid bx2
          have HR2 := hid R2
          have FST2 := hid fst2
          have K2 := hid k2
          have HKK := hid kk
          have HIN := hid hin
          have HPV := hid hpv
          have HPP := hid hp0
          have hp64 := h.hp
          have HREC := hid h.rcd
          have HW0 := hid h.hw
          have hcn := cell_of bx2.n
          have hcf := cell_of bx2.f
          have hck := cell_of bx2.k
          have hcs := cell_of bx2.four.s
          have hcl := cell_of bx2.four.l
          have hcp := cell_of bx2.four.p
          have hfn := frozen_of bx2.n
          have hfk := frozen_of bx2.k
          clear h hL hls hls2 bx2 R2 fst2 k2 kk hin hpv hp0
          gi_wp2_with fail
          refine ⟨HREC.out, ?_⟩
          rw [← hW2]
          clear hW2
          have bx3 : Bx7 (W2.setCell ⟨z + 2, 0, none⟩ (.int .i64 ((i : Int) + 1))) w.heap.size (w.heap.size + 1) pb lb z (z + 1) (z + 2) (.slice oa2 m oc2) (.slice aa L0 ac) b c (min i m) (i + 1) := by
            have := BX2.out.setN O7.out (i + 1)
            rw [show ((i + 1 : Nat) : Int) = (i : Int) + 1 by omega] at this
            exact this
          have k3 : Kept (fun x => x = z + 2) W2 (W2.setCell ⟨z + 2, 0, none⟩ (.int .i64 ((i : Int) + 1))) := (Kept.refl (fun x => x = z + 2) W2).setCell (fun _ => rfl) _
          have ls3 := HLS2.out.kept k3 (fun x hx e => by have := HLOW2.out x hx; omega)
          have R3 := HR2.out.kept k3 (by omega)
          have hcn3 : (W2.setCell ⟨z + 2, 0, none⟩ (.int .i64 ((i : Int) + 1))).cell? ⟨z + 2, 0, none⟩ = some (.int .i64 ((i : Int) + 1)) := cell_of (heap_set BX2.out.n 0 _)
          have hck3 := cell_of bx3.k
          have hcs3 := cell_of bx3.four.s
          have BX3 := hid bx3
          have LS3 := hid ls3
          have HR3 := hid R3
          have HK3 := hid k3
          clear bx3 k3 ls3 R3
          have hfirst : i = 0 → ∃ ga, aa = some ⟨ga, 0, none⟩ ∧ W2.cell? ⟨ga, 0, none⟩ = some (.int .u64 (p : Int)) ∧ 0 < L0 := fun h0 => by
            obtain ⟨hf, hwk⟩ := HW0.out (.inl h0)
            rw [show 256 - i = (255 - i) + 1 by omega, walkR_cons _ _ _ _ _ _ ⟨HPP.out, HIN.out, by rw [← hf]; exact HPV.out⟩] at hwk
            generalize walkR 4096 4096 f (255 - i) p (nx 4096 f p) = tl at hwk
            rw [h0, List.drop_zero] at hwk
            have hpos : 0 < xs0.length := by rw [← hwk]; simp
            have hne : xs0 ≠ [] := fun e => by rw [e] at hpos; simp at hpos
            obtain ⟨h1, ao2, ac2, he, h2, h3⟩ := FST2.out.wds
            obtain ⟨g2, hg2⟩ := h2 hne
            have hcc := (h3 g2 hg2).2.2 0 hpos
            subst hg2
            have hg : aa = some ⟨g2, 0, none⟩ := by
              simp [adr] at he
              exact he.1
            refine ⟨g2, hg, ?_, by rw [HL0.out]; exact hpos⟩
            rw [hcc, ← hwk]
            rfl
          by_cases him : i < m
          · have hkm : min i m = i := by omega
            rw [hkm] at hck3
            obtain ⟨bl, o, rfl, hbl, hrow⟩ := HSV.out.resolve_left (by omega)
            obtain ⟨op, li, P, V, hop, hli, hP, hV, c0, c1, c2, c3⟩ := hrow i him
            have kq3 : Kept (from' w.heap.size) w (W2.setCell ⟨z + 2, 0, none⟩ (.int .i64 ((i : Int) + 1))) := K2.out.setCell (fun h => by simp at h; show w.heap.size ≤ z + 2; have := KB.out.size; have := HZW.out; omega) _
            have hnf : ∀ j, ¬ from' w.heap.size (Addr.block ⟨bl, j, none⟩) := fun j h => by unfold from' at h; simp at h; omega
            have d0 := kq3.cell (p := ⟨bl, o + i * 4 + 0, none⟩) (hnf _) c0
            have d1 := kq3.cell (p := ⟨bl, o + i * 4 + 1, none⟩) (hnf _) c1
            have d2 := kq3.cell (p := ⟨bl, o + i * 4 + 2, none⟩) (hnf _) c2
            have d3 := kq3.cell (p := ⟨bl, o + i * 4 + 3, none⟩) (hnf _) c3
            rw [show o + i * 4 + 0 = o + i * 4 from rfl] at d0
            have him2 : (i : Int) < (m : Int) := by omega
            obtain ⟨W3, hW3⟩ : ∃ W3, W3 = W2.setCell ⟨z + 2, 0, none⟩ (.int .i64 ((i : Int) + 1)) := ⟨_, rfl⟩
            have hz3 : W3.heap.size = W2.heap.size := by rw [hW3]; simp
            -- the step's box, and how many are done
            obtain ⟨W5, hW5⟩ : ∃ W5, W5 = (W3.alloc (.cells #[.int .i64 op, .int .i64 li, .int .u64 (P : Int), .int .u64 (V : Int)] 55)).setCell ⟨z + 1, 0, none⟩ (.int .i64 ((i : Int) + 1)) := ⟨_, rfl⟩
            have ka : Kept none' W3 (W3.alloc (.cells #[.int .i64 op, .int .i64 li, .int .u64 (P : Int), .int .u64 (V : Int)] 55)) := (Kept.refl none' W3).alloc _
            have k5 : Kept (fun x => x = z + 1) W3 W5 := by rw [hW5]; exact ((Kept.refl (fun x => x = z + 1) W3).alloc _).setCell (fun _ => rfl) _
            rw [← hW3] at BX3 LS3 HR3 HK3
            have bx5 : Bx7 W5 w.heap.size (w.heap.size + 1) pb lb z (z + 1) (z + 2) (.slice (some ⟨bl, o, none⟩) m oc2) (.slice aa L0 ac) b c (i + 1) (i + 1) := by
              have := (BX3.out.keep ka).setK O7.out (i + 1)
              rw [show ((i + 1 : Nat) : Int) = (i : Int) + 1 by omega, ← hW5] at this
              exact this
            have ls5 := LS3.out.kept k5 (fun x hx e => by have := HLOW2.out x hx; omega)
            have R5 := HR3.out.kept k5 (by omega)
            have hzz : z + 2 < W3.heap.size := BX3.out.n.lt
            have hbb : W5.heap[W3.heap.size]? = some (.cells #[.int .i64 op, .int .i64 li, .int .u64 (P : Int), .int .u64 (V : Int)] 55 (0, 0)) := by
              rw [hW5, Below.heap_setCell _ _ _ _ (by simp; omega)]
              exact heap_new _ _
            have e0 : W5.cell? ⟨W2.heap.size, 0, none⟩ = some (.int .i64 op) := by rw [← hz3]; simp [World.cell?, hbb]
            have e2 : W5.cell? ⟨W2.heap.size, 2, none⟩ = some (.int .u64 (P : Int)) := by rw [← hz3]; simp [World.cell?, hbb]
            have e3 : W5.cell? ⟨W2.heap.size, 3, none⟩ = some (.int .u64 (V : Int)) := by rw [← hz3]; simp [World.cell?, hbb]
            have hcl5 := cell_of bx5.four.l
            have hcp5 := cell_of bx5.four.p
            have h3 := and_3 op
            obtain ⟨x, hx⟩ : ∃ x : Nat, op % 4 = (x : Int) := ⟨(op % 4).toNat, by omega⟩
            have hx4 : x < 4 := by omega
            rw [hx] at h3
            have KWW5 := hid (show Kept (rch c b g (z + 1) (z + 2) (z + 5)) W W5 from ((HKK.out.mono (fun x _ e => .inr (.inr (.inr e)))).trans (U := rch c b g (z + 1) (z + 2) (z + 5)) HK3.out (fun _ _ h => h) (fun x _ e => .inr (.inr (.inl e)))).trans k5 (fun _ _ h => h) (fun x _ e => .inr (.inl e)))
            have hck5 : (W3.alloc (.cells #[.int .i64 op, .int .i64 li, .int .u64 (P : Int), .int .u64 (V : Int)] 55)).cell? ⟨z + 1, 0, none⟩ = some (.int .i64 (i : Int)) := by
              have := cell_of (BX3.out.keep ka).k
              rw [hkm] at this
              exact this
            have hcs5 := cell_of (BX3.out.keep ka).four.s
            have hfk5 := frozen_of (BX3.out.keep ka).k
            rw [hW3] at hck5 hcs5 hfk5
            have BX5 := hid bx5
            have LS5 := hid ls5
            have HR5 := hid R5
            have HW5 := hid hW5
            have HW3 := hid hW3
            clear c0 c1 c2 c3 hrow hnf kq3 ka k5 bx5 ls5 R5 hbb hx hop hli hkm hW3 hzz
            rw [HW3.out] at HW5
            have hFIN : ∀ (f9 : Nat → Nat) (W9 : World), (∃ hd9, LS W9 c b (some g) 4096 4096 1 4096 f9 hd9) → Kept (lown c b (some g)) W5 W9 →
                Wth (z + 6) w w.heap.size (w.heap.size + 1) pb lb z (z + 1) (z + 2) (z + 3) (z + 4) (z + 5) (.slice (some ⟨bl, o, none⟩) m oc2) (.slice aa L0 ac) c b g m f hd xs0 rc .ready (i + 1) p (nx 4096 f' p) f9 (W9.putObj (z + 5) (.loop (rc .ready none))) ∧
                Kept (fun x => x < z + 6) W (W9.putObj (z + 5) (.loop (rc .ready none))) ∧ RecAt W9 (z + 5) (rc .busy none) := fun f9 W9 hl9 hk9 => by
              obtain ⟨hd9, hl9⟩ := hl9
              have hR9 : RecAt W9 (z + 5) (rc .busy none) := HR5.out.kept hk9 (fun hx => by have := HLOW2.out _ hx; omega)
              have kW : Kept (rch c b g (z + 1) (z + 2) (z + 5)) W (W9.putObj (z + 5) (.loop (rc .ready none))) := (KWW5.out.trans (U := rch c b g (z + 1) (z + 2) (z + 5)) hk9 (fun _ _ h => h) (fun x _ e => .inl e)).putObj (fun _ => .inr (.inr (.inr rfl))) _
              refine ⟨HTH.out.next kW HLOW2.out ?_ ?_ (fun r hr => HFR.out r hr) ⟨hd9, hl9.kept ((Kept.refl (fun x => x = z + 5) _).putObj (fun _ => rfl) _) (fun x hx e => by have := HLOW2.out x hx; omega)⟩ ?_ (hR9.put _) (by omega) (HLS2.out.s.nx_lt p HIN.out) (fun h0 => by omega), kW.mono (fun x _ h => ?_), hR9⟩
              · intro x hx
                have := HB.out; have := HG.out; have := HC.out; have := HZ1.out; have := HZ2.out
                rcases hx with e | e | e
                · omega
                · omega
                · cases e; omega
              · have := KB.out.size; have := HZW.out; omega
              · have hb := (BX5.out.lown LS5.out hk9).kept ((Kept.refl (fun x => x = z + 5) _).putObj (fun _ => rfl) (.loop (rc .ready none))) (fun x hx e => by obtain ⟨o1, o2, o3, o4, o5, o6, o7⟩ := O7.out; omega)
                rw [show min (i + 1) m = i + 1 by omega]
                exact hb
              · rcases h with h | h | h | h
                · have := HLOW2.out x h; omega
                · omega
                · omega
                · omega
            have HFIN := hid hFIN
            clear hFIN
            rw [HW5.out] at e0 e2 e3 hcl5 hcp5
            have hi256 : ¬ (256 : Int) < (i : Int) + 1 := by omega
            by_cases h0 : i = 0
            · obtain ⟨ga, hga, hcg, hL0⟩ := hfirst h0
              subst hga
              have hi0 : ((i : Int) == 0) = true := beq_iff_eq.2 (by omega)
              have hl0 : ((L0 : Int) == 0) = false := beq_eq_false_iff_ne.2 (by omega)
              have hl0i : (0 : Int) < (L0 : Int) := by omega
              clear hfirst h0
              have hx0123 : x = 0 ∨ x = 1 ∨ x = 2 ∨ x = 3 := by omega
              rcases hx0123 with rfl | rfl | rfl | rfl
              · gi_wp2_with fail
                rw [← HW5.out]
                refine ⟨trivial, rfl, ?_⟩
                refine (CallsIn.inRound (z + 5) (callsIn_wide.2 (Push_any c b (some g) 4096 4096 1 4096 f' hd' P hP W5 LS5.out))).mono ?_
                rintro e W9 ⟨rfl, hl9, hk9⟩
                have HL9 := hid hl9
                have K9 := hid hk9
                clear hl9 hk9
                gi_wp2_with fail
                obtain ⟨g1, g2, g3⟩ := HFIN.out _ W9 ⟨_, HL9.out⟩ K9.out
                exact ⟨g3, rfl, _, _, ⟨g1, rfl⟩, g2, fun x hx => .inl hx⟩
              · gi_wp2_with fail
                rw [← HW5.out]
                refine ⟨trivial, rfl, ?_⟩
                refine (CallsIn.inRound (z + 5) (callsIn_wide.2 (Remove_any c b (some g) 4096 4096 1 4096 f' hd' P hP W5 LS5.out))).mono ?_
                rintro e W9 ⟨rfl, hl9, hk9⟩
                have HL9 := hid hl9
                have K9 := hid hk9
                clear hl9 hk9
                gi_wp2_with fail
                obtain ⟨g1, g2, g3⟩ := HFIN.out _ W9 ⟨_, HL9.out⟩ K9.out
                exact ⟨g3, rfl, _, _, ⟨g1, rfl⟩, g2, fun x hx => .inl hx⟩
              · by_cases hinP : In 4096 4096 P 8
                · have HNP := hid hinP
                  clear hinP
                  gi_wp2_with fail
                  rw [← HW5.out]
                  refine ⟨trivial, rfl, ?_⟩
                  refine (CallsIn.inRound (z + 5) (callsIn_wide.2 (SetWord_in b g 4096 4096 1 4096 f' P V hV W5 LS5.out.s HNP.out))).mono ?_
                  rintro e W9 ⟨rfl, hs9, hk9⟩
                  have HL9 := hid (LS5.out.stored hs9 hk9)
                  have K9 := hid (hk9.lown' (c := c))
                  clear hs9 hk9
                  gi_wp2_with fail
                  obtain ⟨g1, g2, g3⟩ := HFIN.out _ W9 ⟨_, HL9.out⟩ K9.out
                  exact ⟨g3, rfl, _, _, ⟨g1, rfl⟩, g2, fun x hx => .inl hx⟩
                · have HNP := hid hinP
                  clear hinP
                  gi_wp2_with fail
                  rw [← HW5.out]
                  refine ⟨trivial, rfl, ?_⟩
                  refine (CallsIn.inRound (z + 5) (callsIn_wide.2 (SetWord_out b (some g) 4096 4096 1 4096 f' P 8 V none 0 W5 LS5.out.s hP (by decide) (by decide) HNP.out))).mono ?_
                  rintro e W9 ⟨rfl, hk9⟩
                  have HL9 := hid (LS5.out.keep hk9)
                  have K9 := hid (hk9.lown (c := c) (b := b) (ao := some g))
                  clear hk9
                  gi_wp2_with fail
                  obtain ⟨g1, g2, g3⟩ := HFIN.out _ W9 ⟨_, HL9.out⟩ K9.out
                  exact ⟨g3, rfl, _, _, ⟨g1, rfl⟩, g2, fun x hx => .inl hx⟩
              · gi_wp2_with fail
                rw [← HW5.out]
                refine ⟨trivial, rfl, ?_⟩
                refine (CallsIn.inRound (z + 5) (callsIn_wide.2 (Remove_any c b (some g) 4096 4096 1 4096 f' hd' p hp64 W5 LS5.out))).mono ?_
                rintro e W9 ⟨rfl, hl9, hk9⟩
                have HL9 := hid hl9
                have K9 := hid hk9
                clear hl9 hk9
                gi_wp2_with fail
                obtain ⟨g1, g2, g3⟩ := HFIN.out _ W9 ⟨_, HL9.out⟩ K9.out
                exact ⟨g3, rfl, _, _, ⟨g1, rfl⟩, g2, fun x hx => .inl hx⟩
            · have hi0 : ((i : Int) == 0) = false := beq_eq_false_iff_ne.2 (by omega)
              clear hfirst h0
              have hx0123 : x = 0 ∨ x = 1 ∨ x = 2 ∨ x = 3 := by omega
              rcases hx0123 with rfl | rfl | rfl | rfl
              · gi_wp2_with fail
                rw [← HW5.out]
                refine ⟨trivial, rfl, ?_⟩
                refine (CallsIn.inRound (z + 5) (callsIn_wide.2 (Push_any c b (some g) 4096 4096 1 4096 f' hd' P hP W5 LS5.out))).mono ?_
                rintro e W9 ⟨rfl, hl9, hk9⟩
                have HL9 := hid hl9
                have K9 := hid hk9
                clear hl9 hk9
                gi_wp2_with fail
                obtain ⟨g1, g2, g3⟩ := HFIN.out _ W9 ⟨_, HL9.out⟩ K9.out
                exact ⟨g3, rfl, _, _, ⟨g1, rfl⟩, g2, fun x hx => .inl hx⟩
              · gi_wp2_with fail
                rw [← HW5.out]
                refine ⟨trivial, rfl, ?_⟩
                refine (CallsIn.inRound (z + 5) (callsIn_wide.2 (Remove_any c b (some g) 4096 4096 1 4096 f' hd' P hP W5 LS5.out))).mono ?_
                rintro e W9 ⟨rfl, hl9, hk9⟩
                have HL9 := hid hl9
                have K9 := hid hk9
                clear hl9 hk9
                gi_wp2_with fail
                obtain ⟨g1, g2, g3⟩ := HFIN.out _ W9 ⟨_, HL9.out⟩ K9.out
                exact ⟨g3, rfl, _, _, ⟨g1, rfl⟩, g2, fun x hx => .inl hx⟩
              · by_cases hinP : In 4096 4096 P 8
                · have HNP := hid hinP
                  clear hinP
                  gi_wp2_with fail
                  rw [← HW5.out]
                  refine ⟨trivial, rfl, ?_⟩
                  refine (CallsIn.inRound (z + 5) (callsIn_wide.2 (SetWord_in b g 4096 4096 1 4096 f' P V hV W5 LS5.out.s HNP.out))).mono ?_
                  rintro e W9 ⟨rfl, hs9, hk9⟩
                  have HL9 := hid (LS5.out.stored hs9 hk9)
                  have K9 := hid (hk9.lown' (c := c))
                  clear hs9 hk9
                  gi_wp2_with fail
                  obtain ⟨g1, g2, g3⟩ := HFIN.out _ W9 ⟨_, HL9.out⟩ K9.out
                  exact ⟨g3, rfl, _, _, ⟨g1, rfl⟩, g2, fun x hx => .inl hx⟩
                · have HNP := hid hinP
                  clear hinP
                  gi_wp2_with fail
                  rw [← HW5.out]
                  refine ⟨trivial, rfl, ?_⟩
                  refine (CallsIn.inRound (z + 5) (callsIn_wide.2 (SetWord_out b (some g) 4096 4096 1 4096 f' P 8 V none 0 W5 LS5.out.s hP (by decide) (by decide) HNP.out))).mono ?_
                  rintro e W9 ⟨rfl, hk9⟩
                  have HL9 := hid (LS5.out.keep hk9)
                  have K9 := hid (hk9.lown (c := c) (b := b) (ao := some g))
                  clear hk9
                  gi_wp2_with fail
                  obtain ⟨g1, g2, g3⟩ := HFIN.out _ W9 ⟨_, HL9.out⟩ K9.out
                  exact ⟨g3, rfl, _, _, ⟨g1, rfl⟩, g2, fun x hx => .inl hx⟩
              · gi_wp2_with fail
                rw [← HW5.out]
                refine ⟨trivial, rfl, ?_⟩
                refine (CallsIn.inRound (z + 5) (callsIn_wide.2 (Remove_any c b (some g) 4096 4096 1 4096 f' hd' p hp64 W5 LS5.out))).mono ?_
                rintro e W9 ⟨rfl, hl9, hk9⟩
                have HL9 := hid hl9
                have K9 := hid hk9
                clear hl9 hk9
                gi_wp2_with fail
                obtain ⟨g1, g2, g3⟩ := HFIN.out _ W9 ⟨_, HL9.out⟩ K9.out
                exact ⟨g3, rfl, _, _, ⟨g1, rfl⟩, g2, fun x hx => .inl hx⟩
          · have hkm : min i m = m := by omega
            rw [hkm] at hck3
            have hmm : ¬ (m : Int) < (m : Int) := by omega
            have HNX := hid (show Wth (z + 6) w w.heap.size (w.heap.size + 1) pb lb z (z + 1) (z + 2) (z + 3) (z + 4) (z + 5) (.slice oa2 m oc2) (.slice aa L0 ac) c b g m f hd xs0 rc .ready (i + 1) p (nx 4096 f' p) f' ((W2.setCell ⟨z + 2, 0, none⟩ (.int .i64 ((i : Int) + 1))).putObj (z + 5) (.loop (rc .ready none))) from by
              refine HTH.out.next ?_ HLOW2.out ?_ ?_ (fun r hr => HFR.out r hr) ⟨hd', LS3.out.kept ((Kept.refl (fun x => x = z + 5) _).putObj (fun _ => rfl) _) (fun x hx e => by have := HLOW2.out x hx; omega)⟩ ?_ (HR3.out.put _) (by omega) ?_ ?_
              · exact ((HKK.out.mono (fun x _ e => .inr (.inr (.inr e)))).trans (U := rch c b g (z + 1) (z + 2) (z + 5)) HK3.out (fun _ _ h => h) (fun x _ e => .inr (.inr (.inl e)))).putObj (fun _ => .inr (.inr (.inr rfl))) _
              · intro x hx
                have := HB.out; have := HG.out; have := HC.out; have := HZ1.out; have := HZ2.out
                rcases hx with e | e | e
                · omega
                · omega
                · cases e; omega
              · have := KB.out.size; have := HZW.out; omega
              · have hb := BX3.out.kept ((Kept.refl (fun x => x = z + 5) _).putObj (fun _ => rfl) (.loop (rc .ready none))) (fun x hx e => by obtain ⟨o1, o2, o3, o4, o5, o6, o7⟩ := O7.out; omega)
                rw [show min (i + 1) m = min i m by omega]
                exact hb
              · exact (HLS2.out.s.nx_lt p HIN.out)
              · intro h0
                have hm0 : m = 0 := by omega
                obtain ⟨hf, hwk⟩ := HW0.out (.inr hm0)
                refine ⟨hf, ?_⟩
                rw [show 256 - i = (256 - (i + 1)) + 1 by omega, walkR_cons _ _ _ _ _ _ ⟨HPP.out, HIN.out, by rw [← hf]; exact HPV.out⟩] at hwk
                have := congrArg List.tail hwk
                rw [List.tail_cons, List.tail_drop] at this
                rw [hf]
                exact this)
            have HKN := hid (show Kept (fun x => x < z + 6) W ((W2.setCell ⟨z + 2, 0, none⟩ (.int .i64 ((i : Int) + 1))).putObj (z + 5) (.loop (rc .ready none))) from
              ((HKK.out.mono (T := fun x => x < z + 6) (fun x _ e => by omega)).trans (U := fun x => x < z + 6) HK3.out (fun _ _ h => h) (fun x _ e => by omega)).putObj (fun _ => by omega) _)
            by_cases h0 : i = 0
            · obtain ⟨ga, hga, hcg, hL0⟩ := hfirst h0
              subst hga
              have hi0 : ((i : Int) == 0) = true := beq_iff_eq.2 (by omega)
              have hl0 : ((L0 : Int) == 0) = false := beq_eq_false_iff_ne.2 (by omega)
              have hl0i : (0 : Int) < (L0 : Int) := by omega
              have hi256 : ¬ (256 : Int) < (i : Int) + 1 := by omega
              clear hfirst h0
              gi_wp2_with fail
              exact ⟨HR3.out, rfl, f', _, ⟨HNX.out, rfl⟩, HKN.out, fun x hx => .inl hx⟩
            · have hi0 : ((i : Int) == 0) = false := beq_eq_false_iff_ne.2 (by omega)
              have hi256 : ¬ (256 : Int) < (i : Int) + 1 := by omega
              clear hfirst h0
              gi_wp2_with fail
              exact ⟨HR3.out, rfl, f', _, ⟨HNX.out, rfl⟩, HKN.out, fun x hx => .inl hx⟩
end Go.Proofs.Ytnkoheanjaapjaa
