/- PageCells: the walk. -/
import Derived.Test.YtbhheimedbfmeaaCls
namespace Go.Proofs.Ytbhheimedbfmeaa
open Go.RowKit
set_option linter.unusedVariables false

theorem g0_n : (growM (newM (ordN 0))).n = 1 := by decide
theorem g0_o : (growM (newM (ordN 0))).o = 0 := by decide
theorem slab_cl (c : Nat) : (slabP c).kd = 4 ∧ (slabP c).cl = c ∧ ∀ j, litP (slabP c) j = false := ⟨rfl, rfl, fun j => by
  have : wP (slabP c) (j / 64) = 0 := by unfold wP; split <;> rfl
  simp [litP, this]⟩
set_option maxRecDepth 6000 in
set_option maxHeartbeats 4000000 in
theorem cells_any (cl : Int) (hcl : I64 cl) (cv : Value) (k : Nat) (w : World) (hC : Ints w cv k) :
    Calls Try.prog 8 #[.int .i64 cl, cv] w fun e w' => e = .returned (.bool true) ∧ Kept none' w w' := by
  obtain ⟨hk63, oa, oc, rfl, hcv⟩ := hC
  have HCV := hid hcv
  clear hcv
  go_enter Try.func8, Try.ntmps8
  go_wp2_with fail
  refine (awake_any _).mono ?_
  rintro e w1 ⟨rfl, hK⟩
  have K1 := hid hK
  clear hK
  go_wp2_with fail
  refine (new_any 0 _).mono ?_
  rintro e w2 ⟨b, B, rfl, hM, hK, hN⟩
  have M2 := hid hM
  have K2 := hid (none_trans K1.out hK)
  have N2 := hid (show ∀ x, mown b B (ordN 0) x → w.heap.size ≤ x from fun x hx => Nat.le_trans K1.out.size (hN x hx))
  clear hM hK hN
  go_wp2_with fail
  refine (Grow_any b B (newM (ordN 0)) _ M2.out).mono ?_
  rintro e w3 ⟨rfl, B3, hM, hK, hF⟩
  have M3 := hid hM
  have K3 := hid (show Kept none' w w3 from K2.out.trans hK (fun _ _ x => x) (fun x hx e => absurd (N2.out x e) (by omega)))
  have N3 := hid (show ∀ x, mown b B3 0 x → w.heap.size ≤ x from fun x hx => (hF x hx).elim (fun h => N2.out x h) (fun h => Nat.le_trans K2.out.size h))
  clear hM hK hF
  by_cases hbad : cl < 0 ∨ 7 < cl
  · have SE := hid (show slabE (growM (newM (ordN 0))) 0 cl = 1 from if_neg (by omega))
    have HB := hid hbad
    clear hbad
    rcases HB.out with hb | hb
    all_goals
      go_wp2_with fail
      refine (Slab_any b B3 (growM (newM (ordN 0))) 0 cl _ M3.out).mono ?_
      rw [SE.out]
      rintro e w4 ⟨rfl, B4, hM, hK, hF⟩
      have K4 := hid (show Kept none' w w4 from K3.out.trans hK (fun _ _ x => x) (fun x hx e => absurd (N3.out x e) (by omega)))
      clear hM hK hF
      go_wp2_with fail
      go_ret
      exact ⟨rfl, K4.out⟩
  · obtain ⟨c, rfl⟩ := Int.eq_ofNat_of_zero_le (show 0 ≤ cl by omega)
    have hc7 : c ≤ 7 := by omega
    have hc0 : ¬ (c : Int) < 0 := by omega
    have hc8 : ¬ (7 : Int) < (c : Int) := by omega
    have SE := hid (show slabE (growM (newM (ordN 0))) 0 (c : Int) = 0 from if_pos ⟨by decide, by omega, by omega⟩)
    have SM := hid (show slabM (growM (newM (ordN 0))) 0 (c : Int) = { growM (newM (ordN 0)) with pg := upp (growM (newM (ordN 0))).pg 0 (slabP c) } from if_pos ⟨by decide, by omega, by omega⟩)
    clear hbad hcl
    go_wp2_with fail
    refine (Slab_any b B3 (growM (newM (ordN 0))) 0 (c : Int) _ M3.out).mono ?_
    rw [SE.out, SM.out]
    rintro e w4 ⟨rfl, B4, hM, hK, hF⟩
    have K4 := hid (show Kept none' w w4 from K3.out.trans hK (fun _ _ x => x) (fun x hx e => absurd (N3.out x e) (by omega)))
    have N4 := hid (show ∀ x, mown b B4 0 x → w.heap.size ≤ x from fun x hx => (hF x hx).elim (fun h => N3.out x h) (fun h => Nat.le_trans K3.out.size h))
    have M4 := hid (show MapAt w4 b B4 ⟨0, 1, fun _ => slabP c, (growM (newM (ordN 0))).wd⟩ from (MapAt.congr (pg' := fun _ => slabP c) hM (fun i hi => by
      have : i = 0 := by have h1 : i < 1 := hi; omega
      subst this
      rfl)))
    clear hM hK hF
    obtain ⟨n, hn⟩ : ∃ n, n = 256 / 2 ^ c := ⟨_, rfl⟩
    have hni : (256 : Int) / 2 ^ c = (n : Int) := by rw [hn]; simp
    have hn256 : n ≤ 256 := by rw [hn]; exact Nat.div_le_self _ _
    obtain ⟨w5, hmk, hI5, hk5, hs5⟩ := make_bools n hn256 w4
    have C5 := hid (show Cl w w5 b w4.heap.size c (slabP c) from ⟨⟨B4, _, M4.out.keep hk5, fun x hx => ⟨N4.out x hx, by have := M4.out.own_lt x hx; omega⟩⟩, hn ▸ (by obtain ⟨cs, h1, h2, h3⟩ := hI5; exact ⟨cs, h1, h2, fun j hj => by rw [h3 j hj, (slab_cl c).2.2 j]⟩), (slab_cl c).1, (slab_cl c).2.1, K4.out.size, none_trans K4.out hk5⟩)
    have HN := hid hn
    have HLV := hid (show (slabP c).lv = 0 from rfl)
    clear hI5 hk5 hs5 hn
    go_wp2_with fail
    obtain ⟨I, hI⟩ : ∃ I, I = w4.heap.size := ⟨_, rfl⟩
    rw [← hI] at C5
    rw [← hI]
    clear hI hmk M4 N4 K4 M3 N3 K3 M2 N2 K2 K1 SE SM
    go_loopw [8, 9] (fun ct i W => ∃ j : Nat, j ≤ k ∧ i = .int .i64 j ∧ ∃ p, ct = .int .i64 p.lv ∧ Hid (Cl w W b I c p)) (fun _ i _ => k - (intOf i).toNat)
    case atStart => exact ⟨0, by omega, rfl, slabP c, by rw [HLV.out], C5⟩
    case round =>
      clear C5 HLV
      obtain ⟨j, hj, rfl, p, rfl, hC⟩ := hrel
      by_cases hlt : j < k
      · obtain ⟨bl, o, rfl, hbl, hrow⟩ := HCV.out.resolve_left (by omega)
        obtain ⟨z, hz, hzc⟩ := hrow j hlt
        have hzc2 := hC.out.kp.cell (p := ⟨bl, o + j, none⟩) (fun x => x) hzc
        have hji : (j : Int) < (k : Int) := by omega
        obtain ⟨B, wd, hM, hN⟩ := hC.out.mp
        have HM := hid hM
        have HN2 := hid hN
        clear hzc hrow hM hN
        by_cases hout : z < 0 ∨ (n : Int) ≤ z
        · have NO := hid (fun l => show ownE ⟨0, 1, fun _ => p, wd⟩ 0 z l = 1 ∧ ownM ⟨0, 1, fun _ => p, wd⟩ 0 z l = ⟨0, 1, fun _ => p, wd⟩ from by
            have hc : canOwn ⟨0, 1, fun _ => p, wd⟩ 0 z l = false := by
              unfold canOwn isCell
              rw [show inR (ncell ((⟨0, 1, fun _ => p, wd⟩ : Mp).pg (Int.toNat 0)).cl) z = false from by
                show inR (ncell p.cl) z = false
                rw [hC.out.cl, show ncell (c : Int) = n by rw [HN.out]; rfl]
                simp only [inR]
                exact decide_eq_false (by omega)]
              simp
            exact ⟨by simp [ownE, hc], by simp [ownM, hc]⟩)
          have NOF := hid (fun wd' l => show ownE ⟨0, 1, fun _ => p, wd'⟩ 0 z l = 1 ∧ ownM ⟨0, 1, fun _ => p, wd'⟩ 0 z l = ⟨0, 1, fun _ => p, wd'⟩ from by
            have hc : canOwn ⟨0, 1, fun _ => p, wd'⟩ 0 z l = false := by
              unfold canOwn isCell
              rw [show inR (ncell ((⟨0, 1, fun _ => p, wd'⟩ : Mp).pg (Int.toNat 0)).cl) z = false from by
                show inR (ncell p.cl) z = false
                rw [hC.out.cl, show ncell (c : Int) = n by rw [HN.out]; rfl]
                simp only [inR]
                exact decide_eq_false (by omega)]
              simp
            exact ⟨by simp [ownE, hc], by simp [ownM, hc]⟩)
          have HO := hid hout
          clear hout
          rcases HO.out with ho | ho
          all_goals
            go_wp2_with fail
            refine (Own_any b B ⟨0, 1, fun _ => p, wd⟩ 0 z true _ HM.out).mono ?_
            rw [(NO.out true).1, (NO.out true).2]
            rintro e w6 ⟨rfl, hA⟩
            have C6 := hid (hC.out.same HN2.out HM.out hA)
            clear hA
            obtain ⟨B6, wd6, hM6, hN6⟩ := C6.out.mp
            have M6 := hid hM6
            have N6 := hid hN6
            clear hM6 hN6
            go_wp2_with fail
            have NF := hid (NOF.out wd6 false)
            refine (Own_any b B6 ⟨0, 1, fun _ => p, wd6⟩ 0 z false _ M6.out).mono ?_
            rw [NF.out.1, NF.out.2]
            rintro e w7 ⟨rfl, hA⟩
            have C7 := hid (C6.out.same N6.out M6.out hA)
            clear hA
            go_wp2_with fail
            exact ⟨⟨j + 1, by omega, by simp, p, rfl, C7⟩, by simp [intOf]; omega⟩
        · obtain ⟨d, rfl⟩ := Int.eq_ofNat_of_zero_le (show 0 ≤ z by omega)
          have hdn : d < n := by omega
          have hd1 : ¬ (d : Int) < 0 := by omega
          have hd2 : ¬ (n : Int) ≤ (d : Int) := by omega
          have hdni : (d : Int) < (n : Int) := by omega
          have HIB := hid (show InB wr I n (litP p) from HN.out ▸ hC.out.ib)
          have ic := HIB.out.cell d hdn
          obtain ⟨lv, hlv⟩ : ∃ lv, lv = litP p d := ⟨_, rfl⟩
          rw [← hlv] at ic
          have CE := hid (fun wd => show isCell ⟨0, 1, fun _ => p, wd⟩ 0 (d : Int) = true from by
            unfold isCell
            rw [show inR (ncell ((⟨0, 1, fun _ => p, wd⟩ : Mp).pg (Int.toNat 0)).cl) (d : Int) = true from by
                show inR (ncell p.cl) (d : Int) = true
                rw [hC.out.cl, show ncell (c : Int) = n by rw [HN.out]; rfl]
                exact inR_yes hdn, decide_eq_true (show ((⟨0, 1, fun _ => p, wd⟩ : Mp).pg (Int.toNat 0)).kd = 4 from hC.out.kd)]
            rfl)
          have NO := hid (show ownE ⟨0, 1, fun _ => p, wd⟩ 0 (d : Int) lv = 1 ∧ ownM ⟨0, 1, fun _ => p, wd⟩ 0 (d : Int) lv = ⟨0, 1, fun _ => p, wd⟩ from by
            have hc : canOwn ⟨0, 1, fun _ => p, wd⟩ 0 (d : Int) lv = false := by unfold canOwn; rw [hlv]; simp
            exact ⟨by simp [ownE, hc], by simp [ownM, hc]⟩)
          have YS := hid (fun wd => show ownE ⟨0, 1, fun _ => p, wd⟩ 0 (d : Int) (!lv) = 0 ∧ ownM ⟨0, 1, fun _ => p, wd⟩ 0 (d : Int) (!lv) = ⟨0, 1, upp (fun _ => p) 0 (ownP p d), wd⟩ from by
            have hc : canOwn ⟨0, 1, fun _ => p, wd⟩ 0 (d : Int) (!lv) = true := by unfold canOwn; rw [CE.out wd, hlv]; simp
            exact ⟨by simp [ownE, hc], by simp [ownM, hc]⟩)
          have HLV := hid hlv
          clear hlv hout
          go_wp2_with fail
          refine (Own_any b B ⟨0, 1, fun _ => p, wd⟩ 0 (d : Int) lv _ HM.out).mono ?_
          rw [NO.out.1, NO.out.2]
          rintro e w6 ⟨rfl, hA⟩
          have C6 := hid (hC.out.same HN2.out HM.out hA)
          clear hA ic
          obtain ⟨B6, wd6, hM6, hN6⟩ := C6.out.mp
          have M6 := hid hM6
          have N6 := hid hN6
          have ic := (show InB w6 I n (litP p) from HN.out ▸ C6.out.ib).cell d hdn
          rw [← HLV.out] at ic
          clear hM6 hN6
          go_wp2_with fail
          have Y6 := hid (YS.out wd6)
          refine (Own_any b B6 ⟨0, 1, fun _ => p, wd6⟩ 0 (d : Int) (!lv) _ M6.out).mono ?_
          rw [Y6.out.1, Y6.out.2]
          rintro e w7 ⟨rfl, hA⟩
          have A7 := hid (C6.out.aft (p' := ownP p d) (wd' := wd6) N6.out (by
            obtain ⟨B', h1, h2, h3⟩ := hA
            exact ⟨B', MapAt.congr (pg' := fun _ => ownP p d) h1 (fun i hi => by
              have : i = 0 := by have h1 : i < 1 := hi; omega
              subst this
              rfl), h2, h3⟩) M6.out)
          clear hA ic
          have IB7 := hid (show InB w7 I n (litP p) from HN.out ▸ A7.out.2.1)
          have ic := IB7.out.cell d hdn
          rw [← HLV.out] at ic
          have iz := IB7.out.froz d
          have C8 := hid (fun v (hv : v = !lv) => Cl.turned (v := v) A7.out.1 A7.out.2.1 A7.out.2.2 hC.out.kd hC.out.cl hC.out.hI (show d < 256 / 2 ^ c from HN.out ▸ hdn) (by rw [hv, HLV.out]))
          have OL := hid (own_lv p d)
          rw [← HLV.out] at OL
          clear HLV YS NO Y6 CE
          cases lv
          all_goals
            go_wp2_with fail
            have C9 := hid (C8.out _ rfl)
            simp only [Bool.not_true, Bool.not_false] at C9
            have OL9 := OL.out
            simp only [if_true, if_false, Bool.false_eq_true] at OL9
            obtain ⟨B9, wd9, hM9, hN9⟩ := C9.out.mp
            have M9 := hid hM9
            clear hM9 hN9
            refine (at_any b B9 ⟨0, 1, fun _ => ownP p d, wd9⟩ 0 _ M9.out).mono ?_
            rw [show atP ⟨0, 1, fun _ => ownP p d, wd9⟩ 0 = ownP p d from rfl, show inR (⟨0, 1, fun _ => ownP p d, wd9⟩ : Mp).n 0 = true from rfl]
            rintro e w10 ⟨rfl, hK⟩
            have C10 := hid (fun o => (C9.out.keep hK).keep ((Kept.refl none' w10).alloc o))
            have hkd := C9.out.kd
            have hcl := C9.out.cl
            generalize ownP p d = p2 at *
            clear hK C8 C9 A7 IB7 ic iz
            go_wp2_with fail
            exact ⟨⟨j + 1, by omega, by simp, p2, by rw [OL9], C10.out _⟩, by simp [intOf]; omega⟩
      · have hji : ¬ (j : Int) < (k : Int) := by omega
        go_wp2_with fail
        go_ret
        exact ⟨rfl, hC.out.kp⟩
end Go.Proofs.Ytbhheimedbfmeaa
