/- MemKept, of more than 4096 bytes. -/
import Derived.Test.YtanfdpangcgdhabKeptM
namespace Go.Proofs.Ytanfdpangcgdhab
open Go.RowKit
set_option linter.unusedVariables false

set_option maxRecDepth 100000 in
set_option maxHeartbeats 4000000 in
theorem kept_large (ab ad m cap : Nat) (gg : Nat → Nat) (hmx : m ≤ 9223372036854775807) (hcap : m ≤ cap) (hm : 4096 < m) (w : World) (hv : Bytes w (.slice (some ⟨ab, ad, none⟩) m cap) m gg) :
    Calls Try.prog 3 #[.slice (some ⟨ab, ad, none⟩) m cap] w fun e w' => e = .returned (.bool true) ∧ Below w.heap.size w w' := by
  obtain ⟨mm, hmm⟩ : ∃ mm, mm = 4096 := ⟨_, rfl⟩
  have HAB := hid (hv.lt (by omega) ab rfl)
  have HV := hid (hv.take mm cap (by omega))
  have h0 : 0 < mm := by omega
  have hm4 : mm ≤ 4096 := by omega
  obtain ⟨q, hq⟩ : ∃ q, q = mm + 8 := ⟨_, rfl⟩
  have hqi : (mm : Int) + 8 = (q : Int) := by omega
  have hql : q ≤ 4104 := by omega
  have HQ := hid hq
  have HLIT := hid (show (4096 : Nat) = mm ∧ (4096 : Int) = (mm : Int) ∧ (4100 : Nat) = mm + 4 ∧ (4104 : Nat) = q ∧ (4104 : Int) = (q : Int) from ⟨by omega, by omega, by omega, by omega, by omega⟩)
  clear hv hq hmm
  go_enter Try.func3, Try.ntmps3
  go_wp2_with fail
  refine (grown_any 2 (by decide) (by decide) _).mono ?_
  rintro e w1 ⟨b1, g1, rfl, hS1, hK1, hb1, hg1⟩
  have HS1 := hid (show SpaceAt w1 b1 (some g1) 1048576 4096 3 8192 (fun _ => 0) from hS1)
  have HB1 := hid (And.intro hb1 hg1)
  have HK1 := hid hK1
  clear hS1 hK1 hb1 hg1
  go_wp2_with fail
  refine (grown_any 2 (by decide) (by decide) _).mono ?_
  rintro e w2 ⟨b2, g2, rfl, hS2, hK2, hb2, hg2⟩
  have HS := hid (show KS w w2.heap.size w2 b1 g1 b2 g2 (fun _ => 0) from by
    have h1 := HS1.out
    have hl1 := h1.own_lt
    have hk := HK1.out.size
    have hk2 := hK2.size
    have hS2' : SpaceAt w2 b2 (some g2) 1048576 4096 3 8192 (fun _ => 0) := hS2
    have hl2 := hS2'.own_lt
    refine ⟨h1.keep hK2, hS2', (HK1.out.trans (U := none') hK2 (fun _ _ x => x) (fun _ _ x => x)).fresh (fun x h => h.elim), fun x e => ⟨?_, by have := hl1 x e; omega⟩, fun x e => ⟨?_, hl2 x e⟩, fun x e e2 => ?_, by omega, Nat.le_refl _⟩
    · rcases e with rfl | e
      · exact HB1.out.1
      · injection e with e
        subst e
        exact HB1.out.2
    · rcases e with rfl | e
      · omega
      · injection e with e
        subst e
        omega
    · have := hl1 x e
      rcases e2 with rfl | e2
      · omega
      · injection e2 with e2
        subst e2
        omega)
  obtain ⟨X, hX⟩ : ∃ X, X = w2.heap.size := ⟨_, rfl⟩
  clear hS2 hK2 hb2 hg2 HS1 HB1 HK1
  obtain ⟨w3, hmk3, -, hM3, hK3, hs3⟩ := make_room q (by omega) w2
  rw [← hX] at hmk3 hM3 hs3
  have hS3 := HS.out.keep hK3
  obtain ⟨w4, hap4, hM4, hK4, hs4⟩ := append_fits w3 X 0 q mm _ gg _ hM3 (HV.out.kept hS3.k (notfrom HAB.out)) (by have := HQ.out; omega)
  rw [Nat.zero_add] at hap4 hM4
  rw [← hX] at HS
  have hS4 := (hX ▸ hS3 : KS w X w3 b1 g1 b2 g2 (fun _ => 0)).next hK4 (fun x e => by rw [e]; exact Nat.le_refl _)
  have hA4 := (Kept.refl none' w4).alloc (.cells #[.int .u8 201, .int .u8 201, .int .u8 201, .int .u8 201] 5)
  obtain ⟨w5, hap5, hM5, hK5, hs5⟩ := append_fits (w4.alloc (.cells #[.int .u8 201, .int .u8 201, .int .u8 201, .int .u8 201] 5)) X mm q 4 _ (fun _ => 201) _ (hM4.keep hA4) (bytes_lit w4 _ 4 201 (by decide) four) (by have := HQ.out; omega)
  have HS5 := hid ((hS4.keep hA4).next hK5 (fun x e => by rw [e]; exact Nat.le_refl _))
  have HM5 := hid (hM5.congr (f' := glue gg mm fun _ => 201) (fun i hi => by simp only [glue]; split; rfl; rfl))
  clear hS3 hS4 hM3 hM4 hM5 hK3 hK4 hK5 hA4 hs3 hs4 hs5 HS hX
  obtain ⟨l1, l2, l3, l4, l5⟩ := HLIT.out
  rw [← l4, ← l1] at hap4 hap5
  rw [← l5, ← l4] at hmk3
  clear l1 l2 l3 l4 l5
  go_wp2_with (at_builtin; first | (refine Lib.wpList_append_run _ rfl _ _ _ _ rfl (.slice (some ⟨X, 0, none⟩) 0 4104) _ rfl rfl _ _ (hap4 _) ?_; clear hap4) | (refine Lib.wpList_append_run _ rfl _ _ _ _ rfl (.slice (some ⟨X, 0, none⟩) 4096 4104) _ rfl rfl _ _ (hap5 _) ?_; clear hap5))
  obtain ⟨l1, l2, l3, l4, l5⟩ := HLIT.out
  rw [l1, l2, l3, l4, l5]
  clear l1 l2 l3 l4 l5 hmk3
  refine (Write_in b1 g1 _ _ _ _ _ 1048576 mm _ gg _ HS5.out.s1 h0 ⟨by decide, by omega⟩ ((HM5.out.less mm (by omega)).congr (fun i hi => by simp only [glue]; rw [if_pos hi])).bytes).mono ?_
  rintro e w6 ⟨rfl, hS, hK⟩
  obtain ⟨f6, hf6⟩ : ∃ f6, f6 = upd (fun _ => 0) (1048576 - 1048576) mm gg := ⟨_, rfl⟩
  rw [← hf6] at hS
  have HF6 := hid hf6
  have HS6 := hid (HS5.out.wrote hS hK)
  have HM6 := hid (HM5.out.kept hK (fun e => by have := (HS5.out.lo1 _ e).2; omega))
  clear hS hK hf6 HS5 HM5
  go_wp2_with fail
  refine (Same_true _ _ mm (by omega) gg _ ((HM6.out.less mm (by omega)).congr (fun i hi => by simp only [glue]; rw [if_pos hi])).bytes (HV.out.kept HS6.out.k (notfrom HAB.out))).mono ?_
  rintro e w7 ⟨rfl, hK⟩
  have HS7 := hid (HS6.out.keep hK)
  have HM7 := hid (HM6.out.keep hK)
  clear hK HS6 HM6
  have hmi : (mm : Int) ≤ (mm : Int) + 4 := by omega
  have hmq : mm + 4 ≤ q := by have := HQ.out; omega
  go_wp2_with fail
  have hA7 := (Kept.refl none' w7).alloc (.cells #[.int .u8 201, .int .u8 201, .int .u8 201, .int .u8 201] 5)
  refine (Same_true _ _ 4 (by decide) (fun _ => 201) _ (((HM7.out.keep hA7).tail mm 4 (q - mm) (Nat.le_refl _)).congr (fun i hi => by simp only [glue]; rw [if_neg (by omega)])) (bytes_lit w7 _ 4 201 (by decide) four)).mono ?_
  rintro e w8 ⟨rfl, hK⟩
  have hK' := hA7.trans (U := none') hK (fun _ _ x => x) (fun _ _ x => x)
  have HS8 := hid (HS7.out.keep hK')
  have HM8 := hid (HM7.out.keep hK')
  clear hK hK' hA7 HS7 HM7 hmi
  obtain ⟨F, hF⟩ : ∃ F, F = glue gg mm fun _ => 201 := ⟨_, rfl⟩
  rw [← hF] at HM8
  clear hF
  go_wp2
  go_loopw [8] (fun i wr => ∃ k : Nat, k ≤ mm ∧ i = .int .i64 k ∧ Hid (Kept (fun x => x = X) w8 wr) ∧ Hid (MemAt wr X (mm + 4) q (upd F 0 k fun i => (F i + 1) % 256))) (fun i _ => mm - (intOf i).toNat)
  case atStart => exact ⟨0, by omega, rfl, Kept.refl _ _, by rw [upd_zero]; exact HM8⟩
  case round =>
    obtain ⟨k, hk, rfl, hK, hM⟩ := hrel
    clear HM8
    by_cases hlt : k < mm
    · have hc := hM.out.cell k (by omega)
      have hf := hM.out.frozen k
      have hx256 := hM.out.f256 k (by omega)
      rw [upd_out _ _ _ _ _ (by omega)] at hc hx256
      obtain ⟨x, hx⟩ : ∃ x, x = F k := ⟨_, rfl⟩
      rw [← hx] at hc hx256
      obtain ⟨y, hy⟩ : ∃ y, y = (x + 1) % 256 := ⟨_, rfl⟩
      have hyi : ((x : Int) + 1) % 256 = (y : Int) := by omega
      have hyl : y < 256 := by omega
      have HY := hid (show (F k + 1) % 256 = y from by rw [← hx, ← hy])
      have hki : (k : Int) < (mm : Int) := by omega
      clear hx hy
      go_wp2
      refine ⟨⟨k + 1, by omega, by simp, hK.out.setCell (fun _ => rfl) _, ?_⟩, by simp [intOf]; omega⟩
      have := hM.out.write k y (by omega) hyl
      rw [← upd_succ, Nat.zero_add, HY.out]
      exact this
    · obtain rfl : k = mm := by omega
      have HS9 := hid (HS8.out.next hK.out (fun x e => by rw [e]; exact Nat.le_refl _))
      obtain ⟨w9, hw9⟩ : ∃ w9, w9 = wr := ⟨_, rfl⟩
      rw [← hw9] at HS9 ⊢
      clear HS8 hM hK hlt hk hw9
      go_wp2_with fail
      refine (Read_in b1 g1 _ _ _ _ _ 1048576 k _ HS9.out.s1 h0 ⟨by decide, by omega⟩).mono ?_
      rintro e w10 ⟨rfl, hB, hK⟩
      obtain ⟨A, hA⟩ : ∃ A, A = w9.heap.size + 1 := ⟨_, rfl⟩
      rw [← hA] at hB ⊢
      have HA := hid (hB.congr (g' := gg) (fun i hi => by show f6 (1048576 - 1048576 + i) = gg i; rw [HF6.out, Nat.sub_self, Nat.zero_add, upd_in _ _ _ _ _ (by omega), Nat.sub_zero]))
      have HS10 := hid (HS9.out.keep hK)
      have HXA := hid (show X ≤ A from by have := HS9.out.sz; omega)
      clear hB hK HS9 hA
      go_wp2_with fail
      refine (Read_in b1 g1 _ _ _ _ _ 1048576 k _ HS10.out.s1 h0 ⟨by decide, by omega⟩).mono ?_
      rintro e w11 ⟨rfl, hB, hK⟩
      obtain ⟨E, hE⟩ : ∃ E, E = w10.heap.size + 1 := ⟨_, rfl⟩
      rw [← hE] at hB ⊢
      have HE := hid (hB.congr (g' := gg) (fun i hi => by show f6 (1048576 - 1048576 + i) = gg i; rw [HF6.out, Nat.sub_self, Nat.zero_add, upd_in _ _ _ _ _ (by omega), Nat.sub_zero]))
      have HAE := hid (show A < E from by have := HA.out.lt; omega)
      have HA11 := hid (HA.out.kept hK (fun x => x))
      have HS11 := hid (HS10.out.keep hK)
      clear hB hK HS10 hE HA
      go_wp2_with fail
      refine (Same_true _ _ k (by omega) gg _ HA11.out.slice (HV.out.kept HS11.out.k (notfrom HAB.out))).mono ?_
      rintro e w12 ⟨rfl, hK⟩
      have HE12 := hid (HE.out.kept hK (fun x => x))
      have HA12 := hid (HA11.out.kept hK (fun x => x))
      have HS12 := hid (HS11.out.keep hK)
      clear hK HE HA11 HS11
      go_wp2_with fail
      refine (Same_true _ _ k (by omega) gg _ HE12.out.slice (HV.out.kept HS12.out.k (notfrom HAB.out))).mono ?_
      rintro e w13 ⟨rfl, hK⟩
      have HE13 := hid (HE12.out.kept hK (fun x => x))
      have HM13 := hid (HA12.out.kept hK (fun x => x)).mem
      have HS13 := hid (HS12.out.keep hK)
      clear hK HE12 HA12 HS12
      go_wp2
      go_loopw [13] (fun i wr => ∃ j : Nat, j ≤ k ∧ i = .int .i64 j ∧ Hid (Kept (fun x => x = A) w13 wr) ∧ Hid (MemAt wr A k k (upd gg 0 j fun i => (gg i + 1) % 256))) (fun i _ => k - (intOf i).toNat)
      case atStart => exact ⟨0, by omega, rfl, Kept.refl _ _, by rw [upd_zero]; exact HM13⟩
      case round =>
        obtain ⟨j, hj, rfl, hK, hM⟩ := hrel
        clear HM13
        by_cases hlt : j < k
        · have hc := hM.out.cell j (by omega)
          have hf := hM.out.frozen j
          have hx256 := hM.out.f256 j (by omega)
          rw [upd_out _ _ _ _ _ (by omega)] at hc hx256
          obtain ⟨x, hx⟩ : ∃ x, x = gg j := ⟨_, rfl⟩
          rw [← hx] at hc hx256
          obtain ⟨y, hy⟩ : ∃ y, y = (x + 1) % 256 := ⟨_, rfl⟩
          have hyi : ((x : Int) + 1) % 256 = (y : Int) := by omega
          have hyl : y < 256 := by omega
          have HY := hid (show (gg j + 1) % 256 = y from by rw [← hx, ← hy])
          have hki : (j : Int) < (k : Int) := by omega
          clear hx hy
          go_wp2
          refine ⟨⟨j + 1, by omega, by simp, hK.out.setCell (fun _ => rfl) _, ?_⟩, by simp [intOf]; omega⟩
          have := hM.out.write j y (by omega) hyl
          rw [← upd_succ, Nat.zero_add, HY.out]
          exact this
        · obtain rfl : j = k := by omega
          have HS14 := hid (HS13.out.next hK.out (fun x e => by rw [e]; exact HXA.out))
          have HE14 := hid (HE13.out.kept hK.out (by have := HAE.out; omega))
          obtain ⟨w14, hw14⟩ : ∃ w14, w14 = wr := ⟨_, rfl⟩
          rw [← hw14] at HS14 HE14 hM ⊢
          have hA14 := (Kept.refl none' w14).alloc (.cells #[.int .u8 7, .int .u8 7, .int .u8 7, .int .u8 7, .int .u8 7, .int .u8 7, .int .u8 7, .int .u8 7] 5)
          obtain ⟨hG, cG, w15, hapG, hK15⟩ := append_grows (w14.alloc (.cells #[.int .u8 7, .int .u8 7, .int .u8 7, .int .u8 7, .int .u8 7, .int .u8 7, .int .u8 7, .int .u8 7] 5)) A j 8 _ (fun _ => 7) _ (hM.out.keep hA14) (bytes_lit w14 _ 8 7 (by decide) eight) (by decide) (by omega)
          have HS15 := hid ((HS14.out.keep hA14).keep hK15)
          have HE15 := hid ((HE14.out.kept hA14 (fun x => x)).kept hK15 (fun x => x))
          have HQJ := hid (show q = j + 8 from HQ.out)
          clear HS13 HE13 hM hK hlt hj hw14 hA14 hK15 HS14 HE14
          go_wp2_with (at_builtin; refine Lib.wpList_append_run _ rfl _ _ _ _ rfl (.slice (some ⟨A, 0, none⟩) j j) _ rfl rfl _ _ (hapG _) ?_; clear hapG)
          refine (Read_in b1 g1 _ _ _ _ _ 1048576 q _ HS15.out.s1 (by omega) ⟨by decide, by omega⟩).mono ?_
          rintro e w16 ⟨rfl, hB, hK⟩
          obtain ⟨C, hC⟩ : ∃ C, C = w15.heap.size + 1 := ⟨_, rfl⟩
          rw [← hC] at hB ⊢
          have HC := hid (hB.congr (g' := fun i => if i < j then gg i else 0) (fun i hi => by
            show f6 (1048576 - 1048576 + i) = _
            rw [HF6.out, Nat.sub_self, Nat.zero_add]
            simp only [upd]
            by_cases h : i < j
            · rw [if_pos (by omega), if_pos h, Nat.sub_zero]
            · rw [if_neg (by omega), if_neg h]))
          have HE16 := hid (HE15.out.kept hK (fun x => x))
          have HS16 := hid (HS15.out.keep hK)
          clear hB hK HS15 HE15 hC
          go_wp2_with fail
          refine (Same_true _ _ j (by omega) gg _ HE16.out.slice (HV.out.kept HS16.out.k (notfrom HAB.out))).mono ?_
          rintro e w17 ⟨rfl, hK⟩
          have HC17 := hid (HC.out.kept hK (fun x => x))
          have HS17 := hid (HS16.out.keep hK)
          have hjq : j ≤ q := by have := HQJ.out; omega
          clear hK HC HS16 HE16
          go_wp2_with fail
          refine (Same_true _ _ j (by omega) gg _ ((HC17.out.mem.tail 0 j q (by omega)).congr (fun i hi => by simp only [Nat.zero_add]; rw [if_pos hi])) (HV.out.kept HS17.out.k (notfrom HAB.out))).mono ?_
          rintro e w18 ⟨rfl, hK⟩
          have HC18 := hid (HC17.out.kept hK (fun x => x))
          have HS18 := hid (HS17.out.keep hK)
          clear hK HC17 HS17
          go_wp2
          go_loop [16] (fun i => ∃ a : Nat, j ≤ a ∧ a ≤ q ∧ i = .int .i64 a) (fun i => q - (intOf i).toNat)
          case atStart => exact ⟨j, by omega, by omega, rfl⟩
          case round =>
            obtain ⟨a, ha1, ha2, rfl⟩ := hrel
            by_cases hlt : a < q
            · have hc : w18.cell? ⟨C, a, none⟩ = some (.int .u8 0) := by
                have := HC18.out.cell a hlt
                rwa [if_neg (by omega)] at this
              have hai : (a : Int) < (q : Int) := by omega
              go_wp2
              refine ⟨⟨a + 1, by omega, by omega, by simp⟩, by simp [intOf]; omega⟩
            · obtain rfl : a = q := by omega
              clear HC18
              go_wp2_with fail
              refine (Read_in b2 g2 _ _ _ _ _ 1048576 j _ HS18.out.s2 h0 ⟨by decide, by omega⟩).mono ?_
              rintro e w19 ⟨rfl, hB, hK⟩
              obtain ⟨Z, hZ⟩ : ∃ Z, Z = w18.heap.size + 1 := ⟨_, rfl⟩
              rw [← hZ] at hB ⊢
              have HZ := hid hB
              have HS19 := hid (HS18.out.keep hK)
              clear hB hK HS18 hZ
              go_wp2
              go_loop [18] (fun i => ∃ c : Nat, c ≤ j ∧ i = .int .i64 c) (fun i => j - (intOf i).toNat)
              case atStart => exact ⟨0, by omega, rfl⟩
              case round =>
                obtain ⟨c, hc0, rfl⟩ := hrel
                by_cases hlt2 : c < j
                · have hc : w19.cell? ⟨Z, c, none⟩ = some (.int .u8 0) := HZ.out.cell c hlt2
                  have hci : (c : Int) < (j : Int) := by omega
                  go_wp2
                  refine ⟨⟨c + 1, by omega, by simp⟩, by simp [intOf]; omega⟩
                · obtain rfl : c = j := by omega
                  go_wp2
                  go_ret
                  exact ⟨rfl, HS19.out.k.below (Nat.le_refl _) (fun x h => h)⟩

end Go.Proofs.Ytanfdpangcgdhab
