/- LinksKnown. -/
import Derived.Test.YtnkoheanjaapjaaLawD
namespace Go.Proofs.Ytnkoheanjaapjaa
open Go.RowKit Go.Shelf
set_option linter.unusedVariables false

def Sk1 : St := popS S0
def Sk2 : St := pushS Sk1 8180
def Sk3 : St := pushS Sk2 0
def Sk4 : St := remS Sk3 100
def Sk5 : St := pushS Sk4 4096
def Sk6 : St := pushS Sk5 4112
def Sk7 : St := (stw 4096 Sk6.1 4104 5, Sk6.2.1, 0)
def Sk8 : St := popS Sk7
def Sk9 : St := remS Sk8 4096
def Sk10 : St := (stw 4096 Sk9.1 4096 4096, Sk9.2.1, 0)
def Sk11 : St := (stw 4096 Sk10.1 4104 0, Sk10.2.1, 0)
def Sk12 : St := (Sk11.1, 4096, 0)
def Sk13 : St := popS Sk12
theorem Sk1_0 : (popR 4096 4096 S0.1 S0.2.1).2.2.1 = 0 := by decide +kernel
theorem Sk1_1 : (popR 4096 4096 S0.1 S0.2.1).2.2.2 = 9 := by decide +kernel
theorem Sk1_2 : walkR 4096 4096 Sk1.1 256 0 0 = [] := by decide +kernel
theorem Sk1_3 : Sk1.2.1 = 0 := by decide +kernel
theorem Sk2_4 : Sk2.2.2 = 4 := by decide +kernel
theorem Sk3_5 : Sk3.2.2 = 4 := by decide +kernel
theorem Sk4_6 : Sk4.2.2 = 4 := by decide +kernel
theorem Sk4_7 : Sk4.2.1 = 0 := by decide +kernel
theorem Sk5_8 : Sk5.2.2 = 0 := by decide +kernel
theorem Sk6_9 : Sk6.2.2 = 0 := by decide +kernel
theorem Sk8_10 : (popR 4096 4096 Sk7.1 Sk7.2.1).2.2.1 = 0 := by decide +kernel
theorem Sk8_11 : (popR 4096 4096 Sk7.1 Sk7.2.1).2.2.2 = 8 := by decide +kernel
theorem Sk8_12 : walkR 4096 4096 Sk8.1 256 0 4112 = [4112] := by decide +kernel
theorem Sk8_13 : Sk8.2.1 = 4112 := by decide +kernel
theorem Sk9_14 : Sk9.2.2 = 8 := by decide +kernel
theorem Sk9_15 : Sk9.2.1 = 4112 := by decide +kernel
theorem Sk13_16 : (popR 4096 4096 Sk12.1 Sk12.2.1).2.2.1 = 0 := by decide +kernel
theorem Sk13_17 : (popR 4096 4096 Sk12.1 Sk12.2.1).2.2.2 = 8 := by decide +kernel
theorem Sk13_18 : walkR 4096 4096 Sk13.1 256 0 4096 = [4096] := by decide +kernel
theorem Sk13_19 : Sk13.2.1 = 4096 := by decide +kernel

theorem known_any (w : World) :
    Calls Try.prog 3 #[] w fun e w' => e = .returned (.bool true) ∧ Kept none' w w' := by
  go_enter Try.func3, Try.ntmps3
  go_wp2_with fail
  refine (small_any _).mono ?_
  rintro e w1 ⟨b, g, rfl, hS, hK, hb, hg⟩
  have HS := hid hS
  have K1 := hid (fresh_none (B := w.heap.size) hK)
  have HB := hid hb
  have HG := hid hg
  clear hS hK hb hg
  go_wp2_with fail
  refine (lives_any _).mono ?_
  rintro e w2 ⟨rfl, hK⟩
  have HS2 := hid (HS.out.keep hK)
  have K2 := hid (K1.out.then' (fresh_none hK))
  clear hK HS K1
  have HS := HS2
  clear HS2
  go_wp2_with fail
  refine (newList_any b 0 (by decide) _).mono ?_
  rintro e w3 ⟨c, rfl, hL, hK, hc⟩
  have H3 := hid (show LS w3 c b (some g) 4096 4096 1 4096 S0.1 S0.2.1 from ⟨HS.out.keep hK, hL⟩)
  have HC := hid (show w.heap.size ≤ c from Nat.le_trans K2.out.size hc)
  have K3 := hid (K2.out.then' (fresh_none hK))
  clear hL hK hc HS K2
  go_wp2_with fail
  refine (Pop_any c b (some g) 4096 4096 1 4096 S0.1 S0.2.1 _ H3.out).mono ?_
  rintro e w4 ⟨rfl, hL, hK⟩
  rw [Sk1_0, Sk1_1]
  have H4 := hid (show LS w4 c b (some g) 4096 4096 1 4096 Sk1.1 Sk1.2.1 from hL)
  have K4 := hid (K3.out.then' (fresh_lown hK HC.out HB.out HG.out))
  clear hL hK H3 K3
  go_wp2_with fail
  refine (all_any c b (some g) 4096 4096 1 4096 Sk1.1 0 0 (by decide) (by decide) _ (by have := H4.out; rw [Sk1_3] at this; exact this)).mono ?_
  rintro e w5 ⟨v, rfl, hV, hK, -⟩
  rw [show walkR 4096 4096 Sk1.1 (4096 / 16) 0 0 = [] from Sk1_2] at hV
  have H5 := hid (H4.out.keep hK)
  have K5 := hid (K4.out.then' (fresh_none hK))
  obtain ⟨-, bo, bc, rfl, -⟩ := hV.wds
  clear hV hK H4 K4
  go_wp2_with fail
  refine (pushS_any c b g Sk1 8180 (by decide) _ H5.out).mono ?_
  rintro e w6 ⟨rfl, hL, hK⟩
  rw [show (pushS Sk1 8180).2.2 = 4 from Sk2_4]
  have H6 := hid (show LS w6 c b (some g) 4096 4096 1 4096 Sk2.1 Sk2.2.1 from hL)
  have K6 := hid (K5.out.then' (fresh_lown hK HC.out HB.out HG.out))
  clear hL hK H5 K5
  go_wp2_with fail
  refine (pushS_any c b g Sk2 0 (by decide) _ H6.out).mono ?_
  rintro e w7 ⟨rfl, hL, hK⟩
  rw [show (pushS Sk2 0).2.2 = 4 from Sk3_5]
  have H7 := hid (show LS w7 c b (some g) 4096 4096 1 4096 Sk3.1 Sk3.2.1 from hL)
  have K7 := hid (K6.out.then' (fresh_lown hK HC.out HB.out HG.out))
  clear hL hK H6 K6
  go_wp2_with fail
  refine (remS_any c b g Sk3 100 (by decide) _ H7.out).mono ?_
  rintro e w8 ⟨rfl, hL, hK⟩
  rw [show (remS Sk3 100).2.2 = 4 from Sk4_6]
  have H8 := hid (show LS w8 c b (some g) 4096 4096 1 4096 Sk4.1 Sk4.2.1 from hL)
  have K8 := hid (K7.out.then' (fresh_lown hK HC.out HB.out HG.out))
  clear hL hK H7 K7
  go_wp2_with fail
  refine (Head_any c b 0 _ (by have := H8.out.l; rw [Sk4_7] at this; exact this)).mono ?_
  rintro e w9 ⟨rfl, hw⟩
  subst hw
  go_wp2_with fail
  refine (pushS_any c b g Sk4 4096 (by decide) _ H8.out).mono ?_
  rintro e w9 ⟨rfl, hL, hK⟩
  rw [show (pushS Sk4 4096).2.2 = 0 from Sk5_8]
  have H9 := hid (show LS w9 c b (some g) 4096 4096 1 4096 Sk5.1 Sk5.2.1 from hL)
  have K9 := hid (K8.out.then' (fresh_lown hK HC.out HB.out HG.out))
  clear hL hK H8 K8
  go_wp2_with fail
  refine (pushS_any c b g Sk5 4112 (by decide) _ H9.out).mono ?_
  rintro e w10 ⟨rfl, hL, hK⟩
  rw [show (pushS Sk5 4112).2.2 = 0 from Sk6_9]
  have H10 := hid (show LS w10 c b (some g) 4096 4096 1 4096 Sk6.1 Sk6.2.1 from hL)
  have K10 := hid (K9.out.then' (fresh_lown hK HC.out HB.out HG.out))
  clear hL hK H9 K9
  go_wp2_with fail
  refine (SetWord_in b g 4096 4096 1 4096 Sk6.1 4104 5 (by decide) _ H10.out.s ⟨by decide, by decide⟩).mono ?_
  rintro e w11 ⟨rfl, hS, hK⟩
  have H11 := hid (show LS w11 c b (some g) 4096 4096 1 4096 Sk7.1 Sk7.2.1 from H10.out.stored hS hK)
  have K11 := hid (K10.out.then' (fresh_lown (hK.lown' (c := c)) HC.out HB.out HG.out))
  clear hS hK H10 K10
  go_wp2_with fail
  refine (Pop_any c b (some g) 4096 4096 1 4096 Sk7.1 Sk7.2.1 _ H11.out).mono ?_
  rintro e w12 ⟨rfl, hL, hK⟩
  rw [Sk8_10, Sk8_11]
  have H12 := hid (show LS w12 c b (some g) 4096 4096 1 4096 Sk8.1 Sk8.2.1 from hL)
  have K12 := hid (K11.out.then' (fresh_lown hK HC.out HB.out HG.out))
  clear hL hK H11 K11
  go_wp2_with fail
  refine (all_any c b (some g) 4096 4096 1 4096 Sk8.1 4112 0 (by decide) (by decide) _ (by have := H12.out; rw [Sk8_13] at this; exact this)).mono ?_
  rintro e w13 ⟨v, rfl, hV, hK, -⟩
  rw [show walkR 4096 4096 Sk8.1 (4096 / 16) 0 4112 = [4112] from Sk8_12] at hV
  have H13 := hid (H12.out.keep hK)
  have K13 := hid (K12.out.then' (fresh_none hK))
  have HV := hid (hV.keep ((Kept.refl none' w13).alloc (.cells #[.int .u64 4112] 27))).wds
  have HX := hid (Wds.lit w13 [4112] (by decide) #[.int .u64 4112] rfl)
  clear hV hK H12 K12
  go_wp2_with fail
  refine (same_any v _ [4112] [4112] (by decide) _ HV.out HX.out).mono ?_
  rintro e w14 ⟨rfl, hK⟩
  rw [show decide ([4112] = [4112]) = true from rfl]
  have H14 := hid ((H13.out.keep ((Kept.refl none' w13).alloc _)).keep hK)
  have K14 := hid ((K13.out.then' (fresh_none ((Kept.refl none' w13).alloc _))).then' (fresh_none hK))
  clear hK HV HX H13 K13
  go_wp2_with fail
  refine (remS_any c b g Sk8 4096 (by decide) _ H14.out).mono ?_
  rintro e w15 ⟨rfl, hL, hK⟩
  rw [show (remS Sk8 4096).2.2 = 8 from Sk9_14]
  have H15 := hid (show LS w15 c b (some g) 4096 4096 1 4096 Sk9.1 Sk9.2.1 from hL)
  have K15 := hid (K14.out.then' (fresh_lown hK HC.out HB.out HG.out))
  clear hL hK H14 K14
  go_wp2_with fail
  refine (Head_any c b 4112 _ (by have := H15.out.l; rw [Sk9_15] at this; exact this)).mono ?_
  rintro e w16 ⟨rfl, hw⟩
  subst hw
  go_wp2_with fail
  refine (SetWord_in b g 4096 4096 1 4096 Sk9.1 4096 4096 (by decide) _ H15.out.s ⟨by decide, by decide⟩).mono ?_
  rintro e w16 ⟨rfl, hS, hK⟩
  have H16 := hid (show LS w16 c b (some g) 4096 4096 1 4096 Sk10.1 Sk10.2.1 from H15.out.stored hS hK)
  have K16 := hid (K15.out.then' (fresh_lown (hK.lown' (c := c)) HC.out HB.out HG.out))
  clear hS hK H15 K15
  go_wp2_with fail
  refine (SetWord_in b g 4096 4096 1 4096 Sk10.1 4104 0 (by decide) _ H16.out.s ⟨by decide, by decide⟩).mono ?_
  rintro e w17 ⟨rfl, hS, hK⟩
  have H17 := hid (show LS w17 c b (some g) 4096 4096 1 4096 Sk11.1 Sk11.2.1 from H16.out.stored hS hK)
  have K17 := hid (K16.out.then' (fresh_lown (hK.lown' (c := c)) HC.out HB.out HG.out))
  clear hS hK H16 K16
  go_wp2_with fail
  refine (newList_any b 4096 (by decide) _).mono ?_
  rintro e w18 ⟨c2, rfl, hL, hK, hc⟩
  have H18 := hid (show LS w18 c2 b (some g) 4096 4096 1 4096 Sk12.1 Sk12.2.1 from ⟨H17.out.s.keep hK, hL⟩)
  have HC2 := hid (show w.heap.size ≤ c2 from Nat.le_trans K17.out.size hc)
  have K18 := hid (K17.out.then' (fresh_none hK))
  clear hL hK hc HC H17 K17
  have HC := HC2
  clear HC2
  obtain ⟨c, rfl⟩ : ∃ c, c = c2 := ⟨_, rfl⟩
  go_wp2_with fail
  refine (Pop_any c b (some g) 4096 4096 1 4096 Sk12.1 Sk12.2.1 _ H18.out).mono ?_
  rintro e w19 ⟨rfl, hL, hK⟩
  rw [Sk13_16, Sk13_17]
  have H19 := hid (show LS w19 c b (some g) 4096 4096 1 4096 Sk13.1 Sk13.2.1 from hL)
  have K19 := hid (K18.out.then' (fresh_lown hK HC.out HB.out HG.out))
  clear hL hK H18 K18
  go_wp2_with fail
  refine (all_any c b (some g) 4096 4096 1 4096 Sk13.1 4096 0 (by decide) (by decide) _ (by have := H19.out; rw [Sk13_19] at this; exact this)).mono ?_
  rintro e w20 ⟨v, rfl, hV, hK, -⟩
  rw [show walkR 4096 4096 Sk13.1 (4096 / 16) 0 4096 = [4096] from Sk13_18] at hV
  have H20 := hid (H19.out.keep hK)
  have K20 := hid (K19.out.then' (fresh_none hK))
  have HV := hid (hV.keep ((Kept.refl none' w20).alloc (.cells #[.int .u64 4096] 27))).wds
  have HX := hid (Wds.lit w20 [4096] (by decide) #[.int .u64 4096] rfl)
  clear hV hK H19 K19
  go_wp2_with fail
  refine (same_any v _ [4096] [4096] (by decide) _ HV.out HX.out).mono ?_
  rintro e w21 ⟨rfl, hK⟩
  rw [show decide ([4096] = [4096]) = true from rfl]
  have H21 := hid ((H20.out.keep ((Kept.refl none' w20).alloc _)).keep hK)
  have K21 := hid ((K20.out.then' (fresh_none ((Kept.refl none' w20).alloc _))).then' (fresh_none hK))
  clear hK HV HX H20 K20
  go_wp2_with fail
  go_ret
  exact ⟨rfl, from_none K21.out⟩
end Go.Proofs.Ytnkoheanjaapjaa
