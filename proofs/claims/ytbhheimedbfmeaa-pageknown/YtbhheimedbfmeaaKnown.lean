/- PageKnown. -/
import Derived.Test.YtbhheimedbfmeaaKnA
import Derived.Test.YtbhheimedbfmeaaCel
import Derived.Test.YtbhheimedbfmeaaPgU
namespace Go.Proofs.Ytbhheimedbfmeaa
open Go.RowKit
set_option linter.unusedVariables false

def q0 : Mp := newM (ordN 2)
def q1 : Mp := growM q0 
def q2 : Mp := runM q1 1 1 0
def q3 : Mp := runM q2 2 1 0
def q4 : Mp := runM q3 2 1 4
def q5 : Mp := runM q4 0 3 2
def q6 : Mp := slabM q5 1 7
def q7 : Mp := ownM q6 1 2 true
def q8 : Mp := ownM q7 1 1 true
def q9 : Mp := ownM q8 1 1 true
def q10 : Mp := chainM q9 1 4 (-1)
def q11 : Mp := chainM q10 1 3 (-1)
def q12 : Mp := firstM q11 1 0
def q13 : Mp := firstM q12 1 2
def q14 : Mp := firstM q13 0 (-1)
def q15 : Mp := flipM q14 0 3
def q16 : Mp := flipM q15 2 0
def q17 : Mp := flipM q16 1 0
def q18 : Mp := shrinkM q17 1
def q19 : Mp := growM q18 
theorem kf0 : runE q1 1 1 0 = 1 := by decide +kernel
theorem kf1 : runE q2 2 1 0 = 0 := by decide +kernel
theorem kf2 : runE q3 2 1 4 = 1 := by decide +kernel
theorem kf3 : runE q4 0 3 2 = 1 := by decide +kernel
theorem kf4 : atP q5 2 = Pg.mk 0 1 0 0 (-1) (-1) (-1) 0 0 0 0 := by decide +kernel
theorem kf5 : inR q5.n 2 = true := by decide +kernel
theorem kf6 : atP q5 3 = Pg.mk 1 1 0 0 (-1) (-1) (-1) 0 0 0 0 := by decide +kernel
theorem kf7 : inR q5.n 3 = true := by decide +kernel
theorem kf8 : atP q5 4 = Pg.mk 0 0 0 0 0 0 0 0 0 0 0 := by decide +kernel
theorem kf9 : inR q5.n 4 = false := by decide +kernel
theorem kf10 : headV q5 3 = 2 := by decide +kernel
theorem kf11 : headV q5 1 = 0 := by decide +kernel
theorem kf12 : headV q5 9 = (-1) := by decide +kernel
theorem kf13 : slabE q5 1 7 = 0 := by decide +kernel
theorem kf14 : ownE q6 1 2 true = 1 := by decide +kernel
theorem kf15 : ownE q7 1 1 true = 0 := by decide +kernel
theorem kf16 : ownE q8 1 1 true = 1 := by decide +kernel
theorem kf17 : chainE q9 1 4 (-1) = 1 := by decide +kernel
theorem kf18 : chainE q10 1 3 (-1) = 0 := by decide +kernel
theorem kf19 : firstE q11 1 0 = 0 := by decide +kernel
theorem kf20 : firstE q12 1 2 = 1 := by decide +kernel
theorem kf21 : firstE q13 0 (-1) = 1 := by decide +kernel
theorem kf22 : atP q14 1 = Pg.mk 4 0 7 1 3 (-1) 0 2 0 0 0 := by decide +kernel
theorem kf23 : inR q14.n 1 = true := by decide +kernel
theorem kf24 : pairV q14 0 3 = false := by decide +kernel
theorem kf25 : flipE q14 0 3 = 0 := by decide +kernel
theorem kf26 : pairV (flipM q14 0 3) 0 3 = true := by decide +kernel
theorem kf27 : flipE q15 2 0 = 1 := by decide +kernel
theorem kf28 : pairV (flipM q15 2 0) 2 0 = false := by decide +kernel
theorem kf29 : flipE q16 1 0 = 0 := by decide +kernel
theorem kf30 : pairV (flipM q16 1 0) 1 0 = true := by decide +kernel
theorem kf31 : pairV q17 0 2 = true := by decide +kernel
theorem kf32 : pairV q17 0 1 = false := by decide +kernel
theorem kf33 : q17.n = 4 := by decide +kernel
theorem kf34 : q17.o = 2 := by decide +kernel
theorem kf35 : q17.wd 0 = [2] := by decide +kernel
theorem kf36 : q17.wd 1 = [1] := by decide +kernel
theorem kf37 : shrinkE q17 1 = 0 := by decide +kernel
theorem kf38 : q19.n = 4 := by decide +kernel
theorem kf39 : q19.o = 2 := by decide +kernel
theorem kf40 : q19.wd 0 = [0] := by decide +kernel
theorem kf41 : q19.wd 1 = [0] := by decide +kernel
set_option maxRecDepth 6000 in
set_option maxHeartbeats 4000000 in
theorem known_any (w : World) :
    Calls Try.prog 3 #[] w fun e w' => e = .returned (.bool true) ∧ Kept none' w w' := by
  have hae := arr_eq
  go_enter Try.func3, Try.ntmps3
  go_wp2_with fail
  refine (awake_any _).mono ?_
  rintro e w1 ⟨rfl, hK⟩
  have K1 := hid hK
  clear hK
  go_wp2_with fail
  refine (New_ks 2 w _ K1.out).mono ?_
  rintro e w2 ⟨b, rfl, hS⟩
  have H0 := hid (show KS w w2 b q0 from hS)
  clear hS K1
  go_wp2_with fail
  refine (Grow_ks b q0  w _ (by first | exact H0.out | exact H0.out.keep ((Kept.refl none' _).alloc _) | exact H0.out.keep (((Kept.refl none' _).alloc _).alloc _))).mono ?_
  rintro e w3 ⟨rfl, hS⟩
  have H1 := hid (show KS w w3 b q1 from hS)
  clear hS H0
  go_wp2_with fail
  refine (Run_ks b q1 1 1 0 w _ (by first | exact H1.out | exact H1.out.keep ((Kept.refl none' _).alloc _) | exact H1.out.keep (((Kept.refl none' _).alloc _).alloc _))).mono ?_
  rw [kf0]
  rintro e w4 ⟨rfl, hS⟩
  have H2 := hid (show KS w w4 b q2 from hS)
  clear hS H1
  go_wp2_with fail
  refine (Run_ks b q2 2 1 0 w _ (by first | exact H2.out | exact H2.out.keep ((Kept.refl none' _).alloc _) | exact H2.out.keep (((Kept.refl none' _).alloc _).alloc _))).mono ?_
  rw [kf1]
  rintro e w5 ⟨rfl, hS⟩
  have H3 := hid (show KS w w5 b q3 from hS)
  clear hS H2
  go_wp2_with fail
  refine (Run_ks b q3 2 1 4 w _ (by first | exact H3.out | exact H3.out.keep ((Kept.refl none' _).alloc _) | exact H3.out.keep (((Kept.refl none' _).alloc _).alloc _))).mono ?_
  rw [kf2]
  rintro e w6 ⟨rfl, hS⟩
  have H4 := hid (show KS w w6 b q4 from hS)
  clear hS H3
  go_wp2_with fail
  refine (Run_ks b q4 0 3 2 w _ (by first | exact H4.out | exact H4.out.keep ((Kept.refl none' _).alloc _) | exact H4.out.keep (((Kept.refl none' _).alloc _).alloc _))).mono ?_
  rw [kf3]
  rintro e w7 ⟨rfl, hS⟩
  have H5 := hid (show KS w w7 b q5 from hS)
  clear hS H4
  go_wp2_with fail
  refine (At_ks b q5 2 w _ (by first | exact H5.out | exact H5.out.keep ((Kept.refl none' _).alloc _) | exact H5.out.keep (((Kept.refl none' _).alloc _).alloc _))).mono ?_
  rw [kf4, kf5]
  rintro e w8 ⟨rfl, hS, hK⟩
  have H5n := hid hS
  clear hS hK H5
  have H5 := H5n
  clear H5n
  go_wp2_with fail
  refine (At_ks b q5 3 w _ (by first | exact H5.out | exact H5.out.keep ((Kept.refl none' _).alloc _) | exact H5.out.keep (((Kept.refl none' _).alloc _).alloc _))).mono ?_
  rw [kf6, kf7]
  rintro e w9 ⟨rfl, hS, hK⟩
  have H5n := hid hS
  have X1 := hid (show w9.heap[w8.heap.size]? = some (pobj (Pg.mk 0 1 0 0 (-1) (-1) (-1) 0 0 0 0)) from (hK.block _ (by simp) (fun x => x)).trans (heap_new _ _))
  clear hS hK H5
  have H5 := H5n
  clear H5n
  go_wp2_with fail
  refine (At_ks b q5 4 w _ (by first | exact H5.out | exact H5.out.keep ((Kept.refl none' _).alloc _) | exact H5.out.keep (((Kept.refl none' _).alloc _).alloc _))).mono ?_
  rw [kf8, kf9]
  rintro e w10 ⟨rfl, hS, hK⟩
  have H5n := hid hS
  have X1' := hid ((hK.block _ (by have := heap_lt X1.out; simp; omega) (fun x => x)).trans ((Below.heap_alloc _ _ _ (heap_lt X1.out)).trans X1.out))
  clear X1
  have X1 := X1'
  clear X1'
  have X2 := hid (show w10.heap[w9.heap.size]? = some (pobj (Pg.mk 1 1 0 0 (-1) (-1) (-1) 0 0 0 0)) from (hK.block _ (by simp) (fun x => x)).trans (heap_new _ _))
  obtain ⟨u0, u1, u2, u3, u4, u5, u6, u7, u8, u9, u10⟩ := box11 ((Below.heap_alloc w10 (.cells #[.int .i64 0, .int .i64 0, .int .i64 0, .int .i64 0, .int .i64 0, .int .i64 0, .int .i64 0, .int .u64 0, .int .u64 0, .int .u64 0, .int .u64 0] 30) _ (heap_lt X1.out)).trans X1.out)
  obtain ⟨v0, v1, v2, v3, v4, v5, v6, v7, v8, v9, v10⟩ := box11 ((Below.heap_alloc w10 (.cells #[.int .i64 0, .int .i64 0, .int .i64 0, .int .i64 0, .int .i64 0, .int .i64 0, .int .i64 0, .int .u64 0, .int .u64 0, .int .u64 0, .int .u64 0] 30) _ (heap_lt X2.out)).trans X2.out)
  clear hS hK H5
  have H5 := H5n
  clear H5n
  go_wp2_with fail
  refine (Head_ks b q5 3 w _ (by first | exact H5.out | exact H5.out.keep ((Kept.refl none' _).alloc _) | exact H5.out.keep (((Kept.refl none' _).alloc _).alloc _))).mono ?_
  rw [kf10]
  rintro e w' ⟨rfl, hw⟩
  subst hw
  go_wp2_with fail
  refine (Head_ks b q5 1 w _ (by first | exact H5.out | exact H5.out.keep ((Kept.refl none' _).alloc _) | exact H5.out.keep (((Kept.refl none' _).alloc _).alloc _))).mono ?_
  rw [kf11]
  rintro e w' ⟨rfl, hw⟩
  subst hw
  go_wp2_with fail
  refine (Head_ks b q5 9 w _ (by first | exact H5.out | exact H5.out.keep ((Kept.refl none' _).alloc _) | exact H5.out.keep (((Kept.refl none' _).alloc _).alloc _))).mono ?_
  rw [kf12]
  rintro e w' ⟨rfl, hw⟩
  subst hw
  go_wp2_with fail
  refine (Slab_ks b q5 1 7 w _ (by first | exact H5.out | exact H5.out.keep ((Kept.refl none' _).alloc _) | exact H5.out.keep (((Kept.refl none' _).alloc _).alloc _))).mono ?_
  rw [kf13]
  rintro e w11 ⟨rfl, hS⟩
  have H6 := hid (show KS w w11 b q6 from hS)
  clear hS H5
  go_wp2_with fail
  refine (Own_ks b q6 1 2 true w _ (by first | exact H6.out | exact H6.out.keep ((Kept.refl none' _).alloc _) | exact H6.out.keep (((Kept.refl none' _).alloc _).alloc _))).mono ?_
  rw [kf14]
  rintro e w12 ⟨rfl, hS⟩
  have H7 := hid (show KS w w12 b q7 from hS)
  clear hS H6
  go_wp2_with fail
  refine (Own_ks b q7 1 1 true w _ (by first | exact H7.out | exact H7.out.keep ((Kept.refl none' _).alloc _) | exact H7.out.keep (((Kept.refl none' _).alloc _).alloc _))).mono ?_
  rw [kf15]
  rintro e w13 ⟨rfl, hS⟩
  have H8 := hid (show KS w w13 b q8 from hS)
  clear hS H7
  go_wp2_with fail
  refine (Own_ks b q8 1 1 true w _ (by first | exact H8.out | exact H8.out.keep ((Kept.refl none' _).alloc _) | exact H8.out.keep (((Kept.refl none' _).alloc _).alloc _))).mono ?_
  rw [kf16]
  rintro e w14 ⟨rfl, hS⟩
  have H9 := hid (show KS w w14 b q9 from hS)
  clear hS H8
  go_wp2_with fail
  refine (Chain_ks b q9 1 4 (-1) w _ (by first | exact H9.out | exact H9.out.keep ((Kept.refl none' _).alloc _) | exact H9.out.keep (((Kept.refl none' _).alloc _).alloc _))).mono ?_
  rw [kf17]
  rintro e w15 ⟨rfl, hS⟩
  have H10 := hid (show KS w w15 b q10 from hS)
  clear hS H9
  go_wp2_with fail
  refine (Chain_ks b q10 1 3 (-1) w _ (by first | exact H10.out | exact H10.out.keep ((Kept.refl none' _).alloc _) | exact H10.out.keep (((Kept.refl none' _).alloc _).alloc _))).mono ?_
  rw [kf18]
  rintro e w16 ⟨rfl, hS⟩
  have H11 := hid (show KS w w16 b q11 from hS)
  clear hS H10
  go_wp2_with fail
  refine (First_ks b q11 1 0 w _ (by first | exact H11.out | exact H11.out.keep ((Kept.refl none' _).alloc _) | exact H11.out.keep (((Kept.refl none' _).alloc _).alloc _))).mono ?_
  rw [kf19]
  rintro e w17 ⟨rfl, hS⟩
  have H12 := hid (show KS w w17 b q12 from hS)
  clear hS H11
  go_wp2_with fail
  refine (First_ks b q12 1 2 w _ (by first | exact H12.out | exact H12.out.keep ((Kept.refl none' _).alloc _) | exact H12.out.keep (((Kept.refl none' _).alloc _).alloc _))).mono ?_
  rw [kf20]
  rintro e w18 ⟨rfl, hS⟩
  have H13 := hid (show KS w w18 b q13 from hS)
  clear hS H12
  go_wp2_with fail
  refine (First_ks b q13 0 (-1) w _ (by first | exact H13.out | exact H13.out.keep ((Kept.refl none' _).alloc _) | exact H13.out.keep (((Kept.refl none' _).alloc _).alloc _))).mono ?_
  rw [kf21]
  rintro e w19 ⟨rfl, hS⟩
  have H14 := hid (show KS w w19 b q14 from hS)
  clear hS H13
  go_wp2_with fail
  refine (At_ks b q14 1 w _ (by first | exact H14.out | exact H14.out.keep ((Kept.refl none' _).alloc _) | exact H14.out.keep (((Kept.refl none' _).alloc _).alloc _))).mono ?_
  rw [kf22, kf23]
  rintro e w20 ⟨rfl, hS, hK⟩
  have H14n := hid hS
  clear hS hK H14
  have H14 := H14n
  clear H14n
  go_wp2_with fail
  refine (Pair_ks b q14 0 3 w _ (by first | exact H14.out | exact H14.out.keep ((Kept.refl none' _).alloc _) | exact H14.out.keep (((Kept.refl none' _).alloc _).alloc _))).mono ?_
  rw [kf24]
  rintro e w21 ⟨rfl, hS, hK⟩
  have H14n := hid hS
  clear hS hK H14
  have H14 := H14n
  clear H14n
  go_wp2_with fail
  refine (Flip_ks b q14 0 3 w _ (by first | exact H14.out | exact H14.out.keep ((Kept.refl none' _).alloc _) | exact H14.out.keep (((Kept.refl none' _).alloc _).alloc _))).mono ?_
  rw [kf25, kf26]
  rintro e w22 ⟨rfl, hS⟩
  have H15 := hid (show KS w w22 b q15 from hS)
  clear hS H14
  go_wp2_with fail
  refine (Flip_ks b q15 2 0 w _ (by first | exact H15.out | exact H15.out.keep ((Kept.refl none' _).alloc _) | exact H15.out.keep (((Kept.refl none' _).alloc _).alloc _))).mono ?_
  rw [kf27, kf28]
  rintro e w23 ⟨rfl, hS⟩
  have H16 := hid (show KS w w23 b q16 from hS)
  clear hS H15
  go_wp2_with fail
  refine (Flip_ks b q16 1 0 w _ (by first | exact H16.out | exact H16.out.keep ((Kept.refl none' _).alloc _) | exact H16.out.keep (((Kept.refl none' _).alloc _).alloc _))).mono ?_
  rw [kf29, kf30]
  rintro e w24 ⟨rfl, hS⟩
  have H17 := hid (show KS w w24 b q17 from hS)
  clear hS H16
  go_wp2_with fail
  refine (Pair_ks b q17 0 2 w _ (by first | exact H17.out | exact H17.out.keep ((Kept.refl none' _).alloc _) | exact H17.out.keep (((Kept.refl none' _).alloc _).alloc _))).mono ?_
  rw [kf31]
  rintro e w25 ⟨rfl, hS, hK⟩
  have H17n := hid hS
  clear hS hK H17
  have H17 := H17n
  clear H17n
  go_wp2_with fail
  refine (Pair_ks b q17 0 1 w _ (by first | exact H17.out | exact H17.out.keep ((Kept.refl none' _).alloc _) | exact H17.out.keep (((Kept.refl none' _).alloc _).alloc _))).mono ?_
  rw [kf32]
  rintro e w26 ⟨rfl, hS, hK⟩
  have H17n := hid hS
  clear hS hK H17
  have H17 := H17n
  clear H17n
  go_wp2_with fail
  refine (Plain_ks b q17 w _ (by first | exact H17.out | exact H17.out.keep ((Kept.refl none' _).alloc _) | exact H17.out.keep (((Kept.refl none' _).alloc _).alloc _))).mono ?_
  rw [kf33, kf34]
  rintro e w27 ⟨gp17, gq17, D17, rfl, hT, hS⟩
  obtain ⟨p0, r0⟩ := hT.look 0 (by decide) 2 kf35
  obtain ⟨p1, r1⟩ := hT.look 1 (by decide) 1 kf36
  have H17n := hid hS
  clear hS hT H17
  have H17 := H17n
  clear H17n
  go_wp2_with fail
  refine (open_k1 _ _ _).mono ?_
  rintro e w28 ⟨rfl, hK⟩
  have H17n := hid (H17.out.keep hK)
  clear hK H17
  have H17 := H17n
  clear H17n
  go_wp2_with fail
  refine (open_k2 _ _ _).mono ?_
  rintro e w29 ⟨rfl, hK⟩
  have H17n := hid (H17.out.keep hK)
  clear hK H17
  have H17 := H17n
  clear H17n
  go_wp2_with fail
  refine (Shrink_ks b q17 1 w _ (by first | exact H17.out | exact H17.out.keep ((Kept.refl none' _).alloc _) | exact H17.out.keep (((Kept.refl none' _).alloc _).alloc _))).mono ?_
  rw [kf37]
  rintro e w30 ⟨rfl, hS⟩
  have H18 := hid (show KS w w30 b q18 from hS)
  clear hS H17
  go_wp2_with fail
  refine (Grow_ks b q18  w _ (by first | exact H18.out | exact H18.out.keep ((Kept.refl none' _).alloc _) | exact H18.out.keep (((Kept.refl none' _).alloc _).alloc _))).mono ?_
  rintro e w31 ⟨rfl, hS⟩
  have H19 := hid (show KS w w31 b q19 from hS)
  clear hS H18
  go_wp2_with fail
  refine (Plain_ks b q19 w _ (by first | exact H19.out | exact H19.out.keep ((Kept.refl none' _).alloc _) | exact H19.out.keep (((Kept.refl none' _).alloc _).alloc _))).mono ?_
  rw [kf38, kf39]
  rintro e w32 ⟨gp19, gq19, D19, rfl, hT, hS⟩
  obtain ⟨p0, r0⟩ := hT.look 0 (by decide) 0 kf40
  obtain ⟨p1, r1⟩ := hT.look 1 (by decide) 0 kf41
  have H19n := hid hS
  clear hS hT H19
  have H19 := H19n
  clear H19n
  go_wp2_with fail
  go_ret
  exact ⟨rfl, H19.out.kp⟩
end Go.Proofs.Ytbhheimedbfmeaa
