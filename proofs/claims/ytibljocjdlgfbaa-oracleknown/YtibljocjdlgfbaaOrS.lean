/- OracleKnown. -/
import Derived.Test.YtibljocjdlgfbaaOrR
namespace Go.Proofs.Ytibljocjdlgfbaa
open Go.RowKit
set_option linter.unusedVariables false

theorem heap_new2 (w : World) (A B : Obj) : ((w.alloc A).alloc B).heap[w.heap.size + 1]? = some B := by
  have := heap_new (w.alloc A) B
  rwa [World.size_alloc] at this
theorem k_r2 : rdV 65536 2 1 0 1 = 16 ∧ rdE 65536 2 1 0 1 = 0 := ⟨by kernel_rfl, by kernel_rfl⟩
theorem k_r3 : rdV 65536 2 1 9223372036854775809 1 = 0 ∧ rdE 65536 2 1 9223372036854775809 1 = 3 := ⟨by kernel_rfl, by kernel_rfl⟩
theorem k_r4 : rdV 65536 2 1 8193 3 = 0 ∧ rdE 65536 2 1 8193 3 = 1 := ⟨by kernel_rfl, by kernel_rfl⟩
theorem k_p1 : prV 4294967296 4294967296 = 0 ∧ prE 4294967296 4294967296 = 3 := ⟨by kernel_rfl, by kernel_rfl⟩
theorem k_p2 : prV 4294967296 4294967295 = 18446744069414584320 ∧ prE 4294967296 4294967295 = 0 := ⟨by kernel_rfl, by kernel_rfl⟩
theorem k_s2 : sndV 65536 2 1 ((1 : Nat) : Int) [(65536, 16), (65552, 32)] = 1 := by kernel_rfl
theorem k_s3 : sndV 65536 2 1 ((3 : Nat) : Int) [] = 0 := by kernel_rfl
theorem k_s4 : sndV 65536 2 1 ((2 : Nat) : Int) [] = -1 := by kernel_rfl
theorem k_n3 : nofV 65536 2 1 ((1 : Nat) : Int) [(65536, 16), (69632, 4096)] 32 = true := by kernel_rfl
theorem k_n4 : nofV 65536 2 1 ((1 : Nat) : Int) [(65536, 16), (69632, 4096)] 16 = false := by kernel_rfl
theorem k_t1 : stkV 65536 2 1 ((1 : Nat) : Int) [(65536, 16), (69632, 4096)] 32 false = false := by kernel_rfl
theorem k_t2 : stkV 65536 2 1 ((1 : Nat) : Int) [(65536, 16), (69632, 4096)] 32 true = true := by kernel_rfl
theorem k_n5 : nofV 65536 2 1 ((0 : Nat) : Int) [] 16 = true := by kernel_rfl
theorem k_l2 : leaV 65536 2 1 [(69632, 16)] [16, 4096] = 1 ∧ leaO 65536 2 1 [(69632, 16)] [16, 4096] = true := ⟨by kernel_rfl, by kernel_rfl⟩
theorem k_l3 : leaV 65536 2 1 [] [24] = 0 ∧ leaO 65536 2 1 [] [24] = false := ⟨by kernel_rfl, by kernel_rfl⟩
theorem prdK (n s : Nat) (hn : n < 2 ^ 64) (hs : s < 2 ^ 64) (v : Nat) (er : Int) (hv : prV n s = v) (he : prE n s = er) (w : World) : Calls Try.prog 12 #[.int .u64 (n : Int), .int .u64 (s : Int)] w fun e w' => e = .returned (.tuple #[.int .u64 (v : Int), .int .i64 er]) ∧ Kept none' w w' := by
  rw [← hv, ← he]
  exact (Product_any n s hn hs w).mono fun e w' ⟨h1, h2⟩ => ⟨h1, h2 ▸ Kept.refl _ _⟩
theorem bndK (r : Nat) (hr : r < 2 ^ 64) (w : World) : Calls Try.prog 16 #[.int .u64 (r : Int)] w fun e w' => e = .returned (.tuple #[.int .u64 ((bdC r : Nat) : Int), .int .u64 ((bdM r : Nat) : Int)]) ∧ Kept none' w w' :=
  (Bound_any r hr w).mono fun e w' ⟨h1, h2⟩ => ⟨h1, h2 ▸ Kept.refl _ _⟩
set_option maxRecDepth 8000 in
set_option maxHeartbeats 4000000 in
theorem oracleKnown (w : World) : Calls Try.prog 3 #[] w fun e w' => e = .returned (.bool true) ∧ Kept none' w w' := by
  go_enter Try.func3, Try.ntmps3
  go_wp2_with fail
  refine (known_any _).mono ?_
  rintro e w0 ⟨rfl, hk⟩
  have K1 := hid (hk.alloc (.cells #[.int .u64 65536, .int .i64 2, .int .i64 1] 24))
  have C1 := hid (show CB (w0.alloc (.cells #[.int .u64 65536, .int .i64 2, .int .i64 1] 24)) w0.heap.size 65536 2 1 from heap_new w0 _)
  clear hk
  simp only [cfgV]
  go_wp2_with fail
  generalize w0.alloc (.cells #[.int .u64 65536, .int .i64 2, .int .i64 1] 24) = w1 at *
  generalize w0.heap.size = bx at *
  obtain ⟨c0, c1, c2⟩ := C1.out.cells
  refine (awake_any _).mono ?_
  rintro e w2 ⟨rfl, hk⟩
  have K2 := hid (none_trans K1.out hk)
  have C2 := hid ((C1.out.keep (Kept.refl none' _) (fun x => x)).keep hk (fun x => x))
  clear c0 c1 c2 hk
  obtain ⟨c0, c1, c2⟩ := C2.out.cells
  go_wp2_with fail
  refine (rdnK 0 1 (by decide) (by decide) _ _ k_r2.1 k_r2.2 _).mono ?_
  rintro e w3 ⟨rfl, hk⟩
  have K3 := hid (none_trans K2.out hk)
  have C3 := hid ((C2.out.keep (Kept.refl none' _) (fun x => x)).keep hk (fun x => x))
  clear c0 c1 c2 hk
  obtain ⟨c0, c1, c2⟩ := C3.out.cells
  go_wp2_with fail
  refine (rdnK 9223372036854775809 1 (by decide) (by decide) _ _ k_r3.1 k_r3.2 _).mono ?_
  rintro e w4 ⟨rfl, hk⟩
  have K4 := hid (none_trans K3.out hk)
  have C4 := hid ((C3.out.keep (Kept.refl none' _) (fun x => x)).keep hk (fun x => x))
  clear c0 c1 c2 hk
  obtain ⟨c0, c1, c2⟩ := C4.out.cells
  go_wp2_with fail
  refine (rdnK 8193 3 (by decide) (by decide) _ _ k_r4.1 k_r4.2 _).mono ?_
  rintro e w5 ⟨rfl, hk⟩
  have K5 := hid (none_trans K4.out hk)
  have C5 := hid ((C4.out.keep (Kept.refl none' _) (fun x => x)).keep hk (fun x => x))
  clear c0 c1 c2 hk
  obtain ⟨c0, c1, c2⟩ := C5.out.cells
  go_wp2_with fail
  refine (prdK 4294967296 4294967296 (by decide) (by decide) _ _ k_p1.1 k_p1.2 _).mono ?_
  rintro e w6 ⟨rfl, hk⟩
  have K6 := hid (none_trans K5.out hk)
  have C6 := hid ((C5.out.keep (Kept.refl none' _) (fun x => x)).keep hk (fun x => x))
  clear c0 c1 c2 hk
  obtain ⟨c0, c1, c2⟩ := C6.out.cells
  go_wp2_with fail
  refine (prdK 4294967296 4294967295 (by decide) (by decide) _ _ k_p2.1 k_p2.2 _).mono ?_
  rintro e w7 ⟨rfl, hk⟩
  have K7 := hid (none_trans K6.out hk)
  have C7 := hid ((C6.out.keep (Kept.refl none' _) (fun x => x)).keep hk (fun x => x))
  clear c0 c1 c2 hk
  obtain ⟨c0, c1, c2⟩ := C7.out.cells
  go_wp2_with fail
  refine (sndK 1 (by decide) _ _ _ k_s2 _ (BL.two (p := 65536) (s := 16) (p' := 65552) (s' := 32) (heap_new w7 _) (by decide) (by decide) (by decide) (by decide))).mono ?_
  rintro e w8 ⟨rfl, hk⟩
  have K8 := hid (none_trans (K7.out.alloc _) hk)
  have C8 := hid ((C7.out.keep ((Kept.refl none' _).alloc _) (fun x => x)).keep hk (fun x => x))
  clear c0 c1 c2 hk
  obtain ⟨c0, c1, c2⟩ := C8.out.cells
  go_wp2_with fail
  refine (sndK 3 (by decide) _ [] _ k_s3 _ (BL.nil _)).mono ?_
  rintro e w9 ⟨rfl, hk⟩
  have K9 := hid (none_trans K8.out hk)
  have C9 := hid ((C8.out.keep (Kept.refl none' _) (fun x => x)).keep hk (fun x => x))
  clear c0 c1 c2 hk
  obtain ⟨c0, c1, c2⟩ := C9.out.cells
  go_wp2_with fail
  refine (sndK 2 (by decide) _ [] _ k_s4 _ (BL.nil _)).mono ?_
  rintro e w10 ⟨rfl, hk⟩
  have K10 := hid (none_trans K9.out hk)
  have C10 := hid ((C9.out.keep (Kept.refl none' _) (fun x => x)).keep hk (fun x => x))
  clear c0 c1 c2 hk
  obtain ⟨c0, c1, c2⟩ := C10.out.cells
  have B10 := hid (BL.two (p := 65536) (s := 16) (p' := 69632) (s' := 4096) (heap_new w10 (.cells #[.int .u64 65536, .int .u64 16, .int .u64 69632, .int .u64 4096] 33)) (by decide) (by decide) (by decide) (by decide))
  have C10a := hid (C10.out.keep ((Kept.refl none' w10).alloc (.cells #[.int .u64 65536, .int .u64 16, .int .u64 69632, .int .u64 4096] 33)) (fun x => x))
  have K10a := hid (K10.out.alloc (.cells #[.int .u64 65536, .int .u64 16, .int .u64 69632, .int .u64 4096] 33))
  obtain ⟨d0, d1, d2⟩ := C10a.out.cells
  go_wp2_with fail
  generalize w10.alloc (.cells #[.int .u64 65536, .int .u64 16, .int .u64 69632, .int .u64 4096] 33) = wx at *
  generalize w10.heap.size = gx at *
  clear c0 c1 c2
  refine (nofK 32 (by decide) 1 (by decide) _ _ _ k_n3 _ B10.out).mono ?_
  rintro e w11 ⟨rfl, hk⟩
  have K11 := hid (none_trans K10a.out hk)
  have C11 := hid (C10a.out.keep hk (fun x => x))
  have B11 := hid (B10.out.keep hk)
  clear d0 d1 d2 hk
  obtain ⟨c0, c1, c2⟩ := C11.out.cells
  go_wp2_with fail
  refine (nofK 16 (by decide) 1 (by decide) _ _ _ k_n4 _ B11.out).mono ?_
  rintro e w12 ⟨rfl, hk⟩
  have K12 := hid (none_trans K11.out hk)
  have C12 := hid ((C11.out.keep (Kept.refl none' _) (fun x => x)).keep hk (fun x => x))
  have B12 := hid (B11.out.keep hk)
  clear c0 c1 c2 hk
  obtain ⟨c0, c1, c2⟩ := C12.out.cells
  go_wp2_with fail
  refine (stkK 32 (by decide) 1 (by decide) false _ _ _ k_t1 _ B12.out).mono ?_
  rintro e w13 ⟨rfl, hk⟩
  have K13 := hid (none_trans K12.out hk)
  have C13 := hid ((C12.out.keep (Kept.refl none' _) (fun x => x)).keep hk (fun x => x))
  have B13 := hid (B12.out.keep hk)
  clear c0 c1 c2 hk
  obtain ⟨c0, c1, c2⟩ := C13.out.cells
  go_wp2_with fail
  refine (stkK 32 (by decide) 1 (by decide) true _ _ _ k_t2 _ B13.out).mono ?_
  rintro e w14 ⟨rfl, hk⟩
  have K14 := hid (none_trans K13.out hk)
  have C14 := hid ((C13.out.keep (Kept.refl none' _) (fun x => x)).keep hk (fun x => x))
  have B14 := hid (B13.out.keep hk)
  clear c0 c1 c2 hk
  obtain ⟨c0, c1, c2⟩ := C14.out.cells
  go_wp2_with fail
  refine (nofK 16 (by decide) 0 (by decide) _ [] _ k_n5 _ (BL.nil _)).mono ?_
  rintro e w15 ⟨rfl, hk⟩
  have K15 := hid (none_trans K14.out hk)
  have C15 := hid ((C14.out.keep (Kept.refl none' _) (fun x => x)).keep hk (fun x => x))
  clear c0 c1 c2 hk
  obtain ⟨c0, c1, c2⟩ := C15.out.cells
  go_wp2_with fail
  refine (bndK 16 (by decide) _).mono ?_
  rintro e w16 ⟨rfl, hk⟩
  have K16 := hid (none_trans K15.out hk)
  have C16 := hid ((C15.out.keep (Kept.refl none' _) (fun x => x)).keep hk (fun x => x))
  clear c0 c1 c2 hk
  obtain ⟨c0, c1, c2⟩ := C16.out.cells
  simp only [show bdC 16 = 4096 from rfl, show bdM 16 = 32 from rfl]
  go_wp2_with fail
  refine (bndK 8192 (by decide) _).mono ?_
  rintro e w17 ⟨rfl, hk⟩
  have K17 := hid (none_trans K16.out hk)
  have C17 := hid ((C16.out.keep (Kept.refl none' _) (fun x => x)).keep hk (fun x => x))
  clear c0 c1 c2 hk
  obtain ⟨c0, c1, c2⟩ := C17.out.cells
  simp only [show bdC 8192 = 8192 from rfl, show bdM 8192 = 16 from rfl]
  go_wp2_with fail
  refine (leaK _ _ _ _ _ _ k_l2.1 k_l2.2 _ ((BL.one (p := 69632) (s := 16) (heap_new w17 _) (by decide) (by decide)).keep ((Kept.refl none' _).alloc _)) (SL.two (x := 16) (y := 4096) (by have := heap_new2 w17 (.cells #[.int .u64 69632, .int .u64 16] 33) (.cells #[.int .u64 16, .int .u64 4096] 22); exact this) (by decide) (by decide))).mono ?_
  rintro e w18 ⟨rfl, hk⟩
  have K18 := hid (none_trans ((K17.out.alloc _).alloc _) hk)
  have C18 := hid ((C17.out.keep (((Kept.refl none' _).alloc _).alloc _) (fun x => x)).keep hk (fun x => x))
  clear c0 c1 c2 hk
  obtain ⟨c0, c1, c2⟩ := C18.out.cells
  go_wp2_with fail
  refine (leaK _ [] _ _ _ _ k_l3.1 k_l3.2 _ (BL.nil _) (SL.one (x := 24) (heap_new w18 _) (by decide))).mono ?_
  rintro e w19 ⟨rfl, hk⟩
  have K19 := hid (none_trans (K18.out.alloc _) hk)
  have C19 := hid ((C18.out.keep ((Kept.refl none' _).alloc _) (fun x => x)).keep hk (fun x => x))
  clear c0 c1 c2 hk
  obtain ⟨c0, c1, c2⟩ := C19.out.cells
  go_wp2_with fail
  go_ret
  exact ⟨rfl, K19.out⟩
end Go.Proofs.Ytibljocjdlgfbaa
