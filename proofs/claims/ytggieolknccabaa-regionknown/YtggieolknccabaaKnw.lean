import Derived.Test.YtggieolknccabaaKnl
import Derived.Deep.RegionHeld3
/- RegionKnown. -/
namespace Go.Proofs.Ytggieolknccabaa
open Go.RowKit
set_option linter.unusedVariables false

set_option maxRecDepth 4000 in
set_option maxHeartbeats 4000000 in
theorem known_any (w : World) : Calls Try.prog 3 #[] w fun e w' => e = .returned (.bool true) ∧ Kept none' w w' := by
  go_enter Try.func3, Try.ntmps3
  go_wp2_with fail
  refine (awake6 _).mono ?_
  rintro e w0 ⟨rfl, hk0⟩
  have K1 := hid (hk0.alloc (cfgO 65536 2 1))
  have X1 := hid (heap_new w0 (cfgO 65536 2 1))
  have HCB := hid hk0.size
  have NW := hid (fun W => New6_ok 65536 (by decide) 2 1 (by decide) (by decide) may1 W)
  clear hk0
  obtain ⟨x0, x1, x2⟩ := cfg3 X1.out
  go_wp2_with fail
  generalize w0.alloc (cfgO 65536 2 1) = W1 at *
  generalize w0.heap.size = cb at *
  refine (NW.out _).mono ?_
  rintro e w2 ⟨lw, x, rfl, hL, e1, e2, e3, e4, e5⟩
  have S1 := hid (show KS W1 w2 lw x [] [] [] 0 from ⟨⟨_, ⟨hL, (New6_po 1 hL e4 e5 (by rw [e1])).sf.congr (fun k hk => by
    rcases k with _ | _ | k <;> rfl), (New6_po 1 hL e4 e5 (by rw [e1])).st, by rw [e1]⟩, rfl⟩, e5, e1, e3⟩)
  clear hL e1 e2 e3 e4 e5 x0 x1 x2 NW
  go_wp2_with fail
  -- Need(2, false), Need(-1, true), Need(0, true), Trim
  refine (kbad S1.out 2 (by decide) false).mono ?_
  rintro e w3 ⟨rfl, h3⟩
  have S2 := hid h3
  clear h3 S1
  go_wp2_with fail
  refine (kbad S2.out (-1) (by decide) true).mono ?_
  rintro e w4 ⟨rfl, h4⟩
  have S3 := hid h4
  clear h4 S2
  go_wp2_with fail
  refine (kstuck S3.out 0 (by decide) (by decide) true (.inl rfl)).mono ?_
  rintro e w5 ⟨rfl, h5⟩
  have S4 := hid h5
  clear h5 S3
  go_wp2_with fail
  refine (ktrim S4.out 0 (by decide) [] [] (by decide) (by decide)).mono ?_
  rintro e w6 ⟨rfl, x6, h6⟩
  have S5 := hid h6
  clear h6 S4
  go_wp2_with fail
  -- Need(0, false), Need(0, true), Need(0, true)
  refine (kgrew S5.out 0 (by decide) (by decide) (by decide) 65536 (by decide) [1] [] (by decide) (by decide)).mono ?_
  rintro e w7 ⟨rfl, x7, h7⟩
  have S6 := hid (show KS W1 w7 lw x7 [1] [] [(0, 0)] 1 from h7)
  clear h7 S5
  go_wp2_with fail
  refine (khere S6.out 0 0 1 [] (by decide) (by decide) (by decide) (by decide) true 69632 (by decide) [] [] (by decide) (by decide)).mono ?_
  rintro e w8 ⟨rfl, h8⟩
  have S7 := hid (show KS W1 w8 lw x7 [] [] [(0, 0), (1, 0)] 1 from h8)
  clear h8 S6
  go_wp2_with fail
  refine (kstuck S7.out 0 (by decide) (by decide) true (.inl rfl)).mono ?_
  rintro e w9 ⟨rfl, h9⟩
  have S8 := hid h9
  clear h9 S7
  go_wp2_with fail
  -- Need(1, false), Need(1, false)
  refine (kgrew S8.out 1 (by decide) (by decide) (by decide) 73728 (by decide) [] [] (by decide) (by decide)).mono ?_
  rintro e w10 ⟨rfl, x10, h10⟩
  have S9 := hid (show KS W1 w10 lw x10 [] [] [(0, 0), (1, 0), (2, 1)] 2 from h10)
  clear h10 S8
  go_wp2_with fail
  refine (kstuck S9.out 1 (by decide) (by decide) false (.inr rfl)).mono ?_
  rintro e w11 ⟨rfl, h11⟩
  have S10 := hid h11
  clear h11 S9
  go_wp2_with fail
  -- Give(73728, 0), Give(65536, 0), Trim, Give(73728, 1), Trim
  refine (kgive_no S10.out 73728 (by decide) 0 (by decide)).mono ?_
  rintro e w12 ⟨rfl, h12⟩
  have S11 := hid h12
  clear h12 S10
  go_wp2_with fail
  refine (kgive S11.out 0 0 (by decide) 65536 (by decide) [0] [] (by decide) (by decide) [(1, 0), (2, 1)] (by decide)).mono ?_
  rintro e w13 ⟨rfl, h13⟩
  have S12 := hid h13
  clear h13 S11
  go_wp2_with fail
  refine (ktrim S12.out 0 (by decide) [0] [] (by decide) (by decide)).mono ?_
  rintro e w14 ⟨rfl, x14, h14⟩
  have S13 := hid h14
  clear h14 S12
  go_wp2_with fail
  refine (kgive S13.out 2 1 (by decide) 73728 (by decide) [0] [2] (by decide) (by decide) [(1, 0)] (by decide)).mono ?_
  rintro e w15 ⟨rfl, h15⟩
  have S14 := hid h15
  clear h15 S13
  go_wp2_with fail
  refine (ktrim S14.out 1 (by decide) [0] [] (by decide) (by decide)).mono ?_
  rintro e w16 ⟨rfl, x16, h16⟩
  have S15 := hid (show KS W1 w16 lw x16 [0] [] [(1, 0)] 1 from h16)
  clear h16 S14
  go_wp2_with fail
  refine (kspace S15.out).mono ?_
  rintro e w17 ⟨rfl, h17⟩
  replace h17 := h17.symm
  subst h17
  go_wp2_with fail
  refine (kregions S15.out).mono ?_
  rintro e w18 ⟨rfl, h18⟩
  have S16 := hid h18
  clear h18 S15
  go_wp2_with fail
  refine (kmap S16.out).mono ?_
  rintro e w19 ⟨rfl, h19⟩
  replace h19 := h19.symm
  subst h19
  go_wp2_with fail
  refine (kpages S16.out).mono ?_
  rintro e w19 ⟨rfl, h19⟩
  replace h19 := h19.symm
  subst h19
  go_wp2_with fail
  -- Need(0, true), Heads
  refine (khere S16.out 0 0 0 [] (by decide) (by decide) (by decide) (by decide) true 65536 (by decide) [] [] (by decide) (by decide)).mono ?_
  rintro e w20 ⟨rfl, h20⟩
  have S17 := hid (show KS W1 w20 lw x16 [] [] [(1, 0), (0, 0)] 1 from h20)
  clear h20 S16
  go_wp2_with fail
  refine (kbuddy S17.out).mono ?_
  rintro e w21 ⟨rfl, h21⟩
  replace h21 := h21.symm
  subst h21
  go_wp2_with fail
  refine (kheads S17.out rfl rfl).mono ?_
  rintro e w22 ⟨g, rfl, hg, h22⟩
  have S18 := hid h22
  have q0 : w22.cell? ⟨g, 0, none⟩ = some (.int .u64 0) := by simp [World.cell?, hg]
  have q1 : w22.cell? ⟨g, 1, none⟩ = some (.int .u64 0) := by simp [World.cell?, hg]
  clear h22 S17 hg
  go_wp2_with fail
  clear q0 q1
  refine (kgive S18.out 0 0 (by decide) 65536 (by decide) [0] [] (by decide) (by decide) [(1, 0)] (by decide)).mono ?_
  rintro e w23 ⟨rfl, h23⟩
  have S19 := hid h23
  clear h23 S18
  go_wp2_with fail
  refine (kgive S19.out 1 0 (by decide) 69632 (by decide) [] [0] (by decide) (by decide) [] (by decide)).mono ?_
  rintro e w24 ⟨rfl, h24⟩
  have S20 := hid h24
  clear h24 S19
  go_wp2_with fail
  refine (ktrim S20.out 1 (by decide) [] [] (by decide) (by decide)).mono ?_
  rintro e w25 ⟨rfl, x25, h25⟩
  have S21 := hid (show KS W1 w25 lw x25 [] [] [] 0 from h25)
  clear h25 S20
  go_wp2_with fail
  refine (kspace S21.out).mono ?_
  rintro e w26 ⟨rfl, h26⟩
  replace h26 := h26.symm
  subst h26
  go_wp2_with fail
  refine (kend S21.out 65536 (by decide)).mono ?_
  rintro e w27 ⟨rfl, h27⟩
  have K27 := hid h27.kp
  have X27 := hid ((h27.kp.block _ (heap_lt X1.out) (fun e => e)).trans X1.out)
  have KF := hid (none_trans K1.out h27.kp)
  clear h27 S21
  -- Open of 8191 bytes, and of Base 1
  have KD := hid ((Kept.refl none' w27).drew)
  have XD := hid ((KD.out.block _ (heap_lt X27.out) (fun e => e)).trans X27.out)
  have hmk : (Instr.makeSlice 48 (.int .i64 8191) (.int .i64 8191)).run Try.prog w27.drew = .ok (.slice (some ⟨w27.heap.size, 0, none⟩) 8191 8191) (w27.drew.alloc (.cells (M.bcells (M.told 8191 fun _ => 0)) 5)) := M.make_bytes 8191 (by decide) w27.drew
  obtain ⟨d0, d1, d2⟩ := cfg3 XD.out
  replace d0 : w27.drew.cell? ⟨cb, 0, none⟩ = some (.int .u64 65536) := d0
  go_wp2_with fail
  have KA := hid (((Kept.refl none' w27).alloc (.cells (M.bcells (M.told 8191 fun _ => 0)) 5)).drew)
  obtain ⟨a0, a1, a2⟩ := cfg3 ((KA.out.block _ (heap_lt X27.out) (fun e => e)).trans X27.out)
  replace a0 : (w27.alloc (.cells (M.bcells (M.told 8191 fun _ => 0)) 5)).drew.cell? ⟨cb, 0, none⟩ = some (.int .u64 65536) := a0
  go_region_held3 (fun w' => w'.cell? ⟨cb, 0, none⟩ = some (.int .u64 65536) ∧ w'.cell? ⟨cb, 1, none⟩ = some (.int .i64 2) ∧ w'.cell? ⟨cb, 2, none⟩ = some (.int .i64 1)) ((refine ⟨?_, ?_, ?_⟩ <;> first | with_reducible assumption | with_reducible exact alloc_cellL (by with_reducible assumption))) (first
    | (go_at_call 18; refine (Open6_form _ _ _).mono ?_; rintro e w28 ⟨rfl, hk⟩; have K28 := hid (none_trans KA.out hk); have X28 := hid ((K28.out.block _ (heap_lt X27.out) (fun e => e)).trans X27.out); obtain ⟨y0, y1, y2⟩ := cfg3 X28.out; replace y0 : w28.cell? ⟨cb, 0, none⟩ = some (.int .u64 65536) := y0; clear hk)
    | fail)
  all_goals
    clear hmk d0 d1 d2 a0 a1 a2
    have KG := hid (none_trans KF.out K28.out)
    have fz : w28.frozen? ⟨cb, 0, none⟩ = false := by simp [World.frozen?, X28.out]
    have hcb : w.heap.size ≤ cb := HCB.out
    have XS := hid (heap_set X28.out 0 (.int .u64 1))
    have KS2 := hid (show Kept none' w (w28.setCell ⟨cb, 0, none⟩ (.int .u64 1)) from KG.out.setNew (p := ⟨cb, 0, none⟩) (fun e => absurd e (Nat.not_lt.2 hcb)) _)
    go_wp2_with fail
    generalize w28.setCell ⟨cb, 0, none⟩ (.int .u64 1) = w29 at *
    clear y0 y1 y2 fz
    have KD2 := hid ((Kept.refl none' w29).drew)
    have XD2 := hid ((KD2.out.block _ (heap_lt XS.out) (fun e => e)).trans XS.out)
    have hmk : (Instr.makeSlice 48 (.int .i64 8191) (.int .i64 8191)).run Try.prog w29.drew = .ok (.slice (some ⟨w29.heap.size, 0, none⟩) 8191 8191) (w29.drew.alloc (.cells (M.bcells (M.told 8191 fun _ => 0)) 5)) := M.make_bytes 8191 (by decide) w29.drew
    obtain ⟨d0, d1, d2⟩ := cfg3 (show w29.drew.heap[cb]? = some (cfgO 1 2 1) from XD2.out)
    replace d0 : w29.drew.cell? ⟨cb, 0, none⟩ = some (.int .u64 1) := d0
    have KA2 := hid (((Kept.refl none' w29).alloc (.cells (M.bcells (M.told 8191 fun _ => 0)) 5)).drew)
    obtain ⟨a0, a1, a2⟩ := cfg3 ((KA2.out.block _ (heap_lt (show w29.heap[cb]? = some (cfgO 1 2 1) from XS.out)) (fun e => e)).trans (show w29.heap[cb]? = some (cfgO 1 2 1) from XS.out))
    replace a0 : (w29.alloc (.cells (M.bcells (M.told 8191 fun _ => 0)) 5)).drew.cell? ⟨cb, 0, none⟩ = some (.int .u64 1) := a0
    go_region_held3 (fun w' => w'.cell? ⟨cb, 0, none⟩ = some (.int .u64 1) ∧ w'.cell? ⟨cb, 1, none⟩ = some (.int .i64 2) ∧ w'.cell? ⟨cb, 2, none⟩ = some (.int .i64 1)) ((refine ⟨?_, ?_, ?_⟩ <;> first | with_reducible assumption | with_reducible exact alloc_cellL (by with_reducible assumption))) (first
      | (go_at_call 18; refine (Open6_bad _ _ _).mono ?_; rintro e w30 ⟨rfl, hk⟩; have K30 := hid (none_trans KA2.out hk); obtain ⟨y0, y1, y2⟩ := cfg3 ((K30.out.block _ (heap_lt XS.out) (fun e => e)).trans (show w29.heap[cb]? = some (cfgO 1 2 1) from XS.out)); replace y0 : w30.cell? ⟨cb, 0, none⟩ = some (.int .u64 1) := y0; clear hk)
      | fail)
    all_goals
      clear hmk d0 d1 d2 y0 y1 y2 a0 a1 a2
      have D := hid (none_trans KS2.out K30.out)
      go_wp2_with fail
      go_ret
      exact ⟨rfl, D.out⟩
end Go.Proofs.Ytggieolknccabaa
