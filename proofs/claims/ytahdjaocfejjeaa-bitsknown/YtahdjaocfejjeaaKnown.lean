/- BitsKnown. -/
import Derived.Test.YtahdjaocfejjeaaRel
import Derived.Test.YtahdjaocfejjeaaSrc
namespace Go.Proofs.Ytahdjaocfejjeaa
open Go.RowKit
set_option linter.unusedVariables false

theorem src_nil (w : World) : Src w (.slice none 0 0) [] := ⟨fun i => by simp, none, 0, rfl, Or.inl rfl⟩
theorem block_lit2 (w : World) (x y : Nat) : (w.alloc (.cells #[.int .u64 (x : Int), .int .u64 (y : Int)] 33)).heap[w.heap.size]? = some (.cells (wcells [x, y]) 33 (0, 0)) := heap_new _ _
theorem block_lit1 (w : World) (x : Nat) : (w.alloc (.cells #[.int .u64 (x : Int)] 33)).heap[w.heap.size]? = some (.cells (wcells [x]) 33 (0, 0)) := heap_new _ _
theorem lt_two (x y : Nat) (hx : x < 2 ^ 64) (hy : y < 2 ^ 64) : ∀ i, [x, y].getD i 0 < 2 ^ 64 := by
  intro i
  match i with
  | 0 => simpa using hx
  | 1 => simpa using hy
  | (j + 2) => simp
theorem lt_one (x : Nat) (hx : x < 2 ^ 64) : ∀ i, [x].getD i 0 < 2 ^ 64 := by
  intro i
  match i with
  | 0 => simpa using hx
  | (j + 1) => simp

theorem c8_129 (w : World) : Calls Try.prog 9 #[.int .u8 129] w fun e w' => e = .returned (.tuple #[.int .u8 0, .bool false]) ∧ w' = w := ceil_8 129 (by decide) w
theorem c16_129 (w : World) : Calls Try.prog 12 #[.int .u16 129] w fun e w' => e = .returned (.tuple #[.int .u16 256, .bool true]) ∧ w' = w := ceil_16 129 (by decide) w
theorem p8_0 (w : World) : Calls Try.prog 11 #[.int .u8 0] w fun e w' => e = .returned (.bool false) ∧ w' = w := isPower_8 0 (by decide) w
theorem p8_1 (w : World) : Calls Try.prog 11 #[.int .u8 1] w fun e w' => e = .returned (.bool true) ∧ w' = w := isPower_8 1 (by decide) w
theorem p8_12 (w : World) : Calls Try.prog 11 #[.int .u8 12] w fun e w' => e = .returned (.bool false) ∧ w' = w := isPower_8 12 (by decide) w
theorem p8_128 (w : World) : Calls Try.prog 11 #[.int .u8 128] w fun e w' => e = .returned (.bool true) ∧ w' = w := isPower_8 128 (by decide) w
theorem lg_val (x : Nat) (n : Nat) (h0 : x ≠ 0) (h : Nat.log2 x = n) : lg x = (n : Int) := by rw [lg_pos x h0, h]
theorem l16_0 (w : World) : Calls Try.prog 13 #[.int .u16 0] w fun e w' => e = .returned (.int .i64 (-1)) ∧ w' = w := log_16 0 (by decide) w
theorem l16_1 (w : World) : Calls Try.prog 13 #[.int .u16 1] w fun e w' => e = .returned (.int .i64 0) ∧ w' = w := by
  have := log_16 1 (by decide) w; rw [lg_val 1 0 (by decide) (by decide)] at this; exact this
theorem l16_255 (w : World) : Calls Try.prog 13 #[.int .u16 255] w fun e w' => e = .returned (.int .i64 7) ∧ w' = w := by
  have := log_16 255 (by decide) w; rw [lg_val 255 7 (by decide) (by decide)] at this; exact this
theorem l16_256 (w : World) : Calls Try.prog 13 #[.int .u16 256] w fun e w' => e = .returned (.int .i64 8) ∧ w' = w := by
  have := log_16 256 (by decide) w; rw [lg_val 256 8 (by decide) (by decide)] at this; exact this
theorem u8_5_4 (w : World) : Calls Try.prog 14 #[.int .u8 5, .int .u8 4] w fun e w' => e = .returned (.tuple #[.int .u8 8, .bool true]) ∧ w' = w := up_8 5 4 (by decide) (by decide) w
theorem u8_5_6 (w : World) : Calls Try.prog 14 #[.int .u8 5, .int .u8 6] w fun e w' => e = .returned (.tuple #[.int .u8 0, .bool false]) ∧ w' = w := up_8 5 6 (by decide) (by decide) w
theorem u8_250 (w : World) : Calls Try.prog 14 #[.int .u8 250, .int .u8 16] w fun e w' => e = .returned (.tuple #[.int .u8 0, .bool false]) ∧ w' = w := up_8 250 16 (by decide) (by decide) w
theorem d8_250 (w : World) : Calls Try.prog 15 #[.int .u8 250, .int .u8 16] w fun e w' => e = .returned (.tuple #[.int .u8 240, .bool true]) ∧ w' = w := down_8 250 16 (by decide) (by decide) w
theorem d8_3 (w : World) : Calls Try.prog 15 #[.int .u8 3, .int .u8 0] w fun e w' => e = .returned (.tuple #[.int .u8 0, .bool false]) ∧ w' = w := down_8 3 0 (by decide) (by decide) w
theorem n8_255 (w : World) : Calls Try.prog 16 #[.int .u8 255] w fun e w' => e = .returned (.int .i64 8) ∧ w' = w := by
  have := count_8 255 (by decide) w; rw [cnt_eq 64 255 (by decide)] at this; exact this
theorem n64_big (w : World) : Calls Try.prog 17 #[.int .u64 9223372036854775809] w fun e w' => e = .returned (.int .i64 2) ∧ w' = w := by
  have := count_64 9223372036854775809 (by decide) w; rw [cnt_eq 64 9223372036854775809 (by decide)] at this; exact this

theorem cntS_val (ws : List Nat) (n : Nat) (h : ((List.range ws.length).map fun i => cntF 64 (ws.getD i 0)).sum = n) (hz : ∀ i, ws.getD i 0 < 2 ^ 64) : cntS ws = n := by
  have e : ((List.range ws.length).map fun i => cnt (ws.getD i 0)) = ((List.range ws.length).map fun i => cntF 64 (ws.getD i 0)) := by
    apply List.map_congr_left
    intro i _
    exact cnt_eq 64 _ (hz i)
  rw [← h, ← e]
  rfl

theorem Calls_back {f : FuncId} {args : Array Value} {w : World} {x : Ending} (h : Calls Try.prog f args w fun e w' => e = x ∧ w' = w) : Calls Try.prog f args w fun e w' => e = x ∧ w = w' :=
  h.mono fun _ _ g => ⟨g.1, g.2.symm⟩
theorem sameN (w : World) (g1 g2 c1 c2 L : Nat) (zs : List Nat) (hl : zs.length = L) (h1 : w.heap[g1]? = some (.cells (wcells zs) 33 (0, 0))) (h2 : w.heap[g2]? = some (.cells (wcells zs) 33 (0, 0)))
    (b1 : L ≤ 1048576) (l1 : ∀ i, zs.getD i 0 < 2 ^ 64) :
    Calls Try.prog 24 #[.slice (some ⟨g1, 0, none⟩) L c1, .slice (some ⟨g2, 0, none⟩) L c2] w fun e w' => e = .returned (.bool true) ∧ Kept (fun _ => False) w w' := by
  subst hl
  refine (same_any w g1 g2 c1 c2 zs zs h1 h2 b1 b1 l1 l1).mono ?_
  rintro e w' ⟨rfl, n, rfl⟩
  exact ⟨by rw [decide_eq_true rfl], (Kept.refl _ _).drewN n⟩
theorem block_kept {w w' : World} {g : Nat} {o : Obj} {S : Nat → Prop} (h : w.heap[g]? = some o) (k : Kept S w w') (hS : ¬ S g) : w'.heap[g]? = some o :=
  (k.block g (Array.getElem?_eq_some_iff.1 h).1 hS).trans h

set_option maxRecDepth 100000 in
set_option maxHeartbeats 8000000 in
theorem known_any (w : World) :
    Calls Try.prog 3 #[] w fun e w' => e = .returned (.bool true) ∧ Below w.heap.size w w' := by
  go_enter Try.func3, Try.ntmps3
  go_wp2_with fail
  refine (Calls_back (c8_129 _)).mono ?_
  rintro e w' ⟨rfl, rfl⟩
  go_wp2_with fail
  refine (awake_any _).mono ?_
  rintro e w1 ⟨rfl, hk1⟩
  have B1 := hid (hk1.below (Nat.le_refl _) (fun _ h => h.elim))
  clear hk1
  go_wp2_with fail
  refine (Calls_back (p8_0 _)).mono ?_
  rintro e w' ⟨rfl, rfl⟩
  go_wp2_with fail
  refine (Calls_back (p8_1 _)).mono ?_
  rintro e w' ⟨rfl, rfl⟩
  go_wp2_with fail
  refine (Calls_back (p8_12 _)).mono ?_
  rintro e w' ⟨rfl, rfl⟩
  go_wp2_with fail
  refine (Calls_back (p8_128 _)).mono ?_
  rintro e w' ⟨rfl, rfl⟩
  go_wp2_with fail
  refine (Calls_back (c16_129 _)).mono ?_
  rintro e w' ⟨rfl, rfl⟩
  go_wp2_with fail
  refine (Calls_back (l16_0 _)).mono ?_
  rintro e w' ⟨rfl, rfl⟩
  go_wp2_with fail
  refine (Calls_back (l16_1 _)).mono ?_
  rintro e w' ⟨rfl, rfl⟩
  go_wp2_with fail
  refine (Calls_back (l16_255 _)).mono ?_
  rintro e w' ⟨rfl, rfl⟩
  go_wp2_with fail
  refine (Calls_back (l16_256 _)).mono ?_
  rintro e w' ⟨rfl, rfl⟩
  go_wp2_with fail
  refine (Calls_back (u8_5_4 _)).mono ?_
  rintro e w' ⟨rfl, rfl⟩
  go_wp2_with fail
  refine (Calls_back (u8_5_6 _)).mono ?_
  rintro e w' ⟨rfl, rfl⟩
  go_wp2_with fail
  refine (Calls_back (u8_250 _)).mono ?_
  rintro e w' ⟨rfl, rfl⟩
  go_wp2_with fail
  refine (Calls_back (d8_250 _)).mono ?_
  rintro e w' ⟨rfl, rfl⟩
  go_wp2_with fail
  refine (Calls_back (d8_3 _)).mono ?_
  rintro e w' ⟨rfl, rfl⟩
  go_wp2_with fail
  refine (Calls_back (n8_255 _)).mono ?_
  rintro e w' ⟨rfl, rfl⟩
  go_wp2_with fail
  refine (Calls_back (n64_big _)).mono ?_
  rintro e w' ⟨rfl, rfl⟩
  have f21 : fit 2097152 = 1048576 := by decide
  go_wp2_with fail
  refine (newSetS_any 2097152 (by decide) (by decide) _).mono ?_
  rintro e w2 ⟨rfl, hA, hk, hsz⟩
  rw [f21] at hA
  have HA := hid hA
  have B2 := hid (B1.out.trans (hk.below B1.out.size (fun _ h => h.elim)))
  clear hA hk hsz f21
  go_wp2_with fail
  refine (Calls_back (len_any _ _ _ _ _ HA.out)).mono ?_
  rintro e w' ⟨rfl, rfl⟩
  clear HA
  go_wp2_with fail
  refine (newSetS_any 70 (by decide) (by decide) _).mono ?_
  rintro e w3 ⟨rfl, hA, hk, hsz⟩
  rw [show fit 70 = 70 by decide, show zeros ((70 + 63) / 64) = [0, 0] by decide] at hA
  have S3 := hid hA
  have B3 := hid (B2.out.trans (hk.below B2.out.size (fun _ h => h.elim)))
  have BB := hid (show w.heap.size ≤ w2.heap.size from B2.out.size)
  clear hA hk hsz
  have r1 : inR 70 69 = true := by decide
  have r2 : inR 70 70 = false := by decide
  have r3 : inR 70 1 = true := by decide
  go_wp2_with fail
  refine (put_any _ _ _ _ 69 true _ S3.out).mono ?_
  rintro e w4 ⟨rfl, hA, hk, hsz⟩
  rw [show putI 70 [0, 0] 69 true = [0, 32] by decide] at hA
  have S4 := hid hA
  have B4 := hid (B3.out.trans (hk.below B3.out.size (fun x h => by have := BB.out; omega)))
  clear hA hk hsz S3
  go_wp2_with fail
  refine (put_any _ _ _ _ 70 true _ S4.out).mono ?_
  rintro e w5 ⟨rfl, hA, hk, hsz⟩
  rw [show putI 70 [0, 32] 70 true = [0, 32] by decide] at hA
  have S5 := hid hA
  have B5 := hid (B4.out.trans (hk.below B4.out.size (fun x h => by have := BB.out; omega)))
  clear hA hk hsz S4
  go_wp2_with fail
  refine (flip_any _ _ _ _ 1 _ S5.out).mono ?_
  rintro e w6 ⟨rfl, hA, hk, hsz⟩
  rw [show flipI 70 [0, 32] 1 = [2, 32] by decide] at hA
  have S6 := hid hA
  have B6 := hid (B5.out.trans (hk.below B5.out.size (fun x h => by have := BB.out; omega)))
  clear hA hk hsz S5
  have x1 : nxt 70 [2, 32] (-5) = 1 := by decide
  have x2 : nxt 70 [2, 32] 2 = 69 := by decide
  have x3 : nxt 70 [2, 32] 70 = -1 := by decide
  have x4 : ((cntS [2, 32] : Nat) : Int) = 2 := by rw [cntS_val [2, 32] 2 (by decide) (lt_two 2 32 (by decide) (by decide))]; rfl
  go_wp2_with fail
  refine (Calls_back (next_any _ _ _ _ (-5) (by decide) _ S6.out)).mono ?_
  rintro e w' ⟨rfl, rfl⟩
  go_wp2_with fail
  refine (Calls_back (next_any _ _ _ _ 2 (by decide) _ S6.out)).mono ?_
  rintro e w' ⟨rfl, rfl⟩
  go_wp2_with fail
  refine (Calls_back (next_any _ _ _ _ 70 (by decide) _ S6.out)).mono ?_
  rintro e w' ⟨rfl, rfl⟩
  go_wp2_with fail
  refine (Calls_back (countS_any _ _ _ _ _ S6.out)).mono ?_
  rintro e w' ⟨rfl, rfl⟩
  go_wp2_with fail
  clear x1 x2 x3 x4 r1 r2 r3
  try go_wp2_with fail
  refine (words_any _ _ _ _ _ S6.out).mono ?_
  rintro e w7a ⟨rfl, hg, hk, hsz⟩
  have ka := (Kept.refl (fun _ => False) w7a).alloc (.cells #[.int .u64 2, .int .u64 32] 33)
  have GW := hid (block_kept hg ka (fun x => x))
  have GL := hid (block_lit2 w7a 2 32)
  have KA := hid (hk.trans (U := fun _ => False) ka (fun _ _ x => x) (fun _ _ x => x))
  clear hg hk hsz ka
  go_wp2_with fail
  refine (sameN _ _ _ _ _ 2 [2, 32] rfl GW.out GL.out (by decide) (lt_two 2 32 (by decide) (by decide))).mono ?_
  rintro e w7 ⟨rfl, hk⟩
  have KK := hid (KA.out.trans (U := fun _ => False) hk (fun _ _ x => x) (fun _ _ x => x))
  have B7 := hid (B6.out.trans (KK.out.below B6.out.size (fun _ h => h.elim)))
  have S7 := hid (S6.out.kept KK.out (fun x => x) (fun x => x))
  clear GW GL KA KK hk
  go_wp2_with fail
  refine (resize_any _ _ _ _ 69 (by decide) (by decide) _ S7.out).mono ?_
  rintro e w8 ⟨rfl, hA, hk, hsz⟩
  rw [show fit 69 = 69 by decide, show ofW [2, 32] 69 = [2, 0] by decide] at hA
  have S8 := hid hA
  have B8 := hid (B7.out.trans (hk.below B7.out.size (fun x h => by have := BB.out; omega)))
  clear hA hk hsz S6 S7
  have x4 : ((cntS [2, 0] : Nat) : Int) = 1 := by rw [cntS_val [2, 0] 1 (by decide) (lt_two 2 0 (by decide) (by decide))]; rfl
  try go_wp2_with fail
  refine (words_any _ _ _ _ _ S8.out).mono ?_
  rintro e w9a ⟨rfl, hg, hk, hsz⟩
  have ka := (Kept.refl (fun _ => False) w9a).alloc (.cells #[.int .u64 2, .int .u64 0] 33)
  have GW := hid (block_kept hg ka (fun x => x))
  have GL := hid (block_lit2 w9a 2 0)
  have KA := hid (hk.trans (U := fun _ => False) ka (fun _ _ x => x) (fun _ _ x => x))
  clear hg hk hsz ka
  go_wp2_with fail
  refine (sameN _ _ _ _ _ 2 [2, 0] rfl GW.out GL.out (by decide) (lt_two 2 0 (by decide) (by decide))).mono ?_
  rintro e w9 ⟨rfl, hk⟩
  have KK := hid (KA.out.trans (U := fun _ => False) hk (fun _ _ x => x) (fun _ _ x => x))
  have B9 := hid (B8.out.trans (KK.out.below B8.out.size (fun _ h => h.elim)))
  have S9 := hid (S8.out.kept KK.out (fun x => x) (fun x => x))
  clear GW GL KA KK hk
  go_wp2_with fail
  refine (Calls_back (countS_any _ _ _ _ _ S9.out)).mono ?_
  rintro e w' ⟨rfl, rfl⟩
  go_wp2_with fail
  clear x4
  refine (resize_any _ _ _ _ 70 (by decide) (by decide) _ S9.out).mono ?_
  rintro e w10 ⟨rfl, hA, hk, hsz⟩
  rw [show fit 70 = 70 by decide, show ofW [2, 0] 70 = [2, 0] by decide] at hA
  have S10 := hid hA
  have B10 := hid (B9.out.trans (hk.below B9.out.size (fun x h => by have := BB.out; omega)))
  clear hA hk hsz S8 S9
  go_wp2_with fail
  refine (of_any _ [5] 2 (by decide) (by decide) _ (src_one _ 5 (by decide))).mono ?_
  rintro e w11 ⟨rfl, hU, hk, hsz⟩
  simp only [World.size_alloc] at hU
  rw [show fit 2 = 2 by decide, show ofW [5] 2 = [1] by decide] at hU
  have kk := ((Kept.refl (fun _ => False) w10).alloc (.cells #[.int .u64 5] 33)).trans (U := fun _ => False) hk (fun _ _ x => x) (fun _ _ x => x)
  have U11 := hid hU
  have S11 := hid (S10.out.kept kk (fun x => x) (fun x => x))
  have B11 := hid (B10.out.trans (kk.below B10.out.size (fun _ h => h.elim)))
  clear hU hk hsz kk S10
  have y1 : inS 70 [2, 0] 69 = false := by decide
  have y2 : inS 2 [1] 0 = true := by decide
  have y3 : inS 2 [1] 2 = false := by decide
  go_wp2_with fail
  refine (Calls_back (get_any _ _ _ _ 69 _ S11.out)).mono ?_
  rintro e w' ⟨rfl, rfl⟩
  go_wp2_with fail
  refine (Calls_back (get_any _ _ _ _ 0 _ U11.out)).mono ?_
  rintro e w' ⟨rfl, rfl⟩
  go_wp2_with fail
  refine (Calls_back (get_any _ _ _ _ 2 _ U11.out)).mono ?_
  rintro e w' ⟨rfl, rfl⟩
  go_wp2_with fail
  clear y1 y2 y3
  try go_wp2_with fail
  refine (words_any _ _ _ _ _ U11.out).mono ?_
  rintro e w12a ⟨rfl, hg, hk, hsz⟩
  have ka := (Kept.refl (fun _ => False) w12a).alloc (.cells #[.int .u64 1] 33)
  have GW := hid (block_kept hg ka (fun x => x))
  have GL := hid (block_lit1 w12a 1)
  have KA := hid (hk.trans (U := fun _ => False) ka (fun _ _ x => x) (fun _ _ x => x))
  clear hg hk hsz ka
  go_wp2_with fail
  refine (sameN _ _ _ _ _ 1 [1] rfl GW.out GL.out (by decide) (lt_one 1 (by decide))).mono ?_
  rintro e w12 ⟨rfl, hk⟩
  have KK := hid (KA.out.trans (U := fun _ => False) hk (fun _ _ x => x) (fun _ _ x => x))
  have B12 := hid (B11.out.trans (KK.out.below B11.out.size (fun _ h => h.elim)))
  clear GW GL KA KK hk
  go_wp2_with fail
  refine (of_any _ [] 65 (by decide) (by decide) _ (src_nil _)).mono ?_
  rintro e w13 ⟨rfl, hU, hk, hsz⟩
  rw [show fit 65 = 65 by decide, show ofW [] 65 = [0, 0] by decide] at hU
  have U13 := hid hU
  have B13 := hid (B12.out.trans (hk.below B12.out.size (fun _ h => h.elim)))
  clear hU hk hsz
  try go_wp2_with fail
  refine (words_any _ _ _ _ _ U13.out).mono ?_
  rintro e w14a ⟨rfl, hg, hk, hsz⟩
  have ka := (Kept.refl (fun _ => False) w14a).alloc (.cells #[.int .u64 0, .int .u64 0] 33)
  have GW := hid (block_kept hg ka (fun x => x))
  have GL := hid (block_lit2 w14a 0 0)
  have KA := hid (hk.trans (U := fun _ => False) ka (fun _ _ x => x) (fun _ _ x => x))
  clear hg hk hsz ka
  go_wp2_with fail
  refine (sameN _ _ _ _ _ 2 [0, 0] rfl GW.out GL.out (by decide) (lt_two 0 0 (by decide) (by decide))).mono ?_
  rintro e w14 ⟨rfl, hk⟩
  have KK := hid (KA.out.trans (U := fun _ => False) hk (fun _ _ x => x) (fun _ _ x => x))
  have B14 := hid (B13.out.trans (KK.out.below B13.out.size (fun _ h => h.elim)))
  clear GW GL KA KK hk
  go_wp2
  go_ret
  exact ⟨rfl, B14.out⟩
end Go.Proofs.Ytahdjaocfejjeaa
