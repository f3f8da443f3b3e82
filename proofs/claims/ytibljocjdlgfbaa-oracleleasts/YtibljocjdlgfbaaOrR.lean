/- croftlaw11.known, awake. -/
import Derived.Test.YtibljocjdlgfbaaOrP
import Derived.Test.YtibljocjdlgfbaaOrQ
namespace Go.Proofs.Ytibljocjdlgfbaa
open Go.RowKit
set_option linter.unusedVariables false

theorem BL.nil (w : World) : BL w (.slice none 0 0) [] := ⟨by simp, (fun b h => by cases h), none, 0, rfl, .inl rfl⟩
theorem BL.one {w : World} {g p s : Nat} {t : TypeId} (h : w.heap[g]? = some (.cells #[.int .u64 (p : Int), .int .u64 (s : Int)] t)) (hp : p < 2 ^ 64) (hs : s < 2 ^ 64) : BL w (.slice (some ⟨g, 0, none⟩) 1 1) [(p, s)] := by
  refine ⟨by simp, (fun b hb => by rw [List.mem_singleton] at hb; rw [hb]; exact ⟨hp, hs⟩), _, 1, rfl, .inr ⟨g, 0, rfl, heap_lt h, fun k b hb => ?_⟩⟩
  match k with
  | 0 =>
    have e : (p, s) = b := by simpa using hb
    rw [← e]
    exact ⟨by simp [World.cell?, h], by simp [World.cell?, h]⟩
  | k + 1 => simp at hb
theorem BL.two {w : World} {g p s p' s' : Nat} {t : TypeId} (h : w.heap[g]? = some (.cells #[.int .u64 (p : Int), .int .u64 (s : Int), .int .u64 (p' : Int), .int .u64 (s' : Int)] t)) (hp : p < 2 ^ 64) (hs : s < 2 ^ 64) (hp' : p' < 2 ^ 64) (hs' : s' < 2 ^ 64) : BL w (.slice (some ⟨g, 0, none⟩) 2 2) [(p, s), (p', s')] := by
  refine ⟨by simp, (fun b hb => by
    rcases List.mem_cons.1 hb with e | e
    · rw [e]; exact ⟨hp, hs⟩
    · rw [List.mem_singleton] at e; rw [e]; exact ⟨hp', hs'⟩), _, 2, rfl, .inr ⟨g, 0, rfl, heap_lt h, fun k b hb => ?_⟩⟩
  match k with
  | 0 =>
    have e : (p, s) = b := by simpa using hb
    rw [← e]
    exact ⟨by simp [World.cell?, h], by simp [World.cell?, h]⟩
  | 1 =>
    have e : (p', s') = b := by simpa using hb
    rw [← e]
    exact ⟨by simp [World.cell?, h], by simp [World.cell?, h]⟩
  | k + 2 => simp at hb
theorem SL.one {w : World} {g x : Nat} {t : TypeId} (h : w.heap[g]? = some (.cells #[.int .u64 (x : Int)] t)) (hx : x < 2 ^ 64) : SL w (.slice (some ⟨g, 0, none⟩) 1 1) [x] := by
  refine ⟨by simp, (fun b hb => by rw [List.mem_singleton] at hb; rw [hb]; exact hx), _, 1, rfl, .inr ⟨g, 0, rfl, heap_lt h, fun k b hb => ?_⟩⟩
  match k with
  | 0 =>
    have e : x = b := by simpa using hb
    rw [← e]
    simp [World.cell?, h]
  | k + 1 => simp at hb
theorem SL.two {w : World} {g x y : Nat} {t : TypeId} (h : w.heap[g]? = some (.cells #[.int .u64 (x : Int), .int .u64 (y : Int)] t)) (hx : x < 2 ^ 64) (hy : y < 2 ^ 64) : SL w (.slice (some ⟨g, 0, none⟩) 2 2) [x, y] := by
  refine ⟨by simp, (fun b hb => by
    rcases List.mem_cons.1 hb with e | e
    · rw [e]; exact hx
    · rw [List.mem_singleton] at e; rw [e]; exact hy), _, 2, rfl, .inr ⟨g, 0, rfl, heap_lt h, fun k b hb => ?_⟩⟩
  match k with
  | 0 =>
    have e : x = b := by simpa using hb
    rw [← e]
    simp [World.cell?, h]
  | 1 =>
    have e : y = b := by simpa using hb
    rw [← e]
    simp [World.cell?, h]
  | k + 2 => simp at hb

theorem known_any (w : World) : Calls Try.prog 9 #[] w fun e w' => e = .returned (cfgV 65536 2 1) ∧ Kept none' w w' := by
  go_enter Try.func9, Try.ntmps9
  go_wp2
  exact ⟨rfl, .agg #[.int .u64 65536, .int .i64 2, .int .i64 1], by simp [results, Try.results9, go_sem], rfl, (Kept.refl _ w).alloc _⟩

theorem nofK (r : Nat) (hr : r < 2 ^ 64) (n : Nat) (hn : n ≤ 100) (v : Value) (l : Bls) (b : Bool) (hb : nofV 65536 2 1 (n : Int) l r = b) (w : World) (h : BL w v l) : Calls Try.prog 14 #[cfgV 65536 2 1, .int .i64 (n : Int), v, .int .u64 (r : Int)] w fun e w' => e = .returned (.bool b) ∧ Kept none' w w' := by
  rw [← hb]
  exact NoFit_any 65536 (by decide) 2 1 n (by decide) (by decide) (by decide) (by decide) v l r hr w h
theorem sndK (n : Nat) (hn : n ≤ 100) (v : Value) (l : Bls) (z : Int) (hz : sndV 65536 2 1 (n : Int) l = z) (w : World) (h : BL w v l) : Calls Try.prog 13 #[cfgV 65536 2 1, .int .i64 (n : Int), v] w fun e w' => e = .returned (.int .i64 z) ∧ Kept none' w w' := by
  rw [← hz]
  exact Sound_any 65536 (by decide) 2 1 n (by decide) (by decide) (by decide) (by decide) v l w h
theorem stkK (r : Nat) (hr : r < 2 ^ 64) (n : Nat) (hn : n ≤ 100) (dn : Bool) (v : Value) (l : Bls) (b : Bool) (hb : stkV 65536 2 1 (n : Int) l r dn = b) (w : World) (h : BL w v l) : Calls Try.prog 15 #[cfgV 65536 2 1, .int .i64 (n : Int), v, .int .u64 (r : Int), .bool dn] w fun e w' => e = .returned (.bool b) ∧ Kept none' w w' := by
  rw [← hb]
  exact Stuck_any 65536 (by decide) 2 1 n (by decide) (by decide) (by decide) (by decide) v l r hr dn w h
theorem rdnK (s a : Nat) (hs : s < 2 ^ 64) (ha : a < 2 ^ 64) (v : Nat) (er : Int) (hv : rdV 65536 2 1 s a = v) (he : rdE 65536 2 1 s a = er) (w : World) : Calls Try.prog 11 #[cfgV 65536 2 1, .int .u64 (s : Int), .int .u64 (a : Int)] w fun e w' => e = .returned (.tuple #[.int .u64 (v : Int), .int .i64 er]) ∧ Kept none' w w' := by
  rw [← hv, ← he]
  exact Round_any 65536 (by decide) 2 1 (by decide) (by decide) (by decide) (by decide) s a hs ha w
theorem leaK (v : Value) (l : Bls) (vs : Value) (sz : List Nat) (n : Nat) (b : Bool) (hn : leaV 65536 2 1 l sz = n) (hb : leaO 65536 2 1 l sz = b) (w : World) (h : BL w v l) (hs : SL w vs sz) : Calls Try.prog 17 #[cfgV 65536 2 1, v, vs] w fun e w' => e = .returned (.tuple #[.int .i64 (n : Int), .bool b]) ∧ Kept none' w w' := by
  rw [← hn, ← hb]
  exact Least_any 65536 (by decide) 2 1 (by decide) (by decide) (by decide) (by decide) v l vs sz w h hs

theorem k_r1 : rdV 65536 2 1 17 4 = 32 ∧ rdE 65536 2 1 17 4 = 0 := ⟨by kernel_rfl, by kernel_rfl⟩
theorem k_n1 : nofV 65536 2 1 ((1 : Nat) : Int) [(65536, 16)] 4096 = false := by kernel_rfl
theorem k_n2 : nofV 65536 2 1 ((1 : Nat) : Int) [(65536, 16)] 8192 = true := by kernel_rfl
theorem k_s1 : sndV 65536 2 1 ((1 : Nat) : Int) [(65536, 16)] = -1 := by kernel_rfl
theorem k_l1 : leaV 65536 2 1 [] [8192, 4096] = 2 ∧ leaO 65536 2 1 [] [8192, 4096] = true := ⟨by kernel_rfl, by kernel_rfl⟩

set_option maxRecDepth 4000 in
theorem awake_any (w : World) : Calls Try.prog 10 #[] w fun e w' => e = .returned (.bool true) ∧ Kept none' w w' := by
  have HN1 := hid (fun W v h => nofK 4096 (by decide) 1 (by decide) v [(65536, 16)] false k_n1 W h)
  have HN2 := hid (fun W v h => nofK 8192 (by decide) 1 (by decide) v [(65536, 16)] true k_n2 W h)
  have HS1 := hid (fun W v h => sndK 1 (by decide) v [(65536, 16)] (-1) k_s1 W h)
  have HR1 := hid (fun W => rdnK 17 4 (by decide) (by decide) 32 0 k_r1.1 k_r1.2 W)
  have HL1 := hid (fun W vs hs => leaK (.slice none 0 0) [] vs [8192, 4096] 2 true k_l1.1 k_l1.2 W (BL.nil W) hs)
  go_enter Try.func10, Try.ntmps10
  go_wp2_with fail
  refine (known_any _).mono ?_
  rintro e w1 ⟨rfl, K1⟩
  have K1 := hid K1
  go_wp2_with fail
  refine (HR1.out _).mono ?_
  rintro e w2 ⟨rfl, hk⟩
  have K2 := hid (none_trans K1.out hk)
  clear hk
  go_wp2_with fail
  refine (known_any _).mono ?_
  rintro e w3 ⟨rfl, hk⟩
  have B3 := hid ((BL.one (p := 65536) (s := 16) (heap_new w2 _) (by decide) (by decide)).keep hk)
  have K3 := hid (none_trans (K2.out.alloc _) hk)
  clear hk
  generalize w2.heap.size = g at *
  go_wp2_with fail
  refine (HN1.out _ _ B3.out).mono ?_
  rintro e w4 ⟨rfl, hk⟩
  have B4 := hid (B3.out.keep hk)
  have K4 := hid (none_trans K3.out hk)
  clear hk
  go_wp2_with fail
  refine (known_any _).mono ?_
  rintro e w5 ⟨rfl, hk⟩
  have B5 := hid (B4.out.keep hk)
  have K5 := hid (none_trans K4.out hk)
  clear hk
  go_wp2_with fail
  refine (HN2.out _ _ B5.out).mono ?_
  rintro e w6 ⟨rfl, hk⟩
  have B6 := hid (B5.out.keep hk)
  have K6 := hid (none_trans K5.out hk)
  clear hk
  go_wp2_with fail
  refine (known_any _).mono ?_
  rintro e w7 ⟨rfl, hk⟩
  have B7 := hid (B6.out.keep hk)
  have K7 := hid (none_trans K6.out hk)
  clear hk
  go_wp2_with fail
  refine (HS1.out _ _ B7.out).mono ?_
  rintro e w8 ⟨rfl, hk⟩
  have K8 := hid (none_trans K7.out hk)
  clear hk
  go_wp2_with fail
  refine (known_any _).mono ?_
  rintro e w9 ⟨rfl, hk⟩
  have K9 := hid (none_trans K8.out hk)
  clear hk
  go_wp2_with fail
  refine (HL1.out _ _ (SL.two (x := 8192) (y := 4096) (heap_new w9 _) (by decide) (by decide))).mono ?_
  rintro e w10 ⟨rfl, hk⟩
  have K10 := hid (none_trans (K9.out.alloc _) hk)
  clear hk
  go_wp2_with fail
  go_ret
  exact ⟨rfl, K10.out⟩
end Go.Proofs.Ytibljocjdlgfbaa
