import Derived.Test.YtgjapopddblpoaaGreatDoorHnB
/- HeapKnown: the states, awake, the walk. (Written by mk8n.py.) -/
namespace Go.Proofs.YtgjapopddblpoaaGreatDoor
open Go.RowKit
set_option linter.unusedVariables false

def Q1 : Sb := takS (freS S80 0 0) 0 0 (List.range' 1 (ncl 0 - 1))
def Q2 : Sb := takS (freS Q1 1 1) 1 1 (List.range' 1 (ncl 1 - 1))
def Q3 : Sb := takS Q2 0 0 (List.range' 2 254)
def Q4 : Sb := givS Q3 0 0 1
def Q5 : Sb := takS Q4 0 0 (List.range' 2 254)
theorem cQ (S : Sb) (h : S.c = Q2.c) : S.c 0 = some 0 ∧ S.c 1 = some 1 ∧ S.c 2 = none ∧ S.c 3 = none ∧ ∀ g k, S.c g = some k → (g = 0 ∧ k = 0) ∨ (g = 1 ∧ k = 1) := by
  rw [h]
  refine ⟨rfl, rfl, rfl, rfl, fun g k hg => ?_⟩
  by_cases h1 : g = 1
  · subst h1
    have : (some 1 : Option Nat) = some k := hg
    injection this with this
    exact .inr ⟨rfl, this.symm⟩
  · by_cases h0 : g = 0
    · subst h0
      have : (some 0 : Option Nat) = some k := hg
      injection this with this
      exact .inl ⟨rfl, this.symm⟩
    · have e : Q2.c g = none := by
        show (if g = 1 then _ else if g = 0 then _ else none) = none
        rw [if_neg h1, if_neg h0]
      rw [e] at hg
      cases hg
theorem no01 : 0 ∉ List.range' 2 254 ∧ 1 ∉ List.range' 2 254 := by
  constructor <;> · rw [List.mem_range'_1]; omega
theorem lkQ {ls : List (Nat × Nat)} {S : Sb} (h : S.c = Q2.c) (hf : S.fl 0 = List.range' 2 254) : Lk8 ls S 65536 16 := .inl ⟨0, 0, 0, (cQ S h).1, by decide, by rw [hf]; exact no01.1, rfl, rfl⟩
theorem dead4 {ls : List (Nat × Nat)} (hl : ∀ q k, (q, k) ∈ ls → q ≠ 0 → q ≠ 1 → q = 2) (c : Nat) : ¬ Lk8 ls Q4 65552 c := by
  obtain ⟨c0, c1, c2, c3, cc⟩ := cQ Q4 rfl
  rintro (⟨g, k, i, h1, h2, h3, h4, h5⟩ | ⟨q, k, h1, h2, h3, h4⟩)
  · rcases cc g k h1 with ⟨rfl, rfl⟩ | ⟨rfl, rfl⟩
    · have hi : i = 1 := by
        have : szC 0 = 16 := rfl
        rw [this] at h4
        omega
      subst hi
      exact h3 (by show 1 ∈ 1 :: _; exact List.mem_cons_self)
    · omega
  · have hq : q = 2 := hl q k h1 (fun e => by rw [e, c0] at h2; cases h2) (fun e => by rw [e, c1] at h2; cases h2)
    omega
theorem give2 (fr : Nat → List Nat) (h0 : fr 0 = []) (h1 : fr 1 = []) : giveF 1 fr 2 0 0 = [2] ∧ giveF 1 fr 2 0 1 = [] := by
  have hj : joinF 1 (1 - 0) fr 2 0 = (fr, 2, 0) := by
    show (if 0 < 1 ∧ othN 2 0 ∈ fr 0 then _ else _) = _
    rw [if_neg]
    rw [h0]
    rintro ⟨_, e⟩
    cases e
  unfold giveF
  rw [hj]
  constructor
  · show frU fr 0 (2 :: fr 0) 0 = [2]
    unfold frU
    rw [if_pos rfl, h0]
  · show frU fr 0 (2 :: fr 0) 1 = []
    unfold frU
    rw [if_neg (by decide), h1]
theorem give3 (fr : Nat → List Nat) (h0 : fr 0 = [2]) (h1 : fr 1 = []) : giveF 1 fr 3 0 0 = [] ∧ giveF 1 fr 3 0 1 = [2] := by
  have hj : joinF 1 (1 - 0) fr 3 0 = (frU fr 0 (M.dropL (fr 0) 2), 2, 1) := by
    show (if 0 < 1 ∧ othN 3 0 ∈ fr 0 then joinF 1 0 (frU fr 0 (M.dropL (fr 0) (othN 3 0))) (lowN 3 0) 1 else _) = _
    rw [if_pos ⟨by decide, by rw [h0]; decide⟩]
    rfl
  unfold giveF
  rw [hj]
  constructor
  · show frU (frU fr 0 (M.dropL (fr 0) 2)) 1 _ 0 = []
    unfold frU
    rw [if_neg (by decide), if_pos rfl, h0]
    decide
  · show frU (frU fr 0 (M.dropL (fr 0) 2)) 1 (2 :: frU fr 0 (M.dropL (fr 0) 2) 1) 1 = [2]
    unfold frU
    rw [if_pos rfl, if_neg (by decide), h1]
theorem fd1 (h L B F : Int) (w : World) : Sem.run Tryz.prog (Instr.field 35 (.agg #[.int .u64 h, .int .u64 L, .int .i64 B, .int .i64 F]) 1) w = .ok (.int .u64 L) w := by kernel_rfl
theorem may8 : M.mayB 65536 ((2 : Nat) : Int) ((1 : Nat) : Int) = true := by decide
theorem may8n : M.mayB 4096 2 1 = false := by decide
/-- A new heap. -/
theorem new_kh (w : World) (hT : Tab w) :
    Calls Tryz.prog 9 #[.agg #[.int .u64 65536, .int .i64 2, .int .i64 1]] w fun e w' => ∃ hb, e = .returned (.tuple #[.pointer (some ⟨hb, 0, none⟩), .int .i64 0]) ∧ KH w w' hb 0 [] [] [] S80 false := by
  refine (New8_ok 65536 (by decide) 2 1 (by decide) (by decide) may8 (by decide) w hT).mono ?_
  rintro e w' ⟨hb, sb, lw, x, rfl, H, e1, e2, e3, e4, e5⟩
  exact ⟨hb, rfl, sb, lw, x, _, _, H, e1, e3, e5, e2, e4, rfl, rfl, fun e => by cases e⟩
theorem is8 (p e q b : Int) (w : World) : Calls Tryz.prog 11 #[.int .u64 p, .int .i64 e, .int .u64 q, .int .i64 b] w fun r w' => r = .returned (.bool (decide (p = q ∧ e = b))) ∧ w' = w := by
  by_cases h1 : p = q
  · by_cases h2 : e = b
    · subst h1 h2
      go_enter Tryz.func11, Tryz.ntmps11
      go_wp2_with fail
      go_ret
      exact ⟨by simp, rfl⟩
    · subst h1
      have q2 : (e == b) = false := by rw [beq_eq_false_iff_ne]; exact h2
      have D : decide (p = p ∧ e = b) = false := decide_eq_false (fun x => h2 x.2)
      rw [D]
      clear h2 D
      go_enter Tryz.func11, Tryz.ntmps11
      go_wp2_with fail
      go_ret
      exact ⟨by simp, rfl⟩
  · have q1 : (p == q) = false := by rw [beq_eq_false_iff_ne]; exact h1
    have D : decide (p = q ∧ e = b) = false := decide_eq_false (fun x => h1 x.1)
    rw [D]
    clear h1 D
    go_enter Tryz.func11, Tryz.ntmps11
    go_wp2_with fail
    go_ret
    exact ⟨by simp, rfl⟩
theorem is_yes (p e : Int) (w : World) : Calls Tryz.prog 11 #[.int .u64 p, .int .i64 e, .int .u64 p, .int .i64 e] w fun r w' => r = .returned (.bool true) ∧ w' = w := by
  have := is8 p e p e w
  rwa [decide_eq_true ⟨rfl, rfl⟩] at this
theorem aw8_0 {w1 W : World} {hb : Nat} (s : KH w1 W hb 0 [] [] [] S80 false) : Calls Tryz.prog 10 #[.pointer (some ⟨hb, 0, none⟩), .int .u64 0, .bool false] W fun e w' => e = tE 65536 0 ∧ KH w1 w' hb 8192 [1] [] [(0, 0)] Q1 false := s.mal_grow 0 rfl 0 (by decide) 4 (by decide) (by decide) 0 (by decide) rfl rfl (by decide)
theorem aw8_1 {w1 W : World} {hb : Nat} (s : KH w1 W hb 8192 [1] [] [(0, 0)] Q1 false) : Calls Tryz.prog 10 #[.pointer (some ⟨hb, 0, none⟩), .int .u64 17, .bool true] W fun e w' => e = tE 69632 0 ∧ KH w1 w' hb 8192 [] [] [(0, 0), (1, 0)] Q2 false := s.mal_here 17 (by decide) true 5 (by decide) (by decide) 1 (by decide) rfl rfl
theorem aw8_2 {w1 W : World} {hb : Nat} (s : KH w1 W hb 8192 [] [] [(0, 0), (1, 0)] Q2 false) : Calls Tryz.prog 10 #[.pointer (some ⟨hb, 0, none⟩), .int .u64 4097, .bool true] W fun e w' => e = tE 0 2 ∧ KH w1 w' hb 8192 [] [] [(0, 0), (1, 0)] Q2 false := s.mal_stuck 4097 (by decide) true 13 (by decide) (by decide) (.inl rfl) (.inr ⟨1, by decide, rfl⟩)
theorem aw8_3 {w1 W : World} {hb : Nat} (s : KH w1 W hb 8192 [] [] [(0, 0), (1, 0)] Q2 false) : Calls Tryz.prog 13 #[.pointer (some ⟨hb, 0, none⟩)] W fun e w' => e = .returned (.agg #[.int .u64 8192, .int .u64 48, .int .i64 2, .int .i64 0]) ∧ KH w1 w' hb 8192 [] [] [(0, 0), (1, 0)] Q2 false := s.stats2 0 1 rfl rfl 48 2 (by decide +kernel) (by decide +kernel)
theorem kn8_0 {w1 W : World} {hb : Nat} (s : KH w1 W hb 0 [] [] [] S80 false) : Calls Tryz.prog 10 #[.pointer (some ⟨hb, 0, none⟩), .int .u64 0, .bool false] W fun e w' => e = tE 65536 0 ∧ KH w1 w' hb 8192 [1] [] [(0, 0)] Q1 false := s.mal_grow 0 rfl 0 (by decide) 4 (by decide) (by decide) 0 (by decide) rfl rfl (by decide)
theorem kn8_1 {w1 W : World} {hb : Nat} (s : KH w1 W hb 8192 [1] [] [(0, 0)] Q1 false) : Calls Tryz.prog 10 #[.pointer (some ⟨hb, 0, none⟩), .int .u64 17, .bool false] W fun e w' => e = tE 69632 0 ∧ KH w1 w' hb 8192 [] [] [(0, 0), (1, 0)] Q2 false := s.mal_here 17 (by decide) false 5 (by decide) (by decide) 1 (by decide) rfl rfl
theorem kn8_2 {w1 W : World} {hb : Nat} (s : KH w1 W hb 8192 [] [] [(0, 0), (1, 0)] Q2 false) : Calls Tryz.prog 10 #[.pointer (some ⟨hb, 0, none⟩), .int .u64 16, .bool false] W fun e w' => e = tE 65552 0 ∧ KH w1 w' hb 8192 [] [] [(0, 0), (1, 0)] Q3 false := s.mal_old 16 (by decide) false 4 (by decide) (by decide) 0 (by decide) rfl (g := 0) (i := 1) (l := []) (rr := List.range' 2 254) rfl rfl
theorem kn8_3 {w1 W : World} {hb : Nat} (s : KH w1 W hb 8192 [] [] [(0, 0), (1, 0)] Q3 false) : Calls Tryz.prog 10 #[.pointer (some ⟨hb, 0, none⟩), .int .u64 4097, .bool false] W fun e w' => e = tE 73728 0 ∧ KH w1 w' hb 16384 [] [] [(0, 0), (1, 0), (2, 1)] Q3 false := s.pg_grow 2 rfl 4097 (by decide) (by decide) (by decide)
theorem kn8_4 {w1 W : World} {hb : Nat} (s : KH w1 W hb 16384 [] [] [(0, 0), (1, 0), (2, 1)] Q3 false) : Calls Tryz.prog 10 #[.pointer (some ⟨hb, 0, none⟩), .int .u64 2048, .bool false] W fun e w' => e = tE 0 2 ∧ KH w1 w' hb 16384 [] [] [(0, 0), (1, 0), (2, 1)] Q3 false := s.mal_stuck 2048 (by decide) false 11 (by decide) (by decide) (.inr rfl) (.inl ⟨7, by decide, rfl, rfl⟩)
theorem kn8_5 {w1 W : World} {hb : Nat} (s : KH w1 W hb 16384 [] [] [(0, 0), (1, 0), (2, 1)] Q3 false) : Calls Tryz.prog 10 #[.pointer (some ⟨hb, 0, none⟩), .int .u64 8193, .bool false] W fun e w' => e = tE 0 3 ∧ KH w1 w' hb 16384 [] [] [(0, 0), (1, 0), (2, 1)] Q3 false := s.big 8193 (by decide) false (by decide)
theorem kn8_6 {w1 W : World} {hb : Nat} (s : KH w1 W hb 16384 [] [] [(0, 0), (1, 0), (2, 1)] Q3 false) : Calls Tryz.prog 12 #[.pointer (some ⟨hb, 0, none⟩), .int .u64 3, .int .u64 9000, .bool false] W fun e w' => e = tE 0 1 ∧ KH w1 w' hb 16384 [] [] [(0, 0), (1, 0), (2, 1)] Q3 false := s.aligned_bad 3 9000 (by decide) (by decide) false (by decide)
theorem kn8_7 {w1 W : World} {hb : Nat} (s : KH w1 W hb 16384 [] [] [(0, 0), (1, 0), (2, 1)] Q3 false) : Calls Tryz.prog 13 #[.pointer (some ⟨hb, 0, none⟩)] W fun e w' => e = .returned (.agg #[.int .u64 16384, .int .u64 8256, .int .i64 4, .int .i64 0]) ∧ KH w1 w' hb 16384 [] [] [(0, 0), (1, 0), (2, 1)] Q3 false := s.stats4 0 1 rfl rfl (by decide) rfl 8256 4 (by decide +kernel) (by decide +kernel)
theorem kn8_8 {w1 W : World} {hb : Nat} (s : KH w1 W hb 16384 [] [] [(0, 0), (1, 0), (2, 1)] Q3 false) : Calls Tryz.prog 14 #[.pointer (some ⟨hb, 0, none⟩), .int .u64 65537] W fun e w' => e = .returned (.int .i64 1) ∧ KH w1 w' hb 16384 [] [] [(0, 0), (1, 0), (2, 1)] Q3 false := s.free_odd 65537 (by decide) (by decide)
theorem kn8_9 {w1 W : World} {hb : Nat} (s : KH w1 W hb 16384 [] [] [(0, 0), (1, 0), (2, 1)] Q3 false) : Calls Tryz.prog 14 #[.pointer (some ⟨hb, 0, none⟩), .int .u64 0] W fun e w' => e = .returned (.int .i64 0) ∧ KH w1 w' hb 16384 [] [] [(0, 0), (1, 0), (2, 1)] Q3 false := s.free_nil
theorem kn8_10 {w1 W : World} {hb : Nat} (s : KH w1 W hb 16384 [] [] [(0, 0), (1, 0), (2, 1)] Q3 false) : Calls Tryz.prog 14 #[.pointer (some ⟨hb, 0, none⟩), .int .u64 65552] W fun e w' => e = .returned (.int .i64 0) ∧ KH w1 w' hb 16384 [] [] [(0, 0), (1, 0), (2, 1)] Q4 false := s.free_cell 65552 0 0 1 rfl (by decide) no01.2 rfl (by decide) (by decide +kernel)
theorem kn8_11 {w1 W : World} {hb : Nat} (s : KH w1 W hb 16384 [] [] [(0, 0), (1, 0), (2, 1)] Q4 false) : Calls Tryz.prog 14 #[.pointer (some ⟨hb, 0, none⟩), .int .u64 65552] W fun e w' => e = .returned (.int .i64 1) ∧ KH w1 w' hb 16384 [] [] [(0, 0), (1, 0), (2, 1)] Q4 false := s.free_bad 65552 (by decide) (by decide) (dead4 (fun q k h _ _ => by simp at h; omega))
theorem kn8_12 {w1 W : World} {hb : Nat} (s : KH w1 W hb 16384 [] [] [(0, 0), (1, 0), (2, 1)] Q4 false) : Calls Tryz.prog 10 #[.pointer (some ⟨hb, 0, none⟩), .int .u64 1, .bool false] W fun e w' => e = tE 65552 0 ∧ KH w1 w' hb 16384 [] [] [(0, 0), (1, 0), (2, 1)] Q5 false := s.mal_old 1 (by decide) false 4 (by decide) (by decide) 0 (by decide) rfl (g := 0) (i := 1) (l := []) (rr := List.range' 2 254) rfl rfl
theorem kn8_13 {w1 W : World} {hb : Nat} (s : KH w1 W hb 16384 [] [] [(0, 0), (1, 0), (2, 1)] Q5 false) : Calls Tryz.prog 15 #[.pointer (some ⟨hb, 0, none⟩), .int .u64 73728, .int .u64 4000, .bool false] W fun e w' => e = tE 73728 0 ∧ KH w1 w' hb 16384 [3] [] [(0, 0), (1, 0), (2, 0)] Q5 false := s.shr 73728 2 4000 (by decide) rfl rfl (by decide) (by decide) (by decide) false
theorem kn8_14 {w1 W : World} {hb : Nat} (s : KH w1 W hb 16384 [3] [] [(0, 0), (1, 0), (2, 0)] Q5 false) : Calls Tryz.prog 10 #[.pointer (some ⟨hb, 0, none⟩), .int .u64 3000, .bool false] W fun e w' => e = tE 77824 0 ∧ KH w1 w' hb 16384 [] [] [(0, 0), (1, 0), (2, 0), (3, 0)] Q5 false := s.pg_here 3000 (by decide) (by decide) false
theorem kn8_15 {w1 W : World} {hb : Nat} (s : KH w1 W hb 16384 [] [] [(0, 0), (1, 0), (2, 0), (3, 0)] Q5 false) : Calls Tryz.prog 16 #[.pointer (some ⟨hb, 0, none⟩), .int .u64 65544, .int .u64 5] W fun e w' => e = .returned (.int .i64 0) ∧ KH w1 w' hb 16384 [] [] [(0, 0), (1, 0), (2, 0), (3, 0)] Q5 true := s.storeWord (lkQ rfl rfl)
theorem kn8_16 {w1 W : World} {hb : Nat} (s : KH w1 W hb 16384 [] [] [(0, 0), (1, 0), (2, 0), (3, 0)] Q5 true) : Calls Tryz.prog 14 #[.pointer (some ⟨hb, 0, none⟩), .int .u64 73728] W fun e w' => e = .returned (.int .i64 0) ∧ KH w1 w' hb 16384 [2] [] [(0, 0), (1, 0), (3, 0)] Q5 true := s.free_pages 73728 2 (by decide) rfl rfl (by decide) give2 (lkQ rfl rfl) (by decide)
theorem kn8_17 {w1 W : World} {hb : Nat} (s : KH w1 W hb 16384 [2] [] [(0, 0), (1, 0), (3, 0)] Q5 true) : Calls Tryz.prog 14 #[.pointer (some ⟨hb, 0, none⟩), .int .u64 77824] W fun e w' => e = .returned (.int .i64 0) ∧ KH w1 w' hb 16384 [] [2] [(0, 0), (1, 0)] Q5 true := s.free_pages 77824 3 (by decide) rfl rfl (by decide) give3 (lkQ rfl rfl) (by decide)
theorem kn8_18 {w1 W : World} {hb : Nat} (s : KH w1 W hb 16384 [] [2] [(0, 0), (1, 0)] Q5 true) : Calls Tryz.prog 17 #[.pointer (some ⟨hb, 0, none⟩), .int .u64 65544] W fun e w' => e = .returned (.tuple #[.int .u8 5, .int .i64 0]) ∧ KH w1 w' hb 16384 [] [2] [(0, 0), (1, 0)] Q5 true := s.load (lkQ rfl rfl)
theorem kn8_19 {w1 W : World} {hb : Nat} (s : KH w1 W hb 16384 [] [2] [(0, 0), (1, 0)] Q5 true) : Calls Tryz.prog 18 #[.pointer (some ⟨hb, 0, none⟩), .int .u64 65545] W fun e w' => e = .returned (.tuple #[.int .u64 0, .int .i64 4]) ∧ KH w1 w' hb 16384 [] [2] [(0, 0), (1, 0)] Q5 true := s.loadWord (lkQ rfl rfl)
theorem kn8_20 {w1 W : World} {hb : Nat} (s : KH w1 W hb 16384 [] [2] [(0, 0), (1, 0)] Q5 true) : Calls Tryz.prog 19 #[.pointer (some ⟨hb, 0, none⟩)] W fun e w' => e = .returned (.int .i64 1) ∧ KH w1 w' hb 8192 [] [] [(0, 0), (1, 0)] Q5 true := s.trim (lkQ rfl rfl)
theorem kn8_21 {w1 W : World} {hb : Nat} (s : KH w1 W hb 8192 [] [] [(0, 0), (1, 0)] Q5 true) : Calls Tryz.prog 13 #[.pointer (some ⟨hb, 0, none⟩)] W fun e w' => e = .returned (.agg #[.int .u64 8192, .int .u64 64, .int .i64 3, .int .i64 0]) ∧ KH w1 w' hb 8192 [] [] [(0, 0), (1, 0)] Q5 true := s.stats2 0 1 rfl rfl 64 3 (by decide +kernel) (by decide +kernel)
theorem kn8_end {w1 W : World} {hb : Nat} (s : KH w1 W hb 8192 [] [] [(0, 0), (1, 0)] Q5 true) : Calls Tryz.prog 20 #[.pointer (some ⟨hb, 0, none⟩), .int .u64 0, .int .u64 5, .bool false] W fun e w' => e = tE 65568 0 ∧ Kept none' w1 w' := s.calloc_old 0 5 (by decide) (by decide) (by decide) false (g := 0) (i := 2) (l := []) (rr := List.range' 3 253) rfl rfl
set_option maxRecDepth 8000 in
set_option maxHeartbeats 4000000 in
theorem awake8 (w : World) (hT : Tab w) : Calls Tryz.prog 8 #[] w fun e w' => e = .returned (.bool true) ∧ Kept none' w w' := by
  have NW := hid (new_kh w hT)
  clear hT
  go_enter Tryz.func8, Tryz.ntmps8
  go_wp2_with fail
  refine NW.out.mono ?_
  rintro e W0 ⟨hb, rfl, hs⟩
  have S0 := hid hs
  clear hs NW
  go_wp2_with fail
  refine (aw8_0 S0.out).mono ?_
  rintro e W1 ⟨rfl, hs⟩
  have S1 := hid hs
  clear hs S0
  go_wp2_with fail
  refine (aw8_1 S1.out).mono ?_
  rintro e W2 ⟨rfl, hs⟩
  have S2 := hid hs
  clear hs S1
  go_wp2_with fail
  refine (aw8_2 S2.out).mono ?_
  rintro e W3 ⟨rfl, hs⟩
  have S3 := hid hs
  clear hs S2
  go_wp2_with fail
  refine (aw8_3 S3.out).mono ?_
  rintro e W4 ⟨rfl, hs⟩
  have S4 := hid hs
  clear hs S3
  go_wp2_with fail
  rw [fd1]
  go_wp2_with fail
  go_ret
  exact ⟨rfl, S4.out.kp⟩
set_option maxRecDepth 8000 in
set_option maxHeartbeats 8000000 in
theorem known8 (w : World) (hT : Tab w) : Calls Tryz.prog 3 #[] w fun e w' => e = .returned (.bool true) ∧ Kept none' w w' := by
  have AW := hid (awake8 w hT)
  have NB := hid (fun W => New8_bad 4096 (by decide) 2 1 (by decide) (by decide) (by decide) (by decide) may8n W)
  have NW := hid (fun W (k : Kept none' w W) => new_kh W (fun j hj => k.cell (fun e => e) (hT j hj)))
  clear hT
  go_enter Tryz.func3, Tryz.ntmps3
  go_wp2_with fail
  refine AW.out.mono ?_
  rintro e V1 ⟨rfl, hk⟩
  have K1 := hid hk
  clear hk AW
  go_wp2_with fail
  refine (NB.out _).mono ?_
  rintro e V2 ⟨rfl, hk⟩
  have K2 := hid (none_trans K1.out hk)
  clear hk NB K1
  go_wp2_with fail
  refine (NW.out _ K2.out).mono ?_
  rintro e W0 ⟨hb, rfl, hs⟩
  have S0 := hid hs
  clear hs NW
  go_wp2_with fail
  refine (kn8_0 S0.out).mono ?_
  rintro e W1 ⟨rfl, hs⟩
  have S1 := hid hs
  clear hs S0
  go_wp2_with fail
  refine (kn8_1 S1.out).mono ?_
  rintro e W2 ⟨rfl, hs⟩
  have S2 := hid hs
  clear hs S1
  go_wp2_with fail
  refine (kn8_2 S2.out).mono ?_
  rintro e W3 ⟨rfl, hs⟩
  have S3 := hid hs
  clear hs S2
  go_wp2_with fail
  refine (is_yes 65552 0 _).mono ?_
  rintro e V3 ⟨rfl, hV⟩
  replace hV := hV.symm
  subst hV
  go_wp2_with fail
  refine (kn8_3 S3.out).mono ?_
  rintro e W4 ⟨rfl, hs⟩
  have S4 := hid hs
  clear hs S3
  go_wp2_with fail
  refine (is_yes 73728 0 _).mono ?_
  rintro e V4 ⟨rfl, hV⟩
  replace hV := hV.symm
  subst hV
  go_wp2_with fail
  refine (kn8_4 S4.out).mono ?_
  rintro e W5 ⟨rfl, hs⟩
  have S5 := hid hs
  clear hs S4
  go_wp2_with fail
  refine (is_yes 0 2 _).mono ?_
  rintro e V5 ⟨rfl, hV⟩
  replace hV := hV.symm
  subst hV
  go_wp2_with fail
  refine (kn8_5 S5.out).mono ?_
  rintro e W6 ⟨rfl, hs⟩
  have S6 := hid hs
  clear hs S5
  go_wp2_with fail
  refine (is_yes 0 3 _).mono ?_
  rintro e V6 ⟨rfl, hV⟩
  replace hV := hV.symm
  subst hV
  go_wp2_with fail
  refine (kn8_6 S6.out).mono ?_
  rintro e W7 ⟨rfl, hs⟩
  have S7 := hid hs
  clear hs S6
  go_wp2_with fail
  refine (is_yes 0 1 _).mono ?_
  rintro e V7 ⟨rfl, hV⟩
  replace hV := hV.symm
  subst hV
  go_wp2_with fail
  refine (kn8_7 S7.out).mono ?_
  rintro e W8 ⟨rfl, hs⟩
  have S8 := hid hs
  clear hs S7
  go_wp2_with fail
  refine (kn8_8 S8.out).mono ?_
  rintro e W9 ⟨rfl, hs⟩
  have S9 := hid hs
  clear hs S8
  go_wp2_with fail
  refine (kn8_9 S9.out).mono ?_
  rintro e W10 ⟨rfl, hs⟩
  have S10 := hid hs
  clear hs S9
  go_wp2_with fail
  refine (kn8_10 S10.out).mono ?_
  rintro e W11 ⟨rfl, hs⟩
  have S11 := hid hs
  clear hs S10
  go_wp2_with fail
  refine (kn8_11 S11.out).mono ?_
  rintro e W12 ⟨rfl, hs⟩
  have S12 := hid hs
  clear hs S11
  go_wp2_with fail
  refine (kn8_12 S12.out).mono ?_
  rintro e W13 ⟨rfl, hs⟩
  have S13 := hid hs
  clear hs S12
  go_wp2_with fail
  refine (is_yes 65552 0 _).mono ?_
  rintro e V13 ⟨rfl, hV⟩
  replace hV := hV.symm
  subst hV
  go_wp2_with fail
  refine (kn8_13 S13.out).mono ?_
  rintro e W14 ⟨rfl, hs⟩
  have S14 := hid hs
  clear hs S13
  go_wp2_with fail
  refine (is_yes 73728 0 _).mono ?_
  rintro e V14 ⟨rfl, hV⟩
  replace hV := hV.symm
  subst hV
  go_wp2_with fail
  refine (kn8_14 S14.out).mono ?_
  rintro e W15 ⟨rfl, hs⟩
  have S15 := hid hs
  clear hs S14
  go_wp2_with fail
  refine (is_yes 77824 0 _).mono ?_
  rintro e V15 ⟨rfl, hV⟩
  replace hV := hV.symm
  subst hV
  go_wp2_with fail
  refine (kn8_15 S15.out).mono ?_
  rintro e W16 ⟨rfl, hs⟩
  have S16 := hid hs
  clear hs S15
  go_wp2_with fail
  refine (kn8_16 S16.out).mono ?_
  rintro e W17 ⟨rfl, hs⟩
  have S17 := hid hs
  clear hs S16
  go_wp2_with fail
  refine (kn8_17 S17.out).mono ?_
  rintro e W18 ⟨rfl, hs⟩
  have S18 := hid hs
  clear hs S17
  go_wp2_with fail
  refine (kn8_18 S18.out).mono ?_
  rintro e W19 ⟨rfl, hs⟩
  have S19 := hid hs
  clear hs S18
  go_wp2_with fail
  refine (kn8_19 S19.out).mono ?_
  rintro e W20 ⟨rfl, hs⟩
  have S20 := hid hs
  clear hs S19
  go_wp2_with fail
  refine (kn8_20 S20.out).mono ?_
  rintro e W21 ⟨rfl, hs⟩
  have S21 := hid hs
  clear hs S20
  go_wp2_with fail
  refine (kn8_21 S21.out).mono ?_
  rintro e W22 ⟨rfl, hs⟩
  have S22 := hid hs
  clear hs S21
  go_wp2_with fail
  refine (kn8_end S22.out).mono ?_
  rintro e V3 ⟨rfl, hk⟩
  have D := hid (none_trans K2.out hk)
  clear hk
  go_wp2_with fail
  refine (is_yes 65568 0 _).mono ?_
  rintro e V4 ⟨rfl, hV⟩
  replace hV := hV.symm
  subst hV
  go_wp2_with fail
  go_ret
  exact ⟨rfl, D.out⟩
end Go.Proofs.YtgjapopddblpoaaGreatDoor
