/- awake. -/
import Derived.Test.YtahdjaocfejjeabBl
namespace Go.Proofs.Ytahdjaocfejjeab
open Go.RowKit
set_option linter.unusedVariables false

theorem newSetS_any (n : Int) (hlo : -9223372036854775808 ≤ n) (hhi : n ≤ 9223372036854775807) (w : World) :
    Calls Try.prog 23 #[.int .i64 n] w fun e w' => e = .returned (.pointer (some ⟨w.heap.size + 1, 0, none⟩)) ∧ SetAt w' (w.heap.size + 1) w.heap.size (fit n) (zeros ((fit n + 63) / 64)) ∧ Kept (fun _ => False) w w' ∧ w'.heap.size = w.heap.size + 2 :=
  (newSet_any n hlo hhi w).mono fun e w' ⟨he, hr, hk, hs⟩ => ⟨he, hr.set (fun i _ => by rw [zeros_get]; exact Nat.two_pow_pos _), hk, hs⟩

/-- A slice of one word that has just been made. -/
theorem src_one (w : World) (x : Nat) (hx : x < 2 ^ 64) : Src (w.alloc (.cells #[.int .u64 (x : Int)] 22)) (.slice (some ⟨w.heap.size, 0, none⟩) 1 1) [x] := by
  have := src_block (w := w.alloc (.cells #[.int .u64 (x : Int)] 22)) (g := w.heap.size) (zs := [x]) (heap_new _ _) (fun i => by
    cases i with
    | zero => simpa using hx
    | succ i => simp) 1
  exact this

theorem awake_any (w : World) :
    Calls Try.prog 7 #[] w fun e w' => e = .returned (.bool true) ∧ Kept (fun _ => False) w w' := by
  have c5 : ∀ w, Calls Try.prog 22 #[.int .u8 5] w fun e w' => e = .returned (.tuple #[.int .u8 8, .bool true]) ∧ w' = w := fun w => ceil_8 5 (by decide) w
  have C5 := hid c5
  have f70 : fit 70 = 70 := rfl
  have g2 : inS (fit 3) (ofW [5] (fit 3)) 2 = true := by decide
  have l3 : (ofW [5] (fit 3)).length = 1 := by decide
  clear c5
  go_enter Try.func7, Try.ntmps7
  go_wp2_with (first | (go_at_call 22; refine (C5.out _).mono ?_; rintro e w' ⟨rfl, rfl⟩) | (go_at_call 23; refine (newSetS_any 70 (by decide) (by decide) _).mono ?_; rintro e w1 ⟨rfl, hA, hk, hsz⟩; have HA := hid hA; have HK := hid hk; clear hsz hA hk) | (go_at_call 14; refine (of_any _ [5] 3 (by decide) (by decide) _ (src_one _ 5 (by decide))).mono ?_; rintro e w2 ⟨rfl, hU, hk, hsz⟩; simp only [World.size_alloc] at hU; have hk2 := ((Kept.refl (fun _ => False) w1).alloc (.cells #[.int .u64 5] 22)).trans (U := fun _ => False) hk (fun _ _ x => x) (fun _ _ x => x); have HU := hid hU; have HA2 := hid (HA.out.kept hk2 (fun x => x) (fun x => x)); have HK2 := hid (HK.out.trans (U := fun _ => False) hk2 (fun _ _ x => x) (fun _ _ x => x)); clear hsz hU hk hk2) | (go_at_call 17; refine (len_any _ _ _ _ _ HA2.out).mono ?_; rintro e w' ⟨rfl, rfl⟩) | (go_at_call 18; refine (get_any _ _ _ _ _ _ HU.out).mono ?_; rintro e w' ⟨rfl, rfl⟩) | (go_at_call 20; refine (words_any _ _ _ _ _ HU.out).mono ?_; rintro e w3 ⟨rfl, hg, hk, hsz⟩; have HK3 := hid (HK2.out.trans (U := fun _ => False) hk (fun _ _ x => x) (fun _ _ x => x)); clear hg hk hsz))
  go_ret
  exact ⟨rfl, HK3.out⟩
end Go.Proofs.Ytahdjaocfejjeab
