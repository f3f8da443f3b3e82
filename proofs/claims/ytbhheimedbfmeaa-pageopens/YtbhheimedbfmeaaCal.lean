/- croftlaw4: call. -/
import Derived.Test.YtbhheimedbfmeaaPgS
namespace Go.Proofs.Ytbhheimedbfmeaa
open Go.RowKit
set_option linter.unusedVariables false

theorem Aft.pre {w W w' b B o m'} (k : Kept none' w W) (h : Aft W w' b B o m') : Aft w w' b B o m' := by
  obtain ⟨B', h1, h2, h3⟩ := h
  exact ⟨B', h1, k.trans h2 (fun _ _ x => x.elim) (fun _ _ x => x), fun x hx => (h3 x hx).imp (fun h => h) (fun h => Nat.le_trans k.size h)⟩
abbrev opV (k p x y : Int) (l : Bool) : Value := .agg #[.int .i64 k, .int .i64 p, .int .i64 x, .int .i64 y, .bool l]
abbrev opO (k p x y : Int) (l : Bool) : Obj := .cells #[.int .i64 k, .int .i64 p, .int .i64 x, .int .i64 y, .bool l] 59

theorem call_1 (b : Nat) (B : Bs) (m : Mp) (p x y : Int) (l : Bool) (w : World) (h : MapAt w b B m) :
    Calls Try.prog 27 #[.pointer (some ⟨b, 0, none⟩), opV 1 p x y l] w fun e w' => e = .returned (.bool (true)) ∧ Aft w w' b B m.o (growM m) := by
  have K0 := hid ((Kept.refl none' w).alloc (opO 1 p x y l))
  have HM := hid (h.keep K0.out)
  clear h
  go_enter Try.func27, Try.ntmps27
  go_wp2_with fail
  refine (Grow_any b B m _ HM.out).mono ?_
  rintro e w1 ⟨rfl, hA⟩
  have HA := hid (Aft.pre K0.out (show Aft _ w1 b B m.o (growM m) from hA))
  clear hA
  go_wp2_with fail
  go_ret
  exact ⟨rfl, HA.out⟩

theorem call_2 (b : Nat) (B : Bs) (m : Mp) (p x y : Int) (l : Bool) (w : World) (h : MapAt w b B m) :
    Calls Try.prog 27 #[.pointer (some ⟨b, 0, none⟩), opV 2 p x y l] w fun e w' => e = .returned (.bool (shrinkE m x == 0)) ∧ Aft w w' b B m.o (shrinkM m x) := by
  have K0 := hid ((Kept.refl none' w).alloc (opO 2 p x y l))
  have HM := hid (h.keep K0.out)
  clear h
  go_enter Try.func27, Try.ntmps27
  go_wp2_with fail
  refine (Shrink_any b B m x _ HM.out).mono ?_
  rintro e w1 ⟨rfl, hA⟩
  have HA := hid (Aft.pre K0.out (show Aft _ w1 b B m.o (shrinkM m x) from hA))
  clear hA
  go_wp2_with fail
  go_ret
  exact ⟨rfl, HA.out⟩

theorem call_3 (b : Nat) (B : Bs) (m : Mp) (p x y : Int) (l : Bool) (w : World) (h : MapAt w b B m) :
    Calls Try.prog 27 #[.pointer (some ⟨b, 0, none⟩), opV 3 p x y l] w fun e w' => e = .returned (.bool (runE m p x y == 0)) ∧ Aft w w' b B m.o (runM m p x y) := by
  have K0 := hid ((Kept.refl none' w).alloc (opO 3 p x y l))
  have HM := hid (h.keep K0.out)
  clear h
  go_enter Try.func27, Try.ntmps27
  go_wp2_with fail
  refine (Run_any b B m p x y _ HM.out).mono ?_
  rintro e w1 ⟨rfl, hA1, hA2⟩
  have HA := hid (Aft.pre K0.out (show Aft _ w1 b B m.o (runM m p x y) from (Aft.mk hA1 hA2)))
  clear hA1 hA2
  go_wp2_with fail
  go_ret
  exact ⟨rfl, HA.out⟩

theorem call_4 (b : Nat) (B : Bs) (m : Mp) (p x y : Int) (l : Bool) (w : World) (h : MapAt w b B m) :
    Calls Try.prog 27 #[.pointer (some ⟨b, 0, none⟩), opV 4 p x y l] w fun e w' => e = .returned (.bool (slabE m p x == 0)) ∧ Aft w w' b B m.o (slabM m p x) := by
  have K0 := hid ((Kept.refl none' w).alloc (opO 4 p x y l))
  have HM := hid (h.keep K0.out)
  clear h
  go_enter Try.func27, Try.ntmps27
  go_wp2_with fail
  refine (Slab_any b B m p x _ HM.out).mono ?_
  rintro e w1 ⟨rfl, hA⟩
  have HA := hid (Aft.pre K0.out (show Aft _ w1 b B m.o (slabM m p x) from hA))
  clear hA
  go_wp2_with fail
  go_ret
  exact ⟨rfl, HA.out⟩

theorem call_5 (b : Nat) (B : Bs) (m : Mp) (p x y : Int) (l : Bool) (w : World) (h : MapAt w b B m) :
    Calls Try.prog 27 #[.pointer (some ⟨b, 0, none⟩), opV 5 p x y l] w fun e w' => e = .returned (.bool (ownE m p x l == 0)) ∧ Aft w w' b B m.o (ownM m p x l) := by
  have K0 := hid ((Kept.refl none' w).alloc (opO 5 p x y l))
  have HM := hid (h.keep K0.out)
  clear h
  go_enter Try.func27, Try.ntmps27
  go_wp2_with fail
  refine (Own_any b B m p x l _ HM.out).mono ?_
  rintro e w1 ⟨rfl, hA⟩
  have HA := hid (Aft.pre K0.out (show Aft _ w1 b B m.o (ownM m p x l) from hA))
  clear hA
  go_wp2_with fail
  go_ret
  exact ⟨rfl, HA.out⟩

theorem call_6 (b : Nat) (B : Bs) (m : Mp) (p x y : Int) (l : Bool) (w : World) (h : MapAt w b B m) :
    Calls Try.prog 27 #[.pointer (some ⟨b, 0, none⟩), opV 6 p x y l] w fun e w' => e = .returned (.bool (chainE m p x y == 0)) ∧ Aft w w' b B m.o (chainM m p x y) := by
  have K0 := hid ((Kept.refl none' w).alloc (opO 6 p x y l))
  have HM := hid (h.keep K0.out)
  clear h
  go_enter Try.func27, Try.ntmps27
  go_wp2_with fail
  refine (Chain_any b B m p x y _ HM.out).mono ?_
  rintro e w1 ⟨rfl, hA⟩
  have HA := hid (Aft.pre K0.out (show Aft _ w1 b B m.o (chainM m p x y) from hA))
  clear hA
  go_wp2_with fail
  go_ret
  exact ⟨rfl, HA.out⟩

theorem call_7 (b : Nat) (B : Bs) (m : Mp) (p x y : Int) (l : Bool) (w : World) (h : MapAt w b B m) :
    Calls Try.prog 27 #[.pointer (some ⟨b, 0, none⟩), opV 7 p x y l] w fun e w' => e = .returned (.bool (firstE m p x == 0)) ∧ Aft w w' b B m.o (firstM m p x) := by
  have K0 := hid ((Kept.refl none' w).alloc (opO 7 p x y l))
  have HM := hid (h.keep K0.out)
  clear h
  go_enter Try.func27, Try.ntmps27
  go_wp2_with fail
  refine (First_any b B m p x _ HM.out).mono ?_
  rintro e w1 ⟨rfl, hA⟩
  have HA := hid (Aft.pre K0.out (show Aft _ w1 b B m.o (firstM m p x) from hA))
  clear hA
  go_wp2_with fail
  go_ret
  exact ⟨rfl, HA.out⟩

theorem call_8 (b : Nat) (B : Bs) (m : Mp) (k : Int) (q1 : k ≠ 1) (q2 : k ≠ 2) (q3 : k ≠ 3) (q4 : k ≠ 4) (q5 : k ≠ 5) (q6 : k ≠ 6) (q7 : k ≠ 7) (p x y : Int) (l : Bool) (w : World) (h : MapAt w b B m) :
    Calls Try.prog 27 #[.pointer (some ⟨b, 0, none⟩), opV k p x y l] w fun e w' => e = .returned (.bool (flipE m x p == 0)) ∧ Aft w w' b B m.o (flipM m x p) := by
  have K0 := hid ((Kept.refl none' w).alloc (opO k p x y l))
  have HM := hid (h.keep K0.out)
  have r1 : (k == 1) = false := beq_eq_false_iff_ne.2 q1
  have r2 : (k == 2) = false := beq_eq_false_iff_ne.2 q2
  have r3 : (k == 3) = false := beq_eq_false_iff_ne.2 q3
  have r4 : (k == 4) = false := beq_eq_false_iff_ne.2 q4
  have r5 : (k == 5) = false := beq_eq_false_iff_ne.2 q5
  have r6 : (k == 6) = false := beq_eq_false_iff_ne.2 q6
  have r7 : (k == 7) = false := beq_eq_false_iff_ne.2 q7
  clear q1 q2 q3 q4 q5 q6 q7
  clear h
  go_enter Try.func27, Try.ntmps27
  go_wp2_with fail
  refine (Flip_any b B m x p _ HM.out).mono ?_
  rintro e w1 ⟨rfl, hA⟩
  have HA := hid (Aft.pre K0.out (show Aft _ w1 b B m.o (flipM m x p) from hA))
  clear hA
  go_wp2_with fail
  go_ret
  exact ⟨rfl, HA.out⟩

def callM (m : Mp) (k p x y : Int) (l : Bool) : Mp :=
  if k = 1 then growM m else if k = 2 then shrinkM m x else if k = 3 then runM m p x y else if k = 4 then slabM m p x else if k = 5 then ownM m p x l else if k = 6 then chainM m p x y else if k = 7 then firstM m p x else flipM m x p
def callE (m : Mp) (k p x y : Int) (l : Bool) : Bool :=
  if k = 1 then true else if k = 2 then (shrinkE m x == 0) else if k = 3 then (runE m p x y == 0) else if k = 4 then (slabE m p x == 0) else if k = 5 then (ownE m p x l == 0) else if k = 6 then (chainE m p x y == 0) else if k = 7 then (firstE m p x == 0) else (flipE m x p == 0)
theorem call_any (b : Nat) (B : Bs) (m : Mp) (k p x y : Int) (l : Bool) (w : World) (h : MapAt w b B m) :
    Calls Try.prog 27 #[.pointer (some ⟨b, 0, none⟩), opV k p x y l] w fun e w' => e = .returned (.bool (callE m k p x y l)) ∧ Aft w w' b B m.o (callM m k p x y l) := by
  by_cases q1 : k = 1
  · subst q1
    exact call_1 b B m p x y l w h
  by_cases q2 : k = 2
  · subst q2
    exact call_2 b B m p x y l w h
  by_cases q3 : k = 3
  · subst q3
    exact call_3 b B m p x y l w h
  by_cases q4 : k = 4
  · subst q4
    exact call_4 b B m p x y l w h
  by_cases q5 : k = 5
  · subst q5
    exact call_5 b B m p x y l w h
  by_cases q6 : k = 6
  · subst q6
    exact call_6 b B m p x y l w h
  by_cases q7 : k = 7
  · subst q7
    exact call_7 b B m p x y l w h
  rw [show callE m k p x y l = (flipE m x p == 0) by simp [callE, q1, q2, q3, q4, q5, q6, q7], show callM m k p x y l = flipM m x p by simp [callM, q1, q2, q3, q4, q5, q6, q7]]
  exact call_8 b B m k q1 q2 q3 q4 q5 q6 q7 p x y l w h
end Go.Proofs.Ytbhheimedbfmeaa
