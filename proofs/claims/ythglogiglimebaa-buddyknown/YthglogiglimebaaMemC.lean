/- Byte, SetByte, Word, SetWord, Fill, Copy, Read, Write where their bytes are not there, or are none. -/
import Derived.Test.YthglogiglimebaaMemB
namespace Go.Proofs.Ythglogiglimebaa.M
open Go.RowKit
set_option linter.unusedVariables false

theorem mkf : ∀ (fn : Fn) (first cap : Array Value) (w : World), (Instr.makeFunc fn first cap).run Try.prog w = .ok (.func fn first cap) w := fun _ _ _ _ => rfl

theorem Byte_out (b ao base R lim n f) (p k : Nat) (v : Int) (va : Option Addr) (vc : Nat) (w : World) (h : SpaceAt w b ao base R lim n f) (hp : p < 18446744073709551616) (hk : k < 18446744073709551616) (hk0 : 0 < k) (hin : ¬ In base n p 1) :
    Calls Try.prog 60 #[.pointer (some ⟨b, 0, none⟩), .int .u64 (p : Int)] w fun e w' => e = .returned (.tuple #[.int .u8 0, .int .i64 4]) ∧ Kept none' w w' := by
  have hmf := mkf
  have HH := hid h
  have HI := hid hin
  clear h hin
  go_enter_defers Try.func60, Try.ntmps60
  go_wp2_with fail
  refine (at_out b ao base R lim n f p 1 _ (HH.out.keep (Err.mk' none' w).k) hp (by omega) (by omega) HI.out).mono ?_
  rintro e w1 ⟨rfl, m, hw⟩
  have hE : Err none' w w1 := by rw [hw]; exact (Err.mk' none' w).drewN m
  have hec := hE.c
  have hef := hE.f
  have HE := hid hE
  clear hE hw
  refine leaves_cons (f := 83) (args := #[.pointer (some ⟨w.heap.size, 0, none⟩)]) (by simp) (by simp [go_sem]) ?_
  refine (cpByte ⟨w.heap.size, 0, none⟩ 0 _ _ [] w1 hec hef).mono ?_
  rintro e u' w'' ⟨rfl, rfl, rfl⟩
  refine ⟨(.tuple #[.int .u8 0, .int .i64 4]), ?_, rfl, HE.out.done _⟩
  simp [results, Try.results60, go_sem, hec]
theorem Word_out (b ao base R lim n f) (p k : Nat) (v : Int) (va : Option Addr) (vc : Nat) (w : World) (h : SpaceAt w b ao base R lim n f) (hp : p < 18446744073709551616) (hk : k < 18446744073709551616) (hk0 : 0 < k) (hin : ¬ In base n p 8) :
    Calls Try.prog 94 #[.pointer (some ⟨b, 0, none⟩), .int .u64 (p : Int)] w fun e w' => e = .returned (.tuple #[.int .u64 0, .int .i64 4]) ∧ Kept none' w w' := by
  have hmf := mkf
  have HH := hid h
  have HI := hid hin
  clear h hin
  go_enter_defers Try.func94, Try.ntmps94
  go_wp2_with fail
  refine (at_out b ao base R lim n f p 8 _ (HH.out.keep (Err.mk' none' w).k) hp (by omega) (by omega) HI.out).mono ?_
  rintro e w1 ⟨rfl, m, hw⟩
  have hE : Err none' w w1 := by rw [hw]; exact (Err.mk' none' w).drewN m
  have hec := hE.c
  have hef := hE.f
  have HE := hid hE
  clear hE hw
  refine leaves_cons (f := 101) (args := #[.pointer (some ⟨w.heap.size, 0, none⟩)]) (by simp) (by simp [go_sem]) ?_
  refine (cpWord ⟨w.heap.size, 0, none⟩ 0 _ _ [] w1 hec hef).mono ?_
  rintro e u' w'' ⟨rfl, rfl, rfl⟩
  refine ⟨(.tuple #[.int .u64 0, .int .i64 4]), ?_, rfl, HE.out.done _⟩
  simp [results, Try.results94, go_sem, hec]
theorem SetWord_out (b ao base R lim n f) (p k : Nat) (v : Int) (va : Option Addr) (vc : Nat) (w : World) (h : SpaceAt w b ao base R lim n f) (hp : p < 18446744073709551616) (hk : k < 18446744073709551616) (hk0 : 0 < k) (hin : ¬ In base n p 8) :
    Calls Try.prog 95 #[.pointer (some ⟨b, 0, none⟩), .int .u64 (p : Int), .int .u64 v] w fun e w' => e = .returned (.int .i64 4) ∧ Kept none' w w' := by
  have hmf := mkf
  have HH := hid h
  have HI := hid hin
  clear h hin
  go_enter_defers Try.func95, Try.ntmps95
  go_wp2_with fail
  refine (at_out b ao base R lim n f p 8 _ (HH.out.keep (Err.mk' none' w).k) hp (by omega) (by omega) HI.out).mono ?_
  rintro e w1 ⟨rfl, m, hw⟩
  have hE : Err none' w w1 := by rw [hw]; exact (Err.mk' none' w).drewN m
  have hec := hE.c
  have hef := hE.f
  have HE := hid hE
  clear hE hw
  refine leaves_cons (f := 102) (args := #[.pointer (some ⟨w.heap.size, 0, none⟩)]) (by simp) (by simp [go_sem]) ?_
  refine (cpSetWord ⟨w.heap.size, 0, none⟩ 0 _ _ [] w1 hec hef).mono ?_
  rintro e u' w'' ⟨rfl, rfl, rfl⟩
  refine ⟨(.int .i64 4), ?_, rfl, HE.out.done _⟩
  simp [results, Try.results95, go_sem, hec]
end Go.Proofs.Ythglogiglimebaa.M
