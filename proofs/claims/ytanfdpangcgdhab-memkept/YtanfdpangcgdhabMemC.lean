/- Byte, SetByte, Word, SetWord, Fill, Copy, Read, Write where their bytes are not there, or are none. -/
import Derived.Test.YtanfdpangcgdhabMemB
namespace Go.Proofs.Ytanfdpangcgdhab
open Go.RowKit
set_option linter.unusedVariables false

theorem mkf : ∀ (fn : Fn) (first cap : Array Value) (w : World), (Instr.makeFunc fn first cap).run Try.prog w = .ok (.func fn first cap) w := fun _ _ _ _ => rfl

theorem Read_out (b ao base R lim n f) (p k : Nat) (v : Int) (va : Option Addr) (vc : Nat) (w : World) (h : SpaceAt w b ao base R lim n f) (hp : p < 18446744073709551616) (hk : k < 18446744073709551616) (hk0 : 0 < k) (hin : ¬ In base n p k) :
    Calls Try.prog 7 #[.pointer (some ⟨b, 0, none⟩), .int .u64 (p : Int), .int .u64 (k : Int)] w fun e w' => e = .returned (.tuple #[.slice none 0 0, .int .i64 4]) ∧ Kept none' w w' := by
  have hmf := mkf
  have HH := hid h
  have HI := hid hin
  clear h hin
  go_enter_defers Try.func7, Try.ntmps7
  go_wp2_with fail
  refine (at_out b ao base R lim n f p k _ (HH.out.keep (Err.mk' none' w).k) hp (by omega) (by omega) HI.out).mono ?_
  rintro e w1 ⟨rfl, m, hw⟩
  have hE : Err none' w w1 := by rw [hw]; exact (Err.mk' none' w).drewN m
  have hec := hE.c
  have hef := hE.f
  have HE := hid hE
  clear hE hw
  refine leaves_cons (f := 13) (args := #[.pointer (some ⟨w.heap.size, 0, none⟩)]) (by simp) (by simp [go_sem]) ?_
  refine (cpRead ⟨w.heap.size, 0, none⟩ 0 _ _ [] w1 hec hef).mono ?_
  rintro e u' w'' ⟨rfl, rfl, rfl⟩
  refine ⟨(.tuple #[.slice none 0 0, .int .i64 4]), ?_, rfl, HE.out.done _⟩
  simp [results, Try.results7, go_sem, hec]
theorem Write_out (b ao base R lim n f) (p k : Nat) (v : Int) (va : Option Addr) (vc : Nat) (w : World) (h : SpaceAt w b ao base R lim n f) (hp : p < 18446744073709551616) (hk : k < 9223372036854775808) (hk0 : 0 < k) (hin : ¬ In base n p k) :
    Calls Try.prog 5 #[.pointer (some ⟨b, 0, none⟩), .int .u64 (p : Int), .slice va k vc] w fun e w' => e = .returned (.int .i64 4) ∧ Kept none' w w' := by
  have hmf := mkf
  have HH := hid h
  have HI := hid hin
  clear h hin
  go_enter_defers Try.func5, Try.ntmps5
  go_wp2_with fail
  refine (at_out b ao base R lim n f p k _ (HH.out.keep (Err.mk' none' w).k) hp (by omega) (by omega) HI.out).mono ?_
  rintro e w1 ⟨rfl, m, hw⟩
  have hE : Err none' w w1 := by rw [hw]; exact (Err.mk' none' w).drewN m
  have hec := hE.c
  have hef := hE.f
  have HE := hid hE
  clear hE hw
  refine leaves_cons (f := 10) (args := #[.pointer (some ⟨w.heap.size, 0, none⟩)]) (by simp) (by simp [go_sem]) ?_
  refine (cpWrite ⟨w.heap.size, 0, none⟩ 0 _ _ [] w1 hec hef).mono ?_
  rintro e u' w'' ⟨rfl, rfl, rfl⟩
  refine ⟨(.int .i64 4), ?_, rfl, HE.out.done _⟩
  simp [results, Try.results5, go_sem, hec]
end Go.Proofs.Ytanfdpangcgdhab
