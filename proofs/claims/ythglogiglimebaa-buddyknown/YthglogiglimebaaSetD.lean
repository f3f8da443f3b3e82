/- bits.Words, Count, Resize, Next. -/
import Derived.Test.YthglogiglimebaaSetC
namespace Go.Proofs.Ythglogiglimebaa
open Go.RowKit
set_option linter.unusedVariables false

theorem make_own (m : Nat) (hm : m ≤ 1048576) (w : World) :
    ∃ w1, (Instr.makeSlice 43 (.int .i64 (m : Int)) (.int .i64 (m : Int))).run Try.prog w = .ok (.slice (some ⟨w.heap.size, 0, none⟩) m m) w1 ∧ w1.heap[w.heap.size]? = some (.cells (wcells (zeros m)) 24 (0, 0)) ∧ Kept (fun _ => False) w w1 ∧ w1.heap.size = w.heap.size + 1 :=
  ⟨_, make_words m hm w, heap_new _ _, (Kept.refl _ w).alloc _, by simp⟩

/-- A block of words as a source. -/
theorem src_block {w : World} {g : Nat} {zs : List Nat} (hg : w.heap[g]? = some (.cells (wcells zs) 24 (0, 0))) (hz : ∀ i, zs.getD i 0 < 2 ^ 64) (cap : Nat) : Src w (.slice (some ⟨g, 0, none⟩) zs.length cap) zs := by
  refine ⟨hz, some ⟨g, 0, none⟩, cap, rfl, Or.inr ⟨⟨g, 0, none⟩, rfl, (Array.getElem?_eq_some_iff.1 hg).1, fun j hj => ?_⟩⟩
  rw [Addr.add_lit]
  simp [World.cell?, hg, wcells, hj]

theorem over_self (zs ws : List Nat) (h : zs.length = ws.length) : over zs ws = zs := by
  simp [over, h]
  rw [← h, List.take_of_length_le (Nat.le_refl _)]

/-- How many bits of the first k words are 1. -/
def cntTo (ws : List Nat) (k : Nat) : Nat := ((List.range k).map fun i => cnt (ws.getD i 0)).sum
theorem cntTo_succ (ws : List Nat) (k : Nat) : cntTo ws (k + 1) = cntTo ws k + cnt (ws.getD k 0) := by
  simp [cntTo, List.range_succ]
theorem cntTo_le (ws : List Nat) (hz : ∀ i, ws.getD i 0 < 2 ^ 64) (k : Nat) : cntTo ws k ≤ 64 * k := by
  induction k with
  | zero => simp [cntTo]
  | succ k ih => rw [cntTo_succ]; have := cnt_le (ws.getD k 0) (hz k); omega
def cntS (ws : List Nat) : Nat := cntTo ws ws.length

theorem SetAt.stored {w : World} {b c n ws b' c' n' ws'} (hB : SetAt w b c n ws) (hA : SetAt w b' c' n' ws') (hne : c' ≠ b) :
    SetAt ((w.setCell ⟨b, 0, none⟩ (.int .i64 (n' : Int))).setCell ⟨b, 1, none⟩ (.slice (some ⟨c', 0, none⟩) ws'.length ws'.length)) b c' n' ws' := by
  refine ⟨hne, ?_, ?_, hA.len, hA.nle, hA.ok⟩
  · simp [World.setCell, Array.getElem?_modify, hB.hb]
  · rw [Below.heap_setCell _ _ _ _ hne, Below.heap_setCell _ _ _ _ hne]; exact hA.hc

theorem resize_any (b c n : Nat) (ws : List Nat) (i : Int) (hlo : -9223372036854775808 ≤ i) (hhi : i ≤ 9223372036854775807) (w : World) (h : SetAt w b c n ws) :
    Calls Try.prog 81 #[.pointer (some ⟨b, 0, none⟩), .int .i64 i] w fun e w' => e = .returned (.tuple #[]) ∧ SetAt w' b w.heap.size (fit i) (ofW ws (fit i)) ∧ Kept (fun x => x = b) w w' ∧ w'.heap.size = w.heap.size + 2 := by
  have h1 := h.cb1
  have HA := hid h
  have HS := hid (src_block h.hc h.lt64 ws.length)
  clear h
  go_enter Try.func81, Try.ntmps81
  go_wp2_with (go_at_call 98; refine (of_any _ ws i hlo hhi _ HS.out).mono ?_; rintro e w1 ⟨rfl, hA1, hk1, hs1⟩; have g0 := hA1.cb0; have g1 := hA1.cb1; have hB := HA.out.kept hk1 (fun x => x) (fun x => x); have b0 := hB.cb0; have b1 := hB.cb1; have f0 := hB.fb 0; have f1 := hB.fb 1; have HA1 := hid hA1; have HB := hid hB; have HK := hid hk1; have HZ := hid hs1; clear hA1 hB hk1 hs1)
  go_end0
  have hb := HA.out.raw.bc
  have hz := HZ.out
  refine ⟨rfl, HB.out.stored HA1.out (by omega), ?_, by simp; omega⟩
  exact ((HK.out.mono (T := fun x => x = b) (fun _ _ x => x.elim)).setCell (p := ⟨b, 0, none⟩) rfl _).setCell (p := ⟨b, 1, none⟩) rfl _
end Go.Proofs.Ythglogiglimebaa
