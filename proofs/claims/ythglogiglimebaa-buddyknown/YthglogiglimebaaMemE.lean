/- Slices of bytes that can be read; Copy, Read, Write. -/
import Derived.Test.YthglogiglimebaaMemD
namespace Go.Proofs.Ythglogiglimebaa.M
open Go.RowKit
set_option linter.unusedVariables false

/-- A slice of m bytes that can be read. -/
def Bytes (w : World) (v : Value) (m : Nat) (g : Nat → Nat) : Prop :=
  (∀ i, i < m → g i < 256) ∧ ∃ ao cap, v = .slice ao m cap ∧ (m = 0 ∨ ∃ a : Addr, ao = some a ∧ a.block < w.heap.size ∧ ∀ j, j < m → w.cell? (a.add j) = some (.int .u8 ((g j : Nat) : Int)))

theorem addr_add_block (a : Addr) (j : Nat) : (a.add j).block = a.block := by unfold Addr.add; split <;> rfl

theorem Bytes.kept {w w' : World} {S : Nat → Prop} {v : Value} {m : Nat} {g : Nat → Nat} (h : Bytes w v m g) (k : Kept S w w') (hS : ∀ b, v.ownBlock = some b → ¬ S b) : Bytes w' v m g := by
  obtain ⟨h1, ao, cap, rfl, h2⟩ := h
  refine ⟨h1, ao, cap, rfl, ?_⟩
  rcases h2 with h2 | ⟨a, rfl, hb, hc⟩
  · exact Or.inl h2
  · refine Or.inr ⟨a, rfl, Nat.lt_of_lt_of_le hb k.size, fun j hj => ?_⟩
    rw [← hc j hj]
    exact World.cell?_of_block (by rw [addr_add_block]; exact k.block _ hb (hS a.block rfl))
theorem Bytes.keep {w w' : World} {v : Value} {m : Nat} {g : Nat → Nat} (h : Bytes w v m g) (k : Kept none' w w') : Bytes w' v m g := h.kept k (fun _ _ x => x)

theorem info_u8 : (Try.prog.info? 5).map (fun i => (i.zero, i.size, i.bytes)) = some (some (.int .u8 0), 1, 1) := by kernel_rfl

/-- m bytes of g. -/
def told (m : Nat) (g : Nat → Nat) : List Nat := (List.range m).map g
theorem told_len (m : Nat) (g : Nat → Nat) : (told m g).length = m := by simp [told]
theorem told_get (m : Nat) (g : Nat → Nat) (i : Nat) (hi : i < m) : (told m g).getD i 0 = g i := by simp [told, List.getD, hi]

/-- A block of m bytes. -/
def Blk (w : World) (h m : Nat) (g : Nat → Nat) : Prop := (∀ i, i < m → g i < 256) ∧ w.heap[h]? = some (.cells (bcells (told m g)) 5 (0, 0))
theorem Blk.lt {w h m g} (H : Blk w h m g) : h < w.heap.size := (Array.getElem?_eq_some_iff.1 H.2).1
theorem Blk.cell {w h m g} (H : Blk w h m g) (i : Nat) (hi : i < m) : w.cell? ⟨h, i, none⟩ = some (.int .u8 ((g i : Nat) : Int)) := by
  have := told_get m g i hi
  rw [← this]
  simp [World.cell?, H.2, bcells, told_len, hi]
theorem Blk.frozen {w h m g} (H : Blk w h m g) (i : Nat) : w.frozen? ⟨h, i, none⟩ = false := by simp [World.frozen?, H.2]
theorem Blk.kept {w w' h m g} {S : Nat → Prop} (H : Blk w h m g) (k : Kept S w w') (hS : ¬ S h) : Blk w' h m g := ⟨H.1, (k.block h H.lt hS).trans H.2⟩
theorem Blk.bytes {w h m g} (H : Blk w h m g) (cap : Nat) : Bytes w (.slice (some ⟨h, 0, none⟩) m cap) m g :=
  ⟨H.1, some ⟨h, 0, none⟩, cap, rfl, Or.inr ⟨⟨h, 0, none⟩, rfl, H.lt, fun j hj => by rw [Addr.add_lit]; simpa using H.cell j hj⟩⟩

theorem made_bytes (m : Nat) : madeCells (Value.int .u8 0).cells (m * 1) = bcells (told m fun _ => 0) := by
  simp only [madeCells, bcells, told]
  apply Array.ext
  · simp
  · intro i h1 h2
    have : i % 1 = 0 := Nat.mod_one i
    simp [Value.cells, this]

theorem make_bytes (m : Nat) (hm : m ≤ 1073741824) (w : World) :
    (Instr.makeSlice 96 (.int .i64 (m : Int)) (.int .i64 (m : Int))).run Try.prog w = .ok (.slice (some ⟨w.heap.size, 0, none⟩) m m) (w.alloc (.cells (bcells (told m fun _ => 0)) 5)) := by
  obtain ⟨i, hi, hz0, hz1, hz2⟩ := info_parts info_u8
  have := run_make (P := Try.prog) w 96 5 i (.int .u8 0) Try.underlying96 hi hz0 .i64 .i64 (m : Int) (m : Int) (by omega) (by omega) (by rw [hz2]; omega) (by omega)
  rw [hz1] at this
  simp only [Int.toNat_natCast, made_bytes] at this
  exact this

def byteVs (k : Nat) (g : Nat → Nat) : List Value := (List.range k).map fun i => Value.int .u8 ((g i : Nat) : Int)
theorem byteVs_len (k : Nat) (g : Nat → Nat) : (byteVs k g).length = k := by simp [byteVs]
theorem byteVs_get (k : Nat) (g : Nat → Nat) (j : Nat) (u : Value) (h : (byteVs k g)[j]? = some u) : j < k ∧ u = .int .u8 ((g j : Nat) : Int) := by
  have hj : j < k := by
    rcases Nat.lt_or_ge j k with h1 | h1
    · exact h1
    · rw [List.getElem?_eq_none (by rw [byteVs_len]; exact h1)] at h; cases h
  refine ⟨hj, ?_⟩
  simp [byteVs, hj] at h
  exact h.symm

theorem copy_run (w : World) (g o k dc : Nat) (a : Addr) (sc : Nat) (cur : Array Value) (gg : Nat → Nat) (hg : w.heap[g]? = some (.cells cur 5 (0, 0))) (hfit : o + k ≤ cur.size)
    (hsrc : ∀ j, j < k → w.cell? (a.add j) = some (.int .u8 ((gg j : Nat) : Int))) (ty : TypeId) :
    (Builtin.copy_ #[96, 96] ty #[.slice (some ⟨g, o, none⟩) k dc, .slice (some a) k sc]).run Try.prog w = .ok (goInt k) (w.setRow g (cur.toList.take o ++ byteVs k gg ++ cur.toList.drop (o + (byteVs k gg).length)).toArray) := by
  obtain ⟨i, hi, hz0, hz1, hz2⟩ := info_parts info_u8
  have := run_copy_row (P := Try.prog) w 96 96 ty 5 g o k dc a k sc cur 5 (byteVs k gg) Try.underlying96 (by rw [hi]; simp [hz1]) hg (by rw [byteVs_len]; exact (Nat.min_self k).symm) ?_ ?_ ?_
  · rw [this, byteVs_len]
  · intro j u hj
    obtain ⟨h1, rfl⟩ := byteVs_get k gg j u hj
    exact hsrc j h1
  · rw [byteVs_len]; exact hfit
  · intro u hu
    obtain ⟨_, _, rfl⟩ := List.mem_map.1 hu
    rfl
theorem copy_nil (w : World) (k dc : Nat) (dp sp : Option Addr) (sc : Nat) (hk : k = 0) (ty : TypeId) :
    (Builtin.copy_ #[96, 96] ty #[.slice dp k dc, .slice sp k sc]).run Try.prog w = .ok (goInt 0) w := by
  obtain ⟨i, hi, hz0, hz1, hz2⟩ := info_parts info_u8
  subst hk
  exact run_copy_none (P := Try.prog) w 96 96 ty 5 dp sp 0 dc 0 sc Try.underlying96 (by rw [hi]; simp [hz1]) rfl

end Go.Proofs.Ythglogiglimebaa.M
