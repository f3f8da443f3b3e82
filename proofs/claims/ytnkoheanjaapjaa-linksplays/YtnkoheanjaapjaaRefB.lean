/- The document's own bytes: where they lie; croftref2.Regions, End, There, Byte, Word, SetWord, Fill. -/
import Derived.Test.YtnkoheanjaapjaaHolds
namespace Go.Proofs.Ytnkoheanjaapjaa
open Go.RowKit
set_option linter.unusedVariables false

/-- A row of bytes of which the first n are f's. -/
def MemAt (w : World) (h n cap : Nat) (f : Nat → Nat) : Prop :=
  ∃ rs : List Nat, rs.length = cap ∧ w.heap[h]? = some (.cells (bcells rs) 5 (0, 0)) ∧ n ≤ cap ∧ (∀ i, i < n → rs.getD i 0 = f i) ∧ ∀ i, rs.getD i 0 < 256
theorem MemAt.lt {w h n cap f} (H : MemAt w h n cap f) : h < w.heap.size := by
  obtain ⟨rs, _, hg, _⟩ := H
  exact (Array.getElem?_eq_some_iff.1 hg).1
theorem MemAt.kept {w w' h n cap f} {S : Nat → Prop} (H : MemAt w h n cap f) (k : Kept S w w') (hS : ¬ S h) : MemAt w' h n cap f := by
  have hl := H.lt
  obtain ⟨rs, h1, hg, h2⟩ := H
  exact ⟨rs, h1, (k.block h hl hS).trans hg, h2⟩
theorem MemAt.keep {w w' h n cap f} (H : MemAt w h n cap f) (k : Kept none' w w') : MemAt w' h n cap f := H.kept k (fun x => x)
theorem MemAt.cell {w h n cap f} (H : MemAt w h n cap f) (i : Nat) (hi : i < n) : w.cell? ⟨h, i, none⟩ = some (.int .u8 ((f i : Nat) : Int)) := by
  obtain ⟨rs, h1, hg, hn, hf, _⟩ := H
  rw [← hf i hi]
  simp [World.cell?, hg, bcells, show i < rs.length by omega]
theorem MemAt.frozen {w h n cap f} (H : MemAt w h n cap f) (i : Nat) : w.frozen? ⟨h, i, none⟩ = false := by
  obtain ⟨rs, h1, hg, _⟩ := H
  simp [World.frozen?, hg]
theorem MemAt.f256 {w h n cap f} (H : MemAt w h n cap f) (i : Nat) (hi : i < n) : f i < 256 := by
  obtain ⟨rs, h1, hg, hn, hf, h6⟩ := H
  rw [← hf i hi]
  exact h6 i
theorem MemAt.le {w h n cap f} (H : MemAt w h n cap f) : n ≤ cap := by
  obtain ⟨rs, h1, hg, hn, _⟩ := H
  exact hn
theorem MemAt.congr {w h n cap f f'} (H : MemAt w h n cap f) (hf : ∀ i, i < n → f i = f' i) : MemAt w h n cap f' := by
  obtain ⟨rs, h1, hg, hn, h5, h6⟩ := H
  exact ⟨rs, h1, hg, hn, fun i hi => (h5 i hi).trans (hf i hi), h6⟩
theorem MemAt.less {w h n cap f} (H : MemAt w h n cap f) (n' : Nat) (hn' : n' ≤ n) : MemAt w h n' cap f := by
  obtain ⟨rs, h1, hg, hn, h5, h6⟩ := H
  exact ⟨rs, h1, hg, by omega, fun i hi => h5 i (by omega), h6⟩
theorem MemAt.bytes {w h n cap f} (H : MemAt w h n cap f) : Bytes w (.slice (some ⟨h, 0, none⟩) n cap) n f :=
  ⟨H.f256, some ⟨h, 0, none⟩, cap, rfl, Or.inr ⟨⟨h, 0, none⟩, rfl, H.lt, fun j hj => by rw [Addr.add_lit]; simpa using H.cell j hj⟩⟩
theorem MemAt.write {w h n cap f} (H : MemAt w h n cap f) (o y : Nat) (ho : o < n) (hy : y < 256) : MemAt (w.setCell ⟨h, o, none⟩ (.int .u8 (y : Int))) h n cap (upd f o 1 fun _ => y) := by
  obtain ⟨rs, hrl, hg, hnc, hf, hr⟩ := H
  refine ⟨rs.set o y, ?_, ?_, hnc, ?_, ?_⟩
  · simpa using hrl
  · simp only [World.setCell]
    rw [Array.getElem?_modify, if_pos rfl, hg]
    simp [bcells, List.map_set]
  · intro i hi
    simp only [upd]
    by_cases e : i = o
    · subst e
      rw [if_pos (by omega)]
      simp [List.getD, show i < rs.length by omega]
    · rw [if_neg (by omega), ← hf i hi]
      simp [List.getD, Ne.symm e]
  · intro i
    by_cases e : i = o
    · subst e
      simp [List.getD, show i < rs.length by omega, hy]
    · have := hr i
      simpa [List.getD, Ne.symm e] using this

/-- The bytes of the first, then those of the second. -/
def glue (g : Nat → Nat) (j : Nat) (g' : Nat → Nat) : Nat → Nat := fun i => if i < j then g i else g' (i - j)

set_option maxRecDepth 4000 in
theorem append_fits (w : World) (h j cap m : Nat) (g g' : Nat → Nat) (vs : Value) (H : MemAt w h j cap g) (hs : Bytes w vs m g') (hfit : j + m ≤ cap) :
    ∃ w', (∀ ty, (Builtin.append_ #[42, 42] ty #[.slice (some ⟨h, 0, none⟩) j cap, vs]).run Try.prog w = .ok (.slice (some ⟨h, 0, none⟩) (j + m) cap) w') ∧
      MemAt w' h (j + m) cap (glue g j g') ∧ Kept (fun x => x = h) w w' ∧ w'.heap.size = w.heap.size := by
  obtain ⟨i, hi, hz0, hz1, hz2⟩ := info_parts info_u8
  obtain ⟨rs, hrl, hg, hnc, hf, hr⟩ := H
  obtain ⟨h256, ao, c, rfl, hc⟩ := hs
  have hfc : (Builtin.firstCells 1 m (.slice ao m c)).run Try.prog w = .ok (byteVs m g').toArray w := by
    cases ao with
    | none =>
      have hm : m = 0 := by rcases hc with h | ⟨a, e, _⟩; exact h; cases e
      subst hm
      simp [run_firstCells_none, byteVs]
    | some a =>
      refine run_firstCells_some (P := Try.prog) w 1 m a m c (byteVs m g') (by rw [byteVs_len, Nat.mul_one]) ?_
      intro k u hk
      obtain ⟨hkm, rfl⟩ := byteVs_get m g' k u hk
      rcases hc with h0 | ⟨a', e, _, hcell⟩
      · omega
      · injection e with e
        subst e
        exact hcell k hkm
  have hst := run_storeCells_at Try.prog h j 5 (byteVs m g') 0 (bcells rs) w hg (by rw [byteVs_len, bcells_size]; omega) (by
    intro v hv
    obtain ⟨_, _, rfl⟩ := List.mem_map.1 hv
    rfl)
  simp only [Nat.add_zero] at hst
  rw [lay_cells rs j m g' (byteVs m g') rfl] at hst
  refine ⟨w.setRow h (bcells (lay rs j m g')), fun ty => ?_, ⟨lay rs j m g', ?_, ?_, by omega, ?_, ?_⟩, (Kept.refl (fun x => x = h) w).setRow (fun _ => rfl) _, by simp [World.setRow]⟩
  · simp [Builtin.append_, run_underlying Try.underlying42, sizeOf, typeInfo, hi, hz1, Builtin.lenOf, hfit, hfc, Addr.add_lit, hst]
  · rw [lay_len _ _ _ _ (by omega)]; exact hrl
  · rw [setRow_heap w h _ _ _ _ hg]
  · intro k hk
    rw [lay_get _ _ _ _ (by omega)]
    unfold glue
    by_cases h1 : k < j
    · rw [if_neg (by omega), if_pos h1]; exact hf k h1
    · rw [if_pos (by omega), if_neg h1]
  · intro k
    rw [lay_get _ _ _ _ (by omega)]
    split
    · exact h256 _ (by omega)
    · exact hr k

/-- make([]byte, 0, c). -/
theorem make_room (c : Nat) (hc : c ≤ 1073741824) (w : World) :
    ∃ w', (Instr.makeSlice 42 (.int .i64 0) (.int .i64 (c : Int))).run Try.prog w = .ok (.slice (some ⟨w.heap.size, 0, none⟩) 0 c) w' ∧ (Instr.makeSlice 42 (.int .i64 0) (.int .u64 (c : Int))).run Try.prog w = .ok (.slice (some ⟨w.heap.size, 0, none⟩) 0 c) w' ∧
      MemAt w' w.heap.size 0 c (fun _ => 0) ∧ Kept none' w w' ∧ w'.heap.size = w.heap.size + 1 := by
  obtain ⟨i, hi, hz0, hz1, hz2⟩ := info_parts info_u8
  have := fun kc => run_make (P := Try.prog) w 42 5 i (.int .u8 0) Try.underlying42 hi hz0 .i64 kc 0 (c : Int) (by omega) (by omega) (by rw [hz2]; omega) (by omega)
  rw [hz1] at this
  simp only [Int.toNat_natCast, Int.toNat_zero, made_bytes] at this
  refine ⟨_, this .i64, this .u64, ⟨told c fun _ => 0, told_len _ _, heap_new _ _, Nat.zero_le _, fun i hi => by omega, fun i => ?_⟩, (Kept.refl _ w).alloc _, by simp⟩
  by_cases hi : i < c
  · rw [told_get _ _ _ hi]; decide
  · have : (told c fun _ => 0).getD i 0 = 0 := by simp [List.getD, told_len, Nat.not_lt.1 hi]
    rw [this]; decide

theorem RRegions_any (base R lim n cap : Nat) (ao : Option Addr) (hR : 4096 ≤ R) (hR2 : R ≤ 1048576) (hn : n ≤ 4194304) (w : World) :
    Calls Try.prog 44 #[.agg #[.int .u64 (base : Int), .int .u64 (R : Int), .int .i64 (lim : Int), .slice ao n cap]] w fun e w' => e = .returned (.int .i64 ((n / R : Nat) : Int)) ∧ Kept none' w w' := by
  have r0 : ¬ (R : Int) = 0 := by omega
  obtain ⟨q, hq⟩ : ∃ q, q = n / R := ⟨_, rfl⟩
  have hql : q ≤ 4194304 := by rw [hq]; exact Nat.le_trans (Nat.div_le_self _ _) hn
  have E : (n : Int) / (R : Int) = (q : Int) := by rw [hq]; simp
  rw [← hq]
  clear hq
  go_enter Try.func44, Try.ntmps44
  go_wp2
  go_ret
  exact ⟨rfl, (Kept.refl _ w).alloc _⟩

theorem REnd_any (base R lim n cap : Nat) (ao : Option Addr) (hn : n ≤ 4194304) (hb : base + n ≤ 9223372036854775808) (w : World) :
    Calls Try.prog 45 #[.agg #[.int .u64 (base : Int), .int .u64 (R : Int), .int .i64 (lim : Int), .slice ao n cap]] w fun e w' => e = .returned (.int .u64 ((base + n : Nat) : Int)) ∧ Kept none' w w' := by
  go_enter Try.func45, Try.ntmps45
  go_wp2
  go_ret
  exact ⟨ret_int (by simp), (Kept.refl _ w).alloc _⟩

instance decInRef (base n p k : Nat) : Decidable (In base n p k) := by unfold In; infer_instance
/-- The k bytes from p on are there. -/
def thereB (base n p k : Nat) : Bool := decide (k = 0 ∨ In base n p k)

theorem RThere_any (base R lim n cap : Nat) (ao : Option Addr) (hn : n ≤ 4194304) (hb : base + n ≤ 9223372036854775808) (p k : Nat) (hp : p < 18446744073709551616) (hk : k < 18446744073709551616) (w : World) :
    Calls Try.prog 50 #[.agg #[.int .u64 (base : Int), .int .u64 (R : Int), .int .i64 (lim : Int), .slice ao n cap], .int .u64 (p : Int), .int .u64 (k : Int)] w fun e w' => e = .returned (.bool (thereB base n p k)) ∧ Kept none' w w' := by
  by_cases h0 : k = 0
  · subst h0
    go_enter Try.func50, Try.ntmps50
    go_wp2
    go_ret
    exact ⟨ret_bool (by simp [thereB]), (Kept.refl _ w).alloc _⟩
  · have hk0 : ((k : Int) == 0) = false := by rw [beq_eq_false_iff_ne]; omega
    by_cases h1 : p < base
    · have E := hid (show thereB base n p k = false from by unfold thereB In; rw [decide_eq_false_iff_not]; omega)
      go_enter Try.func50, Try.ntmps50
      go_wp2
      go_ret
      exact ⟨ret_bool E.out.symm, (Kept.refl _ w).alloc _⟩
    · by_cases h2 : n < k
      · have E := hid (show thereB base n p k = false from by unfold thereB In; rw [decide_eq_false_iff_not]; omega)
        go_enter Try.func50, Try.ntmps50
        go_wp2
        go_ret
        exact ⟨ret_bool E.out.symm, (Kept.refl _ w).alloc _⟩
      · go_enter Try.func50, Try.ntmps50
        go_wp2
        go_ret
        exact ⟨ret_bool (by unfold thereB In; rw [decide_eq_decide]; omega), (Kept.refl _ w).alloc _⟩

theorem RByte_in (base R lim n cap h : Nat) (f : Nat → Nat) (hn : n ≤ 4194304) (p : Nat) (hp : p < 18446744073709551616) (w : World) (H : MemAt w h n cap f) (hin : In base n p 1) :
    Calls Try.prog 62 #[.agg #[.int .u64 (base : Int), .int .u64 (R : Int), .int .i64 (lim : Int), .slice (some ⟨h, 0, none⟩) n cap], .int .u64 (p : Int)] w fun e w' => e = .returned (.int .u8 ((f (p - base) : Nat) : Int)) ∧ Kept none' w w' := by
  obtain ⟨h1, h2⟩ := hin
  obtain ⟨o, ho⟩ : ∃ o, o = p - base := ⟨_, rfl⟩
  have hsub : (p : Int) - (base : Int) = (o : Int) := by omega
  have hon : o < n := by omega
  have hoi : (o : Int) < (n : Int) := by omega
  rw [← ho]
  have hc := (H.keep ((Kept.refl none' w).alloc (.cells #[.int .u64 (base : Int), .int .u64 (R : Int), .int .i64 (lim : Int), .slice (some ⟨h, 0, none⟩) n cap] 44))).cell o hon
  have hbp : (base : Int) ≤ (p : Int) := by omega
  clear H ho h1 h2
  go_enter Try.func62, Try.ntmps62
  go_wp2
  go_ret
  exact ⟨rfl, (Kept.refl _ w).alloc _⟩
end Go.Proofs.Ytnkoheanjaapjaa
