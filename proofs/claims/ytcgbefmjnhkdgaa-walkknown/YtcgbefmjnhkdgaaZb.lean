import Derived.Test.YtcgbefmjnhkdgaaZa
import Derived.Laws.Bits64b
set_option maxRecDepth 1000000
set_option maxHeartbeats 80000000
/- Byte, SetByte, Word, SetWord, Fill, Copy, Read, Write where their bytes are not there, or are none. -/
namespace Go.Proofs.Ytcgbefmjnhkdgaa.M
open Go.RowKit
set_option linter.unusedVariables false

theorem mkf : ∀ (fn : Fn) (first cap : Array Value) (w : World), (Instr.makeFunc fn first cap).run Try.prog w = .ok (.func fn first cap) w := fun _ _ _ _ => rfl

theorem Write_out (b ao base R lim n f) (p k : Nat) (v : Int) (va : Option Addr) (vc : Nat) (w : World) (h : SpaceAt w b ao base R lim n f) (hp : p < 18446744073709551616) (hk : k < 9223372036854775808) (hk0 : 0 < k) (hin : ¬ In base n p k) :
    Calls Try.prog 51 #[.pointer (some ⟨b, 0, none⟩), .int .u64 (p : Int), .slice va k vc] w fun e w' => e = .returned (.int .i64 4) ∧ Kept none' w w' := by
  have hmf := mkf
  have HH := hid h
  have HI := hid hin
  clear h hin
  go_enter_defers Try.func51, Try.ntmps51
  go_wp2_with fail
  refine (at_out b ao base R lim n f p k _ (HH.out.keep (Err.mk' none' w).k) hp (by omega) (by omega) HI.out).mono ?_
  rintro e w1 ⟨rfl, m, hw⟩
  have hE : Err none' w w1 := by rw [hw]; exact (Err.mk' none' w).drewN m
  have hec := hE.c
  have hef := hE.f
  have HE := hid hE
  clear hE hw
  refine leaves_cons (f := 86) (args := #[.pointer (some ⟨w.heap.size, 0, none⟩)]) (by simp) (by simp [go_sem]) ?_
  refine (cpWrite ⟨w.heap.size, 0, none⟩ 0 _ _ [] w1 hec hef).mono ?_
  rintro e u' w'' ⟨rfl, rfl, rfl⟩
  refine ⟨(.int .i64 4), ?_, rfl, HE.out.done _⟩
  simp [results, Try.results51, go_sem, hec]
end Go.Proofs.Ytcgbefmjnhkdgaa.M
/- What is written; Byte, SetByte, Word, SetWord, Fill where their bytes are there. -/
namespace Go.Proofs.Ytcgbefmjnhkdgaa.M
open Go.RowKit
set_option linter.unusedVariables false

/-- k bytes from o on are g's. -/
def upd (f : Nat → Nat) (o k : Nat) (g : Nat → Nat) : Nat → Nat := fun i => if o ≤ i ∧ i < o + k then g (i - o) else f i
theorem upd_zero (f : Nat → Nat) (o : Nat) (g : Nat → Nat) : upd f o 0 g = f := by
  funext i
  simp only [upd]
  rw [if_neg (by omega)]
theorem upd_succ (f : Nat → Nat) (o k : Nat) (g : Nat → Nat) : upd (upd f o k g) (o + k) 1 (fun _ => g k) = upd f o (k + 1) g := by
  funext i
  simp only [upd]
  by_cases h1 : i = o + k
  · subst h1
    rw [if_pos (by omega), if_pos (by omega), Nat.add_sub_cancel_left]
  · rw [if_neg (by omega)]
    by_cases h2 : o ≤ i ∧ i < o + k
    · rw [if_pos h2, if_pos (by omega)]
    · rw [if_neg h2, if_neg (by omega)]

/-- A row with k bytes of g laid over it from o on. -/
def lay (rs : List Nat) (o k : Nat) (g : Nat → Nat) : List Nat := rs.take o ++ ((List.range k).map g ++ rs.drop (o + k))
theorem lay_len (rs : List Nat) (o k : Nat) (g : Nat → Nat) (h : o + k ≤ rs.length) : (lay rs o k g).length = rs.length := by simp [lay]; omega
theorem lay_get (rs : List Nat) (o k : Nat) (g : Nat → Nat) (h : o + k ≤ rs.length) (i : Nat) : (lay rs o k g).getD i 0 = if o ≤ i ∧ i < o + k then g (i - o) else rs.getD i 0 := by
  simp only [lay, List.getD, List.getElem?_append, List.length_take, List.length_map, List.length_range, List.getElem?_take, List.getElem?_drop, List.getElem?_map]
  have e : min o rs.length = o := by omega
  rw [e]
  by_cases h1 : i < o
  · have h3 : ¬ (o ≤ i ∧ i < o + k) := by omega
    simp only [h1, h3, if_true, if_false]
  · rw [if_neg h1]
    by_cases h2 : i - o < k
    · rw [if_pos h2, if_pos (by omega), List.getElem?_range h2]
      rfl
    · rw [if_neg h2, if_neg (by omega)]
      congr 2
      omega
theorem lay_cells (rs : List Nat) (o k : Nat) (g : Nat → Nat) (cs : List Value) (hcs : cs = (List.range k).map fun i => Value.int .u8 ((g i : Nat) : Int)) :
    ((bcells rs).toList.take o ++ cs ++ (bcells rs).toList.drop (o + cs.length)).toArray = bcells (lay rs o k g) := by
  subst hcs
  simp only [bcells, lay, List.length_map, List.length_range, List.map_append, List.map_map, List.append_assoc, ← List.map_take, ← List.map_drop]
  rfl

theorem SpaceAt.lay {w b g base R lim n f} (h : SpaceAt w b (some g) base R lim n f) (o k : Nat) (gg : Nat → Nat) (ho : o + k ≤ n) (h256 : ∀ i, i < k → gg i < 256) (cs : List Value) (hcs : cs = (List.range k).map fun i => Value.int .u8 ((gg i : Nat) : Int)) :
    ∃ cur, w.heap[g]? = some (.cells cur 5 (0, 0)) ∧ o + cs.length ≤ cur.size ∧ SpaceAt (w.setRow g (cur.toList.take o ++ cs ++ cur.toList.drop (o + cs.length)).toArray) b (some g) base R lim n (upd f o k gg) := by
  obtain ⟨cap, hb, hne, rs, hrl, hg, hnc, hf, hr⟩ := h.ex
  refine ⟨bcells rs, hg, by rw [bcells_size, hcs]; simp; omega, h.cfg, h.kn, cap, ?_, hne, Go.Proofs.Ytcgbefmjnhkdgaa.M.lay rs o k gg, ?_, ?_, hnc, ?_, ?_⟩
  · rw [setRow_other _ _ _ _ (fun e => hne e.symm)]; exact hb
  · rw [lay_len _ _ _ _ (by omega)]; exact hrl
  · rw [setRow_heap w g _ _ _ _ hg, lay_cells rs o k gg cs hcs]
  · intro i hi
    rw [lay_get _ _ _ _ (by omega)]
    simp only [upd]
    split
    · rfl
    · exact hf i hi
  · intro i
    rw [lay_get _ _ _ _ (by omega)]
    split
    · exact h256 _ (by omega)
    · exact hr i

theorem SpaceAt.write {w b g base R lim n f} (h : SpaceAt w b (some g) base R lim n f) (o y : Nat) (ho : o < n) (hy : y < 256) : SpaceAt (w.setCell ⟨g, o, none⟩ (.int .u8 (y : Int))) b (some g) base R lim n (upd f o 1 fun _ => y) := by
  obtain ⟨cap, hb, hne, rs, hrl, hg, hnc, hf, hr⟩ := h.ex
  refine ⟨h.cfg, h.kn, cap, ?_, hne, rs.set o y, ?_, ?_, hnc, ?_, ?_⟩
  · rw [Below.heap_setCell _ _ _ _ (fun e => hne e.symm)]; exact hb
  · simpa using hrl
  · simp only [World.setCell]
    rw [Array.getElem?_modify, if_pos rfl, hg]
    simp [bcells, List.map_set]
  · intro i hi
    simp only [upd]
    by_cases e : i = o
    · subst e
      rw [if_pos (by omega)]
      simp [List.getD, show i < rs.length by omega]
    · rw [if_neg (by omega), ← hf i hi]
      simp [List.getD, Ne.symm e]
  · intro i
    by_cases e : i = o
    · subst e
      simp [List.getD, show i < rs.length by omega, hy]
    · have := hr i
      simpa [List.getD, Ne.symm e] using this
theorem SpaceAt.f256 {w b g base R lim n f} (h : SpaceAt w b (some g) base R lim n f) (i : Nat) (hi : i < n) : f i < 256 := by
  obtain ⟨cap, hb, hne, rs, hrl, hg, hnc, hf, hr⟩ := h.ex
  rw [← hf i hi]
  exact hr i
theorem SpaceAt.congr {w b ao base R lim n f} (h : SpaceAt w b ao base R lim n f) {f' : Nat → Nat} (hf : ∀ i, i < n → f i = f' i) : SpaceAt w b ao base R lim n f' := by
  obtain ⟨cap, hb, hr⟩ := h.ex
  refine ⟨h.cfg, h.kn, cap, hb, ?_⟩
  cases ao with
  | none => exact hr
  | some g =>
    obtain ⟨h1, rs, h2, h3, h4, h5, h6⟩ := hr
    exact ⟨h1, rs, h2, h3, h4, fun i hi => (h5 i hi).trans (hf i hi), h6⟩
theorem SpaceAt.eg {w b g base R lim n f} (h : SpaceAt w b (some g) base R lim n f) : g ≠ b := by
  obtain ⟨cap, hb, hne, _⟩ := h.ex
  exact hne

theorem Err.space {S : Nat → Prop} {w w1 : World} {b ao base R lim n f f'} (hE : Err S w w1) (h : SpaceAt w b ao base R lim n f) (hS : SpaceAt w1 b ao base R lim n f') (u v : Value) : SpaceAt ((w1.setCell ⟨w.heap.size, 0, none⟩ u).setCell ⟨w.heap.size, 0, none⟩ v) b ao base R lim n f' :=
  hS.kept (((Kept.refl (fun x => x = w.heap.size) w1).setCell (fun _ => rfl) u).setCell (fun _ => rfl) v) (fun x hx e => by have := h.own_lt x hx; omega)

/-- The number that k bytes are, the lowest first. -/
def wordTo (f : Nat → Nat) : Nat → Nat
  | 0 => 0
  | k + 1 => wordTo f k + f k * 256 ^ k
theorem wordTo_lt (f : Nat → Nat) (k : Nat) (h : ∀ i, i < k → f i < 256) : wordTo f k < 256 ^ k := by
  induction k with
  | zero => simp [wordTo]
  | succ k ih =>
    have h1 := ih (fun i hi => h i (by omega))
    have h2 := h k (by omega)
    have h3 : f k * 256 ^ k ≤ 255 * 256 ^ k := Nat.mul_le_mul_right _ (by omega)
    simp only [wordTo, Nat.pow_succ]
    omega
def word (f : Nat → Nat) (o : Nat) : Nat := wordTo (fun i => f (o + i)) 8

theorem pow256 (k : Nat) : 256 ^ k = 2 ^ (8 * k) := by rw [Nat.pow_mul]
theorem word_step (a k x : Nat) (hk : k < 8) (hx : x < 256) (ha : a < 256 ^ k) : bits BinOp.or IntKind.u64 (a : Int) (IntKind.u64.wrap (IntKind.u64.wrap (x : Int) * 2 ^ (8 * k))) = ((a + x * 256 ^ k : Nat) : Int) := by
  have hp : 2 ^ (8 * k) ≤ 2 ^ 56 := Nat.pow_le_pow_right (by decide) (by omega)
  have h1 : x * 2 ^ (8 * k) ≤ 255 * 2 ^ (8 * k) := Nat.mul_le_mul_right _ (by omega)
  have e1 : IntKind.u64.wrap (x : Int) = (x : Int) := by rw [wrap_u64]; omega
  have e2 : (x : Int) * 2 ^ (8 * k) = ((x * 2 ^ (8 * k) : Nat) : Int) := by simp
  have e3 : IntKind.u64.wrap ((x * 2 ^ (8 * k) : Nat) : Int) = ((x * 2 ^ (8 * k) : Nat) : Int) := by
    rw [wrap_u64]
    generalize x * 2 ^ (8 * k) = y at h1
    omega
  rw [e1, e2, e3]
  rw [pow256] at ha ⊢
  rw [bits_or_u64_nat _ _ (by omega) (by omega)]
  congr 1
  have := Nat.shiftLeft_add_eq_or_of_lt ha x
  rw [Nat.shiftLeft_eq] at this
  rw [Nat.or_comm, ← this, Nat.add_comm]

/-- A number's byte. -/
def byteOf (v i : Nat) : Nat := v / 256 ^ i % 256

theorem byteOf_int (v k : Nat) : (v : Int) / 2 ^ (8 * k) % 256 = ((byteOf v k : Nat) : Int) := by
  unfold byteOf
  rw [pow256]
  simp

end Go.Proofs.Ytcgbefmjnhkdgaa.M
/- Slices of bytes that can be read; Copy, Read, Write. -/
namespace Go.Proofs.Ytcgbefmjnhkdgaa.M
open Go.RowKit
set_option linter.unusedVariables false

/-- A slice of m bytes that can be read. -/
def Bytes (w : World) (v : Value) (m : Nat) (g : Nat → Nat) : Prop :=
  (∀ i, i < m → g i < 256) ∧ ∃ ao cap, v = .slice ao m cap ∧ (m = 0 ∨ ∃ a : Addr, ao = some a ∧ a.block < w.heap.size ∧ ∀ j, j < m → w.cell? (a.add j) = some (.int .u8 ((g j : Nat) : Int)))

theorem addr_add_block (a : Addr) (j : Nat) : (a.add j).block = a.block := by unfold Addr.add; split <;> rfl

theorem Bytes.kept {w w' : World} {S : Nat → Prop} {v : Value} {m : Nat} {g : Nat → Nat} (h : Bytes w v m g) (k : Kept S w w') (hS : ∀ b, v.ownBlock = some b → ¬ S b) : Bytes w' v m g := by
  obtain ⟨h1, ao, cap, rfl, h2⟩ := h
  refine ⟨h1, ao, cap, rfl, ?_⟩
  rcases h2 with h2 | ⟨a, rfl, hb, hc⟩
  · exact Or.inl h2
  · refine Or.inr ⟨a, rfl, Nat.lt_of_lt_of_le hb k.size, fun j hj => ?_⟩
    rw [← hc j hj]
    exact World.cell?_of_block (by rw [addr_add_block]; exact k.block _ hb (hS a.block rfl))
theorem Bytes.keep {w w' : World} {v : Value} {m : Nat} {g : Nat → Nat} (h : Bytes w v m g) (k : Kept none' w w') : Bytes w' v m g := h.kept k (fun _ _ x => x)

theorem info_u8 : (Try.prog.info? 5).map (fun i => (i.zero, i.size, i.bytes)) = some (some (.int .u8 0), 1, 1) := by kernel_rfl

/-- m bytes of g. -/
def told (m : Nat) (g : Nat → Nat) : List Nat := (List.range m).map g
theorem told_len (m : Nat) (g : Nat → Nat) : (told m g).length = m := by simp [told]
theorem told_get (m : Nat) (g : Nat → Nat) (i : Nat) (hi : i < m) : (told m g).getD i 0 = g i := by simp [told, List.getD, hi]

/-- A block of m bytes. -/
def Blk (w : World) (h m : Nat) (g : Nat → Nat) : Prop := (∀ i, i < m → g i < 256) ∧ w.heap[h]? = some (.cells (bcells (told m g)) 5 (0, 0))
theorem Blk.lt {w h m g} (H : Blk w h m g) : h < w.heap.size := (Array.getElem?_eq_some_iff.1 H.2).1
theorem Blk.cell {w h m g} (H : Blk w h m g) (i : Nat) (hi : i < m) : w.cell? ⟨h, i, none⟩ = some (.int .u8 ((g i : Nat) : Int)) := by
  have := told_get m g i hi
  rw [← this]
  simp [World.cell?, H.2, bcells, told_len, hi]
theorem Blk.frozen {w h m g} (H : Blk w h m g) (i : Nat) : w.frozen? ⟨h, i, none⟩ = false := by simp [World.frozen?, H.2]
theorem Blk.kept {w w' h m g} {S : Nat → Prop} (H : Blk w h m g) (k : Kept S w w') (hS : ¬ S h) : Blk w' h m g := ⟨H.1, (k.block h H.lt hS).trans H.2⟩
theorem Blk.bytes {w h m g} (H : Blk w h m g) (cap : Nat) : Bytes w (.slice (some ⟨h, 0, none⟩) m cap) m g :=
  ⟨H.1, some ⟨h, 0, none⟩, cap, rfl, Or.inr ⟨⟨h, 0, none⟩, rfl, H.lt, fun j hj => by rw [Addr.add_lit]; simpa using H.cell j hj⟩⟩

theorem made_bytes (m : Nat) : madeCells (Value.int .u8 0).cells (m * 1) = bcells (told m fun _ => 0) := by
  simp only [madeCells, bcells, told]
  apply Array.ext
  · simp
  · intro i h1 h2
    have : i % 1 = 0 := Nat.mod_one i
    simp [Value.cells, this]

theorem make_bytes (m : Nat) (hm : m ≤ 1073741824) (w : World) :
    (Instr.makeSlice 25 (.int .i64 (m : Int)) (.int .i64 (m : Int))).run Try.prog w = .ok (.slice (some ⟨w.heap.size, 0, none⟩) m m) (w.alloc (.cells (bcells (told m fun _ => 0)) 5)) := by
  obtain ⟨i, hi, hz0, hz1, hz2⟩ := info_parts info_u8
  have := run_make (P := Try.prog) w 25 5 i (.int .u8 0) Try.underlying25 hi hz0 .i64 .i64 (m : Int) (m : Int) (by omega) (by omega) (by rw [hz2]; omega) (by omega)
  rw [hz1] at this
  simp only [Int.toNat_natCast, made_bytes] at this
  exact this

def byteVs (k : Nat) (g : Nat → Nat) : List Value := (List.range k).map fun i => Value.int .u8 ((g i : Nat) : Int)
theorem byteVs_len (k : Nat) (g : Nat → Nat) : (byteVs k g).length = k := by simp [byteVs]
theorem byteVs_get (k : Nat) (g : Nat → Nat) (j : Nat) (u : Value) (h : (byteVs k g)[j]? = some u) : j < k ∧ u = .int .u8 ((g j : Nat) : Int) := by
  have hj : j < k := by
    rcases Nat.lt_or_ge j k with h1 | h1
    · exact h1
    · rw [List.getElem?_eq_none (by rw [byteVs_len]; exact h1)] at h; cases h
  refine ⟨hj, ?_⟩
  simp [byteVs, hj] at h
  exact h.symm

theorem copy_run (w : World) (g o k dc : Nat) (a : Addr) (sc : Nat) (cur : Array Value) (gg : Nat → Nat) (hg : w.heap[g]? = some (.cells cur 5 (0, 0))) (hfit : o + k ≤ cur.size)
    (hsrc : ∀ j, j < k → w.cell? (a.add j) = some (.int .u8 ((gg j : Nat) : Int))) (ty : TypeId) :
    (Builtin.copy_ #[25, 25] ty #[.slice (some ⟨g, o, none⟩) k dc, .slice (some a) k sc]).run Try.prog w = .ok (goInt k) (w.setRow g (cur.toList.take o ++ byteVs k gg ++ cur.toList.drop (o + (byteVs k gg).length)).toArray) := by
  obtain ⟨i, hi, hz0, hz1, hz2⟩ := info_parts info_u8
  have := run_copy_row (P := Try.prog) w 25 25 ty 5 g o k dc a k sc cur 5 (byteVs k gg) Try.underlying25 (by rw [hi]; simp [hz1]) hg (by rw [byteVs_len]; exact (Nat.min_self k).symm) ?_ ?_ ?_
  · rw [this, byteVs_len]
  · intro j u hj
    obtain ⟨h1, rfl⟩ := byteVs_get k gg j u hj
    exact hsrc j h1
  · rw [byteVs_len]; exact hfit
  · intro u hu
    obtain ⟨_, _, rfl⟩ := List.mem_map.1 hu
    rfl
theorem copy_nil (w : World) (k dc : Nat) (dp sp : Option Addr) (sc : Nat) (hk : k = 0) (ty : TypeId) :
    (Builtin.copy_ #[25, 25] ty #[.slice dp k dc, .slice sp k sc]).run Try.prog w = .ok (goInt 0) w := by
  obtain ⟨i, hi, hz0, hz1, hz2⟩ := info_parts info_u8
  subst hk
  exact run_copy_none (P := Try.prog) w 25 25 ty 5 dp sp 0 dc 0 sc Try.underlying25 (by rw [hi]; simp [hz1]) rfl

theorem Write_in (b g base R lim n f) (p k : Nat) (v : Value) (gg : Nat → Nat) (w : World) (h : SpaceAt w b (some g) base R lim n f) (hk0 : 0 < k) (hin : In base n p k) (hv : Bytes w v k gg) :
    Calls Try.prog 51 #[.pointer (some ⟨b, 0, none⟩), .int .u64 (p : Int), v] w fun e w' => e = .returned (.int .i64 0) ∧ SpaceAt w' b (some g) base R lim n (upd f (p - base) k gg) ∧ Kept (own b (some g)) w w' := by
  have hmf := mkf
  obtain ⟨o, ho⟩ : ∃ o, o = p - base := ⟨_, rfl⟩
  have hol : o + k ≤ n := by obtain ⟨h1, h2⟩ := hin; omega
  have hn := h.nle
  have lr := h.cfg.lr
  have hkm : k ≤ 4194304 := by omega
  rw [← ho]
  have HV := hid hv
  obtain ⟨h256, ao, vc, rfl, hva⟩ := hv
  obtain ⟨a, rfl, -, -⟩ := hva.resolve_left (by omega)
  have HO := hid ho
  have HH := hid h
  have HI := hid hin
  clear h ho hin hva hn lr
  have H256 := hid h256
  clear h256
  go_enter_defers Try.func51, Try.ntmps51
  go_wp2_with fail
  refine (at_in b g base R lim n f p k _ (HH.out.keep (Err.mk' none' w).k) hk0 HI.out).mono ?_
  rintro e w2 ⟨⟨c, rfl⟩, m, hw⟩
  have hE : Err none' w w2 := by rw [hw]; exact (Err.mk' none' w).drewN m
  rw [← HO.out]
  have hS := HH.out.keep hE.k
  obtain ⟨-, ao', vc', e1, hva⟩ := HV.out.keep hE.k
  injection e1 with e1 e2 e3
  subst e1
  obtain ⟨a', e4, -, hac⟩ := hva.resolve_left (by omega)
  injection e4 with e4
  subst e4
  obtain ⟨cur, hg, hfit, hS3⟩ := hS.lay o k gg hol H256.out (byteVs k gg) rfl
  have hcp := copy_run w2 g o k c a vc cur gg hg (by rw [byteVs_len] at hfit; exact hfit) hac
  have hE3 := (hE.mono (T := own b (some g)) (fun _ x => x.elim)).setRow HH.out.glt (Or.inr rfl) (cur.toList.take o ++ byteVs k gg ++ cur.toList.drop (o + (byteVs k gg).length)).toArray
  obtain ⟨w3, hw3⟩ : ∃ w3, w3 = w2.setRow g (cur.toList.take o ++ byteVs k gg ++ cur.toList.drop (o + (byteVs k gg).length)).toArray := ⟨_, rfl⟩
  rw [← hw3] at hS3 hcp hE3
  have hec := hE3.c
  have hef := hE3.f
  have HE3 := hid hE3
  have HS3 := hid hS3
  clear hE hS hg hfit hS3 hE3 hw hw3 hva hac HV e2 e3
  go_wp2
  refine leaves_cons (f := 86) (args := #[.pointer (some ⟨w.heap.size, 0, none⟩)]) (by simp) (by simp [go_sem]) ?_
  refine (ciWrite ⟨w.heap.size, 0, none⟩ 0 _ ?_ ?_).mono ?_
  · simp [go_sem, hec]
  · simp [go_sem, hef]
  rintro e u' w'' ⟨rfl, rfl, rfl⟩
  refine ⟨.int .i64 0, ?_, rfl, ?_, HE3.out.done2 _ _⟩
  · simp [results, Try.results51, go_sem, hec]
  · exact HE3.out.space HH.out HS3.out _ _

theorem Write_zero (b : Nat) (p : Int) (va : Option Addr) (vc : Nat) (w : World) :
    Calls Try.prog 51 #[.pointer (some ⟨b, 0, none⟩), .int .u64 p, .slice va 0 vc] w fun e w' => e = .returned (.int .i64 0) ∧ Kept none' w w' := by
  have hmf := mkf
  go_enter_defers Try.func51, Try.ntmps51
  go_wp2_with fail
  refine (at_zero b p _).mono ?_
  rintro e w2 ⟨rfl, hw⟩
  have hE : Err none' w w2 := by rw [hw]; exact Err.mk' none' w
  have hec := hE.c
  have hef := hE.f
  have HE2 := hid hE
  have hcp := copy_nil w2 0 0 none va vc rfl
  clear hE hw
  go_wp2
  refine leaves_cons (f := 86) (args := #[.pointer (some ⟨w.heap.size, 0, none⟩)]) (by simp) (by simp [go_sem]) ?_
  refine (ciWrite ⟨w.heap.size, 0, none⟩ 0 _ ?_ ?_).mono ?_
  · simp [go_sem, hec]
  · simp [go_sem, hef]
  rintro e u' w'' ⟨rfl, rfl, rfl⟩
  refine ⟨.int .i64 0, ?_, rfl, HE2.out.done2 _ _⟩
  simp [results, Try.results51, go_sem, hec]
end Go.Proofs.Ytcgbefmjnhkdgaa.M
/- Read; Commit, Decommit. -/
namespace Go.Proofs.Ytcgbefmjnhkdgaa.M
open Go.RowKit
set_option linter.unusedVariables false

theorem Blk.new (w : World) (m : Nat) : Blk (w.alloc (.cells (bcells (told m fun _ => 0)) 5)) w.heap.size m fun _ => 0 := ⟨fun _ _ => Nat.zero_lt_succ 255, heap_new _ _⟩
theorem Blk.lay {w h m g} (H : Blk w h m g) (gg : Nat → Nat) (h256 : ∀ i, i < m → gg i < 256) :
    Blk (w.setRow h ((bcells (told m g)).toList.take 0 ++ byteVs m gg ++ (bcells (told m g)).toList.drop (0 + (byteVs m gg).length)).toArray) h m gg := by
  refine ⟨h256, ?_⟩
  rw [setRow_heap w h _ _ _ _ H.2, lay_cells (told m g) 0 m gg (byteVs m gg) rfl]
  have : Go.Proofs.Ytcgbefmjnhkdgaa.M.lay (told m g) 0 m gg = told m gg := by
    simp [Go.Proofs.Ytcgbefmjnhkdgaa.M.lay, told]
  rw [this]

/-- append(s, make([]byte, R)...) where there is room. -/
theorem append_room (w : World) (g n cap R : Nat) (cur : Array Value) (hg : w.heap[g]? = some (.cells cur 5 (0, 0))) (hcur : cur.size = cap) (hR0 : 0 < R) (hR : R ≤ 1048576) (hfit : n + R ≤ cap) (ty : TypeId) :
    (Builtin.append_ #[25, 22] ty #[.slice (some ⟨g, 0, none⟩) n cap, .int .u64 (R : Int)]).run Try.prog w = .ok (.slice (some ⟨g, 0, none⟩) (n + R) cap) (w.setRow g (cur.toList.take n ++ byteVs R (fun _ => 0) ++ cur.toList.drop (n + (byteVs R fun _ => 0).length)).toArray) := by
  obtain ⟨i, hi, hz0, hz1, hz2⟩ := info_parts info_u8
  have hw : IntKind.i64.wrap (R : Int) = R := by rw [IntKind.wrap_i64]; omega
  have hneg : ¬ ((R : Int) < 0) := by omega
  have h48i : ¬ (281474976710656 < (R : Int) * (i.bytes : Int)) := by rw [hz2]; omega
  have hzc : (Builtin.zeroCells (Value.int .u8 0).cells R).toList = byteVs R fun _ => 0 := by
    simp only [Builtin.zeroCells, byteVs]
    apply List.ext_getElem
    · simp [Value.cells]
    · intro j h1 h2
      have : j % 1 = 0 := Nat.mod_one j
      simp [Value.cells, this]
  have hst := run_storeCells_at Try.prog g n 5 (byteVs R fun _ => 0) 0 cur w hg (by rw [byteVs_len]; omega) (by
    intro v hv
    obtain ⟨_, _, rfl⟩ := List.mem_map.1 hv
    rfl)
  simp only [Nat.add_zero] at hst
  simp [Builtin.append_, run_underlying Try.underlying25, run_underlying Try.underlying22, sizeOf, typeInfo, zeroValue, hi, hz0, hz1, asInt, asIntOf, hw, hneg, h48i, hfit, Addr.add_lit, hzc, hst]
  intro h
  omega

/-- What is told behind a region that came: it is 0. -/
def more (f : Nat → Nat) (n : Nat) : Nat → Nat := fun i => if i < n then f i else 0

/-- Behind the append, ahead of its store. -/
structure After (w w' : World) (b : Nat) (ao : Option Nat) (g' cap' base R lim n : Nat) (f : Nat → Nat) : Prop where
  sp : SpaceAt (w'.setCell ⟨b, 3, none⟩ (.slice (some ⟨g', 0, none⟩) (n + R) cap')) b (some g') base R lim (n + R) (more f n)
  k : Kept (own b ao) w w'
  g : ao = some g' ∨ w.heap.size ≤ g'

theorem after_mk {w w' : World} {b ao g' cap' base R lim n f cap} (hc : Cfg base R lim) (hkn : ∃ k, n = k * R ∧ k + 1 ≤ lim)
    (hb : w'.heap[b]? = some (.cells #[.int .u64 (base : Int), .int .u64 (R : Int), .int .i64 (lim : Int), .slice (adr ao) n cap] 130 (0, 0)))
    (hne : g' ≠ b) (rs : List Nat) (hrl : rs.length = cap') (hg : w'.heap[g']? = some (.cells (bcells rs) 5 (0, 0))) (hn : n + R ≤ cap') (hf : ∀ i, i < n + R → rs.getD i 0 = more f n i) (h256 : ∀ i, rs.getD i 0 < 256)
    (k : Kept (own b ao) w w') (hG : ao = some g' ∨ w.heap.size ≤ g') : After w w' b ao g' cap' base R lim n f := by
  refine ⟨⟨hc, ?_, cap', ?_, hne, rs, hrl, ?_, hn, hf, h256⟩, k, hG⟩
  · obtain ⟨k, rfl, hk⟩ := hkn
    exact ⟨k + 1, by rw [Nat.add_mul, Nat.one_mul], hk⟩
  · simp only [World.setCell]
    rw [Array.getElem?_modify, if_pos rfl, hb]
    simp [adr]
  · rw [Below.heap_setCell _ _ _ _ hne]; exact hg

theorem zero_cells (m : Nat) : (Builtin.zeroCells (Value.int .u8 0).cells m) = bcells (List.replicate m 0) := by
  simp only [Builtin.zeroCells, bcells]
  apply Array.ext
  · simp [Value.cells]
  · intro j h1 h2
    have : j % 1 = 0 := Nat.mod_one j
    simp [Value.cells, this]
theorem rep_get (m i : Nat) : (List.replicate m 0).getD i 0 = 0 := by
  simp [List.getD, List.getElem?_replicate]; split <;> rfl

theorem append_zeros (w : World) (b ao base R lim n f cap) (hc : Cfg base R lim) (hkn : ∃ k, n = k * R ∧ k + 1 ≤ lim)
    (hb : w.heap[b]? = some (.cells #[.int .u64 (base : Int), .int .u64 (R : Int), .int .i64 (lim : Int), .slice (adr ao) n cap] 130 (0, 0))) (hr : RowAt w b ao n cap f) :
    ∃ g' cap' w', (∀ ty, (Builtin.append_ #[25, 22] ty #[.slice (adr ao) n cap, .int .u64 (R : Int)]).run Try.prog w = .ok (.slice (some ⟨g', 0, none⟩) (n + R) cap') w') ∧ After w w' b ao g' cap' base R lim n f ∧
      w'.heap[b]? = some (.cells #[.int .u64 (base : Int), .int .u64 (R : Int), .int .i64 (lim : Int), .slice (adr ao) n cap] 130 (0, 0)) := by
  obtain ⟨i, hi, hz0, hz1, hz2⟩ := info_parts info_u8
  have r1 := hc.r1
  have r2 := hc.r2
  have hnl : n + R ≤ 4194304 := by
    obtain ⟨k, rfl, hk⟩ := hkn
    have h1 := hc.lr
    have h2 : (k + 1) * R ≤ lim * R := Nat.mul_le_mul_right _ hk
    rw [Nat.add_mul, Nat.one_mul] at h2
    omega
  have hblt : b < w.heap.size := (Array.getElem?_eq_some_iff.1 hb).1
  -- a new row
  have grow : ∀ (olds : List Nat), (Builtin.firstCells i.size n (.slice (adr ao) n cap)).run Try.prog w.drew = .ok (bcells olds) w.drew → olds.length = n → (∀ j, j < n → olds.getD j 0 = f j) → (∀ j, olds.getD j 0 < 256) → cap < n + R →
      ∃ g' cap' w', (∀ ty, (Builtin.append_ #[25, 22] ty #[.slice (adr ao) n cap, .int .u64 (R : Int)]).run Try.prog w = .ok (.slice (some ⟨g', 0, none⟩) (n + R) cap') w') ∧ After w w' b ao g' cap' base R lim n f ∧
      w'.heap[b]? = some (.cells #[.int .u64 (base : Int), .int .u64 (R : Int), .int .i64 (lim : Int), .slice (adr ao) n cap] 130 (0, 0)) := by
    intro olds hold hlen hof ho256 hcap
    have hge := grownCap_ge w (n + R) cap 5
    have hrow : (bcells olds) ++ Builtin.zeroCells (Value.int .u8 0).cells R ++ Builtin.zeroCells (Value.int .u8 0).cells (grownCap w (n + R) cap 5 - (n + R)) = bcells (olds ++ (List.replicate R 0 ++ List.replicate (grownCap w (n + R) cap 5 - (n + R)) 0)) := by
      rw [zero_cells, zero_cells]
      simp [bcells]
    have hget : ∀ j, (olds ++ (List.replicate R 0 ++ List.replicate (grownCap w (n + R) cap 5 - (n + R)) 0)).getD j 0 = if j < n then olds.getD j 0 else 0 := by
      intro j
      rw [List.replicate_append_replicate]
      simp only [List.getD, List.getElem?_append, hlen]
      split
      · rfl
      · exact rep_get _ _
    refine ⟨w.heap.size, grownCap w (n + R) cap 5, w.drew.alloc (.cells (bcells (olds ++ (List.replicate R 0 ++ List.replicate (grownCap w (n + R) cap 5 - (n + R)) 0))) 5), fun ty => ?_, ?_, ?_⟩
    · have := Lib.run_append_grow_zeros (P := Try.prog) w 25 22 ty 5 i (.int .u8 0) .u64 .u64 Try.underlying25 Try.underlying22 hi hz0 (adr ao) n cap (bcells olds).toList (by rw [hold]) R (by omega) (by omega) hcap (by omega) (by rw [hz2]; omega) (growslice_fits hcap (by rw [hz2]; omega))
      rw [this, ← hrow]
    · refine after_mk (cap := cap) hc hkn ?_ (by omega) _ ?_ (heap_new w.drew _) hge ?_ ?_ (((Kept.refl _ w).drew).alloc _) (Or.inr (Nat.le_refl _))
      · rw [Below.heap_alloc w.drew _ b hblt]; exact hb
      · simp [hlen]; omega
      · intro j hj
        rw [hget j]
        unfold more
        split
        · rename_i h; exact hof j h
        · rfl
      · intro j
        rw [hget j]
        split
        · exact ho256 j
        · decide
    · rw [Below.heap_alloc w.drew _ b hblt]; exact hb
  cases ao with
  | none =>
    obtain ⟨rfl, rfl⟩ := hr
    exact grow [] (by simp [adr, run_firstCells_none, bcells]) rfl (fun j hj => by omega) (fun j => by simp) (by omega)
  | some g =>
    obtain ⟨hne, rs, hrl, hg, hnc, hf, h256⟩ := hr
    by_cases hroom : n + R ≤ cap
    · have hap := append_room w g n cap R (bcells rs) hg (by rw [bcells_size]; exact hrl) (by omega) (by omega) hroom
      have hw : (bcells rs).toList.take n ++ byteVs R (fun _ => 0) ++ (bcells rs).toList.drop (n + (byteVs R fun _ => 0).length) = (bcells (Go.Proofs.Ytcgbefmjnhkdgaa.M.lay rs n R fun _ => 0)).toList := by
        rw [← lay_cells rs n R (fun _ => 0) (byteVs R fun _ => 0) rfl]
      refine ⟨g, cap, _, hap, ?_, ?_⟩
      · refine after_mk (cap := cap) hc hkn ?_ hne (Go.Proofs.Ytcgbefmjnhkdgaa.M.lay rs n R fun _ => 0) ?_ ?_ hroom ?_ ?_ ((Kept.refl _ w).setRow (fun _ => Or.inr rfl) _) (Or.inl rfl)
        · rw [setRow_other _ _ _ _ (fun e => hne e.symm)]; exact hb
        · rw [lay_len _ _ _ _ (by omega)]; exact hrl
        · rw [setRow_heap w g _ _ _ _ hg, hw]
        · intro j hj
          rw [lay_get _ _ _ _ (by omega)]
          unfold more
          by_cases h1 : j < n
          · rw [if_neg (by omega), if_pos h1]; exact hf j h1
          · rw [if_pos (by omega), if_neg h1]
        · intro j
          rw [lay_get _ _ _ _ (by omega)]
          split
          · decide
          · exact h256 j
      · rw [setRow_other _ _ _ _ (fun e => hne e.symm)]; exact hb
    · have hlt : (rs.take n).length = n := by simp; omega
      have hgt : ∀ j, (rs.take n).getD j 0 = if j < n then rs.getD j 0 else 0 := by
        intro j
        simp only [List.getD, List.getElem?_take]
        split <;> rfl
      refine grow (rs.take n) ?_ hlt ?_ ?_ (by omega)
      · have := run_firstCells_some (P := Try.prog) w.drew i.size n ⟨g, 0, none⟩ n cap (bcells (rs.take n)).toList (by rw [hz1]; simp [bcells]; omega) ?_
        · simpa [adr] using this
        · intro j v hj
          rw [Addr.add_lit]
          simp [bcells, List.getElem?_take] at hj
          obtain ⟨hjn, x, hx, rfl⟩ := hj
          have : w.cell? ⟨g, 0 + j, none⟩ = some (.int .u8 (x : Int)) := by simp [World.cell?, hg, bcells, hx]
          exact this
      · intro j hj
        rw [hgt j, if_pos hj]; exact hf j hj
      · intro j
        rw [hgt j]
        split
        · exact h256 j
        · decide

/-- The same as one step of a region that draws. -/
theorem step_append_zeros {ops : Array Oper} {o : Oper} {a : Act} {w : World} {K : Act → World → Prop} {Q : Exit → Act → World → Prop} {E : Prop} (hgd : o.guard = none) (s x : Operand)
    (hop : o.op = Op.call { callee := Callee.builtin Builtin.append, args := #[s, x], argTypes := #[25, 22] }) (b ao base R lim n f cap) (hc : Cfg base R lim) (hkn : ∃ k, n = k * R ∧ k + 1 ≤ lim)
    (hb : w.heap[b]? = some (.cells #[.int .u64 (base : Int), .int .u64 (R : Int), .int .i64 (lim : Int), .slice (adr ao) n cap] 130 (0, 0))) (hr : RowAt w b ao n cap f)
    (hs : a.eval s = .slice (adr ao) n cap) (hx : a.eval x = .int .u64 (R : Int))
    (hK : ∀ g' cap' w', Hid (After w w' b ao g' cap' base R lim n f) → w'.cell? ⟨b, 3, none⟩ = some (.slice (adr ao) n cap) → w'.frozen? ⟨b, 3, none⟩ = false → K (a.put o.dst (.slice (some ⟨g', 0, none⟩) (n + R) cap')) w') :
    if Region.wanted o (yielded ops a.tmps) = true then Oper.wp Try.prog o a w K Q else E := by
  have hw : Region.wanted o (yielded ops a.tmps) = true := by simp [Region.wanted, hgd]
  rw [if_pos hw]
  obtain ⟨g', cap', w', hrun, hA, hb'⟩ := append_zeros w b ao base R lim n f cap hc hkn hb hr
  have hrun := hrun o.type
  unfold Oper.wp
  simp [execOp, hop, resolve, invoke, builtin, hs, hx, hrun, Result.andThen]
  exact hK g' cap' w' hA (by simp [World.cell?, hb']) (by simp [World.frozen?, hb'])
end Go.Proofs.Ytcgbefmjnhkdgaa.M
