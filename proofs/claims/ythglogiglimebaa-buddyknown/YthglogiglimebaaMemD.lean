/- What is written; Byte, SetByte, Word, SetWord, Fill where their bytes are there. -/
import Derived.Test.YthglogiglimebaaMemC
import Derived.Laws.Bits64b
namespace Go.Proofs.Ythglogiglimebaa.M
open Go.RowKit
set_option linter.unusedVariables false

/-- k bytes from o on are g's. -/
def upd (f : Nat → Nat) (o k : Nat) (g : Nat → Nat) : Nat → Nat := fun i => if o ≤ i ∧ i < o + k then g (i - o) else f i
theorem upd_zero (f : Nat → Nat) (o : Nat) (g : Nat → Nat) : upd f o 0 g = f := by
  funext i
  simp only [upd]
  rw [if_neg (by omega)]
theorem upd_succ (f : Nat → Nat) (o k : Nat) (g : Nat → Nat) : upd (upd f o k g) (o + k) 1 (fun _ => g k) = upd f o (k + 1) g := by
  funext i
  simp only [upd]
  by_cases h1 : i = o + k
  · subst h1
    rw [if_pos (by omega), if_pos (by omega), Nat.add_sub_cancel_left]
  · rw [if_neg (by omega)]
    by_cases h2 : o ≤ i ∧ i < o + k
    · rw [if_pos h2, if_pos (by omega)]
    · rw [if_neg h2, if_neg (by omega)]

/-- A row with k bytes of g laid over it from o on. -/
def lay (rs : List Nat) (o k : Nat) (g : Nat → Nat) : List Nat := rs.take o ++ ((List.range k).map g ++ rs.drop (o + k))
theorem lay_len (rs : List Nat) (o k : Nat) (g : Nat → Nat) (h : o + k ≤ rs.length) : (lay rs o k g).length = rs.length := by simp [lay]; omega
theorem lay_get (rs : List Nat) (o k : Nat) (g : Nat → Nat) (h : o + k ≤ rs.length) (i : Nat) : (lay rs o k g).getD i 0 = if o ≤ i ∧ i < o + k then g (i - o) else rs.getD i 0 := by
  simp only [lay, List.getD, List.getElem?_append, List.length_take, List.length_map, List.length_range, List.getElem?_take, List.getElem?_drop, List.getElem?_map]
  have e : min o rs.length = o := by omega
  rw [e]
  by_cases h1 : i < o
  · have h3 : ¬ (o ≤ i ∧ i < o + k) := by omega
    simp only [h1, h3, if_true, if_false]
  · rw [if_neg h1]
    by_cases h2 : i - o < k
    · rw [if_pos h2, if_pos (by omega), List.getElem?_range h2]
      rfl
    · rw [if_neg h2, if_neg (by omega)]
      congr 2
      omega
theorem lay_cells (rs : List Nat) (o k : Nat) (g : Nat → Nat) (cs : List Value) (hcs : cs = (List.range k).map fun i => Value.int .u8 ((g i : Nat) : Int)) :
    ((bcells rs).toList.take o ++ cs ++ (bcells rs).toList.drop (o + cs.length)).toArray = bcells (lay rs o k g) := by
  subst hcs
  simp only [bcells, lay, List.length_map, List.length_range, List.map_append, List.map_map, List.append_assoc, ← List.map_take, ← List.map_drop]
  rfl

theorem SpaceAt.lay {w b g base R lim n f} (h : SpaceAt w b (some g) base R lim n f) (o k : Nat) (gg : Nat → Nat) (ho : o + k ≤ n) (h256 : ∀ i, i < k → gg i < 256) (cs : List Value) (hcs : cs = (List.range k).map fun i => Value.int .u8 ((gg i : Nat) : Int)) :
    ∃ cur, w.heap[g]? = some (.cells cur 5 (0, 0)) ∧ o + cs.length ≤ cur.size ∧ SpaceAt (w.setRow g (cur.toList.take o ++ cs ++ cur.toList.drop (o + cs.length)).toArray) b (some g) base R lim n (upd f o k gg) := by
  obtain ⟨cap, hb, hne, rs, hrl, hg, hnc, hf, hr⟩ := h.ex
  refine ⟨bcells rs, hg, by rw [bcells_size, hcs]; simp; omega, h.cfg, h.kn, cap, ?_, hne, Go.Proofs.Ythglogiglimebaa.M.lay rs o k gg, ?_, ?_, hnc, ?_, ?_⟩
  · rw [setRow_other _ _ _ _ (fun e => hne e.symm)]; exact hb
  · rw [lay_len _ _ _ _ (by omega)]; exact hrl
  · rw [setRow_heap w g _ _ _ _ hg, lay_cells rs o k gg cs hcs]
  · intro i hi
    rw [lay_get _ _ _ _ (by omega)]
    simp only [upd]
    split
    · rfl
    · exact hf i hi
  · intro i
    rw [lay_get _ _ _ _ (by omega)]
    split
    · exact h256 _ (by omega)
    · exact hr i

theorem SpaceAt.write {w b g base R lim n f} (h : SpaceAt w b (some g) base R lim n f) (o y : Nat) (ho : o < n) (hy : y < 256) : SpaceAt (w.setCell ⟨g, o, none⟩ (.int .u8 (y : Int))) b (some g) base R lim n (upd f o 1 fun _ => y) := by
  obtain ⟨cap, hb, hne, rs, hrl, hg, hnc, hf, hr⟩ := h.ex
  refine ⟨h.cfg, h.kn, cap, ?_, hne, rs.set o y, ?_, ?_, hnc, ?_, ?_⟩
  · rw [Below.heap_setCell _ _ _ _ (fun e => hne e.symm)]; exact hb
  · simpa using hrl
  · simp only [World.setCell]
    rw [Array.getElem?_modify, if_pos rfl, hg]
    simp [bcells, List.map_set]
  · intro i hi
    simp only [upd]
    by_cases e : i = o
    · subst e
      rw [if_pos (by omega)]
      simp [List.getD, show i < rs.length by omega]
    · rw [if_neg (by omega), ← hf i hi]
      simp [List.getD, Ne.symm e]
  · intro i
    by_cases e : i = o
    · subst e
      simp [List.getD, show i < rs.length by omega, hy]
    · have := hr i
      simpa [List.getD, Ne.symm e] using this
theorem SpaceAt.f256 {w b g base R lim n f} (h : SpaceAt w b (some g) base R lim n f) (i : Nat) (hi : i < n) : f i < 256 := by
  obtain ⟨cap, hb, hne, rs, hrl, hg, hnc, hf, hr⟩ := h.ex
  rw [← hf i hi]
  exact hr i
theorem SpaceAt.congr {w b ao base R lim n f} (h : SpaceAt w b ao base R lim n f) {f' : Nat → Nat} (hf : ∀ i, i < n → f i = f' i) : SpaceAt w b ao base R lim n f' := by
  obtain ⟨cap, hb, hr⟩ := h.ex
  refine ⟨h.cfg, h.kn, cap, hb, ?_⟩
  cases ao with
  | none => exact hr
  | some g =>
    obtain ⟨h1, rs, h2, h3, h4, h5, h6⟩ := hr
    exact ⟨h1, rs, h2, h3, h4, fun i hi => (h5 i hi).trans (hf i hi), h6⟩
theorem SpaceAt.eg {w b g base R lim n f} (h : SpaceAt w b (some g) base R lim n f) : g ≠ b := by
  obtain ⟨cap, hb, hne, _⟩ := h.ex
  exact hne

theorem Err.space {S : Nat → Prop} {w w1 : World} {b ao base R lim n f f'} (hE : Err S w w1) (h : SpaceAt w b ao base R lim n f) (hS : SpaceAt w1 b ao base R lim n f') (u v : Value) : SpaceAt ((w1.setCell ⟨w.heap.size, 0, none⟩ u).setCell ⟨w.heap.size, 0, none⟩ v) b ao base R lim n f' :=
  hS.kept (((Kept.refl (fun x => x = w.heap.size) w1).setCell (fun _ => rfl) u).setCell (fun _ => rfl) v) (fun x hx e => by have := h.own_lt x hx; omega)

theorem Byte_in (b g base R lim n f) (p : Nat) (w : World) (h : SpaceAt w b (some g) base R lim n f) (hin : In base n p 1) :
    Calls Try.prog 60 #[.pointer (some ⟨b, 0, none⟩), .int .u64 (p : Int)] w fun e w' => e = .returned (.tuple #[.int .u8 ((f (p - base) : Nat) : Int), .int .i64 0]) ∧ Kept none' w w' := by
  have hmf := mkf
  obtain ⟨o, ho⟩ : ∃ o, o = p - base := ⟨_, rfl⟩
  have hol : o < n := by obtain ⟨h1, h2⟩ := hin; omega
  rw [← ho]
  have HO := hid ho
  have HH := hid h
  have HI := hid hin
  clear h ho hin
  go_enter_defers Try.func60, Try.ntmps60
  go_wp2_with fail
  refine (at_in b g base R lim n f p 1 _ (HH.out.keep (Err.mk' none' w).k) (by decide) HI.out).mono ?_
  rintro e w1 ⟨⟨c, rfl⟩, m, hw⟩
  have hE : Err none' w w1 := by rw [hw]; exact (Err.mk' none' w).drewN m
  have hS := HH.out.keep hE.k
  rw [← HO.out]
  have hc := hS.cg o hol
  have hec := hE.c
  have hef := hE.f
  have HE := hid hE
  clear hS hE hw
  go_wp2
  refine leaves_cons (f := 83) (args := #[.pointer (some ⟨w.heap.size, 0, none⟩)]) (by simp) (by simp [go_sem]) ?_
  refine (ciByte ⟨w.heap.size, 0, none⟩ 0 _ ?_ ?_).mono ?_
  · simp [go_sem, hec]
  · simp [go_sem, hef]
  rintro e u' w'' ⟨rfl, rfl, rfl⟩
  refine ⟨.tuple #[.int .u8 ((f o : Nat) : Int), .int .i64 0], ?_, rfl, HE.out.done2 _ _⟩
  simp [results, Try.results60, go_sem, hec]


/-- The number that k bytes are, the lowest first. -/
def wordTo (f : Nat → Nat) : Nat → Nat
  | 0 => 0
  | k + 1 => wordTo f k + f k * 256 ^ k
theorem wordTo_lt (f : Nat → Nat) (k : Nat) (h : ∀ i, i < k → f i < 256) : wordTo f k < 256 ^ k := by
  induction k with
  | zero => simp [wordTo]
  | succ k ih =>
    have h1 := ih (fun i hi => h i (by omega))
    have h2 := h k (by omega)
    have h3 : f k * 256 ^ k ≤ 255 * 256 ^ k := Nat.mul_le_mul_right _ (by omega)
    simp only [wordTo, Nat.pow_succ]
    omega
def word (f : Nat → Nat) (o : Nat) : Nat := wordTo (fun i => f (o + i)) 8

theorem pow256 (k : Nat) : 256 ^ k = 2 ^ (8 * k) := by rw [Nat.pow_mul]
theorem word_step (a k x : Nat) (hk : k < 8) (hx : x < 256) (ha : a < 256 ^ k) : bits BinOp.or IntKind.u64 (a : Int) (IntKind.u64.wrap (IntKind.u64.wrap (x : Int) * 2 ^ (8 * k))) = ((a + x * 256 ^ k : Nat) : Int) := by
  have hp : 2 ^ (8 * k) ≤ 2 ^ 56 := Nat.pow_le_pow_right (by decide) (by omega)
  have h1 : x * 2 ^ (8 * k) ≤ 255 * 2 ^ (8 * k) := Nat.mul_le_mul_right _ (by omega)
  have e1 : IntKind.u64.wrap (x : Int) = (x : Int) := by rw [wrap_u64]; omega
  have e2 : (x : Int) * 2 ^ (8 * k) = ((x * 2 ^ (8 * k) : Nat) : Int) := by simp
  have e3 : IntKind.u64.wrap ((x * 2 ^ (8 * k) : Nat) : Int) = ((x * 2 ^ (8 * k) : Nat) : Int) := by
    rw [wrap_u64]
    generalize x * 2 ^ (8 * k) = y at h1
    omega
  rw [e1, e2, e3]
  rw [pow256] at ha ⊢
  rw [bits_or_u64_nat _ _ (by omega) (by omega)]
  congr 1
  have := Nat.shiftLeft_add_eq_or_of_lt ha x
  rw [Nat.shiftLeft_eq] at this
  rw [Nat.or_comm, ← this, Nat.add_comm]

theorem Word_in (b g base R lim n f) (p : Nat) (w : World) (h : SpaceAt w b (some g) base R lim n f) (hin : In base n p 8) :
    Calls Try.prog 94 #[.pointer (some ⟨b, 0, none⟩), .int .u64 (p : Int)] w fun e w' => e = .returned (.tuple #[.int .u64 ((word f (p - base) : Nat) : Int), .int .i64 0]) ∧ Kept none' w w' := by
  have hmf := mkf
  obtain ⟨o, ho⟩ : ∃ o, o = p - base := ⟨_, rfl⟩
  have hol : o + 8 ≤ n := by obtain ⟨h1, h2⟩ := hin; omega
  rw [← ho]
  have HO := hid ho
  have HH := hid h
  have HI := hid hin
  clear h ho hin
  go_enter_defers Try.func94, Try.ntmps94
  go_wp2_with fail
  refine (at_in b g base R lim n f p 8 _ (HH.out.keep (Err.mk' none' w).k) (by decide) HI.out).mono ?_
  rintro e w1 ⟨⟨c, rfl⟩, m, hw⟩
  have hE : Err none' w w1 := by rw [hw]; exact (Err.mk' none' w).drewN m
  have hS := HH.out.keep hE.k
  rw [← HO.out]
  have HC := hid (fun i (hi : i < 8) => hS.cg (o + i) (by omega))
  have HL := hid (fun i (hi : i < 8) => hS.f256 (o + i) (by omega))
  have hec := hE.c
  have hef := hE.f
  have HE := hid hE
  clear hS hE hw
  go_wp2
  go_loop [4, 13] (fun v i => ∃ k : Nat, k ≤ 8 ∧ i = .int .i64 k ∧ v = .int .u64 ((wordTo (fun i => f (o + i)) k : Nat) : Int)) (fun _ i => 8 - (intOf i).toNat)
  case atStart => exact ⟨0, by omega, rfl, rfl⟩
  case round =>
    obtain ⟨k, hk, rfl, rfl⟩ := hrel
    by_cases hlt : k < 8
    · have hc := HC.out k hlt
      have E := hid (word_step (wordTo (fun i => f (o + i)) k) k (f (o + k)) hlt (HL.out k hlt) (wordTo_lt _ _ (fun i hi => HL.out i (by omega))))
      go_wp2
      refine ⟨⟨k + 1, by omega, by simp, ?_⟩, by simp [intOf]; omega⟩
      rw [E.out]
      rfl
    · obtain rfl : k = 8 := by omega
      go_wp2
      refine leaves_cons (f := 101) (args := #[.pointer (some ⟨w.heap.size, 0, none⟩)]) (by simp) (by simp [go_sem]) ?_
      refine (ciWord ⟨w.heap.size, 0, none⟩ 0 _ ?_ ?_).mono ?_
      · simp [go_sem, hec]
      · simp [go_sem, hef]
      rintro e u' w'' ⟨rfl, rfl, rfl⟩
      refine ⟨.tuple #[.int .u64 ((word f o : Nat) : Int), .int .i64 0], ?_, rfl, HE.out.done2 _ _⟩
      simp [results, Try.results94, go_sem, hec, word]

/-- A number's byte. -/
def byteOf (v i : Nat) : Nat := v / 256 ^ i % 256

theorem byteOf_int (v k : Nat) : (v : Int) / 2 ^ (8 * k) % 256 = ((byteOf v k : Nat) : Int) := by
  unfold byteOf
  rw [pow256]
  simp

theorem SetWord_in (b g base R lim n f) (p v : Nat) (hv : v < 18446744073709551616) (w : World) (h : SpaceAt w b (some g) base R lim n f) (hin : In base n p 8) :
    Calls Try.prog 95 #[.pointer (some ⟨b, 0, none⟩), .int .u64 (p : Int), .int .u64 (v : Int)] w fun e w' => e = .returned (.int .i64 0) ∧ SpaceAt w' b (some g) base R lim n (upd f (p - base) 8 (byteOf v)) ∧ Kept (own b (some g)) w w' := by
  have hmf := mkf
  obtain ⟨o, ho⟩ : ∃ o, o = p - base := ⟨_, rfl⟩
  have hol : o + 8 ≤ n := by obtain ⟨h1, h2⟩ := hin; omega
  rw [← ho]
  have HO := hid ho
  have HH := hid h
  have HI := hid hin
  clear h ho hin
  go_enter_defers Try.func95, Try.ntmps95
  go_wp2_with fail
  refine (at_in b g base R lim n f p 8 _ (HH.out.keep (Err.mk' none' w).k) (by decide) HI.out).mono ?_
  rintro e w1 ⟨⟨c, rfl⟩, m, hw⟩
  have hE : Err none' w w1 := by rw [hw]; exact (Err.mk' none' w).drewN m
  rw [← HO.out]
  have HS := hid (HH.out.keep hE.k)
  have HE := hid (hE.mono (T := own b (some g)) (fun _ x => x.elim))
  clear hE hw
  go_wp2
  go_loopw [15] (fun i wr => ∃ k : Nat, k ≤ 8 ∧ i = .int .i64 k ∧ Hid (Err (own b (some g)) w wr) ∧ Hid (SpaceAt wr b (some g) base R lim n (upd f o k (byteOf v)))) (fun i _ => 8 - (intOf i).toNat)
  case atStart => exact ⟨0, by omega, rfl, HE, by rw [upd_zero]; exact HS⟩
  case round =>
    obtain ⟨k, hk, rfl, hE, hS⟩ := hrel
    clear HE HS
    by_cases hlt : k < 8
    · have hc := hS.out.cg (o + k) (by omega)
      have hf := hS.out.fg (o + k)
      have E := hid (byteOf_int v k)
      go_wp2
      refine ⟨⟨k + 1, by omega, by simp, ?_, ?_⟩, by simp [intOf]; omega⟩
      · exact hE.out.setCell HH.out.glt (Or.inr rfl) _ _
      · rw [E.out, ← upd_succ]
        exact hS.out.write (o + k) (byteOf v k) (by omega) (Nat.mod_lt _ (by decide))
    · obtain rfl : k = 8 := by omega
      have hec := hE.out.c
      have hef := hE.out.f
      go_wp2
      refine leaves_cons (f := 102) (args := #[.pointer (some ⟨w.heap.size, 0, none⟩)]) (by simp) (by simp [go_sem]) ?_
      refine (ciSetWord ⟨w.heap.size, 0, none⟩ 0 _ ?_ ?_).mono ?_
      · simp [go_sem, hec]
      · simp [go_sem, hef]
      rintro e u' w'' ⟨rfl, rfl, rfl⟩
      refine ⟨.int .i64 0, ?_, rfl, ?_, hE.out.done2 _ _⟩
      · simp [results, Try.results95, go_sem, hec]
      · exact hE.out.space HH.out hS.out _ _

end Go.Proofs.Ythglogiglimebaa.M
