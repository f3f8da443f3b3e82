/- BuddyTiles: rows of numbers; what covers the pages. -/
import Derived.Test.YthglogiglimebaaGreatKpm
import Derived.Lib.AppendZeros
namespace Go.Proofs.YthglogiglimebaaGreat
open Go.RowKit
set_option linter.unusedVariables false

/-- A row of numbers. -/
def NR (w : World) (I n : Nat) (f : Nat → Nat) : Prop := ∃ cs : Array Value, w.heap[I]? = some (.cells cs 3 (0, 0)) ∧ cs.size = n ∧ ∀ j, j < n → cs[j]? = some (.int .i64 (f j : Int))
theorem NR.cell {w I n f} (h : NR w I n f) (j : Nat) (hj : j < n) : w.cell? ⟨I, j, none⟩ = some (.int .i64 (f j : Int)) := by
  obtain ⟨cs, hg, hs, hc⟩ := h
  simp [World.cell?, hg, hc j hj]
theorem NR.froz {w I n f} (h : NR w I n f) (j : Nat) : w.frozen? ⟨I, j, none⟩ = false := by
  obtain ⟨cs, hg, hs, hc⟩ := h
  simp [World.frozen?, hg]
theorem NR.lt {w I n f} (h : NR w I n f) : I < w.heap.size := by
  obtain ⟨cs, hg, hs, hc⟩ := h
  exact heap_lt hg
theorem NR.kept {w w' I n f} {S : Nat → Prop} (h : NR w I n f) (k : Kept S w w') (hS : ¬ S I) : NR w' I n f := by
  obtain ⟨cs, hg, hs, hc⟩ := h
  exact ⟨cs, (k.block I (heap_lt hg) hS).trans hg, hs, hc⟩
theorem NR.set {w I n f} (h : NR w I n f) (c : Nat) (hc : c < n) (v : Nat) : NR (w.setCell ⟨I, c, none⟩ (.int .i64 (v : Int))) I n (fun j => if j = c then v else f j) := by
  obtain ⟨cs, hg, hs, hh⟩ := h
  refine ⟨_, heap_set hg c _, by simpa using hs, fun j hj => ?_⟩
  show _ = some (Value.int .i64 ((if j = c then v else f j : Nat) : Int))
  rw [Array.getElem?_setIfInBounds]
  by_cases e : j = c
  · subst e
    rw [if_pos rfl, if_pos (by omega), if_pos rfl]
  · rw [if_neg (by omega), if_neg e]
    exact hh j hj
theorem info_num : (Tryz.prog.info? 3).map (fun i => (i.zero, i.size, i.bytes)) = some (some (.int .i64 0), 1, 8) := by kernel_rfl
theorem make_nums (n : Nat) (hn : n ≤ 1024) (w : World) : ∃ w1, (Instr.makeSlice 79 (.int .i64 (n : Int)) (.int .i64 (n : Int))).run Tryz.prog w = .ok (.slice (some ⟨w.heap.size, 0, none⟩) n n) w1 ∧ NR w1 w.heap.size n (fun _ => 0) ∧ Kept none' w w1 ∧ w1.heap.size = w.heap.size + 1 := by
  have hr := run_make_row' (P := Tryz.prog) 79 3 (.int .i64 0) 8 Tryz.underlying79 info_num rfl .i64 .i64 n (by omega) (by omega) w
  refine ⟨_, hr, ⟨_, heap_new _ _, size_madeCells _ _, fun j hj => ?_⟩, (Kept.refl none' w).alloc _, by simp⟩
  simp [madeCells, hj, Nat.mod_one]
/-- The row says 1 of the pages that are covered, 0 of the others. -/
def Sees (f : Nat → Nat) (P : Nat) (C : Nat → Prop) : Prop := ∀ g, g < P → (f g = 1 ∧ C g) ∨ (f g = 0 ∧ ¬ C g)
theorem Sees.congr {f P} {C D : Nat → Prop} (h : Sees f P C) (e : ∀ g, g < P → (C g ↔ D g)) : Sees f P D := fun g hg => by
  rcases h g hg with ⟨h1, h2⟩ | ⟨h1, h2⟩
  · exact .inl ⟨h1, (e g hg).1 h2⟩
  · exact .inr ⟨h1, fun h3 => h2 ((e g hg).2 h3)⟩
theorem Sees.zero (P : Nat) {C : Nat → Prop} (h : ∀ g, g < P → ¬ C g) : Sees (fun _ => 0) P C := fun g hg => .inr ⟨rfl, h g hg⟩
theorem Sees.step {f P} {C : Nat → Prop} {p j : Nat} (h : Sees f P (fun g => C g ∨ (p ≤ g ∧ g < p + j))) (hC : ¬ C (p + j)) (hp : p + j < P) : f (p + j) = 0 ∧ Sees (fun g => if g = p + j then 1 else f g) P (fun g => C g ∨ (p ≤ g ∧ g < p + (j + 1))) := by
  refine ⟨?_, fun g hg => ?_⟩
  · rcases h (p + j) hp with ⟨_, h2 | h2⟩ | ⟨h1, _⟩
    · exact absurd h2 hC
    · omega
    · exact h1
  · by_cases e : g = p + j
    · exact .inl ⟨if_pos e, .inr (by omega)⟩
    · show ((if g = p + j then 1 else f g) = 1 ∧ _) ∨ ((if g = p + j then 1 else f g) = 0 ∧ _)
      rw [if_neg e]
      rcases h g hg with ⟨h1, h2⟩ | ⟨h1, h2⟩
      · exact .inl ⟨h1, h2.imp_right (fun h => by omega)⟩
      · exact .inr ⟨h1, fun h3 => h2 (h3.imp_right (fun h => by omega))⟩
/-- Pages of the first i blocks of the book. -/
def LC (R : Nat → Bk) (i g : Nat) : Prop := ∃ j, j < i ∧ (R j).pg ≤ g ∧ g < (R j).pg + 2 ^ (R j).od
theorem LC.succ (R : Nat → Bk) (i g : Nat) : LC R (i + 1) g ↔ LC R i g ∨ ((R i).pg ≤ g ∧ g < (R i).pg + 2 ^ (R i).od) := by
  constructor
  · rintro ⟨j, hj, h⟩
    by_cases e : j = i
    · subst e; exact .inr h
    · exact .inl ⟨j, by omega, h⟩
  · rintro (⟨j, hj, h⟩ | h)
    · exact ⟨j, by omega, h⟩
    · exact ⟨i, by omega, h⟩
/-- Free blocks that were looked at: those of orders below o, and the first i of order o. -/
def Fd (fr : Nat → List Nat) (o i q k : Nat) : Prop := (k < o ∧ q ∈ fr k) ∨ (k = o ∧ ∃ j, j < i ∧ j < (fr o).length ∧ (fr o).getD j 0 = q)
theorem Fd.succ {fr o i q k} (hi : i < (fr o).length) : Fd fr o (i + 1) q k ↔ Fd fr o i q k ∨ (q = (fr o).getD i 0 ∧ k = o) := by
  constructor
  · rintro (h | ⟨h1, j, h2, h3, h4⟩)
    · exact .inl (.inl h)
    · by_cases e : j = i
      · subst e; exact .inr ⟨h4.symm, h1⟩
      · exact .inl (.inr ⟨h1, j, by omega, h3, h4⟩)
  · rintro ((h | ⟨h1, j, h2, h3, h4⟩) | ⟨h1, h2⟩)
    · exact .inl h
    · exact .inr ⟨h1, j, by omega, h3, h4⟩
    · exact .inr ⟨h2, i, by omega, hi, h1.symm⟩
theorem Fd.next {fr o q k} : Fd fr o (fr o).length q k ↔ Fd fr (o + 1) 0 q k := by
  constructor
  · rintro (⟨h1, h2⟩ | ⟨h1, j, h2, h3, h4⟩)
    · exact .inl ⟨by omega, h2⟩
    · exact .inl ⟨by omega, by rw [h1, ← h4]; exact M.getD_mem h3⟩
  · rintro (⟨h1, h2⟩ | ⟨h1, j, h2, _⟩)
    · by_cases e : k = o
      · subst e
        obtain ⟨j, h3, h4⟩ := M.mem_getD h2
        exact .inr ⟨rfl, j, h3, h3, h4⟩
      · exact .inl ⟨by omega, h2⟩
    · omega
/-- Pages of these. -/
def FC (fr : Nat → List Nat) (o i g : Nat) : Prop := ∃ q k, Fd fr o i q k ∧ q ≤ g ∧ g < q + 2 ^ k
theorem FC.succ {fr o i g} (hi : i < (fr o).length) : FC fr o (i + 1) g ↔ FC fr o i g ∨ ((fr o).getD i 0 ≤ g ∧ g < (fr o).getD i 0 + 2 ^ o) := by
  constructor
  · rintro ⟨q, k, h1, h2⟩
    rcases (Fd.succ hi).1 h1 with h | ⟨rfl, rfl⟩
    · exact .inl ⟨q, k, h, h2⟩
    · exact .inr h2
  · rintro (⟨q, k, h1, h2⟩ | h)
    · exact ⟨q, k, (Fd.succ hi).2 (.inl h1), h2⟩
    · exact ⟨_, _, (Fd.succ hi).2 (.inr ⟨rfl, rfl⟩), h⟩
theorem FC.next {fr o g} : FC fr o (fr o).length g ↔ FC fr (o + 1) 0 g :=
  ⟨fun ⟨q, k, h1, h2⟩ => ⟨q, k, Fd.next.1 h1, h2⟩, fun ⟨q, k, h1, h2⟩ => ⟨q, k, Fd.next.2 h1, h2⟩⟩
/-- The row of free blocks: 1 and the order, where one begins. -/
def Begs (f : Nat → Nat) (P : Nat) (D : Nat → Nat → Prop) : Prop := ∀ q, q < P → ∀ k, f q = k + 1 ↔ D q k
theorem Begs.step {f P} {D D' : Nat → Nat → Prop} {p o : Nat} (h : Begs f P D) (hD : ∀ q k, D' q k ↔ D q k ∨ (q = p ∧ k = o)) (hn : ∀ k, ¬ D p k) : Begs (fun q => if q = p then o + 1 else f q) P D' := fun q hq k => by
  show (if q = p then o + 1 else f q) = k + 1 ↔ _
  rw [hD]
  by_cases e : q = p
  · subst e
    rw [if_pos rfl]
    constructor
    · exact fun h => .inr ⟨rfl, by omega⟩
    · rintro (h1 | ⟨_, h1⟩)
      · exact absurd h1 (hn k)
      · omega
  · rw [if_neg e, h q hq k]
    exact ⟨.inl, fun h => h.elim id (fun h => absurd h.1 e)⟩
theorem Begs.congr {f P} {D D' : Nat → Nat → Prop} (h : Begs f P D) (e : ∀ q k, D q k ↔ D' q k) : Begs f P D' := fun q hq k => (h q hq k).trans (e q k)
theorem Begs.zero (P : Nat) (fr : Nat → List Nat) : Begs (fun _ => 0) P (Fd fr 0 0) := fun q hq k => by
  constructor
  · intro h
    have h : 0 = k + 1 := h
    omega
  · rintro (⟨h, _⟩ | ⟨_, j, h, _⟩) <;> omega
/-- What a law's world without a block under way says of its pages. -/
structure Ti (x : Bx) (t : Bt) (fr : Nat → List Nat) (R : Nat → Bk) (n : Nat) : Prop where
  s : ∃ B, Sd x t fr B ∧ (∀ q i, ¬ B 9 q i) ∧ ∀ q i, B 2 q i ↔ Lk R n q i
  inj : Inj R n
theorem Sn.ti {x t R n} (s : Sn x t (Lk R n)) (hI : Inj R n) : ∃ fr, Ti x t fr R n := by
  obtain ⟨fr, B, h⟩ := s
  exact ⟨fr, ⟨B, h⟩, hI⟩
theorem Ti.liv {x t fr R n} (h : Ti x t fr R n) {i j : Nat} (hi : i < n) (hj : j < 2 ^ (R i).od) : ¬ LC R i ((R i).pg + j) := by
  rintro ⟨a, ha, h1, h2⟩
  obtain ⟨B, s, hN, hL⟩ := h.s
  rcases s.ds _ _ _ _ _ _ ((hL _ _).2 ⟨a, by omega, rfl, rfl⟩) ((hL _ _).2 ⟨i, hi, rfl, rfl⟩) with ⟨_, e1, e2⟩ | e | e
  · have := h.inj a i (by omega) hi e1 e2; omega
  · omega
  · omega
theorem Ti.nd {x t fr R n} (h : Ti x t fr R n) {k : Nat} (hk : k ≤ x.o) : (fr k).Nodup := by
  obtain ⟨B, s, _⟩ := h.s
  have := (s.ch k hk).nodup
  rw [List.nodup_iff_pairwise_ne, List.pairwise_map] at this
  exact this.imp fun h e => h (by rw [e])
theorem Ti.at {x t fr R n} (h : Ti x t fr R n) {o i : Nat} (ho : o ≤ x.o) (hi : i < (fr o).length) : (fr o).getD i 0 % 2 ^ o = 0 ∧ (fr o).getD i 0 + 2 ^ o ≤ t.m.n := by
  obtain ⟨B, s, _⟩ := h.s
  exact (s.al _ _ _ ((s.fi _ _).2 ⟨ho, M.getD_mem hi⟩)).2
theorem Ti.fd {x t fr R n} (h : Ti x t fr R n) {o i q k : Nat} (ho : o ≤ x.o) (hd : Fd fr o i q k) : k ≤ x.o ∧ q ∈ fr k := by
  rcases hd with ⟨h1, h2⟩ | ⟨h1, j, h2, h3, h4⟩
  · exact ⟨by omega, h2⟩
  · subst h1
    exact ⟨ho, by rw [← h4]; exact M.getD_mem h3⟩
theorem Ti.apart {x t fr R n} (h : Ti x t fr R n) {o i q k : Nat} (ho : o ≤ x.o) (hi : i < (fr o).length) (hd : Fd fr o i q k) : (fr o).getD i 0 + 2 ^ o ≤ q ∨ q + 2 ^ k ≤ (fr o).getD i 0 := by
  obtain ⟨h1, h2⟩ := h.fd ho hd
  have hnd := h.nd ho
  obtain ⟨B, s, _⟩ := h.s
  rcases s.ds _ _ _ _ _ _ ((s.fi _ _).2 ⟨ho, M.getD_mem hi⟩) ((s.fi _ _).2 ⟨h1, h2⟩) with ⟨_, e1, e2⟩ | e
  · subst e2
    rcases hd with ⟨h3, _⟩ | ⟨_, j, h3, h4, h5⟩
    · omega
    · have := M.getD_inj hnd hi h4 (e1.trans h5.symm)
      omega
  · exact e
theorem Ti.fre {x t fr R n} (h : Ti x t fr R n) {o i j : Nat} (ho : o ≤ x.o) (hi : i < (fr o).length) (hj : j < 2 ^ o) : ¬ (LC R n ((fr o).getD i 0 + j) ∨ FC fr o i ((fr o).getD i 0 + j)) := by
  rintro (⟨a, ha, h1, h2⟩ | ⟨q, k, h1, h2, h3⟩)
  · obtain ⟨B, s, hN, hL⟩ := h.s
    rcases s.ds _ _ _ _ _ _ ((hL _ _).2 ⟨a, ha, rfl, rfl⟩) ((s.fi _ _).2 ⟨ho, M.getD_mem hi⟩) with ⟨e, _⟩ | e | e <;> omega
  · rcases h.apart ho hi h1 with e | e <;> omega
theorem Ti.beg {x t fr R n} (h : Ti x t fr R n) {o i k : Nat} (ho : o ≤ x.o) (hi : i < (fr o).length) : ¬ Fd fr o i ((fr o).getD i 0) k := fun hd => by
  have h1 : 0 < 2 ^ o := Nat.pow_pos (by decide)
  have h2 : 0 < 2 ^ k := Nat.pow_pos (by decide)
  rcases h.apart ho hi hd with e | e <;> omega
theorem Ti.all {x t fr R n} (h : Ti x t fr R n) {g : Nat} (hg : g < t.m.n) : LC R n g ∨ FC fr (x.o + 1) 0 g := by
  obtain ⟨B, s, hN, hL⟩ := h.s
  obtain ⟨a, p, k, h1, h2, h3⟩ := s.cv g hg
  rcases s.tg _ _ _ h1 with rfl | rfl | rfl
  · obtain ⟨h4, h5⟩ := (s.fi _ _).1 h1
    exact .inr ⟨p, k, .inl ⟨by omega, h5⟩, h2, h3⟩
  · obtain ⟨j, hj, rfl, rfl⟩ := (hL _ _).1 h1
    exact .inl ⟨j, hj, h2, h3⟩
  · exact absurd h1 (hN _ _)
theorem Ti.pair {x t fr R n f} (h : Ti x t fr R n) (hf : Begs f t.m.n (Fd fr (x.o + 1) 0)) {o i : Nat} (ho : o < x.o) (hi : i * 2 ^ (o + 1) < t.m.n) :
    i * 2 ^ (o + 1) + 2 ^ o < t.m.n ∧ ¬ (f (i * 2 ^ (o + 1)) = o + 1 ∧ f (i * 2 ^ (o + 1) + 2 ^ o) = o + 1) ∧ inS (t.m.n / 2 ^ (o + 1)) (t.m.wd o) ((i * 2 ^ (o + 1) / 2 ^ (o + 1) : Nat) : Int) = (decide (f (i * 2 ^ (o + 1)) = o + 1) != decide (f (i * 2 ^ (o + 1) + 2 ^ o) = o + 1)) := by
  obtain ⟨B, s, hN, hL⟩ := h.s
  have hz : 0 < 2 ^ (o + 1) := Nat.pow_pos (by decide)
  have hz2 : 2 ^ (o + 1) = 2 * 2 ^ o := by rw [Nat.pow_succ, Nat.mul_comm]
  have hz0 : 0 < 2 ^ o := Nat.pow_pos (by decide)
  obtain ⟨r, hr⟩ := s.dv
  obtain ⟨r2, hr2⟩ : ∃ r2, t.m.n = r2 * 2 ^ (o + 1) := ⟨r * 2 ^ (x.o - (o + 1)), by rw [hr, Nat.mul_assoc, ← Nat.pow_add, Nat.sub_add_cancel ho]⟩
  have hir : i < r2 := by rw [hr2] at hi; exact Nat.lt_of_mul_lt_mul_right hi
  have hin : (i + 1) * 2 ^ (o + 1) ≤ r2 * 2 ^ (o + 1) := Nat.mul_le_mul_right _ hir
  rw [Nat.add_mul, Nat.one_mul, ← hr2] at hin
  have e1 : i * 2 ^ (o + 1) = 2 * i * 2 ^ o := by rw [hz2, ← Nat.mul_assoc, Nat.mul_comm i 2]
  have e2 : i * 2 ^ (o + 1) + 2 ^ o = (2 * i + 1) * 2 ^ o := by rw [e1, Nat.add_mul, Nat.one_mul]
  have hb : i * 2 ^ (o + 1) + 2 ^ o < t.m.n := by omega
  have k1 : f (i * 2 ^ (o + 1)) = o + 1 ↔ 2 * i * 2 ^ o ∈ fr o := by
    rw [hf _ (by omega) o, ← e1]
    constructor
    · rintro (h | h)
      · exact h.2
      · omega
    · exact fun h => .inl ⟨by omega, h⟩
  have k2 : f (i * 2 ^ (o + 1) + 2 ^ o) = o + 1 ↔ (2 * i + 1) * 2 ^ o ∈ fr o := by
    rw [hf _ hb o, ← e2]
    constructor
    · rintro (h | h)
      · exact h.2
      · omega
    · exact fun h => .inl ⟨by omega, h⟩
  have hd : t.m.n / 2 ^ (o + 1) = r2 := by rw [hr2, Nat.mul_div_cancel _ hz]
  refine ⟨hb, fun ⟨h1, h2⟩ => s.nm o ho i ⟨k1.1 h1, k2.1 h2⟩, ?_⟩
  rw [Nat.mul_div_cancel _ hz]
  have hbt := s.bt o ho i (by rw [hd]; exact hir)
  rw [decide_eq_decide.2 k1, decide_eq_decide.2 k2, ← hbt]
  unfold inS
  rw [hd, show inR r2 (i : Int) = true from decide_eq_true ⟨by omega, by omega⟩, Bool.true_and, Int.toNat_natCast]
theorem len_all : ∀ (r : Nat) (l : List Nat), (∀ i, i < r → i ∈ l) → r ≤ l.length
  | 0, l, _ => Nat.zero_le _
  | r + 1, l, h => by
    have hm := h r (by omega)
    have := len_all r (l.erase r) fun i hi => (List.mem_erase_of_ne (by omega)).2 (h i (by omega))
    rw [List.length_erase_of_mem hm] at this
    have := List.length_pos_of_mem hm
    omega
theorem Ti.whole {x t fr R} (h : Ti x t fr R 0) : (fr x.o).length * 2 ^ x.o = t.m.n := by
  have hnd := h.nd (Nat.le_refl x.o)
  obtain ⟨B, s, hN, hL⟩ := h.s
  have hz : 0 < 2 ^ x.o := Nat.pow_pos (by decide)
  obtain ⟨r, hr⟩ := s.dv
  have al : ∀ q, q ∈ fr x.o → q = q / 2 ^ x.o * 2 ^ x.o ∧ q / 2 ^ x.o < r := fun q hq => by
    obtain ⟨_, h2, h3⟩ := s.al _ _ _ ((s.fi q x.o).2 ⟨Nat.le_refl _, hq⟩)
    have e : q = q / 2 ^ x.o * 2 ^ x.o := by have := Nat.div_add_mod q (2 ^ x.o); rw [h2, Nat.mul_comm] at this; omega
    refine ⟨e, ?_⟩
    have : q / 2 ^ x.o * 2 ^ x.o < r * 2 ^ x.o := by rw [← e, ← hr]; omega
    exact Nat.lt_of_mul_lt_mul_right this
  have h1 : ((fr x.o).map (· / 2 ^ x.o)).length ≤ r := by
    refine M.nodup_len r _ ?_ ?_
    · rw [List.nodup_iff_pairwise_ne, List.pairwise_map]
      refine (List.nodup_iff_pairwise_ne.1 hnd).imp_of_mem fun {a b} ha hb hab e => hab ?_
      rw [(al a ha).1, (al b hb).1, e]
    · intro p hp
      obtain ⟨q, hq, rfl⟩ := List.mem_map.1 hp
      exact (al q hq).2
  have h2 := len_all r ((fr x.o).map (· / 2 ^ x.o)) fun i hi => by
    have hi2 : (i + 1) * 2 ^ x.o ≤ r * 2 ^ x.o := Nat.mul_le_mul_right _ hi
    rw [Nat.add_mul, Nat.one_mul] at hi2
    obtain ⟨q, j, h3, h4, h5⟩ := s.stretch hN (Nat.le_refl x.o) (Nat.mul_mod_left i (2 ^ x.o)) (by omega) fun p j hb => by
      obtain ⟨a, ha, _⟩ := (hL p j).1 hb
      omega
    obtain ⟨h6, h7⟩ := (s.fi q j).1 h4
    obtain rfl : j = x.o := by omega
    refine List.mem_map.2 ⟨q, h7, ?_⟩
    obtain ⟨e, _⟩ := al q h7
    have : q = i * 2 ^ x.o := by omega
    show q / 2 ^ x.o = i
    rw [this, Nat.mul_div_cancel _ hz]
  rw [List.length_map] at h1 h2
  rw [hr, Nat.le_antisymm h1 h2]
end Go.Proofs.YthglogiglimebaaGreat
