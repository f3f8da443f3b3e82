/- PageCells. -/
import Derived.Test.YtbhheimedbfmeaaCel
import Derived.Test.YtbhheimedbfmeaaPgS
import Derived.Deep.OwnRows
namespace Go.Proofs.Ytbhheimedbfmeaa
open Go.RowKit
set_option linter.unusedVariables false

theorem tb_eq (x r : Nat) : (x / 2 ^ r % 2 == 1) = x.testBit r := by
  rw [Nat.testBit_eq_decide_div_mod_eq]
  rfl
theorem lit_turn (p : Pg) (c j : Nat) (hc : c < 256) (hj : j < 256) : litP (turnP p c) j = (if j = c then !litP p c else litP p j) := by
  have key : ∀ x : Nat, ∀ s r : Nat, (x ^^^ 2 ^ r).testBit s = (if s = r then !x.testBit s else x.testBit s) := fun x s r => by
    rw [Nat.testBit_xor, Nat.testBit_two_pow]
    by_cases e : s = r
    · subst e; simp
    · have e' : ¬ r = s := fun h => e h.symm
      simp [e, e']
  have two : ∀ a b : Nat, a / 64 = b / 64 → (a % 64 = b % 64 ↔ a = b) := fun a b h => by omega
  unfold litP
  rw [tb_eq, tb_eq, tb_eq]
  rcases lt4 hc with h | h | h | h <;> rcases lt4 hj with g | g | g | g <;> simp only [turnP, h, g, wP] <;> first
    | (rw [key]; by_cases e : j = c
       · subst e; simp
       · have e2 : ¬ j % 64 = c % 64 := fun e3 => e ((two j c (by omega)).1 e3)
         simp [e, e2])
    | (rw [if_neg (by omega)])
theorem lit_own (p : Pg) (c j : Nat) (hc : c < 256) (hj : j < 256) : litP (ownP p c) j = (if j = c then !litP p c else litP p j) := by
  rw [← lit_turn p c j hc hj]
  unfold litP ownP
  unfold wP
  rfl
/-- Numbers that came in. -/
def I64 (z : Int) : Prop := -9223372036854775808 ≤ z ∧ z ≤ 9223372036854775807
def Ints (w : World) (v : Value) (m : Nat) : Prop :=
  m ≤ 9223372036854775807 ∧ ∃ oa oc, v = .slice oa m oc ∧ (m = 0 ∨ ∃ bl o, oa = some ⟨bl, o, none⟩ ∧ bl < w.heap.size ∧ ∀ k, k < m → ∃ z, I64 z ∧ w.cell? ⟨bl, o + k, none⟩ = some (.int .i64 z))
/-- The law's own list of truths. -/
def InB (w : World) (I n : Nat) (f : Nat → Bool) : Prop := ∃ cs : Array Value, w.heap[I]? = some (.cells cs 4 (0, 0)) ∧ cs.size = n ∧ ∀ j, j < n → cs[j]? = some (.bool (f j))
theorem InB.cell {w I n f} (h : InB w I n f) (j : Nat) (hj : j < n) : w.cell? ⟨I, j, none⟩ = some (.bool (f j)) := by
  obtain ⟨cs, hg, hs, hc⟩ := h
  simp [World.cell?, hg, hc j hj]
theorem InB.froz {w I n f} (h : InB w I n f) (j : Nat) : w.frozen? ⟨I, j, none⟩ = false := by
  obtain ⟨cs, hg, hs, hc⟩ := h
  simp [World.frozen?, hg]
theorem InB.kept {w w' I n f} {S : Nat → Prop} (h : InB w I n f) (k : Kept S w w') (hS : ¬ S I) : InB w' I n f := by
  obtain ⟨cs, hg, hs, hc⟩ := h
  exact ⟨cs, (k.block I (heap_lt hg) hS).trans hg, hs, hc⟩
theorem InB.set {w I n f f'} (h : InB w I n f) (c : Nat) (hc : c < n) (v : Bool) (hf : ∀ j, j < n → f' j = (if j = c then v else f j)) : InB (w.setCell ⟨I, c, none⟩ (.bool v)) I n f' := by
  obtain ⟨cs, hg, hs, hh⟩ := h
  refine ⟨_, heap_set hg c _, by simpa using hs, fun j hj => ?_⟩
  rw [Array.getElem?_setIfInBounds, hf j hj]
  by_cases e : j = c
  · subst e
    rw [if_pos rfl, if_pos (by omega), if_pos rfl]
  · rw [if_neg (by omega), if_neg e]
    exact hh j hj
theorem info_bool : (Try.prog.info? 4).map (fun i => (i.zero, i.size, i.bytes)) = some (some (.bool false), 1, 1) := by kernel_rfl
theorem make_bools (n : Nat) (hn : n ≤ 256) (w : World) : ∃ w1, (Instr.makeSlice 65 (.int .i64 (n : Int)) (.int .i64 (n : Int))).run Try.prog w = .ok (.slice (some ⟨w.heap.size, 0, none⟩) n n) w1 ∧ InB w1 w.heap.size n (fun _ => false) ∧ Kept none' w w1 ∧ w1.heap.size = w.heap.size + 1 := by
  have hr := run_make_row' (P := Try.prog) 65 4 (.bool false) 1 Try.underlying65 info_bool rfl .i64 .i64 n (by omega) (by omega) w
  refine ⟨_, hr, ⟨_, heap_new _ _, size_madeCells _ _, fun j hj => ?_⟩, (Kept.refl none' w).alloc _, by simp⟩
  simp [madeCells, hj, Nat.mod_one]
/-- Between the rounds: the map of one page, its page p, the truths. -/
structure Cl (w W : World) (b I : Nat) (c : Nat) (p : Pg) : Prop where
  mp : ∃ B wd, MapAt W b B ⟨0, 1, fun _ => p, wd⟩ ∧ ∀ x, mown b B 0 x → w.heap.size ≤ x ∧ x ≠ I
  ib : InB W I (256 / 2 ^ c) (litP p)
  kd : p.kd = 4
  cl : p.cl = c
  hI : w.heap.size ≤ I
  kp : Kept none' w W
theorem Cl.keep {w W W' b I c p} (h : Cl w W b I c p) (k : Kept none' W W') : Cl w W' b I c p := by
  obtain ⟨B, wd, hM, hN⟩ := h.mp
  exact ⟨⟨B, wd, hM.keep k, hN⟩, h.ib.kept k (fun x => x), h.kd, h.cl, h.hI, none_trans h.kp k⟩
theorem Cl.aft {w W W' b B I c p p' wd wd'} (h : Cl w W b I c p) (hN : ∀ x, mown b B 0 x → w.heap.size ≤ x ∧ x ≠ I) (hA : Aft W W' b B 0 ⟨0, 1, fun _ => p', wd'⟩) (hM : MapAt W b B ⟨0, 1, fun _ => p, wd⟩) :
    (∃ B' wd, MapAt W' b B' ⟨0, 1, fun _ => p', wd⟩ ∧ ∀ x, mown b B' 0 x → w.heap.size ≤ x ∧ x ≠ I) ∧ InB W' I (256 / 2 ^ c) (litP p) ∧ Kept none' w W' := by
  obtain ⟨B', hM', hK, hF⟩ := hA
  obtain ⟨cs, hg, _⟩ := h.ib
  have hIl := heap_lt hg
  refine ⟨⟨B', _, hM', fun x hx => (hF x hx).elim (hN x) (fun e => ⟨Nat.le_trans h.kp.size e, by omega⟩)⟩, h.ib.kept hK (fun e => (hN I e).2 rfl), h.kp.trans hK (fun _ _ x => x) (fun x hx e => absurd (hN x e).1 (by omega))⟩
theorem Cl.same {w W W' b B I c p wd} (h : Cl w W b I c p) (hN : ∀ x, mown b B 0 x → w.heap.size ≤ x ∧ x ≠ I) (hM : MapAt W b B ⟨0, 1, fun _ => p, wd⟩) (hA : Aft W W' b B 0 ⟨0, 1, fun _ => p, wd⟩) : Cl w W' b I c p := by
  obtain ⟨h1, h2, h3⟩ := h.aft hN hA hM
  exact ⟨h1, h2, h.kd, h.cl, h.hI, h3⟩
theorem Cl.turned {w W : World} {b I c : Nat} {p : Pg} {d : Nat} (hmp : ∃ B' wd, MapAt W b B' ⟨0, 1, fun _ => ownP p d, wd⟩ ∧ ∀ x, mown b B' 0 x → w.heap.size ≤ x ∧ x ≠ I) (ib : InB W I (256 / 2 ^ c) (litP p)) (kp : Kept none' w W) (kd : p.kd = 4) (cl : p.cl = c) (hI : w.heap.size ≤ I) (hd : d < 256 / 2 ^ c) (v : Bool) (hv : v = !litP p d) :
    Cl w (W.setCell ⟨I, d, none⟩ (.bool v)) b I c (ownP p d) := by
  obtain ⟨B, wd, hM, hN⟩ := hmp
  have hle : 256 / 2 ^ c ≤ 256 := Nat.div_le_self _ _
  have ks : Kept (fun x => x = I) W (W.setCell ⟨I, d, none⟩ (.bool v)) := (Kept.refl (fun x => x = I) W).setCell (p := ⟨I, d, none⟩) rfl _
  have hr := turn_rest p d
  refine ⟨⟨B, wd, hM.kept ks (fun x hx e => (hN x hx).2 e), hN⟩, ib.set d hd v (fun j hj => ?_), ?_, ?_, hI, kp.setNew (p := ⟨I, d, none⟩) (fun e => absurd e (Nat.not_lt.2 hI)) _⟩
  · rw [lit_own p d j (by omega) (by omega), hv]
  · exact hr.1.trans kd
  · exact hr.2.2.1.trans cl
theorem own_lv (p : Pg) (d : Nat) : (ownP p d).lv = wrap64 (if litP p d = true then p.lv - 1 else p.lv + 1) := rfl
end Go.Proofs.Ytbhheimedbfmeaa
