/- A map that is newer than w: the contracts. -/
import Derived.Test.YtbhheimedbfmeaaCal
import Derived.Test.YtbhheimedbfmeaaPgN
import Derived.Test.YtbhheimedbfmeaaPgO
namespace Go.Proofs.Ytbhheimedbfmeaa
open Go.RowKit
set_option linter.unusedVariables false

def KS (w W : World) (b : Nat) (m : Mp) : Prop := ∃ B, MapAt W b B m ∧ (∀ x, mown b B m.o x → w.heap.size ≤ x) ∧ Kept none' w W
theorem KS.kp {w W b m} (h : KS w W b m) : Kept none' w W := by obtain ⟨_, _, _, k⟩ := h; exact k
theorem KS.keep {w W W' b m} (h : KS w W b m) (k : Kept none' W W') : KS w W' b m := by
  obtain ⟨B, h1, h2, h3⟩ := h
  exact ⟨B, h1.keep k, h2, none_trans h3 k⟩
theorem KS.aft {w W W' : World} {b : Nat} {B : Bs} {m m' : Mp} (h2 : ∀ x, mown b B m.o x → w.heap.size ≤ x) (h3 : Kept none' w W) (hA : Aft W W' b B m.o m') (ho : m'.o = m.o) : KS w W' b m' := by
  obtain ⟨B', a1, a2, a3⟩ := hA
  refine ⟨B', a1, fun x hx => ?_, h3.trans a2 (fun _ _ x => x) (fun x hx e => absurd (h2 x e) (by omega))⟩
  rw [ho] at hx
  exact (a3 x hx).elim (h2 x) (fun e => Nat.le_trans h3.size e)
theorem grow_o (m : Mp) : (growM m).o = m.o := by unfold growM; split <;> rfl
theorem shrink_o (m : Mp) (n : Int) : (shrinkM m n).o = m.o := by unfold shrinkM; split <;> rfl
theorem run_o (m : Mp) (p o k : Int) : (runM m p o k).o = m.o := by unfold runM; split <;> rfl
theorem slab_o (m : Mp) (p c : Int) : (slabM m p c).o = m.o := by unfold slabM; split <;> rfl
theorem own_o (m : Mp) (p c : Int) (l : Bool) : (ownM m p c l).o = m.o := by unfold ownM; split <;> rfl
theorem chain_o (m : Mp) (p x y : Int) : (chainM m p x y).o = m.o := by unfold chainM; split <;> rfl
theorem first_o (m : Mp) (p c : Int) : (firstM m p c).o = m.o := by unfold firstM; split <;> rfl
theorem flip_o (m : Mp) (k i : Int) : (flipM m k i).o = m.o := by unfold flipM; split <;> rfl
theorem call_o (m : Mp) (k p x y : Int) (l : Bool) : (callM m k p x y l).o = m.o := by
  unfold callM
  split; exact grow_o m
  split; exact shrink_o m x
  split; exact run_o m p x y
  split; exact slab_o m p x
  split; exact own_o m p x l
  split; exact chain_o m p x y
  split; exact first_o m p x
  exact flip_o m x p
theorem New_ks (i : Int) (w W : World) (k : Kept none' w W) :
    Calls Try.prog 10 #[.int .i64 i] W fun e w' => ∃ b, e = .returned (.pointer (some ⟨b, 0, none⟩)) ∧ KS w w' b (newM (ordN i)) := by
  refine (new_any i W).mono ?_
  rintro e w' ⟨b, B, rfl, h1, h2, h3⟩
  exact ⟨b, rfl, B, h1, fun x hx => Nat.le_trans k.size (h3 x hx), none_trans k h2⟩
theorem Grow_ks (b : Nat) (m : Mp)  (w W : World) (h : KS w W b m) :
    Calls Try.prog 11 #[.pointer (some ⟨b, 0, none⟩)] W fun e w' => e = .returned (.tuple #[]) ∧ KS w w' b (growM m) := by
  obtain ⟨B, h1, h2, h3⟩ := h
  refine (Grow_any b B m W h1).mono ?_
  rintro e w' ⟨rfl, hA⟩
  exact ⟨rfl, KS.aft h2 h3 hA (grow_o m)⟩
theorem Shrink_ks (b : Nat) (m : Mp) (n : Int) (w W : World) (h : KS w W b m) :
    Calls Try.prog 23 #[.pointer (some ⟨b, 0, none⟩), .int .i64 n] W fun e w' => e = .returned (.int .i64 (shrinkE m n)) ∧ KS w w' b (shrinkM m n) := by
  obtain ⟨B, h1, h2, h3⟩ := h
  refine (Shrink_any b B m n W h1).mono ?_
  rintro e w' ⟨rfl, hA⟩
  exact ⟨rfl, KS.aft h2 h3 hA (shrink_o m n)⟩
theorem Slab_ks (b : Nat) (m : Mp) (p c : Int) (w W : World) (h : KS w W b m) :
    Calls Try.prog 15 #[.pointer (some ⟨b, 0, none⟩), .int .i64 p, .int .i64 c] W fun e w' => e = .returned (.int .i64 (slabE m p c)) ∧ KS w w' b (slabM m p c) := by
  obtain ⟨B, h1, h2, h3⟩ := h
  refine (Slab_any b B m p c W h1).mono ?_
  rintro e w' ⟨rfl, hA⟩
  exact ⟨rfl, KS.aft h2 h3 hA (slab_o m p c)⟩
theorem Own_ks (b : Nat) (m : Mp) (p c : Int) (l : Bool) (w W : World) (h : KS w W b m) :
    Calls Try.prog 16 #[.pointer (some ⟨b, 0, none⟩), .int .i64 p, .int .i64 c, .bool l] W fun e w' => e = .returned (.int .i64 (ownE m p c l)) ∧ KS w w' b (ownM m p c l) := by
  obtain ⟨B, h1, h2, h3⟩ := h
  refine (Own_any b B m p c l W h1).mono ?_
  rintro e w' ⟨rfl, hA⟩
  exact ⟨rfl, KS.aft h2 h3 hA (own_o m p c l)⟩
theorem Chain_ks (b : Nat) (m : Mp) (p x y : Int) (w W : World) (h : KS w W b m) :
    Calls Try.prog 17 #[.pointer (some ⟨b, 0, none⟩), .int .i64 p, .int .i64 x, .int .i64 y] W fun e w' => e = .returned (.int .i64 (chainE m p x y)) ∧ KS w w' b (chainM m p x y) := by
  obtain ⟨B, h1, h2, h3⟩ := h
  refine (Chain_any b B m p x y W h1).mono ?_
  rintro e w' ⟨rfl, hA⟩
  exact ⟨rfl, KS.aft h2 h3 hA (chain_o m p x y)⟩
theorem First_ks (b : Nat) (m : Mp) (p c : Int) (w W : World) (h : KS w W b m) :
    Calls Try.prog 18 #[.pointer (some ⟨b, 0, none⟩), .int .i64 p, .int .i64 c] W fun e w' => e = .returned (.int .i64 (firstE m p c)) ∧ KS w w' b (firstM m p c) := by
  obtain ⟨B, h1, h2, h3⟩ := h
  refine (First_any b B m p c W h1).mono ?_
  rintro e w' ⟨rfl, hA⟩
  exact ⟨rfl, KS.aft h2 h3 hA (first_o m p c)⟩
theorem Flip_ks (b : Nat) (m : Mp) (k i : Int) (w W : World) (h : KS w W b m) :
    Calls Try.prog 20 #[.pointer (some ⟨b, 0, none⟩), .int .i64 k, .int .i64 i] W fun e w' => e = .returned (.tuple #[.bool (pairV (flipM m k i) k i), .int .i64 (flipE m k i)]) ∧ KS w w' b (flipM m k i) := by
  obtain ⟨B, h1, h2, h3⟩ := h
  refine (Flip_any b B m k i W h1).mono ?_
  rintro e w' ⟨rfl, hA⟩
  exact ⟨rfl, KS.aft h2 h3 hA (flip_o m k i)⟩
theorem Run_ks (b : Nat) (m : Mp) (p o k : Int) (w W : World) (h : KS w W b m) :
    Calls Try.prog 12 #[.pointer (some ⟨b, 0, none⟩), .int .i64 p, .int .i64 o, .int .i64 k] W fun e w' => e = .returned (.int .i64 (runE m p o k)) ∧ KS w w' b (runM m p o k) := by
  obtain ⟨B, h1, h2, h3⟩ := h
  refine (Run_any b B m p o k W h1).mono ?_
  rintro e w' ⟨rfl, a1, a2⟩
  exact ⟨rfl, KS.aft h2 h3 (Aft.mk a1 a2) (run_o m p o k)⟩
theorem call_ks (b : Nat) (m : Mp) (k p x y : Int) (l : Bool) (w W : World) (h : KS w W b m) :
    Calls Try.prog 27 #[.pointer (some ⟨b, 0, none⟩), opV k p x y l] W fun e w' => e = .returned (.bool (callE m k p x y l)) ∧ KS w w' b (callM m k p x y l) := by
  obtain ⟨B, h1, h2, h3⟩ := h
  refine (call_any b B m k p x y l W h1).mono ?_
  rintro e w' ⟨rfl, hA⟩
  exact ⟨rfl, KS.aft h2 h3 hA (call_o m k p x y l)⟩
theorem At_ks (b : Nat) (m : Mp) (i : Int) (w W : World) (h : KS w W b m) :
    Calls Try.prog 13 #[.pointer (some ⟨b, 0, none⟩), .int .i64 i] W fun e w' => e = .returned (.tuple #[pval (atP m i), .bool (inR m.n i)]) ∧ KS w w' b m ∧ Kept none' W w' := by
  have h' := h
  obtain ⟨B, h1, h2, h3⟩ := h
  refine (at_any b B m i W h1).mono ?_
  rintro e w' ⟨rfl, hk⟩
  exact ⟨rfl, h'.keep hk, hk⟩
theorem Head_ks (b : Nat) (m : Mp) (i : Int) (w W : World) (h : KS w W b m) :
    Calls Try.prog 14 #[.pointer (some ⟨b, 0, none⟩), .int .i64 i] W fun e w' => e = .returned (.int .i64 (headV m i)) ∧ w' = W := by
  obtain ⟨B, h1, h2, h3⟩ := h
  cases hi : inR m.n i with
  | false =>
    rw [show headV m i = -1 by simp [headV, hi]]
    exact Head_out b B m i W h1 hi
  | true =>
    obtain ⟨k, rfl, hk⟩ := inR_nat hi
    obtain ⟨o, ho⟩ := Int.eq_ofNat_of_zero_le (h1.ok k hk).o0
    rw [show headV m (k : Int) = ((k / 2 ^ o * 2 ^ o : Nat) : Int) by simp [headV, hi, ho]]
    exact Head_in b B m k o W h1 hk ho
theorem Pair_ks (b : Nat) (m : Mp) (k i : Int) (w W : World) (h : KS w W b m) :
    Calls Try.prog 19 #[.pointer (some ⟨b, 0, none⟩), .int .i64 k, .int .i64 i] W fun e w' => e = .returned (.bool (pairV m k i)) ∧ KS w w' b m ∧ Kept none' W w' := by
  have h' := h
  obtain ⟨B, h1, h2, h3⟩ := h
  cases hp : hasP m k i with
  | false =>
    rw [show pairV m k i = false by simp [pairV, hp]]
    refine (Pair_no b B m k i W h1 hp).mono ?_
    rintro e w' ⟨rfl, hk⟩
    exact ⟨rfl, h'.keep hk, hk⟩
  | true =>
    have hh : inR m.o k = true ∧ inR m.n i = true := by unfold hasP at hp; exact Bool.and_eq_true_iff.1 hp
    obtain ⟨a, rfl, ha⟩ := inR_nat hh.1
    obtain ⟨j, rfl, hj⟩ := inR_nat hh.2
    rw [show pairV m (a : Int) (j : Int) = inS (m.n / 2 ^ (a + 1)) (m.wd a) ((j / 2 ^ (a + 1) : Nat) : Int) by simp [pairV, hp, prL, prN]]
    refine (Pair_in b B m a j W h1 ha hj).mono ?_
    rintro e w' ⟨rfl, hk⟩
    exact ⟨rfl, h'.keep hk, hk⟩
theorem Plain_ks (b : Nat) (m : Mp) (w W : World) (h : KS w W b m) :
    Calls Try.prog 21 #[.pointer (some ⟨b, 0, none⟩)] W fun e w' => ∃ gp gq D, e = .returned (.tuple #[.slice (some ⟨gp, 0, none⟩) m.n m.n, .slice (some ⟨gq, 0, none⟩) m.o m.o]) ∧ Told W w' gp gq m m.o D ∧ KS w w' b m := by
  have h' := h
  obtain ⟨B, h1, h2, h3⟩ := h
  refine (Plain_any b B m W h1).mono ?_
  rintro e w' ⟨gp, gq, D, rfl, hT⟩
  exact ⟨gp, gq, D, rfl, hT, h'.keep hT.kp⟩
end Go.Proofs.Ytbhheimedbfmeaa
