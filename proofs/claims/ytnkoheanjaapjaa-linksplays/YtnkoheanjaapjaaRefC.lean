/- croftref2.Word, SetWord, Fill, Write, Read. -/
import Derived.Test.YtnkoheanjaapjaaRefB
namespace Go.Proofs.Ytnkoheanjaapjaa
open Go.RowKit
set_option linter.unusedVariables false

/-- The document's own space, boxed: its cells behind writes to another block. -/
theorem refbox {h : Nat} (w wr : World) (base R lim n cap : Nat) (ao : Option Addr) (k : Kept (fun x => x = h) (w.alloc (.cells #[.int .u64 (base : Int), .int .u64 (R : Int), .int .i64 (lim : Int), .slice ao n cap] 44)) wr) (hh : h < w.heap.size) :
    wr.cell? ⟨w.heap.size, 0, none⟩ = some (.int .u64 (base : Int)) ∧ wr.cell? ⟨w.heap.size, 1, none⟩ = some (.int .u64 (R : Int)) ∧ wr.cell? ⟨w.heap.size, 2, none⟩ = some (.int .i64 (lim : Int)) ∧ wr.cell? ⟨w.heap.size, 3, none⟩ = some (.slice ao n cap) ∧ Kept (fun x => x = h) w wr := by
  have := (k.block w.heap.size (by simp) (by omega)).trans (heap_new w _)
  exact ⟨by simp [World.cell?, this], by simp [World.cell?, this], by simp [World.cell?, this], by simp [World.cell?, this], ((Kept.refl (fun x => x = h) w).alloc _).trans k (fun _ _ x => x) (fun _ _ x => x)⟩

theorem RSetWord_in (base R lim n cap h : Nat) (f : Nat → Nat) (hn : n ≤ 4194304) (p v : Nat) (hp : p < 18446744073709551616) (hv : v < 18446744073709551616) (w : World) (H : MemAt w h n cap f) (hbn : base + n ≤ 9223372036854775808) (hin : In base n p 8) :
    Calls Try.prog 51 #[.agg #[.int .u64 (base : Int), .int .u64 (R : Int), .int .i64 (lim : Int), .slice (some ⟨h, 0, none⟩) n cap], .int .u64 (p : Int), .int .u64 (v : Int)] w fun e w' => e = .returned (.tuple #[]) ∧ MemAt w' h n cap (upd f (p - base) 8 (byteOf v)) ∧ Kept (fun x => x = h) w w' := by
  obtain ⟨h1, h2⟩ := hin
  obtain ⟨o, ho⟩ : ∃ o, o = p - base := ⟨_, rfl⟩
  have hok : o + 8 ≤ n := by omega
  have hpb : p = base + o := by omega
  rw [← ho]
  have HH := hid H.lt
  have HM := hid (H.keep ((Kept.refl none' w).alloc (.cells #[.int .u64 (base : Int), .int .u64 (R : Int), .int .i64 (lim : Int), .slice (some ⟨h, 0, none⟩) n cap] 44)))
  have HPB := hid hpb
  clear H ho h1 h2 hpb
  go_enter Try.func51, Try.ntmps51
  go_wp2
  go_loopw [2, 6] (fun vv i wr => ∃ k : Nat, k ≤ 8 ∧ i = .int .u64 k ∧ vv = .int .u64 ((v / 256 ^ k : Nat) : Int) ∧ Hid (Kept (fun x => x = h) (w.alloc (.cells #[.int .u64 (base : Int), .int .u64 (R : Int), .int .i64 (lim : Int), .slice (some ⟨h, 0, none⟩) n cap] 44)) wr) ∧ Hid (MemAt wr h n cap (upd f o k (byteOf v)))) (fun _ i _ => 8 - (intOf i).toNat)
  case atStart => exact ⟨0, by omega, rfl, by simp, Kept.refl _ _, by rw [upd_zero]; exact HM⟩
  case round =>
    obtain ⟨k, hk, rfl, rfl, hK, hM⟩ := hrel
    obtain ⟨c0, c1, c2, c3, hKw⟩ := refbox w wr base R lim n cap _ hK.out HH.out
    have HKW := hid hKw
    clear HM hKw c1 c2
    by_cases hlt : k < 8
    · obtain ⟨q, hq⟩ : ∃ q, q = o + k := ⟨_, rfl⟩
      have hpb := HPB.out
      have hix : (p : Int) + (k : Int) - (base : Int) = (q : Int) := by omega
      have hqn : (q : Int) < (n : Int) := by omega
      have hpk : (p : Int) + (k : Int) < 18446744073709551616 := by omega
      have hbp : (base : Int) ≤ (p : Int) + (k : Int) := by omega
      have hc := hM.out.cell q (by omega)
      have hf := hM.out.frozen q
      have hki : (k : Int) < 8 := by omega
      obtain ⟨x, hx⟩ : ∃ x, x = v / 256 ^ k := ⟨_, rfl⟩
      have hxl : x ≤ v := by rw [hx]; exact Nat.div_le_self _ _
      have hN := hid (show v / 256 ^ (k + 1) = x / 256 from by rw [hx, Nat.pow_succ, Nat.div_div_eq_div_mul])
      obtain ⟨y, hy⟩ : ∃ y, y = x % 256 := ⟨_, rfl⟩
      have hyi : (x : Int) % 256 = (y : Int) := by omega
      have hyl : y < 256 := by omega
      have hYB := hid (show byteOf v k = y from by rw [hy, hx]; rfl)
      rw [← hx]
      have HQ := hid hq
      clear hq hpb hx hy
      go_wp2
      refine ⟨⟨k + 1, by omega, by simp, ?_, hK.out.setCell (fun _ => rfl) _, ?_⟩, by simp [intOf]; omega⟩
      · rw [hN.out]; simp
      · rw [← upd_succ, ← HQ.out, hYB.out]
        exact hM.out.write q y (by have := HQ.out; omega) hyl
    · obtain rfl : k = 8 := by omega
      go_wp2
      go_end0
      exact ⟨rfl, hM.out, HKW.out⟩

theorem wordTo_shift (g : Nat → Nat) (k : Nat) : wordTo g (k + 1) = g 0 + 256 * wordTo (fun t => g (t + 1)) k := by
  induction k with
  | zero => simp [wordTo]
  | succ k ih =>
    rw [wordTo, ih, wordTo, Nat.mul_add, Nat.pow_succ, Nat.add_assoc, Nat.mul_left_comm 256, Nat.mul_comm 256 (256 ^ k)]

theorem RWord_in (base R lim n cap h : Nat) (f : Nat → Nat) (hn : n ≤ 4194304) (p : Nat) (hp : p < 18446744073709551616) (w : World) (H : MemAt w h n cap f) (hbn : base + n ≤ 9223372036854775808) (hin : In base n p 8) :
    Calls Try.prog 53 #[.agg #[.int .u64 (base : Int), .int .u64 (R : Int), .int .i64 (lim : Int), .slice (some ⟨h, 0, none⟩) n cap], .int .u64 (p : Int)] w fun e w' => e = .returned (.int .u64 ((word f (p - base) : Nat) : Int)) ∧ Kept none' w w' := by
  obtain ⟨h1, h2⟩ := hin
  obtain ⟨o, ho⟩ : ∃ o, o = p - base := ⟨_, rfl⟩
  have hok : o + 8 ≤ n := by omega
  have hpb : p = base + o := by omega
  rw [← ho]
  have HM := hid H
  have HPB := hid hpb
  clear H ho h1 h2 hpb
  go_enter Try.func53, Try.ntmps53
  go_wp2
  go_loopw [5, 6] (fun v i wr => ∃ r a : Nat, r ≤ 8 ∧ i = .int .u64 (r : Int) ∧ v = .int .u64 (a : Int) ∧ Hid (∃ j, j + r = 8 ∧ a = wordTo (fun t => f (o + r + t)) j) ∧ Hid (Kept none' (w.alloc (.cells #[.int .u64 (base : Int), .int .u64 (R : Int), .int .i64 (lim : Int), .slice (some ⟨h, 0, none⟩) n cap] 44)) wr)) (fun _ i _ => (intOf i).toNat)
  case atStart => exact ⟨8, 0, by omega, rfl, rfl, ⟨0, rfl, rfl⟩, Kept.refl _ _⟩
  case round =>
    obtain ⟨r, a, hr, rfl, rfl, hA, hK⟩ := hrel
    have hbx := (hK.out.block w.heap.size (by simp) (fun x => x)).trans (heap_new w _)
    have c0 : wr.cell? ⟨w.heap.size, 0, none⟩ = some (.int .u64 (base : Int)) := by simp [World.cell?, hbx]
    have c1 : wr.cell? ⟨w.heap.size, 1, none⟩ = some (.int .u64 (R : Int)) := by simp [World.cell?, hbx]
    have c2 : wr.cell? ⟨w.heap.size, 2, none⟩ = some (.int .i64 (lim : Int)) := by simp [World.cell?, hbx]
    have c3 : wr.cell? ⟨w.heap.size, 3, none⟩ = some (.slice (some ⟨h, 0, none⟩) n cap) := by simp [World.cell?, hbx]
    have HMR := hid (HM.out.keep (((Kept.refl none' w).alloc _).trans hK.out (fun _ _ x => x) (fun _ _ x => x)))
    clear hbx
    by_cases hlt : 0 < r
    · obtain ⟨j, hjr, ha⟩ := hA.out
      have hal : a < 256 ^ j := by rw [ha]; exact wordTo_lt _ _ (fun i hi => HMR.out.f256 _ (by omega))
      have hal2 : a < 72057594037927936 := by
        have : 256 ^ j ≤ 256 ^ 7 := Nat.pow_le_pow_right (by decide) (by omega)
        have e : (256 : Nat) ^ 7 = 72057594037927936 := by decide
        omega
      obtain ⟨s, hs⟩ : ∃ s, s + 1 = r := ⟨r - 1, by omega⟩
      obtain ⟨q, hq⟩ : ∃ q, q = p + s := ⟨_, rfl⟩
      have hpb := HPB.out
      have hqi : (p : Int) + (r : Int) - 1 = (q : Int) := by omega
      have hsi : (r : Int) - 1 = (s : Int) := by omega
      have hpl : (p : Int) + (r : Int) < 18446744073709551616 := by omega
      have HIN := hid (show In base n q 1 from ⟨by omega, by omega⟩)
      have hql : q < 18446744073709551616 := by omega
      obtain ⟨x, hx⟩ : ∃ x, x = f (q - base) := ⟨_, rfl⟩
      have hxl : x < 256 := by rw [hx]; exact HMR.out.f256 _ (by omega)
      have HX := hid hx
      have hN := hid (show ∃ j, j + s = 8 ∧ a * 256 + x = wordTo (fun t => f (o + s + t)) j from ⟨j + 1, by omega, by
        rw [wordTo_shift, ha, hx]
        have e1 : q - base = o + s + 0 := by omega
        rw [e1, Nat.add_comm, Nat.mul_comm]
        congr 2
        exact wordTo_congr _ _ _ (fun t ht => by congr 1; omega)⟩)
      have HSR := hid hs
      clear hal ha hA hq hpb hx hs hjr
      go_wp2_with fail
      refine (RByte_in base R lim n cap h f hn q hql _ HMR.out HIN.out).mono ?_
      rintro e w2 ⟨rfl, hK2⟩
      rw [← HX.out]
      have HK2 := hid (hK.out.trans (U := none') hK2 (fun _ _ x => x) (fun _ _ x => x))
      clear hK2
      go_wp2
      refine ⟨⟨s, a * 256 + x, by have := HSR.out; omega, rfl, by simp, hN, HK2⟩, ?_⟩
      have := HSR.out
      simp [intOf]
      omega
    · obtain rfl : r = 0 := by omega
      obtain ⟨j, hjr, ha⟩ := hA.out
      obtain rfl : j = 8 := by omega
      have E := hid (show word f o = a from ha.symm)
      clear ha hA
      go_wp2
      go_ret
      exact ⟨ret_int (by rw [E.out]), ((Kept.refl none' w).alloc _).trans hK.out (fun _ _ x => x) (fun _ _ x => x)⟩
end Go.Proofs.Ytnkoheanjaapjaa
