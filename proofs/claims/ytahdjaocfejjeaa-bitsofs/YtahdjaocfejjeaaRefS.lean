/- The document's own sets (croftref1): Same, Fit, Get, Put, Next, Size, Of, Resize, Words. -/
import Derived.Test.YtahdjaocfejjeaaAwake
import Derived.Test.YtahdjaocfejjeaaRef
import Derived.Deep.QuietTactic
import Derived.BigQuiet
namespace Go.Proofs.Ytahdjaocfejjeaa
open Go.RowKit
set_option linter.unusedVariables false

theorem Kept.drewN {S : Nat → Prop} {a b : World} (h : Kept S a b) (n : Nat) : Kept S a (b.drewN n) := ⟨h.os, h.tape, h.output, h.size, h.block⟩

theorem word_cell {w : World} {g : Nat} {zs : List Nat} (hg : w.heap[g]? = some (.cells (wcells zs) 33 (0, 0))) (i : Nat) (hi : i < zs.length) : w.cell? ⟨g, i, none⟩ = some (.int .u64 ((zs.getD i 0 : Nat) : Int)) := by
  simp [World.cell?, hg, wcells, hi]

theorem list_eq_getD (zs ys : List Nat) (hl : zs.length = ys.length) (h : ∀ i, i < zs.length → zs.getD i 0 = ys.getD i 0) : zs = ys := by
  apply List.ext_getElem hl
  intro i h1 h2
  have := h i h1
  simpa [List.getD, h1, h2] using this

theorem same_any (w : World) (g1 g2 c1 c2 : Nat) (zs ys : List Nat) (h1 : w.heap[g1]? = some (.cells (wcells zs) 33 (0, 0))) (h2 : w.heap[g2]? = some (.cells (wcells ys) 33 (0, 0)))
    (b1 : zs.length ≤ 1048576) (b2 : ys.length ≤ 1048576) (l1 : ∀ i, zs.getD i 0 < 2 ^ 64) (l2 : ∀ i, ys.getD i 0 < 2 ^ 64) :
    Calls Try.prog 24 #[.slice (some ⟨g1, 0, none⟩) zs.length c1, .slice (some ⟨g2, 0, none⟩) ys.length c2] w fun e w' => e = .returned (.bool (decide (zs = ys))) ∧ ∃ n, w' = w.drewN n := by
  by_cases hl : zs.length = ys.length
  · have hln : ((zs.length : Int) != (ys.length : Int)) = false := by rw [bne_eq_false_iff_eq, hl]
    have HH1 := hid h1
    have HH2 := hid h2
    have HL := hid hl
    clear h1 h2 hl
    go_enter Try.func24, Try.ntmps24
    go_wp2
    go_loopw [5] (fun i wr => ∃ k n : Nat, k ≤ zs.length ∧ wr = w.drewN n ∧ i = .int .i64 k ∧ Hid (∀ j, j < k → zs.getD j 0 = ys.getD j 0)) (fun i _ => zs.length - (intOf i).toNat)
    case atStart => exact ⟨0, 0, by omega, rfl, rfl, fun j hj => by omega⟩
    case round =>
      obtain ⟨k, n, hk, rfl, rfl, hinv⟩ := hrel
      by_cases hlt : k < zs.length
      · have hlt2 : k < ys.length := by have := HL.out; omega
        have x1 := word_cell HH1.out k hlt
        have x2 := word_cell HH2.out k hlt2
        have hi1 : (k : Int) < (zs.length : Int) := by omega
        have hi2 : (k : Int) < (ys.length : Int) := by omega
        have hi0 : (0 : Int) ≤ (k : Int) := by omega
        obtain ⟨x, hx⟩ : ∃ x, x = zs.getD k 0 := ⟨_, rfl⟩
        obtain ⟨y, hy⟩ : ∃ y, y = ys.getD k 0 := ⟨_, rfl⟩
        rw [← hx] at x1
        rw [← hy] at x2
        have HX := hid hx
        have HY := hid hy
        clear hx hy hln
        by_cases hxy : x = y
        · have ht : ((x : Int) != (y : Int)) = false := by rw [bne_eq_false_iff_eq, hxy]
          have HXY := hid hxy
          clear hxy
          go_wp2
          go_quiet (fail)
          go_wp2
          go_roundw
          case rel =>
            refine ⟨k + 1, n + nq, by omega, rfl, by go_num, ?_⟩
            intro j hj
            by_cases e : j < k
            · exact hinv.out j e
            · have : j = k := by omega
              subst this
              rw [← HX.out, ← HY.out]; exact HXY.out
          case measure => simp [intOf]; omega
        · have ht : ((x : Int) != (y : Int)) = true := by rw [bne_iff_ne]; omega
          have E := hid (show decide (zs = ys) = false from decide_eq_false (fun e => hxy (by rw [HX.out, HY.out, e])))
          clear hxy
          go_wp2
          go_quiet (fail)
          go_wp2
          go_ret
          exact ⟨ret_bool E.out.symm, n + nq, by simp [World.drewN, Nat.add_assoc]⟩
      · have E := hid (show decide (zs = ys) = true from decide_eq_true (list_eq_getD zs ys HL.out (fun i hi => hinv.out i (by omega))))
        go_wp2
        go_ret
        exact ⟨ret_bool E.out.symm, n, rfl⟩
  · have hln : ((zs.length : Int) != (ys.length : Int)) = true := by rw [bne_iff_ne]; omega
    have E := hid (show decide (zs = ys) = false from decide_eq_false (fun e => hl (by rw [e])))
    clear hl
    go_enter Try.func24, Try.ntmps24
    go_wp2
    go_ret
    exact ⟨ret_bool E.out.symm, 0, rfl⟩

/-- The cells of a row of truths. -/
def bcells (ts : List Bool) : Array Value := (ts.map fun (x : Bool) => Value.bool x).toArray

/-- The document's own set: a slice of truths in a block of its own. -/
structure TrueAt (w : World) (g : Nat) (ts : List Bool) : Prop where
  hg : w.heap[g]? = some (.cells (bcells ts) 4 (0, 0))
  le : ts.length ≤ 1048576
theorem TrueAt.cell {w g ts} (h : TrueAt w g ts) (i : Nat) (hi : i < ts.length) : w.cell? ⟨g, i, none⟩ = some (.bool (ts.getD i false)) := by
  simp [World.cell?, h.hg, bcells, hi]
theorem TrueAt.fro {w g ts} (h : TrueAt w g ts) (i : Nat) : w.frozen? ⟨g, i, none⟩ = false := by simp [World.frozen?, h.hg]
theorem TrueAt.lt {w g ts} (h : TrueAt w g ts) : g < w.heap.size := (Array.getElem?_eq_some_iff.1 h.hg).1
theorem TrueAt.kept {w w' g ts} {S : Nat → Prop} (h : TrueAt w g ts) (k : Kept S w w') (hg : ¬ S g) : TrueAt w' g ts := ⟨(k.block g h.lt hg).trans h.hg, h.le⟩
theorem TrueAt.write {w g ts} (h : TrueAt w g ts) (i : Nat) (v : Bool) : TrueAt (w.setCell ⟨g, i, none⟩ (.bool v)) g (ts.set i v) := by
  refine ⟨?_, by simpa using h.le⟩
  simp only [World.setCell]
  rw [Array.getElem?_modify, if_pos rfl, h.hg]
  simp [bcells, List.map_set]
theorem TrueAt.drewN {w g ts} (h : TrueAt w g ts) (n : Nat) : TrueAt (w.drewN n) g ts := ⟨h.hg, h.le⟩

theorem fit_any (n : Int) (w : World) :
    Calls Try.prog 82 #[.int .i64 n] w fun e w' => e = .returned (.int .i64 (fit n : Nat)) ∧ w' = w := by
  by_cases h1 : n < 0
  · have E := hid (show (0 : Int) = ((fit n : Nat) : Int) by simp [fit, h1])
    go_enter Try.func82, Try.ntmps82
    go_wp2
    go_ret
    exact ⟨ret_int E.out, rfl⟩
  · by_cases h2 : 1048576 < n
    · have E := hid (show (1048576 : Int) = ((fit n : Nat) : Int) by simp [fit, h1, h2])
      go_enter Try.func82, Try.ntmps82
      go_wp2
      go_ret
      exact ⟨ret_int E.out, rfl⟩
    · have E := hid (show n = ((fit n : Nat) : Int) by simp [fit, h1, h2]; omega)
      go_enter Try.func82, Try.ntmps82
      go_wp2
      go_ret
      exact ⟨ret_int E.out, rfl⟩

def tGet (ts : List Bool) (i : Int) : Bool := inR ts.length i && ts.getD i.toNat false

theorem refGet (g : Nat) (ts : List Bool) (c : Nat) (i : Int) (w : World) (h : TrueAt w g ts) :
    Calls Try.prog 85 #[.slice (some ⟨g, 0, none⟩) ts.length c, .int .i64 i] w fun e w' => e = .returned (.bool (tGet ts i)) ∧ w' = w := by
  have hle := h.le
  by_cases h0 : 0 ≤ i
  · obtain ⟨k, rfl⟩ := Int.eq_ofNat_of_zero_le h0
    by_cases h1 : k < ts.length
    · have hc := h.cell k h1
      have hi1 : (k : Int) < (ts.length : Int) := by omega
      have E := hid (show ts.getD k false = tGet ts k by simp only [tGet, inR]; rw [decide_eq_true ⟨h0, hi1⟩, Bool.true_and, Int.toNat_natCast])
      obtain ⟨x, hx⟩ : ∃ x, x = ts.getD k false := ⟨_, rfl⟩
      rw [← hx] at hc E
      clear hx h
      go_enter Try.func85, Try.ntmps85
      go_wp2
      go_ret
      exact ⟨ret_bool E.out, rfl⟩
    · have E := hid (show false = tGet ts k by simp only [tGet, inR]; rw [decide_eq_false (by omega), Bool.false_and])
      have hi1 : decide ((k : Int) < (ts.length : Int)) = false := decide_eq_false (by omega)
      clear h
      go_enter Try.func85, Try.ntmps85
      go_wp2
      go_ret
      exact ⟨ret_bool E.out, rfl⟩
  · have E := hid (show false = tGet ts i by simp only [tGet, inR]; rw [decide_eq_false (by omega), Bool.false_and])
    have hi1 : decide (0 ≤ i) = false := decide_eq_false h0
    clear h
    go_enter Try.func85, Try.ntmps85
    go_wp2
    go_ret
    exact ⟨ret_bool E.out, rfl⟩

def tPut (ts : List Bool) (i : Int) (v : Bool) : List Bool := if inR ts.length i = true then ts.set i.toNat v else ts

theorem refPut (g : Nat) (ts : List Bool) (c : Nat) (i : Int) (v : Bool) (w : World) (h : TrueAt w g ts) :
    Calls Try.prog 84 #[.slice (some ⟨g, 0, none⟩) ts.length c, .int .i64 i, .bool v] w fun e w' => e = .returned (.tuple #[.slice (some ⟨g, 0, none⟩) ts.length c, .bool (inR ts.length i)]) ∧ TrueAt w' g (tPut ts i v) ∧ Kept (fun x => x = g) w w' ∧ w'.heap.size = w.heap.size := by
  have hle := h.le
  cases hd : inR ts.length i with
  | true =>
    obtain ⟨k, rfl, hk⟩ := inR_true hd
    have e1 : tPut ts k v = ts.set k v := by simp only [tPut, hd, if_true, Int.toNat_natCast]
    rw [e1]
    have hc := h.cell k hk
    have hf := h.fro k
    have hi1 : (k : Int) < (ts.length : Int) := by omega
    have FIN := hid (show TrueAt (w.setCell ⟨g, k, none⟩ (.bool v)) g (ts.set k v) ∧ Kept (fun x => x = g) w (w.setCell ⟨g, k, none⟩ (.bool v)) ∧ (w.setCell ⟨g, k, none⟩ (.bool v)).heap.size = w.heap.size from ⟨h.write k v, (Kept.refl (fun x => x = g) w).setCell (p := ⟨g, k, none⟩) rfl _, by simp⟩)
    have hn : decide ((ts.length : Int) ≤ (k : Int)) = false := decide_eq_false (by omega)
    clear h e1 hd
    go_enter Try.func84, Try.ntmps84
    go_wp2
    go_ret2
    exact ⟨rfl, FIN.out⟩
  | false =>
    have e1 : tPut ts i v = ts := by simp [tPut, hd]
    rw [e1]
    have hd2 : ¬ (0 ≤ i ∧ i < (ts.length : Int)) := of_decide_eq_false hd
    by_cases h0 : i < 0
    · go_enter Try.func84, Try.ntmps84
      go_wp2
      go_ret2
      exact ⟨rfl, h, Kept.refl _ _, rfl⟩
    · have h1 : decide ((ts.length : Int) ≤ i) = true := decide_eq_true (by omega)
      clear hd2
      go_enter Try.func84, Try.ntmps84
      go_wp2
      go_ret2
      exact ⟨rfl, h, Kept.refl _ _, rfl⟩
end Go.Proofs.Ytahdjaocfejjeaa
