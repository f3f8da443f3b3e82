/- Sets in memory: where they lie, and the contracts of bits.NewSet, Len, may, Get, Flip, Put. -/
import Derived.Test.YtibljocjdlgfbaaNums
import Derived.Laws.CopyOwn
import Derived.RegionTactic
import Derived.ChangeAlike
namespace Go.Proofs.Ytibljocjdlgfbaa
open Go.RowKit
set_option linter.unusedVariables false

/-- The cells of a row of words. -/
def wcells (ws : List Nat) : Array Value := (ws.map fun (x : Nat) => Value.int .u64 (x : Int)).toArray

/-- m words of 0. -/
def zeros (m : Nat) : List Nat := List.replicate m 0
theorem zeros_len (m : Nat) : (zeros m).length = m := by simp [zeros]
theorem zeros_get (m i : Nat) : (zeros m).getD i 0 = 0 := by
  simp [zeros, List.getD, List.getElem?_replicate]; split <;> rfl

/-- A set: its struct in block b, its words in block c. -/
structure SetAt (w : World) (b c n : Nat) (ws : List Nat) : Prop where
  ne : c ≠ b
  hb : w.heap[b]? = some (.cells #[.int .i64 (n : Int), .slice (some ⟨c, 0, none⟩) ws.length ws.length] 104 (0, 0))
  hc : w.heap[c]? = some (.cells (wcells ws) 22 (0, 0))
  len : ws.length = (n + 63) / 64
  nle : n ≤ 1048576
  ok : ∀ i, i < ws.length → ws.getD i 0 < 2 ^ (min 64 (n - 64 * i))

theorem SetAt.cb0 {w b c n ws} (h : SetAt w b c n ws) : w.cell? ⟨b, 0, none⟩ = some (.int .i64 (n : Int)) := by simp [World.cell?, h.hb]
theorem SetAt.cb1 {w b c n ws} (h : SetAt w b c n ws) : w.cell? ⟨b, 1, none⟩ = some (.slice (some ⟨c, 0, none⟩) ws.length ws.length) := by simp [World.cell?, h.hb]
theorem SetAt.cc {w b c n ws} (h : SetAt w b c n ws) (i : Nat) (hi : i < ws.length) : w.cell? ⟨c, i, none⟩ = some (.int .u64 ((ws.getD i 0 : Nat) : Int)) := by
  simp [World.cell?, h.hc, wcells, hi]
theorem SetAt.fb {w b c n ws} (h : SetAt w b c n ws) (i : Nat) : w.frozen? ⟨b, i, none⟩ = false := by simp [World.frozen?, h.hb]
theorem SetAt.fc {w b c n ws} (h : SetAt w b c n ws) (i : Nat) : w.frozen? ⟨c, i, none⟩ = false := by simp [World.frozen?, h.hc]
theorem SetAt.lt64 {w b c n ws} (h : SetAt w b c n ws) (i : Nat) : ws.getD i 0 < 2 ^ 64 := by
  by_cases hi : i < ws.length
  · exact Nat.lt_of_lt_of_le (h.ok i hi) ((pow_le _ _).2 (Nat.min_le_left _ _))
  · have : ws.getD i 0 = 0 := by simp [List.getD, Nat.not_lt.1 hi]
    rw [this]; decide

theorem info_u64 : (Try.prog.info? 22).map (fun i => (i.zero, i.size, i.bytes)) = some (some (.int .u64 0), 1, 8) := by kernel_rfl

theorem made_words (m : Nat) : madeCells (Value.int .u64 0).cells (m * 1) = wcells (zeros m) := by
  simp only [madeCells, wcells, zeros]
  apply Array.ext
  · simp
  · intro i h1 h2
    have : i % 1 = 0 := Nat.mod_one i
    simp [Value.cells, this]

theorem make_words (m : Nat) (hm : m ≤ 1048576) (w : World) :
    (Instr.makeSlice 41 (.int .i64 (m : Int)) (.int .i64 (m : Int))).run Try.prog w = .ok (.slice (some ⟨w.heap.size, 0, none⟩) m m) (w.alloc (.cells (wcells (zeros m)) 22)) := by
  obtain ⟨i, hi, hz0, hz1, hz2⟩ := info_parts info_u64
  have := run_make (P := Try.prog) w 41 22 i (.int .u64 0) Try.underlying41 hi hz0 .i64 .i64 (m : Int) (m : Int) (by omega) (by omega) (by rw [hz2]; omega) (by omega)
  rw [hz1] at this
  simp only [Int.toNat_natCast, made_words] at this
  exact this

def fit (n : Int) : Nat := if n < 0 then 0 else if 1048576 < n then 1048576 else n.toNat
theorem fit_le (n : Int) : fit n ≤ 1048576 := by unfold fit; split <;> (try split) <;> omega

theorem newSet_mid (n : Nat) (hn : n ≤ 1048576) (w : World) :
    Calls Try.prog 62 #[.int .i64 (n : Int)] w fun e w' => e = .returned (.pointer (some ⟨w.heap.size + 1, 0, none⟩)) ∧ w' = (w.alloc (.cells (wcells (zeros ((n + 63) / 64))) 22)).alloc (.cells #[.int .i64 (n : Int), .slice (some ⟨w.heap.size, 0, none⟩) ((n + 63) / 64) ((n + 63) / 64)] 104) := by
  obtain ⟨m, hm⟩ : ∃ m, m = (n + 63) / 64 := ⟨_, rfl⟩
  rw [← hm]
  have hmk := make_words m (by omega)
  have hq : ((n : Int) + 64 - 1) / 64 = (m : Int) := by omega
  clear hm
  go_enter Try.func62, Try.ntmps62
  go_wp2
  go_ret
  exact ⟨rfl, rfl⟩

/-- May i be in a set of that length? -/
def inR (n : Nat) (i : Int) : Bool := decide (0 ≤ i ∧ i < n)

theorem may_any (b c n : Nat) (ws : List Nat) (i : Int) (w : World) (h : SetAt w b c n ws) :
    Calls Try.prog 65 #[.pointer (some ⟨b, 0, none⟩), .int .i64 i] w fun e w' => e = .returned (.bool (inR n i)) ∧ w' = w := by
  have h0 := h.cb0
  have hn := h.nle
  clear h
  by_cases hi : 0 ≤ i
  · go_enter Try.func65, Try.ntmps65
    go_wp2
    go_ret
    exact ⟨ret_bool (by simp [inR, hi]), rfl⟩
  · go_enter Try.func65, Try.ntmps65
    go_wp2
    go_ret
    exact ⟨ret_bool (by simp [inR]; omega), rfl⟩

theorem len_any (b c n : Nat) (ws : List Nat) (w : World) (h : SetAt w b c n ws) :
    Calls Try.prog 54 #[.pointer (some ⟨b, 0, none⟩)] w fun e w' => e = .returned (.int .i64 n) ∧ w' = w := by
  have h0 := h.cb0
  have hn := h.nle
  clear h
  go_enter Try.func54, Try.ntmps54
  go_wp2
  go_ret
  exact ⟨rfl, rfl⟩

/-- Is j in it? -/
def bit (ws : List Nat) (j : Nat) : Bool := (ws.getD (j / 64) 0) / 2 ^ (j % 64) % 2 == 1
/-- Is i in it? -/
def inS (n : Nat) (ws : List Nat) (i : Int) : Bool := inR n i && bit ws i.toNat

theorem get_any (b c n : Nat) (ws : List Nat) (i : Int) (w : World) (h : SetAt w b c n ws) :
    Calls Try.prog 63 #[.pointer (some ⟨b, 0, none⟩), .int .i64 i] w fun e w' => e = .returned (.bool (inS n ws i)) ∧ w' = w := by
  by_cases hi : 0 ≤ i ∧ i < n
  · obtain ⟨k, rfl⟩ := Int.eq_ofNat_of_zero_le hi.1
    have hl := h.len
    have hn := h.nle
    have hkn : k < n := by omega
    obtain ⟨q, hq⟩ : ∃ q, q = k / 64 := ⟨_, rfl⟩
    obtain ⟨r, hr⟩ : ∃ r, r = k % 64 := ⟨_, rfl⟩
    have hql : q < ws.length := by omega
    have hr64 : r < 64 := by omega
    have hcc := h.cc q hql
    have hlt := h.lt64 q
    have h1 := h.cb1
    obtain ⟨x, hx⟩ : ∃ x, x = ws.getD q 0 := ⟨_, rfl⟩
    rw [← hx] at hcc hlt
    have hd : inR n (k : Int) = true := by simpa [inR] using hi
    have E : Hid (((bits BinOp.and IntKind.u64 ((x : Int) / 2 ^ r) 1) == 1) = inS n ws k) := by
      show _ = _
      rw [shr64 x r hlt]
      have hd2 : x / 2 ^ r < 2 ^ 64 := Nat.lt_of_le_of_lt (Nat.div_le_self _ _) hlt
      have := u64_and_nat (x / 2 ^ r) 1 (by omega) (by decide)
      rw [nat_mask1] at this
      rw [show (1 : Int) = ((1 : Nat) : Int) from rfl, this]
      unfold inS bit
      rw [hd, Int.toNat_natCast, ← hq, ← hr, ← hx, Bool.true_and, Bool.eq_iff_iff]
      simp only [beq_iff_eq]
      omega
    have hq1 : (k : Int) / 64 = (q : Int) := by omega
    have hr1 : (k : Int) % 64 = (r : Int) := by omega
    have HA := hid h
    have hkb : k ≤ 1048576 := by omega
    clear hx h hi hl hq hr hkn
    go_enter Try.func63, Try.ntmps63
    go_wp2_with (go_at_call 65; refine (may_any b c n ws _ _ HA.out).mono ?_; rintro e w' ⟨rfl, rfl⟩)
    go_ret
    exact ⟨ret_bool E.out, rfl⟩
  · have hd : inR n i = false := by simp only [inR]; exact decide_eq_false hi
    clear hi
    go_enter Try.func63, Try.ntmps63
    go_wp2_with (go_at_call 65; refine (may_any b c n ws _ _ h).mono ?_; rintro e w' ⟨rfl, rfl⟩)
    go_ret
    exact ⟨ret_bool (by simp [inS, hd]), rfl⟩
end Go.Proofs.Ytibljocjdlgfbaa
