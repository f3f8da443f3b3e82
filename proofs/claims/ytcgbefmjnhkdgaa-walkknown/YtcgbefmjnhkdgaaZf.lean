import Derived.Test.YtcgbefmjnhkdgaaZe
import Derived.Laws.CopyOwn
import Derived.RegionTactic
import Derived.ChangeAlike
set_option maxRecDepth 1000000
set_option maxHeartbeats 80000000
/- Sets in memory: where they lie, and the contracts of bits.NewSet, Len, may, Get, Flip, Put. -/
namespace Go.Proofs.Ytcgbefmjnhkdgaa
open Go.RowKit
set_option linter.unusedVariables false

/-- The cells of a row of words. -/
def wcells (ws : List Nat) : Array Value := (ws.map fun (x : Nat) => Value.int .u64 (x : Int)).toArray

/-- m words of 0. -/
def zeros (m : Nat) : List Nat := List.replicate m 0
theorem zeros_len (m : Nat) : (zeros m).length = m := by simp [zeros]
theorem zeros_get (m i : Nat) : (zeros m).getD i 0 = 0 := by
  simp [zeros, List.getD, List.getElem?_replicate]; split <;> rfl

/-- A set: its struct in block b, its words in block c. -/
structure SetAt (w : World) (b c n : Nat) (ws : List Nat) : Prop where
  ne : c ≠ b
  hb : w.heap[b]? = some (.cells #[.int .i64 (n : Int), .slice (some ⟨c, 0, none⟩) ws.length ws.length] 114 (0, 0))
  hc : w.heap[c]? = some (.cells (wcells ws) 22 (0, 0))
  len : ws.length = (n + 63) / 64
  nle : n ≤ 1048576
  ok : ∀ i, i < ws.length → ws.getD i 0 < 2 ^ (min 64 (n - 64 * i))

theorem SetAt.cb0 {w b c n ws} (h : SetAt w b c n ws) : w.cell? ⟨b, 0, none⟩ = some (.int .i64 (n : Int)) := by simp [World.cell?, h.hb]
theorem SetAt.cb1 {w b c n ws} (h : SetAt w b c n ws) : w.cell? ⟨b, 1, none⟩ = some (.slice (some ⟨c, 0, none⟩) ws.length ws.length) := by simp [World.cell?, h.hb]
theorem SetAt.cc {w b c n ws} (h : SetAt w b c n ws) (i : Nat) (hi : i < ws.length) : w.cell? ⟨c, i, none⟩ = some (.int .u64 ((ws.getD i 0 : Nat) : Int)) := by
  simp [World.cell?, h.hc, wcells, hi]
theorem SetAt.fb {w b c n ws} (h : SetAt w b c n ws) (i : Nat) : w.frozen? ⟨b, i, none⟩ = false := by simp [World.frozen?, h.hb]
theorem SetAt.fc {w b c n ws} (h : SetAt w b c n ws) (i : Nat) : w.frozen? ⟨c, i, none⟩ = false := by simp [World.frozen?, h.hc]
theorem SetAt.lt64 {w b c n ws} (h : SetAt w b c n ws) (i : Nat) : ws.getD i 0 < 2 ^ 64 := by
  by_cases hi : i < ws.length
  · exact Nat.lt_of_lt_of_le (h.ok i hi) ((pow_le _ _).2 (Nat.min_le_left _ _))
  · have : ws.getD i 0 = 0 := by simp [List.getD, Nat.not_lt.1 hi]
    rw [this]; decide

theorem info_u64 : (Try.prog.info? 22).map (fun i => (i.zero, i.size, i.bytes)) = some (some (.int .u64 0), 1, 8) := by kernel_rfl

theorem made_words (m : Nat) : madeCells (Value.int .u64 0).cells (m * 1) = wcells (zeros m) := by
  simp only [madeCells, wcells, zeros]
  apply Array.ext
  · simp
  · intro i h1 h2
    have : i % 1 = 0 := Nat.mod_one i
    simp [Value.cells, this]

theorem make_words (m : Nat) (hm : m ≤ 1048576) (w : World) :
    (Instr.makeSlice 28 (.int .i64 (m : Int)) (.int .i64 (m : Int))).run Try.prog w = .ok (.slice (some ⟨w.heap.size, 0, none⟩) m m) (w.alloc (.cells (wcells (zeros m)) 22)) := by
  obtain ⟨i, hi, hz0, hz1, hz2⟩ := info_parts info_u64
  have := run_make (P := Try.prog) w 28 22 i (.int .u64 0) Try.underlying28 hi hz0 .i64 .i64 (m : Int) (m : Int) (by omega) (by omega) (by rw [hz2]; omega) (by omega)
  rw [hz1] at this
  simp only [Int.toNat_natCast, made_words] at this
  exact this

def fit (n : Int) : Nat := if n < 0 then 0 else if 1048576 < n then 1048576 else n.toNat
theorem fit_le (n : Int) : fit n ≤ 1048576 := by unfold fit; split <;> (try split) <;> omega

theorem newSet_mid (n : Nat) (hn : n ≤ 1048576) (w : World) :
    Calls Try.prog 74 #[.int .i64 (n : Int)] w fun e w' => e = .returned (.pointer (some ⟨w.heap.size + 1, 0, none⟩)) ∧ w' = (w.alloc (.cells (wcells (zeros ((n + 63) / 64))) 22)).alloc (.cells #[.int .i64 (n : Int), .slice (some ⟨w.heap.size, 0, none⟩) ((n + 63) / 64) ((n + 63) / 64)] 114) := by
  obtain ⟨m, hm⟩ : ∃ m, m = (n + 63) / 64 := ⟨_, rfl⟩
  rw [← hm]
  have hmk := make_words m (by omega)
  have hq : ((n : Int) + 64 - 1) / 64 = (m : Int) := by omega
  clear hm
  go_enter Try.func74, Try.ntmps74
  go_wp2
  go_ret
  exact ⟨rfl, rfl⟩

/-- May i be in a set of that length? -/
def inR (n : Nat) (i : Int) : Bool := decide (0 ≤ i ∧ i < n)

theorem may_any (b c n : Nat) (ws : List Nat) (i : Int) (w : World) (h : SetAt w b c n ws) :
    Calls Try.prog 54 #[.pointer (some ⟨b, 0, none⟩), .int .i64 i] w fun e w' => e = .returned (.bool (inR n i)) ∧ w' = w := by
  have h0 := h.cb0
  have hn := h.nle
  clear h
  by_cases hi : 0 ≤ i
  · go_enter Try.func54, Try.ntmps54
    go_wp2
    go_ret
    exact ⟨ret_bool (by simp [inR, hi]), rfl⟩
  · go_enter Try.func54, Try.ntmps54
    go_wp2
    go_ret
    exact ⟨ret_bool (by simp [inR]; omega), rfl⟩

theorem len_any (b c n : Nat) (ws : List Nat) (w : World) (h : SetAt w b c n ws) :
    Calls Try.prog 84 #[.pointer (some ⟨b, 0, none⟩)] w fun e w' => e = .returned (.int .i64 n) ∧ w' = w := by
  have h0 := h.cb0
  have hn := h.nle
  clear h
  go_enter Try.func84, Try.ntmps84
  go_wp2
  go_ret
  exact ⟨rfl, rfl⟩

/-- Is j in it? -/
def bit (ws : List Nat) (j : Nat) : Bool := (ws.getD (j / 64) 0) / 2 ^ (j % 64) % 2 == 1
/-- Is i in it? -/
def inS (n : Nat) (ws : List Nat) (i : Int) : Bool := inR n i && bit ws i.toNat

theorem get_any (b c n : Nat) (ws : List Nat) (i : Int) (w : World) (h : SetAt w b c n ws) :
    Calls Try.prog 63 #[.pointer (some ⟨b, 0, none⟩), .int .i64 i] w fun e w' => e = .returned (.bool (inS n ws i)) ∧ w' = w := by
  by_cases hi : 0 ≤ i ∧ i < n
  · obtain ⟨k, rfl⟩ := Int.eq_ofNat_of_zero_le hi.1
    have hl := h.len
    have hn := h.nle
    have hkn : k < n := by omega
    obtain ⟨q, hq⟩ : ∃ q, q = k / 64 := ⟨_, rfl⟩
    obtain ⟨r, hr⟩ : ∃ r, r = k % 64 := ⟨_, rfl⟩
    have hql : q < ws.length := by omega
    have hr64 : r < 64 := by omega
    have hcc := h.cc q hql
    have hlt := h.lt64 q
    have h1 := h.cb1
    obtain ⟨x, hx⟩ : ∃ x, x = ws.getD q 0 := ⟨_, rfl⟩
    rw [← hx] at hcc hlt
    have hd : inR n (k : Int) = true := by simpa [inR] using hi
    have E : Hid (((bits BinOp.and IntKind.u64 ((x : Int) / 2 ^ r) 1) == 1) = inS n ws k) := by
      show _ = _
      rw [shr64 x r hlt]
      have hd2 : x / 2 ^ r < 2 ^ 64 := Nat.lt_of_le_of_lt (Nat.div_le_self _ _) hlt
      have := u64_and_nat (x / 2 ^ r) 1 (by omega) (by decide)
      rw [nat_mask1] at this
      rw [show (1 : Int) = ((1 : Nat) : Int) from rfl, this]
      unfold inS bit
      rw [hd, Int.toNat_natCast, ← hq, ← hr, ← hx, Bool.true_and, Bool.eq_iff_iff]
      simp only [beq_iff_eq]
      omega
    have hq1 : (k : Int) / 64 = (q : Int) := by omega
    have hr1 : (k : Int) % 64 = (r : Int) := by omega
    have HA := hid h
    have hkb : k ≤ 1048576 := by omega
    clear hx h hi hl hq hr hkn
    go_enter Try.func63, Try.ntmps63
    go_wp2_with (go_at_call 54; refine (may_any b c n ws _ _ HA.out).mono ?_; rintro e w' ⟨rfl, rfl⟩)
    go_ret
    exact ⟨ret_bool E.out, rfl⟩
  · have hd : inR n i = false := by simp only [inR]; exact decide_eq_false hi
    clear hi
    go_enter Try.func63, Try.ntmps63
    go_wp2_with (go_at_call 54; refine (may_any b c n ws _ _ h).mono ?_; rintro e w' ⟨rfl, rfl⟩)
    go_ret
    exact ⟨ret_bool (by simp [inS, hd]), rfl⟩
end Go.Proofs.Ytcgbefmjnhkdgaa
/- What is kept of memory; sets whose last word is not cut yet; bits.NewSet, Flip, Put, cut, Of, Words. -/
namespace Go.Proofs.Ytcgbefmjnhkdgaa
open Go.RowKit
set_option linter.unusedVariables false

/-- Of the blocks that were there all but those of S are as they were. -/
structure Kept (S : Nat → Prop) (w w' : World) : Prop where
  os : w'.os = w.os
  tape : w'.tape = w.tape
  output : w'.output = w.output
  size : w.heap.size ≤ w'.heap.size
  block : ∀ k, k < w.heap.size → ¬ S k → w'.heap[k]? = w.heap[k]?

theorem Kept.refl (S : Nat → Prop) (w : World) : Kept S w w := ⟨rfl, rfl, rfl, Nat.le_refl _, fun _ _ _ => rfl⟩
theorem Kept.trans {S T U : Nat → Prop} {a b c : World} (h : Kept S a b) (k : Kept T b c) (hS : ∀ x, x < a.heap.size → S x → U x) (hT : ∀ x, x < a.heap.size → T x → U x) : Kept U a c :=
  ⟨k.os.trans h.os, k.tape.trans h.tape, k.output.trans h.output, Nat.le_trans h.size k.size, fun i hi hU => (k.block i (Nat.lt_of_lt_of_le hi h.size) (fun x => hU (hT i hi x))).trans (h.block i hi (fun x => hU (hS i hi x)))⟩
theorem Kept.mono {S T : Nat → Prop} {a b : World} (h : Kept S a b) (hS : ∀ x, x < a.heap.size → S x → T x) : Kept T a b :=
  ⟨h.os, h.tape, h.output, h.size, fun i hi hU => h.block i hi (fun x => hU (hS i hi x))⟩
theorem Kept.below {S : Nat → Prop} {B : Nat} {a b : World} (h : Kept S a b) (hB : B ≤ a.heap.size) (hS : ∀ x, S x → B ≤ x) : Below B a b :=
  ⟨h.os, h.tape, h.output, h.size, fun i hi => h.block i (by omega) (fun x => by have := hS i x; omega)⟩
theorem Kept.drew {S : Nat → Prop} {a b : World} (h : Kept S a b) : Kept S a b.drew := ⟨h.os, h.tape, h.output, h.size, h.block⟩
theorem Kept.alloc {S : Nat → Prop} {a b : World} (h : Kept S a b) (o : Obj) : Kept S a (b.alloc o) :=
  ⟨h.os, h.tape, h.output, by simp; have := h.size; omega, fun i hi hU => by rw [Below.heap_alloc _ _ _ (by have := h.size; omega)]; exact h.block i hi hU⟩
theorem Kept.setCell {S : Nat → Prop} {a b : World} (h : Kept S a b) {p : Addr} (hp : S p.block) (u : Value) : Kept S a (b.setCell p u) :=
  ⟨h.os, h.tape, h.output, by simp; exact h.size, fun i hi hU => by rw [Below.heap_setCell b p u i (fun e => hU (by rw [e]; exact hp))]; exact h.block i hi hU⟩

/-- A set whose last word may have bits past the length. -/
structure RawAt (w : World) (b c n : Nat) (ws : List Nat) : Prop where
  ne : c ≠ b
  hb : w.heap[b]? = some (.cells #[.int .i64 (n : Int), .slice (some ⟨c, 0, none⟩) ws.length ws.length] 114 (0, 0))
  hc : w.heap[c]? = some (.cells (wcells ws) 22 (0, 0))
  len : ws.length = (n + 63) / 64
  nle : n ≤ 1048576
  lt : ∀ i, ws.getD i 0 < 2 ^ 64

theorem SetAt.raw {w b c n ws} (h : SetAt w b c n ws) : RawAt w b c n ws := ⟨h.ne, h.hb, h.hc, h.len, h.nle, h.lt64⟩
theorem RawAt.set {w b c n ws} (h : RawAt w b c n ws) (ok : ∀ i, i < ws.length → ws.getD i 0 < 2 ^ (min 64 (n - 64 * i))) : SetAt w b c n ws := ⟨h.ne, h.hb, h.hc, h.len, h.nle, ok⟩
theorem RawAt.cb0 {w b c n ws} (h : RawAt w b c n ws) : w.cell? ⟨b, 0, none⟩ = some (.int .i64 (n : Int)) := by simp [World.cell?, h.hb]
theorem RawAt.cb1 {w b c n ws} (h : RawAt w b c n ws) : w.cell? ⟨b, 1, none⟩ = some (.slice (some ⟨c, 0, none⟩) ws.length ws.length) := by simp [World.cell?, h.hb]
theorem RawAt.cc {w b c n ws} (h : RawAt w b c n ws) (i : Nat) (hi : i < ws.length) : w.cell? ⟨c, i, none⟩ = some (.int .u64 ((ws.getD i 0 : Nat) : Int)) := by
  simp [World.cell?, h.hc, wcells, hi]
theorem RawAt.fc {w b c n ws} (h : RawAt w b c n ws) (i : Nat) : w.frozen? ⟨c, i, none⟩ = false := by simp [World.frozen?, h.hc]
theorem RawAt.bc {w b c n ws} (h : RawAt w b c n ws) : b < w.heap.size ∧ c < w.heap.size :=
  ⟨(Array.getElem?_eq_some_iff.1 h.hb).1, (Array.getElem?_eq_some_iff.1 h.hc).1⟩
theorem RawAt.kept {w w' b c n ws} {S : Nat → Prop} (h : RawAt w b c n ws) (k : Kept S w w') (hb : ¬ S b) (hc : ¬ S c) : RawAt w' b c n ws :=
  ⟨h.ne, (k.block b h.bc.1 hb).trans h.hb, (k.block c h.bc.2 hc).trans h.hc, h.len, h.nle, h.lt⟩
theorem SetAt.kept {w w' b c n ws} {S : Nat → Prop} (h : SetAt w b c n ws) (k : Kept S w w') (hb : ¬ S b) (hc : ¬ S c) : SetAt w' b c n ws :=
  (h.raw.kept k hb hc).set h.ok

theorem getD_set_same (ws : List Nat) (q y : Nat) (hq : q < ws.length) : (ws.set q y).getD q 0 = y := by simp [List.getD, hq]
theorem getD_set_ne (ws : List Nat) (q y i : Nat) (h : i ≠ q) : (ws.set q y).getD i 0 = ws.getD i 0 := by
  simp [List.getD, Ne.symm h]

/-- A word is written. -/
theorem RawAt.write {w b c n ws} (h : RawAt w b c n ws) (q y : Nat) (hq : q < ws.length) (hy : y < 2 ^ 64) : RawAt (w.setCell ⟨c, q, none⟩ (.int .u64 (y : Int))) b c n (ws.set q y) := by
  refine ⟨h.ne, ?_, ?_, by simpa using h.len, h.nle, ?_⟩
  · rw [Below.heap_setCell _ _ _ _ (fun e => h.ne e.symm), h.hb]; simp
  · have hlt := h.bc.2
    have hv := (Array.getElem?_eq_some_iff.1 h.hc).2
    simp only [World.setCell]
    rw [Array.getElem?_modify, if_pos rfl, h.hc]
    simp [wcells, List.map_set]
  · intro i
    by_cases e : i = q
    · subst e; rw [getD_set_same ws i y hq]; exact hy
    · rw [getD_set_ne ws q y i e]; exact h.lt i
theorem RawAt.drew {w b c n ws} (h : RawAt w b c n ws) : RawAt w.drew b c n ws := ⟨h.ne, h.hb, h.hc, h.len, h.nle, h.lt⟩

theorem heap_new (w : World) (o : Obj) : (w.alloc o).heap[w.heap.size]? = some o := by
  show (w.heap.push o)[w.heap.size]? = _
  simp

theorem newSet_any (n : Int) (hlo : -9223372036854775808 ≤ n) (hhi : n ≤ 9223372036854775807) (w : World) :
    Calls Try.prog 74 #[.int .i64 n] w fun e w' => e = .returned (.pointer (some ⟨w.heap.size + 1, 0, none⟩)) ∧ RawAt w' (w.heap.size + 1) w.heap.size (fit n) (zeros ((fit n + 63) / 64)) ∧ Kept (fun _ => False) w w' ∧ w'.heap.size = w.heap.size + 2 := by
  have key : ∀ (w' : World) (N : Nat), N ≤ 1048576 → fit n = N → w' = (w.alloc (.cells (wcells (zeros ((N + 63) / 64))) 22)).alloc (.cells #[.int .i64 (N : Int), .slice (some ⟨w.heap.size, 0, none⟩) ((N + 63) / 64) ((N + 63) / 64)] 114) →
      RawAt w' (w.heap.size + 1) w.heap.size (fit n) (zeros ((fit n + 63) / 64)) ∧ Kept (fun _ => False) w w' ∧ w'.heap.size = w.heap.size + 2 := by
    intro w' N hN hf hw
    rw [hf]
    subst hw
    refine ⟨⟨by omega, ?_, ?_, by simp [zeros_len], hN, ?_⟩, ((Kept.refl _ w).alloc _).alloc _, by simp⟩
    · have := heap_new (w.alloc (.cells (wcells (zeros ((N + 63) / 64))) 22)) (.cells #[.int .i64 (N : Int), .slice (some ⟨w.heap.size, 0, none⟩) ((N + 63) / 64) ((N + 63) / 64)] 114)
      rw [World.size_alloc] at this
      rw [this, zeros_len]
    · rw [Below.heap_alloc _ _ _ (by simp), heap_new]
    · intro i
      rw [zeros_get]; decide
  by_cases h1 : n < 0
  · have hf : fit n = 0 := by simp [fit, h1]
    have hmk : ∀ w, (Instr.makeSlice 28 (.int .i64 0) (.int .i64 0)).run Try.prog w = .ok (.slice (some ⟨w.heap.size, 0, none⟩) 0 0) (w.alloc (.cells (wcells (zeros 0)) 22)) := make_words 0 (by omega)
    have KEY := hid (key _ 0 (by omega) hf rfl)
    clear key hf
    go_enter Try.func74, Try.ntmps74
    go_wp2
    go_ret
    exact ⟨rfl, KEY.out⟩
  · by_cases h2 : 1048576 < n
    · have hf : fit n = 1048576 := by simp [fit, h1, h2]
      have hmk : ∀ w, (Instr.makeSlice 28 (.int .i64 16384) (.int .i64 16384)).run Try.prog w = .ok (.slice (some ⟨w.heap.size, 0, none⟩) 16384 16384) (w.alloc (.cells (wcells (zeros 16384)) 22)) := make_words 16384 (by omega)
      have KEY := hid (key _ 1048576 (by omega) hf rfl)
      clear key hf
      go_enter Try.func74, Try.ntmps74
      go_wp2
      go_ret
      exact ⟨rfl, KEY.out⟩
    · obtain ⟨k, rfl⟩ := Int.eq_ofNat_of_zero_le (by omega : 0 ≤ n)
      have hf : fit (k : Int) = k := by simp [fit, h1, h2]
      exact (newSet_mid k (by omega) w).mono fun e w' ⟨he, hw⟩ => ⟨he, key w' k (by omega) hf hw⟩

theorem flip_in (b c n : Nat) (ws : List Nat) (k : Nat) (w : World) (h : SetAt w b c n ws) (hk : k < n) :
    Calls Try.prog 98 #[.pointer (some ⟨b, 0, none⟩), .int .i64 (k : Int)] w fun e w' => e = .returned (.bool true) ∧ RawAt w' b c n (ws.set (k / 64) ((ws.getD (k / 64) 0) ^^^ 2 ^ (k % 64))) ∧ Kept (fun x => x = c) w w' ∧ w'.heap.size = w.heap.size := by
  obtain ⟨q, hq⟩ : ∃ q, q = k / 64 := ⟨_, rfl⟩
  obtain ⟨r, hr⟩ : ∃ r, r = k % 64 := ⟨_, rfl⟩
  rw [← hq, ← hr]
  have hl := h.len
  have hn := h.nle
  have hql : q < ws.length := by omega
  have hr64 : r < 64 := by omega
  have hcc := h.cc q hql
  have hlt := h.lt64 q
  have h1 := h.cb1
  have hf := h.fc q
  obtain ⟨x, hx⟩ : ∃ x, x = ws.getD q 0 := ⟨_, rfl⟩
  rw [← hx] at hcc hlt ⊢
  have hd : inR n (k : Int) = true := by simp only [inR]; exact decide_eq_true (by omega)
  have hq1 : (k : Int) / 64 = (q : Int) := by omega
  have hr1 : (k : Int) % 64 = (r : Int) := by omega
  have hkb : k ≤ 1048576 := by omega
  have hp : 2 ^ r < 2 ^ 64 := (pow_lt r 64).2 hr64
  have hy : x ^^^ 2 ^ r < 2 ^ 64 := Nat.xor_lt_two_pow hlt hp
  have E : bits BinOp.xor IntKind.u64 (x : Int) (2 ^ r) = ((x ^^^ 2 ^ r : Nat) : Int) := by
    have := bits_xor_u64_nat x (2 ^ r) hlt hp
    rw [← this]; simp
  obtain ⟨y, hyd⟩ : ∃ y, y = x ^^^ 2 ^ r := ⟨_, rfl⟩
  rw [← hyd] at hy E ⊢
  have fin : RawAt (w.setCell ⟨c, q, none⟩ (.int .u64 (y : Int))).drew b c n (ws.set q y) ∧ Kept (fun x => x = c) w (w.setCell ⟨c, q, none⟩ (.int .u64 (y : Int))).drew ∧ (w.setCell ⟨c, q, none⟩ (.int .u64 (y : Int))).drew.heap.size = w.heap.size :=
    ⟨(h.raw.write q y hql hy).drew, ((Kept.refl (fun x => x = c) w).setCell (p := ⟨c, q, none⟩) rfl _).drew, by simp⟩
  have FIN := hid fin
  have HA := hid h
  have hw2 : IntKind.u64.wrap (2 ^ r) = 2 ^ r := by
    rw [wrap_u64]
    have : ((2 : Int) ^ r) = ((2 ^ r : Nat) : Int) := by simp
    rw [this]
    obtain ⟨p, hp2⟩ : ∃ p, p = 2 ^ r := ⟨_, rfl⟩
    rw [← hp2] at hp ⊢
    omega
  clear hx h hl hq hr hk fin hyd hp
  go_enter Try.func98, Try.ntmps98
  go_wp2_with (go_at_call 54; refine (may_any b c n ws _ _ HA.out).mono ?_; rintro e w' ⟨rfl, rfl⟩)
  go_region
  all_goals (go_wp2; go_ret; exact ⟨rfl, FIN.out⟩)

def flipW (ws : List Nat) (k : Nat) : List Nat := ws.set (k / 64) ((ws.getD (k / 64) 0) ^^^ 2 ^ (k % 64))
theorem flipW_len (ws : List Nat) (k : Nat) : (flipW ws k).length = ws.length := by simp [flipW]

theorem flip_yes (b c n : Nat) (ws : List Nat) (k : Nat) (w : World) (h : SetAt w b c n ws) (hk : k < n) :
    Calls Try.prog 98 #[.pointer (some ⟨b, 0, none⟩), .int .i64 (k : Int)] w fun e w' => e = .returned (.bool true) ∧ SetAt w' b c n (flipW ws k) ∧ Kept (fun x => x = c) w w' ∧ w'.heap.size = w.heap.size := by
  refine (flip_in b c n ws k w h hk).mono ?_
  rintro e w' ⟨he, hr, hk', hs⟩
  refine ⟨he, hr.set ?_, hk', hs⟩
  intro i hi
  have hl := h.len
  by_cases e : i = k / 64
  · subst e
    rw [getD_set_same _ _ _ (by omega)]
    exact Nat.xor_lt_two_pow (h.ok _ (by omega)) ((pow_lt _ _).2 (by omega))
  · rw [getD_set_ne _ _ _ _ e]
    exact h.ok i (by simpa using hi)

theorem flip_no (b c n : Nat) (ws : List Nat) (i : Int) (w : World) (h : SetAt w b c n ws) (hd : inR n i = false) :
    Calls Try.prog 98 #[.pointer (some ⟨b, 0, none⟩), .int .i64 i] w fun e w' => e = .returned (.bool false) ∧ w' = w := by
  go_enter Try.func98, Try.ntmps98
  go_wp2_with (go_at_call 54; refine (may_any b c n ws _ _ h).mono ?_; rintro e w' ⟨rfl, rfl⟩)
  go_ret
  exact ⟨rfl, rfl⟩

theorem inR_true {n : Nat} {i : Int} (h : inR n i = true) : ∃ k : Nat, i = k ∧ k < n := by
  simp [inR] at h
  obtain ⟨k, rfl⟩ := Int.eq_ofNat_of_zero_le h.1
  exact ⟨k, rfl, by omega⟩

def flipI (n : Nat) (ws : List Nat) (i : Int) : List Nat := if inR n i = true then flipW ws i.toNat else ws

theorem flip_any (b c n : Nat) (ws : List Nat) (i : Int) (w : World) (h : SetAt w b c n ws) :
    Calls Try.prog 98 #[.pointer (some ⟨b, 0, none⟩), .int .i64 i] w fun e w' => e = .returned (.bool (inR n i)) ∧ SetAt w' b c n (flipI n ws i) ∧ Kept (fun x => x = c) w w' ∧ w'.heap.size = w.heap.size := by
  cases hd : inR n i with
  | true =>
    obtain ⟨k, rfl, hk⟩ := inR_true hd
    refine (flip_yes b c n ws k w h hk).mono ?_
    rintro e w' ⟨he, h1⟩
    simp only [flipI, hd, if_true, Int.toNat_natCast]
    exact ⟨he, h1⟩
  | false =>
    refine (flip_no b c n ws i w h hd).mono ?_
    rintro e w' ⟨he, hw⟩
    subst hw
    have e1 : flipI n ws i = ws := by simp [flipI, hd]
    rw [e1]
    exact ⟨he, h, Kept.refl _ _, rfl⟩

def putI (n : Nat) (ws : List Nat) (i : Int) (v : Bool) : List Nat := if inS n ws i = v then ws else flipI n ws i

theorem put_any (b c n : Nat) (ws : List Nat) (i : Int) (v : Bool) (w : World) (h : SetAt w b c n ws) :
    Calls Try.prog 91 #[.pointer (some ⟨b, 0, none⟩), .int .i64 i, .bool v] w fun e w' => e = .returned (.bool (inR n i)) ∧ SetAt w' b c n (putI n ws i v) ∧ Kept (fun x => x = c) w w' ∧ w'.heap.size = w.heap.size := by
  by_cases hv : inS n ws i = v
  · have ht : (inS n ws i == v) = true := by rw [hv]; simp
    have e1 : putI n ws i v = ws := by simp [putI, hv]
    rw [e1]
    clear e1 hv
    go_enter Try.func91, Try.ntmps91
    go_wp2_with (first | (go_at_call 63; refine (get_any b c n ws _ _ h).mono ?_; rintro e w' ⟨rfl, rfl⟩) | (go_at_call 54; refine (may_any b c n ws _ _ h).mono ?_; rintro e w' ⟨rfl, rfl⟩))
    go_ret
    exact ⟨rfl, h, Kept.refl _ _, rfl⟩
  · have ht : (inS n ws i == v) = false := by rw [beq_eq_false_iff_ne]; exact hv
    have e1 : putI n ws i v = flipI n ws i := by simp [putI, hv]
    rw [e1]
    clear e1 hv
    go_enter Try.func91, Try.ntmps91
    go_wp2_with (first | (go_at_call 63; refine (get_any b c n ws _ _ h).mono ?_; rintro e w' ⟨rfl, rfl⟩) | (go_at_call 98; refine (flip_any b c n ws _ _ h).mono ?_; rintro e w' ⟨rfl, h1⟩))
    go_ret
    exact ⟨rfl, h1⟩
end Go.Proofs.Ytcgbefmjnhkdgaa
