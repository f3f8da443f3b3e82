import Derived.Test.YthjokkihlodapaaGreatXl
import Derived.Test.YthjokkihlodapaaGreatXg
import Derived.Test.YthjokkihlodapaaGreatXk
import Derived.Test.YthjokkihlodapaaGreatXc
set_option maxRecDepth 1000000
set_option maxHeartbeats 80000000
/- walk.Check. -/
namespace Go.Proofs.YthjokkihlodapaaGreat
open Go.RowKit
set_option linter.unusedVariables false

/-- The rules, one by one: the place where an image breaks one. -/
def rl (I : Img) : Nat → Option Nat
  | 0 => if M.mayB I.base I.lim I.ord = true then none else some 0
  | 1 => r2 I I.ord.toNat
  | 2 => fst1 I.np fun i => rngB I.ord I.np (I.pg i)
  | 3 => r4 I
  | 4 => fst1 I.np fun i => ok5 (I.pg i)
  | 5 => fst1 I.np (ok6 I I.ord.toNat)
  | 6 => r7 I
  | 7 => fst1 (I.ord.toNat + 1) (ok8 I)
  | 8 => fst1 I.np (ok9 I)
  | 9 => fst1 8 (ok10 I)
  | 10 => fst1 I.np (ok11 I)
  | _ => none
/-- The first rule that an image breaks, and the place. -/
def chk (I : Img) : Nat × Nat := match (List.range 11).findSome? fun j => (rl I j).map fun p => (j + 1, p) with
  | some x => x
  | none => (0, 0)
theorem chk_bad {I : Img} {j p : Nat} (hj : j < 11) (h : ∀ a, a < j → rl I a = none) (hb : rl I j = some p) : chk I = (j + 1, p) := by
  have : (List.range 11).findSome? (fun j => (rl I j).map fun p => (j + 1, p)) = some (j + 1, p) := by
    obtain ⟨d, hd⟩ : ∃ d, 11 = j + 1 + d := ⟨11 - (j + 1), by omega⟩
    rw [hd, List.range_add, List.findSome?_append, List.range_succ, List.findSome?_append, List.findSome?_eq_none_iff.2 (fun a ha => by rw [h a (List.mem_range.1 ha)]; rfl)]
    simp [hb]
  unfold chk
  rw [this]
theorem chk_ok {I : Img} (h : ∀ a, a < 11 → rl I a = none) : chk I = (0, 0) := by
  have : (List.range 11).findSome? (fun j => (rl I j).map fun p => (j + 1, p)) = none := List.findSome?_eq_none_iff.2 (fun a ha => by rw [h a (List.mem_range.1 ha)]; rfl)
  unfold chk
  rw [this]
theorem may_of {I : Img} (h : rl I 0 = none) : M.mayB I.base I.lim I.ord = true := by
  cases hm : M.mayB I.base I.lim I.ord with
  | true => rfl
  | false =>
    have : rl I 0 = some 0 := by show (if _ then _ else _) = _; rw [hm]; rfl
    rw [this] at h; cases h
theorem may_facts {base : Nat} {lim ord : Int} (h : M.mayB base lim ord = true) : ∃ k L : Nat, ord = (k : Int) ∧ lim = (L : Int) ∧ k ≤ 8 ∧ L ≤ 64 ∧ L * 2 ^ k ≤ 1024 ∧ base ≠ 0 ∧ base % M.RS k = 0 ∧ base + L * M.RS k ≤ 9223372036854775808 := by
  simp only [M.mayB, Bool.and_eq_true, decide_eq_true_eq] at h
  obtain ⟨⟨hB, h1⟩, ⟨h2, h3⟩, h4⟩ := h
  unfold M.Bounds at hB
  exact ⟨ord.toNat, lim.toNat, by omega, by omega, by omega, by omega, h1, h2, h3, h4⟩
theorem sn9_of {I : Img} (h0 : rl I 0 = none) (h1 : rl I 1 = none) (h2 : rl I 2 = none) : ∃ r, Sn9 I I.ord.toNat r := by
  obtain ⟨k, L, hk, hL, k8, L64, hLk, b0, bm, be⟩ := may_facts (may_of h0)
  have e1 : I.ord.toNat = k := by omega
  rw [e1]
  have hr : r2 I k = none := by rw [← e1]; exact h1
  unfold r2 at hr
  by_cases c1 : wiB I.reg 0 I.lim = false
  · rw [if_pos c1] at hr; cases hr
  rw [if_neg c1] at hr
  by_cases c2 : I.nm ≠ I.reg.toNat * 2 ^ k * 4096
  · rw [if_pos c2] at hr; cases hr
  rw [if_neg c2] at hr
  by_cases c3 : I.np ≠ I.reg.toNat * 2 ^ k
  · rw [if_pos c3] at hr; cases hr
  rw [if_neg c3] at hr
  by_cases c4 : I.no ≠ k
  · rw [if_pos c4] at hr; cases hr
  rw [if_neg c4] at hr
  by_cases c5 : fst1 I.no (fun j => decide ((I.pr j).length = pwN I.np j)) ≠ none
  · rw [if_pos c5] at hr; cases hr
  rw [if_neg c5] at hr
  by_cases c6 : I.hd.length ≠ k + 1
  · rw [if_pos c6] at hr; cases hr
  rw [if_neg c6] at hr
  by_cases c7 : I.pt.length ≠ 8
  · rw [if_pos c7] at hr; cases hr
  have c1' : 0 ≤ I.reg ∧ I.reg ≤ I.lim := by
    have : wiB I.reg 0 I.lim = true := by simpa using c1
    unfold wiB at this
    exact of_decide_eq_true this
  have hrl : I.reg.toNat ≤ L := by omega
  have hnp : I.np = I.reg.toNat * 2 ^ k := Decidable.not_not.1 c3
  have hnm : I.nm = I.np * 4096 := by rw [hnp]; exact Decidable.not_not.1 c2
  have hle : I.np ≤ L * 2 ^ k := by rw [hnp]; exact Nat.mul_le_mul_right _ hrl
  refine ⟨I.reg.toNat, k8, hk, hnp, by omega, hnm, Decidable.not_not.1 c4, fun j hj => ?_, Decidable.not_not.1 c6, Decidable.not_not.1 c7, b0, bm, ?_, fun i hi => ?_⟩
  · have := fst1_none (Decidable.not_not.1 c5) j (by rw [Decidable.not_not.1 c4]; exact hj)
    exact of_decide_eq_true this
  · rw [hnm]
    have : L * M.RS k = L * 2 ^ k * 4096 := by unfold M.RS; rw [Nat.mul_comm 4096, Nat.mul_assoc]
    omega
  · have := fst1_none h2 i hi
    rw [hk] at this
    exact this

theorem ta_nil (w : World) : (Instr.typeAssert .nilIface 20 114 true).run Tryz.prog w = .ok (.tuple #[.int .i64 0, .bool false]) w := by kernel_rfl
theorem ta_some (p : Int) (w : World) : (Instr.typeAssert (.iface 114 (.int .i64 p)) 20 114 true).run Tryz.prog w = .ok (.tuple #[.int .i64 p, .bool true]) w := by kernel_rfl
theorem placeOf_nil (w : World) : Calls Tryz.prog 38 #[.nilIface] w fun e w' => e = .returned (.int .i64 0) ∧ w' = w := by
  have h1 := ta_nil
  go_enter Tryz.func38, Tryz.ntmps38
  go_wp2
  go_ret
  exact ⟨rfl, rfl⟩
theorem placeOf_some (p : Int) (w : World) : Calls Tryz.prog 38 #[.iface 114 (.int .i64 p)] w fun e w' => e = .returned (.int .i64 p) ∧ w' = w := by
  have h1 := ta_some p
  go_enter Tryz.func38, Tryz.ntmps38
  go_wp2
  go_ret
  exact ⟨rfl, rfl⟩
theorem askConfig_enter (xs : Array Value) (w : World) : Sem.run Tryz.prog (callFunc 59 xs) w = .ok (.enter 59 xs) w := by
  simp [callFunc, go_sem, Tryz.func59]
  rfl
theorem askLengths_enter (xs : Array Value) (w : World) : Sem.run Tryz.prog (callFunc 60 xs) w = .ok (.enter 60 xs) w := by
  simp [callFunc, go_sem, Tryz.func60]
  rfl
theorem askRanges_enter (xs : Array Value) (w : World) : Sem.run Tryz.prog (callFunc 61 xs) w = .ok (.enter 61 xs) w := by
  simp [callFunc, go_sem, Tryz.func61]
  rfl
theorem askBlocks_enter (xs : Array Value) (w : World) : Sem.run Tryz.prog (callFunc 62 xs) w = .ok (.enter 62 xs) w := by
  simp [callFunc, go_sem, Tryz.func62]
  rfl
theorem askCells_enter (xs : Array Value) (w : World) : Sem.run Tryz.prog (callFunc 63 xs) w = .ok (.enter 63 xs) w := by
  simp [callFunc, go_sem, Tryz.func63]
  rfl
theorem askHalves_enter (xs : Array Value) (w : World) : Sem.run Tryz.prog (callFunc 64 xs) w = .ok (.enter 64 xs) w := by
  simp [callFunc, go_sem, Tryz.func64]
  rfl
theorem askPairs_enter (xs : Array Value) (w : World) : Sem.run Tryz.prog (callFunc 65 xs) w = .ok (.enter 65 xs) w := by
  simp [callFunc, go_sem, Tryz.func65]
  rfl
theorem askFreeLists_enter (xs : Array Value) (w : World) : Sem.run Tryz.prog (callFunc 66 xs) w = .ok (.enter 66 xs) w := by
  simp [callFunc, go_sem, Tryz.func66]
  rfl
theorem askCellLists_enter (xs : Array Value) (w : World) : Sem.run Tryz.prog (callFunc 67 xs) w = .ok (.enter 67 xs) w := by
  simp [callFunc, go_sem, Tryz.func67]
  rfl
theorem askPartialLists_enter (xs : Array Value) (w : World) : Sem.run Tryz.prog (callFunc 68 xs) w = .ok (.enter 68 xs) w := by
  simp [callFunc, go_sem, Tryz.func68]
  rfl
theorem askFullPages_enter (xs : Array Value) (w : World) : Sem.run Tryz.prog (callFunc 69 xs) w = .ok (.enter 69 xs) w := by
  simp [callFunc, go_sem, Tryz.func69]
  rfl
/-- The function of a rule. -/
def ruleF : Nat → Nat
  | 0 => 59
  | 1 => 60
  | 2 => 61
  | 3 => 62
  | 4 => 63
  | 5 => 64
  | 6 => 65
  | 7 => 66
  | 8 => 67
  | 9 => 68
  | _ => 69
theorem ask_any (b : Nat) (I : Img) (V : ImV) (a : Nat) (ha : a < 11) (h : ∀ x, x < a → rl I x = none) (w : World) (hI : ImAt w b I V) :
    (∀ xs w, Sem.run Tryz.prog (callFunc (ruleF a) xs) w = .ok (.enter (ruleF a) xs) w) ∧ Calls Tryz.prog (ruleF a) #[.pointer (some ⟨b, 0, none⟩)] w fun e w' => e = askE (rl I a) ∧ Kept none' w w' := by
  have hhd : I.hd.length ≤ 9223372036854775807 := hI.d.hds.1
  match a, ha with
  | 0, _ => exact ⟨askConfig_enter, askConfig_any b I V w hI⟩
  | 1, _ =>
    obtain ⟨k, L, hk, hL, k8, L64, -⟩ := may_facts (may_of (h 0 (by decide)))
    have e : rl I 1 = r2 I k := by show r2 I I.ord.toNat = _; rw [hk, Int.toNat_natCast]
    rw [e]
    exact ⟨askLengths_enter, askLengths_any b I V k L k8 L64 hk hL hhd w hI⟩
  | 2, _ =>
    obtain ⟨k, L, hk, hL, k8, L64, hLk, -⟩ := may_facts (may_of (h 0 (by decide)))
    have hnp : I.np ≤ 1024 := by
      have hr : r2 I k = none := by have := h 1 (by decide); rw [show rl I 1 = r2 I I.ord.toNat from rfl, hk, Int.toNat_natCast] at this; exact this
      unfold r2 at hr
      by_cases c1 : wiB I.reg 0 I.lim = false
      · rw [if_pos c1] at hr; cases hr
      rw [if_neg c1] at hr
      by_cases c2 : I.nm ≠ I.reg.toNat * 2 ^ k * 4096
      · rw [if_pos c2] at hr; cases hr
      rw [if_neg c2] at hr
      by_cases c3 : I.np ≠ I.reg.toNat * 2 ^ k
      · rw [if_pos c3] at hr; cases hr
      have c1' : 0 ≤ I.reg ∧ I.reg ≤ I.lim := by
        have : wiB I.reg 0 I.lim = true := by simpa using c1
        unfold wiB at this
        exact of_decide_eq_true this
      have hnp : I.np = I.reg.toNat * 2 ^ k := Decidable.not_not.1 c3
      have hle : I.np ≤ L * 2 ^ k := by rw [hnp]; exact Nat.mul_le_mul_right _ (by omega)
      omega
    exact ⟨askRanges_enter, askRanges_any b I V w hI hnp⟩
  | 3, _ =>
    obtain ⟨r, hS⟩ := sn9_of (h 0 (by decide)) (h 1 (by decide)) (h 2 (by decide))
    exact ⟨askBlocks_enter, askBlocks_any b I V I.ord.toNat r hS w hI⟩
  | 4, _ =>
    obtain ⟨r, hS⟩ := sn9_of (h 0 (by decide)) (h 1 (by decide)) (h 2 (by decide))
    exact ⟨askCells_enter, askCells_any b I V I.ord.toNat r hS w hI⟩
  | 5, _ =>
    obtain ⟨r, hS⟩ := sn9_of (h 0 (by decide)) (h 1 (by decide)) (h 2 (by decide))
    exact ⟨askHalves_enter, askHalves_any b I V I.ord.toNat r hS w hI⟩
  | 6, _ =>
    obtain ⟨r, hS⟩ := sn9_of (h 0 (by decide)) (h 1 (by decide)) (h 2 (by decide))
    exact ⟨askPairs_enter, askPairs_any b I V I.ord.toNat r hS w hI⟩
  | 7, _ =>
    obtain ⟨r, hS⟩ := sn9_of (h 0 (by decide)) (h 1 (by decide)) (h 2 (by decide))
    exact ⟨askFreeLists_enter, askFreeLists_any b I V I.ord.toNat r hS w hI⟩
  | 8, _ =>
    obtain ⟨r, hS⟩ := sn9_of (h 0 (by decide)) (h 1 (by decide)) (h 2 (by decide))
    exact ⟨askCellLists_enter, askCellLists_any b I V I.ord.toNat r hS w hI⟩
  | 9, _ =>
    obtain ⟨r, hS⟩ := sn9_of (h 0 (by decide)) (h 1 (by decide)) (h 2 (by decide))
    exact ⟨askPartialLists_enter, askPartialLists_any b I V I.ord.toNat r hS w hI⟩
  | 10, _ =>
    obtain ⟨r, hS⟩ := sn9_of (h 0 (by decide)) (h 1 (by decide)) (h 2 (by decide))
    exact ⟨askFullPages_enter, askFullPages_any b I V I.ord.toNat r hS w hI⟩
end Go.Proofs.YthjokkihlodapaaGreat
