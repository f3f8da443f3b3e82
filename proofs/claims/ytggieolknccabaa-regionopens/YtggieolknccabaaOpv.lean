/- RegionOpens: one more page, one more row of words: as the law's loops push them. -/
import Derived.Test.YtggieolknccabaaOpm
namespace Go.Proofs.Ytggieolknccabaa
open Go.RowKit
set_option linter.unusedVariables false

theorem push_pg2 {w0 W : World} {la : Option Addr} {j lc : Nat} (h : GS w0 W 53 11 (.slice la j lc) j (reps pg2 j)) (hj : j ≤ 2000) :
    ∃ g cap w', (∀ ty, (Builtin.append_ #[50, 50] ty #[.slice la j lc, .slice (some ⟨W.heap.size + 1, 0, none⟩) 1 1]).run Try.prog ((W.alloc (.cells #[.int .i64 2, .int .i64 0, .int .i64 0, .int .i64 0, .int .i64 (-1), .int .i64 (-1), .int .i64 (-1), .int .u64 0, .int .u64 0, .int .u64 0, .int .u64 0] 53)).alloc (.cells #[.int .i64 2, .int .i64 0, .int .i64 0, .int .i64 0, .int .i64 (-1), .int .i64 (-1), .int .i64 (-1), .int .u64 0, .int .u64 0, .int .u64 0, .int .u64 0] 53)) = .ok (.slice (some ⟨g, 0, none⟩) (j + 1) cap) w') ∧ GS w0 w' 53 11 (.slice (some ⟨g, 0, none⟩) (j + 1) cap) (j + 1) (reps pg2 (j + 1)) := by
  obtain ⟨g, cap, w', hap, hg⟩ := push_page (h.keep ((Kept.refl none' W).alloc (.cells #[.int .i64 2, .int .i64 0, .int .i64 0, .int .i64 0, .int .i64 (-1), .int .i64 (-1), .int .i64 (-1), .int .u64 0, .int .u64 0, .int .u64 0, .int .u64 0] 53))) pg2 hj
  refine ⟨g, cap, w', fun ty => ?_, hg⟩
  have := hap ty
  rw [show (W.alloc (.cells #[.int .i64 2, .int .i64 0, .int .i64 0, .int .i64 0, .int .i64 (-1), .int .i64 (-1), .int .i64 (-1), .int .u64 0, .int .u64 0, .int .u64 0, .int .u64 0] 53)).heap.size = W.heap.size + 1 by simp] at this
  exact this
theorem GS.beside {w0 W W' : World} {v q : Value} {n m : Nat} {xs ys : List Value} (h : GS w0 W 53 11 v n xs) (hq : W.ownsRow 0 43 1 q m ys) (k : Kept (fun b => q.ownBlock = some b) W W') (k0 : Kept none' w0 W') : GS w0 W' 53 11 v n xs :=
  ⟨own_kept h.own k (fun x hx hS => by
    obtain ⟨c1, h1⟩ := own_ty h.own hx
    obtain ⟨c2, h2⟩ := own_ty hq hS
    exact absurd (ty_ne' h1 h2) (by decide)), h.new, k0⟩
theorem rowN_le {np k : Nat} (h : np ≤ 2000) : rowN np k ≤ 32 := by
  have : np / 2 ^ (k + 1) ≤ np := Nat.div_le_self _ _
  unfold rowN
  omega
theorem row_num {np k : Nat} (h : np ≤ 2000) : wrap64 ((wrap64 ((np : Int) / 2 ^ (k + 1) + 63)).tdiv 64) = (rowN np k : Int) := by
  have h1 : np / 2 ^ (k + 1) ≤ np := Nat.div_le_self _ _
  have h2 : (np : Int) / 2 ^ (k + 1) = ((np / 2 ^ (k + 1) : Nat) : Int) := by simp
  rw [h2]
  unfold rowN
  generalize np / 2 ^ (k + 1) = a at *
  rw [show wrap64 ((a : Int) + 63) = ((a + 63 : Nat) : Int) by unfold wrap64; omega]
  rw [show ((a + 63 : Nat) : Int).tdiv 64 = (((a + 63) / 64 : Nat) : Int) from rfl]
  unfold wrap64
  omega
theorem make_row {n : Nat} (hn : n ≤ 128) (W : World) : (Instr.makeSlice 43 (.int .i64 (n : Int)) (.int .i64 (n : Int))).run Try.prog W = .ok (.slice (some ⟨W.heap.size, 0, none⟩) n n) (W.alloc (.cells (wcells (List.replicate n 0)) 23)) := by
  have hr := run_make_row' (P := Try.prog) 43 23 (.int .u64 0) 8 Try.underlying43 info_u64 rfl .i64 .i64 n (by omega) (by omega) W
  have e : madeCells #[Value.int .u64 0] n = wcells (List.replicate n 0) := by
    simp only [madeCells, wcells]
    apply Array.ext
    · simp
    · intro i h1 h2
      have : i % 1 = 0 := Nat.mod_one i
      simp [this]
  rw [← e]
  exact hr
/-- A row of zeros, made and put behind the others. -/
theorem push_row {w0 W : World} {la qa : Option Addr} {np lc k qc : Nat} {vs : List Value} (hp : GS w0 W 53 11 (.slice la np lc) np (reps pg2 np)) (hq : PR w0 W (.slice qa k qc) np k k vs) (hnp : np ≤ 2000) (hk : k ≤ 8) :
    ∃ w1, (Instr.makeSlice 43 (.int .i64 (wrap64 ((wrap64 ((np : Int) / 2 ^ (k + 1) + 63)).tdiv 64))) (.int .i64 (wrap64 ((wrap64 ((np : Int) / 2 ^ (k + 1) + 63)).tdiv 64)))).run Try.prog W = .ok (.slice (some ⟨W.heap.size, 0, none⟩) (rowN np k) (rowN np k)) w1 ∧
      ∃ g cap w' vs', (∀ ty, (Builtin.append_ #[54, 54] ty #[.slice qa k qc, .slice (some ⟨w1.heap.size, 0, none⟩) 1 1]).run Try.prog (w1.alloc (.cells #[.slice (some ⟨W.heap.size, 0, none⟩) (rowN np k) (rowN np k)] 43)) = .ok (.slice (some ⟨g, 0, none⟩) (k + 1) cap) w') ∧ PR w0 w' (.slice (some ⟨g, 0, none⟩) (k + 1) cap) np (k + 1) (k + 1) vs' ∧ GS w0 w' 53 11 (.slice la np lc) np (reps pg2 np) := by
  have hr := rowN_le (k := k) hnp
  have hm := make_row (n := rowN np k) (by omega) W
  have ka := (Kept.refl none' W).alloc (.cells (wcells (List.replicate (rowN np k) 0)) 23)
  have hb := heap_new W (.cells (wcells (List.replicate (rowN np k) 0)) 23)
  rw [row_num hnp]
  refine ⟨_, hm, ?_⟩
  obtain ⟨g, cap, w', h1, h2, h3⟩ := (hq.keep ka).push (.slice (some ⟨W.heap.size, 0, none⟩) (rowN np k) (rowN np k)) rfl (by omega)
  refine ⟨g, cap, w', _, h1, h2.more (g := W.heap.size) ?_ ?_, (hp.keep ka).beside (hq.keep ka).gs.own h3 h2.gs.kp⟩
  · rw [List.getElem?_append_right (by rw [hq.vl]; omega), hq.vl, Nat.sub_self]
    rfl
  · refine (h3.block _ (heap_lt hb) (fun e => ?_)).trans hb
    obtain ⟨cs, hc⟩ := own_ty (hq.keep ka).gs.own e
    exact absurd (ty_ne' hc hb) (by decide)
/-- A nil row put behind the others. -/
theorem push_nil {w0 W : World} {la qa : Option Addr} {np lc K n qc : Nat} {vs : List Value} (hp : GS w0 W 53 11 (.slice la np lc) np (reps pg2 np)) (hq : PR w0 W (.slice qa n qc) np K n vs) (hn : n ≤ 2000) :
    ∃ g cap w' vs', (∀ ty, (Builtin.append_ #[54, 54] ty #[.slice qa n qc, .slice (some ⟨W.heap.size, 0, none⟩) 1 1]).run Try.prog (W.alloc (.cells #[.slice none 0 0] 43)) = .ok (.slice (some ⟨g, 0, none⟩) (n + 1) cap) w') ∧ PR w0 w' (.slice (some ⟨g, 0, none⟩) (n + 1) cap) np K (n + 1) vs' ∧ GS w0 w' 53 11 (.slice la np lc) np (reps pg2 np) := by
  obtain ⟨g, cap, w', h1, h2, h3⟩ := hq.push (.slice none 0 0) rfl hn
  exact ⟨g, cap, w', _, h1, h2, hp.beside hq.gs.own h3 h2.gs.kp⟩
end Go.Proofs.Ytggieolknccabaa
