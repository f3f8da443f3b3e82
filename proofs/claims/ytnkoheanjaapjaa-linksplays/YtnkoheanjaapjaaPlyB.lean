/- LinksPlays: the document's own calls, with bytes or without; what a step leaves. -/
import Derived.Test.YtnkoheanjaapjaaPlyA
namespace Go.Proofs.Ytnkoheanjaapjaa
open Go.RowKit
set_option linter.unusedVariables false

abbrev dv (mo : Option Nat) (n cap : Nat) : Value := .agg #[.int .u64 4096, .int .u64 4096, .int .i64 3, .slice (adr mo) n cap]
theorem notIn0 {base p k : Nat} (hk : 0 < k) : ¬ In base 0 p k := by unfold In; omega
theorem R3Push_ref (mo : Option Nat) (n cap : Nat) (f : Nat → Nat) (hn : n ≤ 4194304) (hd p : Nat) (hh : hd < 18446744073709551616) (hp : p < 18446744073709551616) (w : World) (H : RefAt w mo n cap f) :
    Calls Try.prog 46 #[.agg #[.int .u64 4096, .int .u64 4096, .int .i64 3, .slice (adr mo) n cap], .int .u64 (hd : Int), .int .u64 (p : Int)] w fun e w' => e = .returned (.tuple #[.int .u64 ((pushR 4096 n f hd p).2.1 : Int), .int .i64 ((pushR 4096 n f hd p).2.2 : Int)]) ∧ RefAt w' mo n cap (pushR 4096 n f hd p).1 ∧ Kept (fun x => mo = some x) w w' := by
  cases mo with
  | none =>
    obtain ⟨rfl, rfl⟩ := H
    rw [show pushR 4096 0 f hd p = (f, hd, 4) by unfold pushR; rw [if_neg (notIn0 (by decide))]]
    refine (R3Push_out 4096 4096 3 0 0 none (by decide) (by decide) hd p hp (notIn0 (by decide)) w).mono ?_
    rintro e w1 ⟨rfl, k⟩
    exact ⟨rfl, ⟨rfl, rfl⟩, k.mono (fun _ _ x => x.elim)⟩
  | some h =>
    refine (R3Push_any 4096 4096 3 n cap h f hn (by omega) hd p hh hp w H).mono ?_
    rintro e w1 ⟨rfl, m, k⟩
    exact ⟨rfl, m, k.mono (fun _ _ x => x ▸ rfl)⟩
theorem R3Remove_ref (mo : Option Nat) (n cap : Nat) (f : Nat → Nat) (hn : n ≤ 4194304) (hd p : Nat) (hh : hd < 18446744073709551616) (hp : p < 18446744073709551616) (w : World) (H : RefAt w mo n cap f) :
    Calls Try.prog 48 #[.agg #[.int .u64 4096, .int .u64 4096, .int .i64 3, .slice (adr mo) n cap], .int .u64 (hd : Int), .int .u64 (p : Int)] w fun e w' => e = .returned (.tuple #[.int .u64 ((removeR 4096 n f hd p).2.1 : Int), .int .i64 ((removeR 4096 n f hd p).2.2 : Int)]) ∧ RefAt w' mo n cap (removeR 4096 n f hd p).1 ∧ Kept (fun x => mo = some x) w w' := by
  cases mo with
  | none =>
    obtain ⟨rfl, rfl⟩ := H
    rw [show removeR 4096 0 f hd p = (f, hd, 4) by unfold removeR; rw [if_neg (notIn0 (by decide))]]
    refine (R3Remove_out 4096 4096 3 0 0 none (by decide) (by decide) hd p hp (notIn0 (by decide)) w).mono ?_
    rintro e w1 ⟨rfl, k⟩
    exact ⟨rfl, ⟨rfl, rfl⟩, k.mono (fun _ _ x => x.elim)⟩
  | some h =>
    refine (R3Remove_any 4096 4096 3 n cap h f hn (by omega) hd p hh hp w H).mono ?_
    rintro e w1 ⟨rfl, m, k⟩
    exact ⟨rfl, m, k.mono (fun _ _ x => x ▸ rfl)⟩
theorem R3Pop_none (base R lim : Nat) (hbn : base ≤ 9223372036854775808) (hd : Nat) (hh : hd < 18446744073709551616) (w : World) :
    Calls Try.prog 47 #[.agg #[.int .u64 (base : Int), .int .u64 (R : Int), .int .i64 (lim : Int), .slice none 0 0], .int .u64 (hd : Int)] w fun e w' => e = .returned (.tuple #[.int .u64 (hd : Int), .int .u64 0, .int .i64 (if hd = 0 then 9 else 4)]) ∧ Kept none' w w' := by
  by_cases h0 : hd = 0
  · subst h0
    rw [if_pos rfl]
    go_enter Try.func47, Try.ntmps47
    go_wp2_with fail
    exact ⟨rfl, _, by simp [results, Try.results47, go_sem], rfl, (Kept.refl none' w).alloc _⟩
  · rw [if_neg h0]
    have h0i : ((hd : Int) == 0) = false := beq_eq_false_iff_ne.2 (by omega)
    go_enter Try.func47, Try.ntmps47
    go_wp2_with fail
    refine (R3Remove_out base R lim 0 0 none (by decide) (by omega) hd hd hh (notIn0 (by decide)) _).mono ?_
    rintro e w1 ⟨rfl, k⟩
    have K := hid (none_trans ((Kept.refl none' w).alloc _) k)
    clear k
    go_wp2_with fail
    exact ⟨rfl, _, by simp [results, Try.results47, go_sem], rfl, K.out⟩
theorem R3Pop_ref (mo : Option Nat) (n cap : Nat) (f : Nat → Nat) (hn : n ≤ 4194304) (hd : Nat) (hh : hd < 18446744073709551616) (w : World) (H : RefAt w mo n cap f) :
    Calls Try.prog 47 #[.agg #[.int .u64 4096, .int .u64 4096, .int .i64 3, .slice (adr mo) n cap], .int .u64 (hd : Int)] w fun e w' => e = .returned (.tuple #[.int .u64 ((popR 4096 n f hd).2.1 : Int), .int .u64 ((popR 4096 n f hd).2.2.1 : Int), .int .i64 ((popR 4096 n f hd).2.2.2 : Int)]) ∧ RefAt w' mo n cap (popR 4096 n f hd).1 ∧ Kept (fun x => mo = some x) w w' := by
  cases mo with
  | none =>
    obtain ⟨rfl, rfl⟩ := H
    have hr : removeR 4096 0 f hd hd = (f, hd, 4) := by unfold removeR; rw [if_neg (notIn0 (by decide))]
    have hp : popR 4096 0 f hd = (f, hd, 0, if hd = 0 then 9 else 4) := by
      unfold popR
      rw [hr]
      by_cases h0 : hd = 0
      · simp [h0]
      · simp [h0]
    rw [hp]
    refine (R3Pop_none 4096 4096 3 (by decide) hd hh w).mono ?_
    rintro e w1 ⟨rfl, k⟩
    refine ⟨?_, ⟨rfl, rfl⟩, k.mono (fun _ _ x => x.elim)⟩
    by_cases h0 : hd = 0
    · simp [h0]
    · simp [h0]
  | some h =>
    refine (R3Pop_any 4096 4096 3 n cap h f hn (by omega) hd hh w H).mono ?_
    rintro e w1 ⟨rfl, m, k⟩
    exact ⟨rfl, m, k.mono (fun _ _ x => x ▸ rfl)⟩
theorem removeR_lt {w b ao base R lim n f hd p} (s : SpaceAt w b ao base R lim n f) (hh : hd < 18446744073709551616) : (removeR base n f hd p).2.1 < 18446744073709551616 := by
  unfold removeR; split
  · rename_i hin
    split
    · show (if pv base f p = 0 then nx base f p else hd) < _
      split
      · exact s.nx_lt p hin
      · exact hh
    · exact hh
  · exact hh
theorem popR_lt {w b ao base R lim n f hd} (s : SpaceAt w b ao base R lim n f) (hh : hd < 18446744073709551616) : (popR base n f hd).2.1 < 18446744073709551616 := by
  unfold popR; split
  · exact hh
  · split
    · exact removeR_lt s hh
    · exact hh
theorem R3All_ref (mo : Option Nat) (n cap : Nat) (f : Nat → Nat) (hn : n ≤ 4194304) (hd m : Nat) (hh : hd < 18446744073709551616) (hm : m ≤ 1048576) (w : World) (H : RefAt w mo n cap f) :
    Calls Try.prog 49 #[.agg #[.int .u64 4096, .int .u64 4096, .int .i64 3, .slice (adr mo) n cap], .int .u64 (hd : Int), .int .i64 (m : Int)] w fun e w' => ∃ v, e = .returned v ∧ Lst w' v (walkR 4096 n f (min (n / 16) m) 0 hd) ∧ Kept none' w w' ∧ ∀ r, v.ownBlock = some r → w.heap.size ≤ r := by
  cases mo with
  | none =>
    obtain ⟨rfl, rfl⟩ := H
    refine (R3All_none 4096 4096 3 (by decide) hd m w).mono ?_
    rintro e w1 ⟨rfl, k⟩
    refine ⟨_, rfl, ?_, k, fun r hr => by cases hr⟩
    rw [show min (0 / 16) m = 0 by omega, walkR]
    exact Lst.nil _
  | some h =>
    exact R3All_in 4096 4096 3 n cap h f hn (by omega) hd m hh hm w H

/-- What a step leaves. -/
def Post (A B b : Nat) (ao mo : Option Nat) (n cap : Nat) (cs : Nat → Nat) (w : World) (e : Ending) (w' : World) : Prop :=
  ∃ f2 cs2 hs2, e = .returned (.bool true) ∧ Trio w' A B b ao mo n cap f2 cs2 hs2 f2 hs2 ∧ Kept (tri A B b ao mo cs) w w' ∧ ∀ k, k < 3 → cs2 k = cs k ∨ w.heap.size ≤ cs2 k
theorem tri_none {A B b ao mo cs} {w w' : World} (k : Kept none' w w') : Kept (tri A B b ao mo cs) w w' := k.mono (fun _ _ x => x.elim)
theorem tri_doc {A B b ao mo cs} {w w' : World} (k : Kept (fun x => mo = some x) w w') : Kept (tri A B b ao mo cs) w w' := k.mono (fun _ _ x => Or.inr (Or.inr (Or.inr (Or.inl x))))
theorem tri_prog {A B b ao mo} {cs : Nat → Nat} {w w' : World} (i : Nat) (hi : i < 3) (k : Kept (lown (cs i) b ao) w w') : Kept (tri A B b ao mo cs) w w' := k.mono (fun _ _ x => x.elim (fun e => Or.inr (Or.inr (Or.inr (Or.inr ⟨i, hi, e⟩)))) (fun e => Or.inr (Or.inr (Or.inl e))))
theorem tri_own {A B b ao mo} {cs : Nat → Nat} {w w' : World} (k : Kept (own b ao) w w') : Kept (tri A B b ao mo cs) w w' := k.mono (fun _ _ x => Or.inr (Or.inr (Or.inl x)))
theorem put3_same (hs : Nat → Nat) (i : Nat) : put3 hs i (hs i) = hs := by
  funext j
  unfold put3
  split
  · rename_i e; rw [e]
  · rfl
theorem Trio.space {w w' A B b ao mo n cap f cs hs f' hs' f2} (t : Trio w A B b ao mo n cap f cs hs f' hs') (k : Kept (own b ao) w w') (s : SpaceAt w' b ao 4096 4096 3 n f2) : Trio w' A B b ao mo n cap f2 cs hs f' hs' := by
  have l0 : LS w (cs 0) b ao 4096 4096 3 n f (hs 0) := ⟨t.s, t.l 0 (by decide)⟩
  have := t.prog 0 (by decide) (k.lown' (c := cs 0)) (l0.stored s k)
  rwa [put3_same] at this
theorem tri_trans {A B b ao mo cs} {a c d : World} (k : Kept (tri A B b ao mo cs) a c) (l : Kept (tri A B b ao mo cs) c d) : Kept (tri A B b ao mo cs) a d := k.trans l (fun _ _ x => x) (fun _ _ x => x)
theorem tri_setB {A B b ao mo cs} {w w' : World} (k : Kept (tri A B b ao mo cs) w w') (i : Nat) (v : Value) : Kept (tri A B b ao mo cs) w (w'.setCell ⟨B, i, none⟩ v) := k.setCell (fun _ => Or.inr (Or.inl rfl)) v
theorem tri_setA {A B b ao mo cs} {w w' : World} (k : Kept (tri A B b ao mo cs) w w') (i : Nat) (v : Value) : Kept (tri A B b ao mo cs) w (w'.setCell ⟨A, i, none⟩ v) := k.setCell (fun _ => Or.inl rfl) v

/-- The boxes of the document's space and of the step. -/
abbrev W2 (w : World) (mo : Option Nat) (n cap : Nat) (op li : Int) (p v : Nat) : World := (w.alloc (.cells #[.int .u64 4096, .int .u64 4096, .int .i64 3, .slice (adr mo) n cap] 44)).alloc (.cells #[.int .i64 op, .int .i64 li, .int .u64 (p : Int), .int .u64 (v : Int)] 55)
structure Box2 (w wr : World) (mo : Option Nat) (n cap : Nat) (op li : Int) (p v : Nat) : Prop where
  d : wr.heap[w.heap.size]? = some (.cells #[.int .u64 4096, .int .u64 4096, .int .i64 3, .slice (adr mo) n cap] 44 (0, 0))
  x : wr.heap[w.heap.size + 1]? = some (.cells #[.int .i64 op, .int .i64 li, .int .u64 (p : Int), .int .u64 (v : Int)] 55 (0, 0))
theorem Box2.new (w : World) (mo : Option Nat) (n cap : Nat) (op li : Int) (p v : Nat) : Box2 w (W2 w mo n cap op li p v) mo n cap op li p v :=
  ⟨(Below.heap_alloc (w.alloc _) _ w.heap.size (by simp)).trans (heap_new w _), two_new w _ _⟩
theorem Box2.kept {w wr wr' mo n cap op li p v} {S : Nat → Prop} (h : Box2 w wr mo n cap op li p v) (k : Kept S wr wr') (hS : ∀ x, S x → x < w.heap.size) : Box2 w wr' mo n cap op li p v :=
  ⟨(k.block _ (Array.getElem?_eq_some_iff.1 h.d).1 (fun e => by have := hS _ e; omega)).trans h.d, (k.block _ (Array.getElem?_eq_some_iff.1 h.x).1 (fun e => by have := hS _ e; omega)).trans h.x⟩
theorem Box2.cd {w wr mo n cap op li p v} (h : Box2 w wr mo n cap op li p v) : wr.cell? ⟨w.heap.size, 0, none⟩ = some (.int .u64 4096) ∧ wr.cell? ⟨w.heap.size, 1, none⟩ = some (.int .u64 4096) ∧ wr.cell? ⟨w.heap.size, 2, none⟩ = some (.int .i64 3) ∧ wr.cell? ⟨w.heap.size, 3, none⟩ = some (.slice (adr mo) n cap) := by
  have := h.d
  exact ⟨by simp [World.cell?, this], by simp [World.cell?, this], by simp [World.cell?, this], by simp [World.cell?, this]⟩
theorem Box2.cx {w wr mo n cap op li p v} (h : Box2 w wr mo n cap op li p v) : wr.cell? ⟨w.heap.size + 1, 2, none⟩ = some (.int .u64 (p : Int)) ∧ wr.cell? ⟨w.heap.size + 1, 3, none⟩ = some (.int .u64 (v : Int)) := by
  have := h.x
  exact ⟨by simp [World.cell?, this], by simp [World.cell?, this]⟩
theorem Trio.tri_lt {w A B b ao mo n cap f cs hs f' hs'} (t : Trio w A B b ao mo n cap f cs hs f' hs') (x : Nat) (hx : tri A B b ao mo cs x) : x < w.heap.size := by
  rcases hx with rfl | rfl | hx | hx | ⟨k, hk, rfl⟩
  · exact (Array.getElem?_eq_some_iff.1 t.a).1
  · exact (Array.getElem?_eq_some_iff.1 t.h).1
  · exact t.s.own_lt x hx
  · obtain ⟨c, hc⟩ := ref_ty t.r hx
    exact (Array.getElem?_eq_some_iff.1 hc).1
  · exact (t.l k hk).lt
end Go.Proofs.Ytnkoheanjaapjaa
