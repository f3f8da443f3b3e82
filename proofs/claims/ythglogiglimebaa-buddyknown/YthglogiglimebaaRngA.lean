/- A range over a function, by the loop's record: the statement; a round; a function that leaves with marks. -/
import Derived.Test.YthglogiglimebaaLinE
import Derived.RangeFuncNested
import Derived.RangeFuncBound
import Derived.RangeFuncCalls
import Derived.RangeFuncLeaves
import Derived.Shelf.Abstract
import Derived.Shelf.RegionOpen
import Derived.WalkKit
import Derived.WalkMore
import Derived.OwnWalkIn
import Derived.TacticsInMore
import Derived.LoopNIn
import Derived.LoopIn
import Derived.Maps.AppendAt
namespace Go.Proofs.Ythglogiglimebaa.M
open Go.RowKit Go.Shelf
set_option linter.unusedVariables false

/-- A loop's record. -/
abbrev rec0 (fn : FuncId) (tmps : Array Value) (ps : Array Tmp) (assign body : Code) (D : Nat) (st : LoopState) (pe : Option Code) : Loop :=
  { state := st, pending := pe, fn := fn, tmps := tmps, params := ps, assign := assign, body := body, defers := D }
def RecAt (w : World) (l : Nat) (r : Loop) : Prop := w.heap[l]? = some (.loop r)
def DefAt (w : World) (d : Nat) : Prop := w.heap[d]? = some (.deferred (some []))
theorem RecAt.lt {w l r} (h : RecAt w l r) : l < w.heap.size := (Array.getElem?_eq_some_iff.1 h).1
theorem DefAt.lt {w d} (h : DefAt w d) : d < w.heap.size := (Array.getElem?_eq_some_iff.1 h).1
theorem RecAt.kept {w w' l r} {S : Nat → Prop} (h : RecAt w l r) (k : Kept S w w') (hS : ¬ S l) : RecAt w' l r := (k.block l h.lt hS).trans h
theorem DefAt.kept {w w' d} {S : Nat → Prop} (h : DefAt w d) (k : Kept S w w') (hS : ¬ S d) : DefAt w' d := (k.block d h.lt hS).trans h
theorem Kept.putObj {S : Nat → Prop} {a b : World} (h : Kept S a b) {l : Nat} (hl : l < a.heap.size → S l) (o : Obj) : Kept S a (b.putObj l o) :=
  ⟨h.os, h.tape, h.output, by rw [World.putObj_size]; exact h.size, fun i hi hU => (World.putObj_heap_other (fun e => hU (by rw [e]; exact hl (e ▸ hi)))).trans (h.block i hi hU)⟩
theorem RecAt.put {w l r} (h : RecAt w l r) (r' : Loop) : RecAt (w.putObj l (.loop r')) l r' := World.putObj_heap_same h.lt

/-- What is asked at a round's end. -/
def rpost (l : Nat) (rc : LoopState → Option Code → Loop) (R : Ending → World → Prop) : Exit → Act → World → Prop
  | .normal, _, w => RecAt w l (rc .busy none) ∧ R (.returned (.bool true)) (w.putObj l (.loop (rc .ready none)))
  | .ret, _, w => RecAt w l (rc .busy none) ∧ R (.returned (.bool false)) (w.putObj l (.loop (rc .done (some .ret))))
  | .exit id, _, w => RecAt w l (rc .busy none) ∧ R (.returned (.bool false)) (w.putObj l (.loop (rc .done (some (.exit id)))))
  | _, _, _ => False

theorem yield_round {P : Program} {m l : Nat} {fn : FuncId} {tmps : Array Value} {ps : Array Tmp} {assign body : Code} {D : Nat} {args : Array Value} {W : World} {R : Ending → World → Prop}
    (hl : RecAt W l (rec0 fn tmps ps assign body D .ready none)) (hs : args.size = ps.size)
    (h : assign.wpIn (Fence.wide.inRound l) m P (Exit.then (fun a₁ w₁ => RecAt w₁ l (rec0 fn tmps ps assign body D .ready none) ∧
        body.wpIn (Fence.wide.inRound l) m P (rpost l (rec0 fn tmps ps assign body D) R) a₁ (w₁.putObj l (.loop (rec0 fn tmps ps assign body D .busy none)))) (fun _ _ _ => False))
      { tmps := (ps.zip args).foldl (fun t (p, v) => t.setIfInBounds p v) tmps, defers := [] } W) :
    YieldAt Fence.wide m P l args W R := by
  have hy := run_yield (P := P) (args := args) hl hs
  refine ⟨fn, _, assign, body, hy, roundIn_of_wpIn trivial (wpIn_mono h ?_)⟩
  rintro e a₁ w₁ hq
  cases e with
  | normal =>
    obtain ⟨hr, hb⟩ := hq
    refine ⟨_, run_beginRound hr rfl, wpIn_mono hb ?_⟩
    rintro e a₂ w₂ hq
    cases e with
    | normal => exact ⟨_, _, run_endRound none hq.1, hq.2⟩
    | ret => exact ⟨_, _, run_endRound (some .ret) hq.1, hq.2⟩
    | exit id => exact ⟨_, _, run_endRound (some (.exit id)) hq.1, hq.2⟩
    | goto t => exact hq.elim
    | panic ch => exact hq.elim
    | outgrown => exact hq.elim
  | ret => exact hq
  | exit id => exact hq
  | goto t => exact hq
  | panic ch => exact hq
  | outgrown => exact hq

/-- What the function that is ranged over owes. -/
def ranged (P : Program) (w : World) (l : Nat) (rc : LoopState → Option Code → Loop) (N : World → Prop) (X : Code → World → Prop) : Ending → World → Prop := fun e W2 =>
  (∃ v, e = .returned v) ∧ ∃ st pe, st ≠ .busy ∧ RecAt W2 l (rc st pe) ∧ (pe = none → N (W2.putObj l (.loop (rc .exhausted pe)))) ∧ (∀ c, pe = some c → X c (W2.putObj l (.loop (rc .exhausted pe))))

theorem wpIn_range {F : Fence} {P : Program} {g : Operand} {ps : Array Tmp} {assign body : Code} {Q : Exit → Act → World → Prop} {a : Act} {w : World}
    (hro : F.round = none) (hF : ∀ f, F.fn f) (hdep : F.depth.isSome = false)
    {gf : Nat} {lb : Array Value} (hg : a.eval g = .func (.func gf) #[] lb) (eg : ∀ args w, (callFunc gf args).run P w = .ok (.enter gf args) w)
    (h : ∀ fn, CallsIn F 0 P gf (#[.func (.yield (w.heap.size + 1)) #[] #[]] ++ lb) ((w.alloc (.deferred (some []))).alloc (.loop (rec0 fn a.tmps ps assign body w.heap.size .ready none)))
      (ranged P w (w.heap.size + 1) (rec0 fn a.tmps ps assign body w.heap.size) (Q .normal { a with defers := { target := .collected w.heap.size, args := #[] } :: a.defers })
        (fun c => c.wpIn F 0 P Q { a with defers := { target := .collected w.heap.size, args := #[] } :: a.defers }))) :
    (Code.rangeFunc g ps assign body).wpIn F 0 P Q a w := by
  refine wpIn_rangeFunc ?_
  intro fn hfn
  rw [hro]
  refine ⟨w.heap.size + 1, [{ target := .collected w.heap.size, args := #[] }], (w.alloc (.deferred (some []))).alloc (.loop (rec0 fn a.tmps ps assign body w.heap.size .ready none)), { target := .fn (.func gf) lb, args := #[.func (.yield (w.heap.size + 1)) #[] #[]] }, (w.alloc (.deferred (some []))).alloc (.loop (rec0 fn a.tmps ps assign body w.heap.size .ready none)), gf,
    #[.func (.yield (w.heap.size + 1)) #[] #[]] ++ lb, (w.alloc (.deferred (some []))).alloc (.loop (rec0 fn a.tmps ps assign body w.heap.size .ready none)), ?_, ?_, fun f' _ => hF f', ?_, fun h => (by rw [hdep] at h; cases h), ?_⟩
  · exact run_enterLoop_outer _ _ _ _ _
  · simp only [resolve, hg]
    simp [go_sem]
  · simp [invoke, go_sem, eg]
  · refine CallsIn.mono (h fn) ?_
    rintro e W2 ⟨⟨v, rfl⟩, st, pe, hst, hr, hq1, hq2⟩
    refine ⟨pe, _, run_endLoop hr hst, ?_⟩
    cases pe with
    | none => exact hq1 rfl
    | some c => exact hq2 c rfl

/-- The statement, out of a round, by the contract of the function that is ranged over. -/
theorem wp_range {P : Program} {g : Operand} {ps : Array Tmp} {assign body : Code} {Q : Exit → Act → World → Prop} {a : Act} {w : World}
    {gf : Nat} {lb : Array Value} (hg : a.eval g = .func (.func gf) #[] lb) (eg : ∀ args w, (callFunc gf args).run P w = .ok (.enter gf args) w)
    (h : ∀ fn rc, rc = rec0 fn a.tmps ps assign body w.heap.size → Calls P gf (#[.func (.yield (w.heap.size + 1)) #[] #[]] ++ lb) ((w.alloc (.deferred (some []))).alloc (.loop (rc .ready none)))
      (ranged P w (w.heap.size + 1) rc (Q .normal { a with defers := { target := .collected w.heap.size, args := #[] } :: a.defers })
        (fun c => c.wp P Q { a with defers := { target := .collected w.heap.size, args := #[] } :: a.defers }))) :
    (Code.rangeFunc g ps assign body).wp P Q a w := by
  refine (wpIn_wide (n := 0)).1 (wpIn_range rfl (fun _ => trivial) rfl hg eg (fun fn => callsIn_wide.2 ((h fn _ rfl).mono ?_)))
  rintro e W2 ⟨hv, st, pe, hst, hr, hq1, hq2⟩
  exact ⟨hv, st, pe, hst, hr, hq1, fun c hc => wpIn_wide.2 (hq2 c hc)⟩

/-- A function that holds a range over a function. -/
theorem calls_marks {P : Program} {f : FuncId} {fn : Func} {c : Code} {args : Array Value} {w : World} {R : Ending → World → Prop}
    (hf : P.funcs[f]? = some fn) (hb : fn.body = some c)
    (h : c.wp P (bodyPostM Fence.wide 0 P fn R) { tmps := args ++ Array.replicate (fn.ntmps - args.size) undef, defers := [] } w) : Calls P f args w R :=
  callsIn_wide.1 (callsIn_of_wp_marks hf hb trivial (wpIn_wide.2 h) rfl)
end Go.Proofs.Ythglogiglimebaa.M
