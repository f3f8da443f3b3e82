/-
  No cell of these rows narrows 'for every input' (looked for: loops, veiled, ifaces, maps, wideKeys, modest, calm, conditions, laid).
  DERIVED. THE GIVEN ROWS OF THIS SEAT. 3 by the template 'for every input the law returns true; each argument reads behind the call as it read before'; 0 by the template 'total and deterministic' (their statements: YtggieolknccabaaTotals.lean).
  GIVEN WITH THE SEED: the statements are not yours to turn. If you find one false, say at which input.
  Laid BY PROGRAM, IN A SANDBOX (cutbox-rows.mjs): the forced cells as the released guide's own fill.sh prints them over the translation 33ba4db97b223339… (all of the seat's roots in one cut). By AI agents, Wed Nov 11 2026. No macro, syntax, notation, axiom, sorry.
-/
import Derived.Test.YtggieolknccabaaChecked
import GoSem.Claim
import GoSem.ClaimJoined
import GoSem.ClaimMapViews
import Derived.JoinedTies
import Derived.KernelRfl
namespace Go.Proofs.Ytggieolknccabaa
/- THE CELL 'sum', in the pinned program and in every row, IS THE sha256 OF THE DUMP (.gsa) THAT YtggieolknccabaaProg.lean LOADS. Nothing in Lean hashes anything: it is a label: what it is worth is what the hold of that sum in a sandbox is worth. -/
noncomputable def Try.pinned : Pinned := { name := "ytggieolknccabaa", sum := "33ba4db97b2233394f38a958718c1d4bd6bac06a490abe56d35451dbd6421405", checked := Try.checked }
namespace Rows
def none {H : Type} : Left H := { results := [], args := [] }

/-- 'croftlaw6.RegionKnown': WHATEVER THE INPUT: true; the input reads as it did. -/
def regionKnownSpec : ChangeSpec := { name := "regionKnown", fn := fun _ => fun
  | [] => { results := [.lit (.bool true)], args := [] }
  | _ => none }
def regionKnownRow : OpenClaim := { program := "ytggieolknccabaa", sum := "33ba4db97b2233394f38a958718c1d4bd6bac06a490abe56d35451dbd6421405", func := "croft/croftlaw6.RegionKnown", spec := "regionKnown", unfollowed := true, recurses := true, apart := false }
def RegionKnownSaid : Prop := regionKnownRow.holds Try.pinned (OpenSpec.ofChange regionKnownSpec)

/-- ITS FALSE NEIGHBOUR: 'it returns false'. Refute it at one input. -/
def regionKnownWrong : ChangeSpec := { name := "regionKnown", fn := fun _ => fun
  | [] => { results := [.lit (.bool false)], args := [] }
  | _ => none }
def RegionKnownWrongFalsely : Prop := regionKnownRow.holds Try.pinned (OpenSpec.ofChange regionKnownWrong)

/-- 'croftlaw6.RegionNews': WHATEVER THE INPUT: true; the input reads as it did. -/
def regionNewsSpec : ChangeSpec := { name := "regionNews", fn := fun _ => fun
  | [d] => { results := [.lit (.bool true)], args := [d] }
  | _ => none }
def regionNewsRow : OpenClaim := { program := "ytggieolknccabaa", sum := "33ba4db97b2233394f38a958718c1d4bd6bac06a490abe56d35451dbd6421405", func := "croft/croftlaw6.RegionNews", spec := "regionNews", unfollowed := true, recurses := true, apart := false }
def RegionNewsSaid : Prop := regionNewsRow.holds Try.pinned (OpenSpec.ofChange regionNewsSpec)

/-- ITS FALSE NEIGHBOUR: 'it returns false'. Refute it at one input. -/
def regionNewsWrong : ChangeSpec := { name := "regionNews", fn := fun _ => fun
  | [d] => { results := [.lit (.bool false)], args := [d] }
  | _ => none }
def RegionNewsWrongFalsely : Prop := regionNewsRow.holds Try.pinned (OpenSpec.ofChange regionNewsWrong)

/-- 'croftlaw6.RegionOpens': WHATEVER THE INPUT: true; the input reads as it did. -/
def regionOpensSpec : ChangeSpec := { name := "regionOpens", fn := fun _ => fun
  | [d1, d2, d3, d4, d5, d6] => { results := [.lit (.bool true)], args := [d1, d2, d3, d4, d5, d6] }
  | _ => none }
def regionOpensRow : OpenClaim := { program := "ytggieolknccabaa", sum := "33ba4db97b2233394f38a958718c1d4bd6bac06a490abe56d35451dbd6421405", func := "croft/croftlaw6.RegionOpens", spec := "regionOpens", unfollowed := true, recurses := true, apart := false }
def RegionOpensSaid : Prop := regionOpensRow.holds Try.pinned (OpenSpec.ofChange regionOpensSpec)

/-- ITS FALSE NEIGHBOUR: 'it returns false'. Refute it at one input. -/
def regionOpensWrong : ChangeSpec := { name := "regionOpens", fn := fun _ => fun
  | [d1, d2, d3, d4, d5, d6] => { results := [.lit (.bool false)], args := [d1, d2, d3, d4, d5, d6] }
  | _ => none }
def RegionOpensWrongFalsely : Prop := regionOpensRow.holds Try.pinned (OpenSpec.ofChange regionOpensWrong)

/- THE SECOND FORM. 'bulk': how many values and letters a reading holds, each counted each time it is reached (what is shared counts as often as it is met; a slice's spare places count too). A statement '..UptoSaid' is the law's where the arguments, and the package variables that the reading takes, are together of bulk at most 1048576: NARROWER than '..Said'. Prove '..Said' where nothing that the law and all that it calls make is longer than what came in: it says more and counts as full. Else prove '..UptoSaid'. A law counts once. -/
mutual
def uptoBulk {H : Type} : DataW H → Nat
  | .lit (.string bytes) => bytes.length + 1
  | .lit _ => 1
  | .nil => 1
  | .ptr d => uptoBulk d + 1
  | .slice elems spare => uptoBulkAll elems + uptoBulkAll spare + 1
  | .agg parts => uptoBulkAll parts + 1
  | .iface _ d => uptoBulk d + 1
  | .map entries => uptoBulkEntries entries + 1
  | .held _ => 1
def uptoBulkAll {H : Type} : List (DataW H) → Nat
  | [] => 0
  | d :: r => uptoBulk d + uptoBulkAll r
def uptoBulkEntries {H : Type} : List (Lit × DataW H) → Nat
  | [] => 0
  | x :: r => uptoBulkEntry x + uptoBulkEntries r
def uptoBulkEntry {H : Type} : Lit × DataW H → Nat
  | (.string bytes, d) => bytes.length + uptoBulk d + 1
  | (_, d) => uptoBulk d + 1
 end
def uptoSmall : (H : Type) → List (DataW H) → Bool := fun _ ds => decide (uptoBulkAll ds ≤ 1048576)
def OpenSpec.upto (s : _root_.Go.ChangeSpec) : _root_.Go.OpenSpec := { _root_.Go.OpenSpec.ofChange s with cond := some uptoSmall }

/-- 'croftlaw6.RegionKnown', WHERE WHAT IT READS IS OF BULK AT MOST 1048576: true; the input reads as it did. -/
def regionKnownUptoRow : OpenClaim := { program := "ytggieolknccabaa", sum := "33ba4db97b2233394f38a958718c1d4bd6bac06a490abe56d35451dbd6421405", func := "croft/croftlaw6.RegionKnown", spec := "regionKnown", unfollowed := true, recurses := true, apart := false, narrowed := true }
def RegionKnownUptoSaid : Prop := regionKnownUptoRow.holds Try.pinned (OpenSpec.upto regionKnownSpec)

/-- 'croftlaw6.RegionNews', WHERE WHAT IT READS IS OF BULK AT MOST 1048576: true; the input reads as it did. -/
def regionNewsUptoRow : OpenClaim := { program := "ytggieolknccabaa", sum := "33ba4db97b2233394f38a958718c1d4bd6bac06a490abe56d35451dbd6421405", func := "croft/croftlaw6.RegionNews", spec := "regionNews", unfollowed := true, recurses := true, apart := false, narrowed := true }
def RegionNewsUptoSaid : Prop := regionNewsUptoRow.holds Try.pinned (OpenSpec.upto regionNewsSpec)

/-- 'croftlaw6.RegionOpens', WHERE WHAT IT READS IS OF BULK AT MOST 1048576: true; the input reads as it did. -/
def regionOpensUptoRow : OpenClaim := { program := "ytggieolknccabaa", sum := "33ba4db97b2233394f38a958718c1d4bd6bac06a490abe56d35451dbd6421405", func := "croft/croftlaw6.RegionOpens", spec := "regionOpens", unfollowed := true, recurses := true, apart := false, narrowed := true }
def RegionOpensUptoSaid : Prop := regionOpensUptoRow.holds Try.pinned (OpenSpec.upto regionOpensSpec)

end Rows
end Go.Proofs.Ytggieolknccabaa
