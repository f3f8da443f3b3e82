/-
  No cell of these rows narrows 'for every input' (looked for: loops, veiled, ifaces, maps, wideKeys, modest, calm, conditions, laid).
  DERIVED. THE GIVEN ROWS OF THIS SEAT. 6 by the template 'for every input the law returns true; each argument reads behind the call as it read before'; 0 by the template 'total and deterministic' (their statements: YtahdjaocfejjeaaTotals.lean).
  GIVEN WITH THE SEED: the statements are not yours to turn. If you find one false, say at which input.
  Laid BY PROGRAM, IN A SANDBOX (cutbox-rows.mjs): the forced cells as the released guide's own fill.sh prints them over the translation 5b855310223521c1… (all of the seat's roots in one cut). By AI agents, Wed Nov 11 2026. No macro, syntax, notation, axiom, sorry.
-/
import Derived.Test.YtahdjaocfejjeaaChecked
import GoSem.Claim
import GoSem.ClaimJoined
import GoSem.ClaimMapViews
import Derived.JoinedTies
import Derived.KernelRfl
namespace Go.Proofs.Ytahdjaocfejjeaa
/- THE CELL 'sum', in the pinned program and in every row, IS THE sha256 OF THE DUMP (.gsa) THAT YtahdjaocfejjeaaProg.lean LOADS. Nothing in Lean hashes anything: it is a label: what it is worth is what the hold of that sum in a sandbox is worth. -/
noncomputable def Try.pinned : Pinned := { name := "ytahdjaocfejjeaa", sum := "5b855310223521c1e5e73d0c6e29b33061a3521014a470c8edfa11dbba07aca1", checked := Try.checked }
namespace Rows
def none {H : Type} : Left H := { results := [], args := [] }

/-- 'croftlaw1.BitsKnown': WHATEVER THE INPUT: true; the input reads as it did. -/
def bitsKnownSpec : ChangeSpec := { name := "bitsKnown", fn := fun _ => fun
  | [] => { results := [.lit (.bool true)], args := [] }
  | _ => none }
def bitsKnownRow : OpenClaim := { program := "ytahdjaocfejjeaa", sum := "5b855310223521c1e5e73d0c6e29b33061a3521014a470c8edfa11dbba07aca1", func := "croft/croftlaw1.BitsKnown", spec := "bitsKnown", apart := false }
def BitsKnownSaid : Prop := bitsKnownRow.holds Try.pinned (OpenSpec.ofChange bitsKnownSpec)

/-- ITS FALSE NEIGHBOUR: 'it returns false'. Refute it at one input. -/
def bitsKnownWrong : ChangeSpec := { name := "bitsKnown", fn := fun _ => fun
  | [] => { results := [.lit (.bool false)], args := [] }
  | _ => none }
def BitsKnownWrongFalsely : Prop := bitsKnownRow.holds Try.pinned (OpenSpec.ofChange bitsKnownWrong)

/-- 'croftlaw1.BitsPowers': WHATEVER THE INPUT: true; the input reads as it did. -/
def bitsPowersSpec : ChangeSpec := { name := "bitsPowers", fn := fun _ => fun
  | [d] => { results := [.lit (.bool true)], args := [d] }
  | _ => none }
def bitsPowersRow : OpenClaim := { program := "ytahdjaocfejjeaa", sum := "5b855310223521c1e5e73d0c6e29b33061a3521014a470c8edfa11dbba07aca1", func := "croft/croftlaw1.BitsPowers", spec := "bitsPowers", apart := false }
def BitsPowersSaid : Prop := bitsPowersRow.holds Try.pinned (OpenSpec.ofChange bitsPowersSpec)

/-- ITS FALSE NEIGHBOUR: 'it returns false'. Refute it at one input. -/
def bitsPowersWrong : ChangeSpec := { name := "bitsPowers", fn := fun _ => fun
  | [d] => { results := [.lit (.bool false)], args := [d] }
  | _ => none }
def BitsPowersWrongFalsely : Prop := bitsPowersRow.holds Try.pinned (OpenSpec.ofChange bitsPowersWrong)

/-- 'croftlaw1.BitsMultiples': WHATEVER THE INPUT: true; the input reads as it did. -/
def bitsMultiplesSpec : ChangeSpec := { name := "bitsMultiples", fn := fun _ => fun
  | [d1, d2] => { results := [.lit (.bool true)], args := [d1, d2] }
  | _ => none }
def bitsMultiplesRow : OpenClaim := { program := "ytahdjaocfejjeaa", sum := "5b855310223521c1e5e73d0c6e29b33061a3521014a470c8edfa11dbba07aca1", func := "croft/croftlaw1.BitsMultiples", spec := "bitsMultiples", apart := false }
def BitsMultiplesSaid : Prop := bitsMultiplesRow.holds Try.pinned (OpenSpec.ofChange bitsMultiplesSpec)

/-- ITS FALSE NEIGHBOUR: 'it returns false'. Refute it at one input. -/
def bitsMultiplesWrong : ChangeSpec := { name := "bitsMultiples", fn := fun _ => fun
  | [d1, d2] => { results := [.lit (.bool false)], args := [d1, d2] }
  | _ => none }
def BitsMultiplesWrongFalsely : Prop := bitsMultiplesRow.holds Try.pinned (OpenSpec.ofChange bitsMultiplesWrong)

/-- 'croftlaw1.BitsPlays': WHATEVER THE INPUT: true; the input reads as it did. -/
def bitsPlaysSpec : ChangeSpec := { name := "bitsPlays", fn := fun _ => fun
  | [d1, d2, d3] => { results := [.lit (.bool true)], args := [d1, d2, d3] }
  | _ => none }
def bitsPlaysRow : OpenClaim := { program := "ytahdjaocfejjeaa", sum := "5b855310223521c1e5e73d0c6e29b33061a3521014a470c8edfa11dbba07aca1", func := "croft/croftlaw1.BitsPlays", spec := "bitsPlays", apart := false }
def BitsPlaysSaid : Prop := bitsPlaysRow.holds Try.pinned (OpenSpec.ofChange bitsPlaysSpec)

/-- ITS FALSE NEIGHBOUR: 'it returns false'. Refute it at one input. -/
def bitsPlaysWrong : ChangeSpec := { name := "bitsPlays", fn := fun _ => fun
  | [d1, d2, d3] => { results := [.lit (.bool false)], args := [d1, d2, d3] }
  | _ => none }
def BitsPlaysWrongFalsely : Prop := bitsPlaysRow.holds Try.pinned (OpenSpec.ofChange bitsPlaysWrong)

/-- 'croftlaw1.BitsOfs': WHATEVER THE INPUT: true; the input reads as it did. -/
def bitsOfsSpec : ChangeSpec := { name := "bitsOfs", fn := fun _ => fun
  | [d1, d2] => { results := [.lit (.bool true)], args := [d1, d2] }
  | _ => none }
def bitsOfsRow : OpenClaim := { program := "ytahdjaocfejjeaa", sum := "5b855310223521c1e5e73d0c6e29b33061a3521014a470c8edfa11dbba07aca1", func := "croft/croftlaw1.BitsOfs", spec := "bitsOfs", apart := false }
def BitsOfsSaid : Prop := bitsOfsRow.holds Try.pinned (OpenSpec.ofChange bitsOfsSpec)

/-- ITS FALSE NEIGHBOUR: 'it returns false'. Refute it at one input. -/
def bitsOfsWrong : ChangeSpec := { name := "bitsOfs", fn := fun _ => fun
  | [d1, d2] => { results := [.lit (.bool false)], args := [d1, d2] }
  | _ => none }
def BitsOfsWrongFalsely : Prop := bitsOfsRow.holds Try.pinned (OpenSpec.ofChange bitsOfsWrong)

/-- 'croftlaw1.BitsKept': WHATEVER THE INPUT: true; the input reads as it did. -/
def bitsKeptSpec : ChangeSpec := { name := "bitsKept", fn := fun _ => fun
  | [d1, d2] => { results := [.lit (.bool true)], args := [d1, d2] }
  | _ => none }
def bitsKeptRow : OpenClaim := { program := "ytahdjaocfejjeaa", sum := "5b855310223521c1e5e73d0c6e29b33061a3521014a470c8edfa11dbba07aca1", func := "croft/croftlaw1.BitsKept", spec := "bitsKept", apart := false }
def BitsKeptSaid : Prop := bitsKeptRow.holds Try.pinned (OpenSpec.ofChange bitsKeptSpec)

/-- ITS FALSE NEIGHBOUR: 'it returns false'. Refute it at one input. -/
def bitsKeptWrong : ChangeSpec := { name := "bitsKept", fn := fun _ => fun
  | [d1, d2] => { results := [.lit (.bool false)], args := [d1, d2] }
  | _ => none }
def BitsKeptWrongFalsely : Prop := bitsKeptRow.holds Try.pinned (OpenSpec.ofChange bitsKeptWrong)

/- THE SECOND FORM. 'bulk': how many values and letters a reading holds, each counted each time it is reached (what is shared counts as often as it is met; a slice's spare places count too). A statement '..UptoSaid' is the law's where the arguments, and the package variables that the reading takes, are together of bulk at most 1048576: NARROWER than '..Said'. Prove '..Said' where nothing that the law and all that it calls make is longer than what came in: it says more and counts as full. Else prove '..UptoSaid'. A law counts once. -/
mutual
def uptoBulk {H : Type} : DataW H → Nat
  | .lit (.string bytes) => bytes.length + 1
  | .lit _ => 1
  | .nil => 1
  | .ptr d => uptoBulk d + 1
  | .slice elems spare => uptoBulkAll elems + uptoBulkAll spare + 1
  | .agg parts => uptoBulkAll parts + 1
  | .iface _ d => uptoBulk d + 1
  | .map entries => uptoBulkEntries entries + 1
  | .held _ => 1
def uptoBulkAll {H : Type} : List (DataW H) → Nat
  | [] => 0
  | d :: r => uptoBulk d + uptoBulkAll r
def uptoBulkEntries {H : Type} : List (Lit × DataW H) → Nat
  | [] => 0
  | x :: r => uptoBulkEntry x + uptoBulkEntries r
def uptoBulkEntry {H : Type} : Lit × DataW H → Nat
  | (.string bytes, d) => bytes.length + uptoBulk d + 1
  | (_, d) => uptoBulk d + 1
 end
def uptoSmall : (H : Type) → List (DataW H) → Bool := fun _ ds => decide (uptoBulkAll ds ≤ 1048576)
def OpenSpec.upto (s : _root_.Go.ChangeSpec) : _root_.Go.OpenSpec := { _root_.Go.OpenSpec.ofChange s with cond := some uptoSmall }

/-- 'croftlaw1.BitsKnown', WHERE WHAT IT READS IS OF BULK AT MOST 1048576: true; the input reads as it did. -/
def bitsKnownUptoRow : OpenClaim := { program := "ytahdjaocfejjeaa", sum := "5b855310223521c1e5e73d0c6e29b33061a3521014a470c8edfa11dbba07aca1", func := "croft/croftlaw1.BitsKnown", spec := "bitsKnown", apart := false, narrowed := true }
def BitsKnownUptoSaid : Prop := bitsKnownUptoRow.holds Try.pinned (OpenSpec.upto bitsKnownSpec)

/-- 'croftlaw1.BitsPowers', WHERE WHAT IT READS IS OF BULK AT MOST 1048576: true; the input reads as it did. -/
def bitsPowersUptoRow : OpenClaim := { program := "ytahdjaocfejjeaa", sum := "5b855310223521c1e5e73d0c6e29b33061a3521014a470c8edfa11dbba07aca1", func := "croft/croftlaw1.BitsPowers", spec := "bitsPowers", apart := false, narrowed := true }
def BitsPowersUptoSaid : Prop := bitsPowersUptoRow.holds Try.pinned (OpenSpec.upto bitsPowersSpec)

/-- 'croftlaw1.BitsMultiples', WHERE WHAT IT READS IS OF BULK AT MOST 1048576: true; the input reads as it did. -/
def bitsMultiplesUptoRow : OpenClaim := { program := "ytahdjaocfejjeaa", sum := "5b855310223521c1e5e73d0c6e29b33061a3521014a470c8edfa11dbba07aca1", func := "croft/croftlaw1.BitsMultiples", spec := "bitsMultiples", apart := false, narrowed := true }
def BitsMultiplesUptoSaid : Prop := bitsMultiplesUptoRow.holds Try.pinned (OpenSpec.upto bitsMultiplesSpec)

/-- 'croftlaw1.BitsPlays', WHERE WHAT IT READS IS OF BULK AT MOST 1048576: true; the input reads as it did. -/
def bitsPlaysUptoRow : OpenClaim := { program := "ytahdjaocfejjeaa", sum := "5b855310223521c1e5e73d0c6e29b33061a3521014a470c8edfa11dbba07aca1", func := "croft/croftlaw1.BitsPlays", spec := "bitsPlays", apart := false, narrowed := true }
def BitsPlaysUptoSaid : Prop := bitsPlaysUptoRow.holds Try.pinned (OpenSpec.upto bitsPlaysSpec)

/-- 'croftlaw1.BitsOfs', WHERE WHAT IT READS IS OF BULK AT MOST 1048576: true; the input reads as it did. -/
def bitsOfsUptoRow : OpenClaim := { program := "ytahdjaocfejjeaa", sum := "5b855310223521c1e5e73d0c6e29b33061a3521014a470c8edfa11dbba07aca1", func := "croft/croftlaw1.BitsOfs", spec := "bitsOfs", apart := false, narrowed := true }
def BitsOfsUptoSaid : Prop := bitsOfsUptoRow.holds Try.pinned (OpenSpec.upto bitsOfsSpec)

/-- 'croftlaw1.BitsKept', WHERE WHAT IT READS IS OF BULK AT MOST 1048576: true; the input reads as it did. -/
def bitsKeptUptoRow : OpenClaim := { program := "ytahdjaocfejjeaa", sum := "5b855310223521c1e5e73d0c6e29b33061a3521014a470c8edfa11dbba07aca1", func := "croft/croftlaw1.BitsKept", spec := "bitsKept", apart := false, narrowed := true }
def BitsKeptUptoSaid : Prop := bitsKeptUptoRow.holds Try.pinned (OpenSpec.upto bitsKeptSpec)

end Rows
end Go.Proofs.Ytahdjaocfejjeaa
