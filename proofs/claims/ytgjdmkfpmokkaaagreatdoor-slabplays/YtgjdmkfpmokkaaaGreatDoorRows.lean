/-
  NARROWER THAN 'FOR EVERY INPUT', by the rows' own cells (each row's printed sentence says how): SlabKnown: laid · SlabPlays: laid · SlabExactly: laid · SlabKeeps: laid.
  DERIVED. THE GIVEN ROWS OF THIS SEAT. 4 by the template 'for every input the law returns true; each argument reads behind the call as it read before'; 0 by the template 'total and deterministic' (their statements: YtgjdmkfpmokkaaaGreatDoorTotals.lean).
  GIVEN WITH THE SEED: the statements are not yours to turn. If you find one false, say at which input.
  Laid BY PROGRAM, IN A SANDBOX (cutbox-rows.mjs): the forced cells as the released guide's own fill.sh prints them over the translation 8615d4fe231ab2dd… (all of the seat's roots in one cut). By AI agents, Wed Nov 11 2026. No macro, syntax, notation, axiom, sorry.
-/
import Derived.Test.YtgjdmkfpmokkaaaGreatDoorChecked
import GoSem.Claim
import GoSem.ClaimJoined
import GoSem.ClaimMapViews
import Derived.JoinedTies
import Derived.KernelRfl
namespace Go.Proofs.YtgjdmkfpmokkaaaGreatDoor
/- THE CELL 'sum', in the pinned program and in every row, IS THE sha256 OF THE DUMP (.gsa) THAT YtgjdmkfpmokkaaaGreatDoorProg.lean LOADS. Nothing in Lean hashes anything: it is a label: what it is worth is what the hold of that sum in a sandbox is worth. -/
noncomputable def Tryz.pinned : Pinned := { name := "ytgjdmkfpmokkaaagreatdoor", sum := "8615d4fe231ab2dd825480db2df9c5ade3ba9144b07f65bc576d7a9bdeb49732", checked := Tryz.checked }
namespace Rows
def none {H : Type} : Left H := { results := [], args := [] }

/- WHAT THE LISTED PACKAGE-LEVEL VARIABLES READ AS WHEN THE CALL BEGINS. Each datum BY PROGRAM (the guide's laid-datum.mjs) off the statement by which the dump's own 'gosem.cut.vars' lays the variable. In a bare row this is a premise. The card (YtgjdmkfpmokkaaaGreatDoorCards.lean) ties it to the program's text. -/
def laid_croft_slab_sizes {H : Type} : DataW H := .agg [.lit (.int .u64 16), .lit (.int .u64 32), .lit (.int .u64 64), .lit (.int .u64 128), .lit (.int .u64 256), .lit (.int .u64 512), .lit (.int .u64 1024), .lit (.int .u64 2048)]

/-- 'croftlaw7.SlabKnown': WHATEVER THE INPUT: true; the input reads as it did. -/
def slabKnownSpec : ChangeSpec := { name := "slabKnown", fn := fun _ => fun
  | [] => { results := [.lit (.bool true)], args := [] }
  | _ => none }
def slabKnownRow : OpenClaim := { program := "ytgjdmkfpmokkaaagreatdoor", sum := "8615d4fe231ab2dd825480db2df9c5ade3ba9144b07f65bc576d7a9bdeb49732", func := "croft/croftlaw7.SlabKnown", spec := "slabKnown", unfollowed := true, recurses := true, named := ["croft/slab.sizes"], apart := false, laid := [("croft/slab.sizes", laid_croft_slab_sizes)] }
def SlabKnownSaid : Prop := slabKnownRow.holds Tryz.pinned (OpenSpec.ofChange slabKnownSpec)

/-- ITS FALSE NEIGHBOUR: 'it returns false'. Refute it at one input. -/
def slabKnownWrong : ChangeSpec := { name := "slabKnown", fn := fun _ => fun
  | [] => { results := [.lit (.bool false)], args := [] }
  | _ => none }
def SlabKnownWrongFalsely : Prop := slabKnownRow.holds Tryz.pinned (OpenSpec.ofChange slabKnownWrong)

/-- 'croftlaw7.SlabPlays': WHATEVER THE INPUT: true; the input reads as it did. -/
def slabPlaysSpec : ChangeSpec := { name := "slabPlays", fn := fun _ => fun
  | [d1, d2] => { results := [.lit (.bool true)], args := [d1, d2] }
  | _ => none }
def slabPlaysRow : OpenClaim := { program := "ytgjdmkfpmokkaaagreatdoor", sum := "8615d4fe231ab2dd825480db2df9c5ade3ba9144b07f65bc576d7a9bdeb49732", func := "croft/croftlaw7.SlabPlays", spec := "slabPlays", unfollowed := true, recurses := true, named := ["croft/slab.sizes"], apart := false, laid := [("croft/slab.sizes", laid_croft_slab_sizes)] }
def SlabPlaysSaid : Prop := slabPlaysRow.holds Tryz.pinned (OpenSpec.ofChange slabPlaysSpec)

/-- ITS FALSE NEIGHBOUR: 'it returns false'. Refute it at one input. -/
def slabPlaysWrong : ChangeSpec := { name := "slabPlays", fn := fun _ => fun
  | [d1, d2] => { results := [.lit (.bool false)], args := [d1, d2] }
  | _ => none }
def SlabPlaysWrongFalsely : Prop := slabPlaysRow.holds Tryz.pinned (OpenSpec.ofChange slabPlaysWrong)

/-- 'croftlaw7.SlabExactly': WHATEVER THE INPUT: true; the input reads as it did. -/
def slabExactlySpec : ChangeSpec := { name := "slabExactly", fn := fun _ => fun
  | [d1, d2] => { results := [.lit (.bool true)], args := [d1, d2] }
  | _ => none }
def slabExactlyRow : OpenClaim := { program := "ytgjdmkfpmokkaaagreatdoor", sum := "8615d4fe231ab2dd825480db2df9c5ade3ba9144b07f65bc576d7a9bdeb49732", func := "croft/croftlaw7.SlabExactly", spec := "slabExactly", unfollowed := true, recurses := true, named := ["croft/slab.sizes"], apart := false, laid := [("croft/slab.sizes", laid_croft_slab_sizes)] }
def SlabExactlySaid : Prop := slabExactlyRow.holds Tryz.pinned (OpenSpec.ofChange slabExactlySpec)

/-- ITS FALSE NEIGHBOUR: 'it returns false'. Refute it at one input. -/
def slabExactlyWrong : ChangeSpec := { name := "slabExactly", fn := fun _ => fun
  | [d1, d2] => { results := [.lit (.bool false)], args := [d1, d2] }
  | _ => none }
def SlabExactlyWrongFalsely : Prop := slabExactlyRow.holds Tryz.pinned (OpenSpec.ofChange slabExactlyWrong)

/-- 'croftlaw7.SlabKeeps': WHATEVER THE INPUT: true; the input reads as it did. -/
def slabKeepsSpec : ChangeSpec := { name := "slabKeeps", fn := fun _ => fun
  | [d1, d2] => { results := [.lit (.bool true)], args := [d1, d2] }
  | _ => none }
def slabKeepsRow : OpenClaim := { program := "ytgjdmkfpmokkaaagreatdoor", sum := "8615d4fe231ab2dd825480db2df9c5ade3ba9144b07f65bc576d7a9bdeb49732", func := "croft/croftlaw7.SlabKeeps", spec := "slabKeeps", unfollowed := true, recurses := true, named := ["croft/slab.sizes"], apart := false, laid := [("croft/slab.sizes", laid_croft_slab_sizes)] }
def SlabKeepsSaid : Prop := slabKeepsRow.holds Tryz.pinned (OpenSpec.ofChange slabKeepsSpec)

/-- ITS FALSE NEIGHBOUR: 'it returns false'. Refute it at one input. -/
def slabKeepsWrong : ChangeSpec := { name := "slabKeeps", fn := fun _ => fun
  | [d1, d2] => { results := [.lit (.bool false)], args := [d1, d2] }
  | _ => none }
def SlabKeepsWrongFalsely : Prop := slabKeepsRow.holds Tryz.pinned (OpenSpec.ofChange slabKeepsWrong)

/- THE SECOND FORM. 'bulk': how many values and letters a reading holds, each counted each time it is reached (what is shared counts as often as it is met; a slice's spare places count too). A statement '..UptoSaid' is the law's where the arguments, and the package variables that the reading takes, are together of bulk at most 1048576: NARROWER than '..Said'. Prove '..Said' where nothing that the law and all that it calls make is longer than what came in: it says more and counts as full. Else prove '..UptoSaid'. A law counts once. -/
mutual
def uptoBulk {H : Type} : DataW H → Nat
  | .lit (.string bytes) => bytes.length + 1
  | .lit _ => 1
  | .nil => 1
  | .ptr d => uptoBulk d + 1
  | .slice elems spare => uptoBulkAll elems + uptoBulkAll spare + 1
  | .agg parts => uptoBulkAll parts + 1
  | .iface _ d => uptoBulk d + 1
  | .map entries => uptoBulkEntries entries + 1
  | .held _ => 1
def uptoBulkAll {H : Type} : List (DataW H) → Nat
  | [] => 0
  | d :: r => uptoBulk d + uptoBulkAll r
def uptoBulkEntries {H : Type} : List (Lit × DataW H) → Nat
  | [] => 0
  | x :: r => uptoBulkEntry x + uptoBulkEntries r
def uptoBulkEntry {H : Type} : Lit × DataW H → Nat
  | (.string bytes, d) => bytes.length + uptoBulk d + 1
  | (_, d) => uptoBulk d + 1
 end
def uptoSmall : (H : Type) → List (DataW H) → Bool := fun _ ds => decide (uptoBulkAll ds ≤ 1048576)
def OpenSpec.upto (s : _root_.Go.ChangeSpec) : _root_.Go.OpenSpec := { _root_.Go.OpenSpec.ofChange s with cond := some uptoSmall }

/-- 'croftlaw7.SlabKnown', WHERE WHAT IT READS IS OF BULK AT MOST 1048576: true; the input reads as it did. -/
def slabKnownUptoRow : OpenClaim := { program := "ytgjdmkfpmokkaaagreatdoor", sum := "8615d4fe231ab2dd825480db2df9c5ade3ba9144b07f65bc576d7a9bdeb49732", func := "croft/croftlaw7.SlabKnown", spec := "slabKnown", unfollowed := true, recurses := true, named := ["croft/slab.sizes"], apart := false, laid := [("croft/slab.sizes", laid_croft_slab_sizes)], narrowed := true }
def SlabKnownUptoSaid : Prop := slabKnownUptoRow.holds Tryz.pinned (OpenSpec.upto slabKnownSpec)

/-- 'croftlaw7.SlabPlays', WHERE WHAT IT READS IS OF BULK AT MOST 1048576: true; the input reads as it did. -/
def slabPlaysUptoRow : OpenClaim := { program := "ytgjdmkfpmokkaaagreatdoor", sum := "8615d4fe231ab2dd825480db2df9c5ade3ba9144b07f65bc576d7a9bdeb49732", func := "croft/croftlaw7.SlabPlays", spec := "slabPlays", unfollowed := true, recurses := true, named := ["croft/slab.sizes"], apart := false, laid := [("croft/slab.sizes", laid_croft_slab_sizes)], narrowed := true }
def SlabPlaysUptoSaid : Prop := slabPlaysUptoRow.holds Tryz.pinned (OpenSpec.upto slabPlaysSpec)

/-- 'croftlaw7.SlabExactly', WHERE WHAT IT READS IS OF BULK AT MOST 1048576: true; the input reads as it did. -/
def slabExactlyUptoRow : OpenClaim := { program := "ytgjdmkfpmokkaaagreatdoor", sum := "8615d4fe231ab2dd825480db2df9c5ade3ba9144b07f65bc576d7a9bdeb49732", func := "croft/croftlaw7.SlabExactly", spec := "slabExactly", unfollowed := true, recurses := true, named := ["croft/slab.sizes"], apart := false, laid := [("croft/slab.sizes", laid_croft_slab_sizes)], narrowed := true }
def SlabExactlyUptoSaid : Prop := slabExactlyUptoRow.holds Tryz.pinned (OpenSpec.upto slabExactlySpec)

/-- 'croftlaw7.SlabKeeps', WHERE WHAT IT READS IS OF BULK AT MOST 1048576: true; the input reads as it did. -/
def slabKeepsUptoRow : OpenClaim := { program := "ytgjdmkfpmokkaaagreatdoor", sum := "8615d4fe231ab2dd825480db2df9c5ade3ba9144b07f65bc576d7a9bdeb49732", func := "croft/croftlaw7.SlabKeeps", spec := "slabKeeps", unfollowed := true, recurses := true, named := ["croft/slab.sizes"], apart := false, laid := [("croft/slab.sizes", laid_croft_slab_sizes)], narrowed := true }
def SlabKeepsUptoSaid : Prop := slabKeepsUptoRow.holds Tryz.pinned (OpenSpec.upto slabKeepsSpec)

end Rows
end Go.Proofs.YtgjdmkfpmokkaaaGreatDoor
