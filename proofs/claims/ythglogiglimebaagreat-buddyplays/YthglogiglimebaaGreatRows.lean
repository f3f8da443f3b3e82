/-
  No cell of these rows narrows 'for every input' (looked for: loops, veiled, ifaces, maps, wideKeys, modest, calm, conditions, laid).
  DERIVED. THE GIVEN ROWS OF THIS SEAT. 3 by the template 'for every input the law returns true; each argument reads behind the call as it read before'; 0 by the template 'total and deterministic' (their statements: YthglogiglimebaaGreatTotals.lean).
  GIVEN WITH THE SEED: the statements are not yours to turn. If you find one false, say at which input.
  Laid BY PROGRAM, IN A SANDBOX (cutbox-rows.mjs): the forced cells as the released guide's own fill.sh prints them over the translation 2eb14299687dc6de… (all of the seat's roots in one cut). By AI agents, Wed Nov 11 2026. No macro, syntax, notation, axiom, sorry.
-/
import Derived.Test.YthglogiglimebaaGreatChecked
import GoSem.Claim
import GoSem.ClaimJoined
import GoSem.ClaimMapViews
import Derived.JoinedTies
import Derived.KernelRfl
namespace Go.Proofs.YthglogiglimebaaGreat
/- THE CELL 'sum', in the pinned program and in every row, IS THE sha256 OF THE DUMP (.gsa) THAT YthglogiglimebaaGreatProg.lean LOADS. Nothing in Lean hashes anything: it is a label: what it is worth is what the hold of that sum in a sandbox is worth. -/
noncomputable def Tryz.pinned : Pinned := { name := "ythglogiglimebaagreat", sum := "2eb14299687dc6de020a27b91e61983e6a1042fb48b29130f77ffcd564aed95b", checked := Tryz.checked }
namespace Rows
def none {H : Type} : Left H := { results := [], args := [] }

/-- 'croftlaw5.BuddyPlays': WHATEVER THE INPUT: true; the input reads as it did. -/
def buddyPlaysSpec : ChangeSpec := { name := "buddyPlays", fn := fun _ => fun
  | [d1, d2] => { results := [.lit (.bool true)], args := [d1, d2] }
  | _ => none }
def buddyPlaysRow : OpenClaim := { program := "ythglogiglimebaagreat", sum := "2eb14299687dc6de020a27b91e61983e6a1042fb48b29130f77ffcd564aed95b", func := "croft/croftlaw5.BuddyPlays", spec := "buddyPlays", unfollowed := true, recurses := true, apart := false }
def BuddyPlaysSaid : Prop := buddyPlaysRow.holds Tryz.pinned (OpenSpec.ofChange buddyPlaysSpec)

/-- ITS FALSE NEIGHBOUR: 'it returns false'. Refute it at one input. -/
def buddyPlaysWrong : ChangeSpec := { name := "buddyPlays", fn := fun _ => fun
  | [d1, d2] => { results := [.lit (.bool false)], args := [d1, d2] }
  | _ => none }
def BuddyPlaysWrongFalsely : Prop := buddyPlaysRow.holds Tryz.pinned (OpenSpec.ofChange buddyPlaysWrong)

/-- 'croftlaw5.BuddyTiles': WHATEVER THE INPUT: true; the input reads as it did. -/
def buddyTilesSpec : ChangeSpec := { name := "buddyTiles", fn := fun _ => fun
  | [d1, d2] => { results := [.lit (.bool true)], args := [d1, d2] }
  | _ => none }
def buddyTilesRow : OpenClaim := { program := "ythglogiglimebaagreat", sum := "2eb14299687dc6de020a27b91e61983e6a1042fb48b29130f77ffcd564aed95b", func := "croft/croftlaw5.BuddyTiles", spec := "buddyTiles", unfollowed := true, recurses := true, apart := false }
def BuddyTilesSaid : Prop := buddyTilesRow.holds Tryz.pinned (OpenSpec.ofChange buddyTilesSpec)

/-- ITS FALSE NEIGHBOUR: 'it returns false'. Refute it at one input. -/
def buddyTilesWrong : ChangeSpec := { name := "buddyTiles", fn := fun _ => fun
  | [d1, d2] => { results := [.lit (.bool false)], args := [d1, d2] }
  | _ => none }
def BuddyTilesWrongFalsely : Prop := buddyTilesRow.holds Tryz.pinned (OpenSpec.ofChange buddyTilesWrong)

/-- 'croftlaw5.BuddyKeeps': WHATEVER THE INPUT: true; the input reads as it did. -/
def buddyKeepsSpec : ChangeSpec := { name := "buddyKeeps", fn := fun _ => fun
  | [d1, d2] => { results := [.lit (.bool true)], args := [d1, d2] }
  | _ => none }
def buddyKeepsRow : OpenClaim := { program := "ythglogiglimebaagreat", sum := "2eb14299687dc6de020a27b91e61983e6a1042fb48b29130f77ffcd564aed95b", func := "croft/croftlaw5.BuddyKeeps", spec := "buddyKeeps", unfollowed := true, recurses := true, apart := false }
def BuddyKeepsSaid : Prop := buddyKeepsRow.holds Tryz.pinned (OpenSpec.ofChange buddyKeepsSpec)

/-- ITS FALSE NEIGHBOUR: 'it returns false'. Refute it at one input. -/
def buddyKeepsWrong : ChangeSpec := { name := "buddyKeeps", fn := fun _ => fun
  | [d1, d2] => { results := [.lit (.bool false)], args := [d1, d2] }
  | _ => none }
def BuddyKeepsWrongFalsely : Prop := buddyKeepsRow.holds Tryz.pinned (OpenSpec.ofChange buddyKeepsWrong)

/- THE SECOND FORM. 'bulk': how many values and letters a reading holds, each counted each time it is reached (what is shared counts as often as it is met; a slice's spare places count too). A statement '..UptoSaid' is the law's where the arguments, and the package variables that the reading takes, are together of bulk at most 1048576: NARROWER than '..Said'. Prove '..Said' where nothing that the law and all that it calls make is longer than what came in: it says more and counts as full. Else prove '..UptoSaid'. A law counts once. -/
mutual
def uptoBulk {H : Type} : DataW H → Nat
  | .lit (.string bytes) => bytes.length + 1
  | .lit _ => 1
  | .nil => 1
  | .ptr d => uptoBulk d + 1
  | .slice elems spare => uptoBulkAll elems + uptoBulkAll spare + 1
  | .agg parts => uptoBulkAll parts + 1
  | .iface _ d => uptoBulk d + 1
  | .map entries => uptoBulkEntries entries + 1
  | .held _ => 1
def uptoBulkAll {H : Type} : List (DataW H) → Nat
  | [] => 0
  | d :: r => uptoBulk d + uptoBulkAll r
def uptoBulkEntries {H : Type} : List (Lit × DataW H) → Nat
  | [] => 0
  | x :: r => uptoBulkEntry x + uptoBulkEntries r
def uptoBulkEntry {H : Type} : Lit × DataW H → Nat
  | (.string bytes, d) => bytes.length + uptoBulk d + 1
  | (_, d) => uptoBulk d + 1
 end
def uptoSmall : (H : Type) → List (DataW H) → Bool := fun _ ds => decide (uptoBulkAll ds ≤ 1048576)
def OpenSpec.upto (s : _root_.Go.ChangeSpec) : _root_.Go.OpenSpec := { _root_.Go.OpenSpec.ofChange s with cond := some uptoSmall }

/-- 'croftlaw5.BuddyPlays', WHERE WHAT IT READS IS OF BULK AT MOST 1048576: true; the input reads as it did. -/
def buddyPlaysUptoRow : OpenClaim := { program := "ythglogiglimebaagreat", sum := "2eb14299687dc6de020a27b91e61983e6a1042fb48b29130f77ffcd564aed95b", func := "croft/croftlaw5.BuddyPlays", spec := "buddyPlays", unfollowed := true, recurses := true, apart := false, narrowed := true }
def BuddyPlaysUptoSaid : Prop := buddyPlaysUptoRow.holds Tryz.pinned (OpenSpec.upto buddyPlaysSpec)

/-- 'croftlaw5.BuddyTiles', WHERE WHAT IT READS IS OF BULK AT MOST 1048576: true; the input reads as it did. -/
def buddyTilesUptoRow : OpenClaim := { program := "ythglogiglimebaagreat", sum := "2eb14299687dc6de020a27b91e61983e6a1042fb48b29130f77ffcd564aed95b", func := "croft/croftlaw5.BuddyTiles", spec := "buddyTiles", unfollowed := true, recurses := true, apart := false, narrowed := true }
def BuddyTilesUptoSaid : Prop := buddyTilesUptoRow.holds Tryz.pinned (OpenSpec.upto buddyTilesSpec)

/-- 'croftlaw5.BuddyKeeps', WHERE WHAT IT READS IS OF BULK AT MOST 1048576: true; the input reads as it did. -/
def buddyKeepsUptoRow : OpenClaim := { program := "ythglogiglimebaagreat", sum := "2eb14299687dc6de020a27b91e61983e6a1042fb48b29130f77ffcd564aed95b", func := "croft/croftlaw5.BuddyKeeps", spec := "buddyKeeps", unfollowed := true, recurses := true, apart := false, narrowed := true }
def BuddyKeepsUptoSaid : Prop := buddyKeepsUptoRow.holds Tryz.pinned (OpenSpec.upto buddyKeepsSpec)

end Rows
end Go.Proofs.YthglogiglimebaaGreat
