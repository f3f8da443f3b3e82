/-
  No cell of these rows narrows 'for every input' (looked for: loops, veiled, ifaces, maps, wideKeys, modest, calm, conditions, laid).
  DERIVED. THE GIVEN ROWS OF THIS SEAT. 4 by the template 'for every input the law returns true; each argument reads behind the call as it read before'; 0 by the template 'total and deterministic' (their statements: YtibljocjdlgfbabTotals.lean).
  GIVEN WITH THE SEED: the statements are not yours to turn. If you find one false, say at which input.
  Laid BY PROGRAM, IN A SANDBOX (cutbox-rows.mjs): the forced cells as the released guide's own fill.sh prints them over the translation 0393e4ec2baed5e6… (all of the seat's roots in one cut). By AI agents, Wed Nov 11 2026. No macro, syntax, notation, axiom, sorry.
-/
import Derived.Test.YtibljocjdlgfbabChecked
import GoSem.Claim
import GoSem.ClaimJoined
import GoSem.ClaimMapViews
import Derived.JoinedTies
import Derived.KernelRfl
namespace Go.Proofs.Ytibljocjdlgfbab
/- THE CELL 'sum', in the pinned program and in every row, IS THE sha256 OF THE DUMP (.gsa) THAT YtibljocjdlgfbabProg.lean LOADS. Nothing in Lean hashes anything: it is a label: what it is worth is what the hold of that sum in a sandbox is worth. -/
noncomputable def Try.pinned : Pinned := { name := "ytibljocjdlgfbab", sum := "0393e4ec2baed5e6ee11721d6706ccb3987913713d2d0572381d8b1177d8f261", checked := Try.checked }
namespace Rows
def none {H : Type} : Left H := { results := [], args := [] }

/-- 'croftlaw11.OracleTurns': WHATEVER THE INPUT: true; the input reads as it did. -/
def oracleTurnsSpec : ChangeSpec := { name := "oracleTurns", fn := fun _ => fun
  | [d1, d2] => { results := [.lit (.bool true)], args := [d1, d2] }
  | _ => none }
def oracleTurnsRow : OpenClaim := { program := "ytibljocjdlgfbab", sum := "0393e4ec2baed5e6ee11721d6706ccb3987913713d2d0572381d8b1177d8f261", func := "croft/croftlaw11.OracleTurns", spec := "oracleTurns", apart := false }
def OracleTurnsSaid : Prop := oracleTurnsRow.holds Try.pinned (OpenSpec.ofChange oracleTurnsSpec)

/-- ITS FALSE NEIGHBOUR: 'it returns false'. Refute it at one input. -/
def oracleTurnsWrong : ChangeSpec := { name := "oracleTurns", fn := fun _ => fun
  | [d1, d2] => { results := [.lit (.bool false)], args := [d1, d2] }
  | _ => none }
def OracleTurnsWrongFalsely : Prop := oracleTurnsRow.holds Try.pinned (OpenSpec.ofChange oracleTurnsWrong)

/-- 'croftlaw11.OracleRises': WHATEVER THE INPUT: true; the input reads as it did. -/
def oracleRisesSpec : ChangeSpec := { name := "oracleRises", fn := fun _ => fun
  | [d1, d2] => { results := [.lit (.bool true)], args := [d1, d2] }
  | _ => none }
def oracleRisesRow : OpenClaim := { program := "ytibljocjdlgfbab", sum := "0393e4ec2baed5e6ee11721d6706ccb3987913713d2d0572381d8b1177d8f261", func := "croft/croftlaw11.OracleRises", spec := "oracleRises", apart := false }
def OracleRisesSaid : Prop := oracleRisesRow.holds Try.pinned (OpenSpec.ofChange oracleRisesSpec)

/-- ITS FALSE NEIGHBOUR: 'it returns false'. Refute it at one input. -/
def oracleRisesWrong : ChangeSpec := { name := "oracleRises", fn := fun _ => fun
  | [d1, d2] => { results := [.lit (.bool false)], args := [d1, d2] }
  | _ => none }
def OracleRisesWrongFalsely : Prop := oracleRisesRow.holds Try.pinned (OpenSpec.ofChange oracleRisesWrong)

/-- 'croftlaw11.OraclePages': WHATEVER THE INPUT: true; the input reads as it did. -/
def oraclePagesSpec : ChangeSpec := { name := "oraclePages", fn := fun _ => fun
  | [d1, d2] => { results := [.lit (.bool true)], args := [d1, d2] }
  | _ => none }
def oraclePagesRow : OpenClaim := { program := "ytibljocjdlgfbab", sum := "0393e4ec2baed5e6ee11721d6706ccb3987913713d2d0572381d8b1177d8f261", func := "croft/croftlaw11.OraclePages", spec := "oraclePages", apart := false }
def OraclePagesSaid : Prop := oraclePagesRow.holds Try.pinned (OpenSpec.ofChange oraclePagesSpec)

/-- ITS FALSE NEIGHBOUR: 'it returns false'. Refute it at one input. -/
def oraclePagesWrong : ChangeSpec := { name := "oraclePages", fn := fun _ => fun
  | [d1, d2] => { results := [.lit (.bool false)], args := [d1, d2] }
  | _ => none }
def OraclePagesWrongFalsely : Prop := oraclePagesRow.holds Try.pinned (OpenSpec.ofChange oraclePagesWrong)

/-- 'croftlaw11.OracleAgain': WHATEVER THE INPUT: true; the input reads as it did. -/
def oracleAgainSpec : ChangeSpec := { name := "oracleAgain", fn := fun _ => fun
  | [d1, d2] => { results := [.lit (.bool true)], args := [d1, d2] }
  | _ => none }
def oracleAgainRow : OpenClaim := { program := "ytibljocjdlgfbab", sum := "0393e4ec2baed5e6ee11721d6706ccb3987913713d2d0572381d8b1177d8f261", func := "croft/croftlaw11.OracleAgain", spec := "oracleAgain", apart := false }
def OracleAgainSaid : Prop := oracleAgainRow.holds Try.pinned (OpenSpec.ofChange oracleAgainSpec)

/-- ITS FALSE NEIGHBOUR: 'it returns false'. Refute it at one input. -/
def oracleAgainWrong : ChangeSpec := { name := "oracleAgain", fn := fun _ => fun
  | [d1, d2] => { results := [.lit (.bool false)], args := [d1, d2] }
  | _ => none }
def OracleAgainWrongFalsely : Prop := oracleAgainRow.holds Try.pinned (OpenSpec.ofChange oracleAgainWrong)

/- THE SECOND FORM. 'bulk': how many values and letters a reading holds, each counted each time it is reached (what is shared counts as often as it is met; a slice's spare places count too). A statement '..UptoSaid' is the law's where the arguments, and the package variables that the reading takes, are together of bulk at most 1048576: NARROWER than '..Said'. Prove '..Said' where nothing that the law and all that it calls make is longer than what came in: it says more and counts as full. Else prove '..UptoSaid'. A law counts once. -/
mutual
def uptoBulk {H : Type} : DataW H → Nat
  | .lit (.string bytes) => bytes.length + 1
  | .lit _ => 1
  | .nil => 1
  | .ptr d => uptoBulk d + 1
  | .slice elems spare => uptoBulkAll elems + uptoBulkAll spare + 1
  | .agg parts => uptoBulkAll parts + 1
  | .iface _ d => uptoBulk d + 1
  | .map entries => uptoBulkEntries entries + 1
  | .held _ => 1
def uptoBulkAll {H : Type} : List (DataW H) → Nat
  | [] => 0
  | d :: r => uptoBulk d + uptoBulkAll r
def uptoBulkEntries {H : Type} : List (Lit × DataW H) → Nat
  | [] => 0
  | x :: r => uptoBulkEntry x + uptoBulkEntries r
def uptoBulkEntry {H : Type} : Lit × DataW H → Nat
  | (.string bytes, d) => bytes.length + uptoBulk d + 1
  | (_, d) => uptoBulk d + 1
 end
def uptoSmall : (H : Type) → List (DataW H) → Bool := fun _ ds => decide (uptoBulkAll ds ≤ 1048576)
def OpenSpec.upto (s : _root_.Go.ChangeSpec) : _root_.Go.OpenSpec := { _root_.Go.OpenSpec.ofChange s with cond := some uptoSmall }

/-- 'croftlaw11.OracleTurns', WHERE WHAT IT READS IS OF BULK AT MOST 1048576: true; the input reads as it did. -/
def oracleTurnsUptoRow : OpenClaim := { program := "ytibljocjdlgfbab", sum := "0393e4ec2baed5e6ee11721d6706ccb3987913713d2d0572381d8b1177d8f261", func := "croft/croftlaw11.OracleTurns", spec := "oracleTurns", apart := false, narrowed := true }
def OracleTurnsUptoSaid : Prop := oracleTurnsUptoRow.holds Try.pinned (OpenSpec.upto oracleTurnsSpec)

/-- 'croftlaw11.OracleRises', WHERE WHAT IT READS IS OF BULK AT MOST 1048576: true; the input reads as it did. -/
def oracleRisesUptoRow : OpenClaim := { program := "ytibljocjdlgfbab", sum := "0393e4ec2baed5e6ee11721d6706ccb3987913713d2d0572381d8b1177d8f261", func := "croft/croftlaw11.OracleRises", spec := "oracleRises", apart := false, narrowed := true }
def OracleRisesUptoSaid : Prop := oracleRisesUptoRow.holds Try.pinned (OpenSpec.upto oracleRisesSpec)

/-- 'croftlaw11.OraclePages', WHERE WHAT IT READS IS OF BULK AT MOST 1048576: true; the input reads as it did. -/
def oraclePagesUptoRow : OpenClaim := { program := "ytibljocjdlgfbab", sum := "0393e4ec2baed5e6ee11721d6706ccb3987913713d2d0572381d8b1177d8f261", func := "croft/croftlaw11.OraclePages", spec := "oraclePages", apart := false, narrowed := true }
def OraclePagesUptoSaid : Prop := oraclePagesUptoRow.holds Try.pinned (OpenSpec.upto oraclePagesSpec)

/-- 'croftlaw11.OracleAgain', WHERE WHAT IT READS IS OF BULK AT MOST 1048576: true; the input reads as it did. -/
def oracleAgainUptoRow : OpenClaim := { program := "ytibljocjdlgfbab", sum := "0393e4ec2baed5e6ee11721d6706ccb3987913713d2d0572381d8b1177d8f261", func := "croft/croftlaw11.OracleAgain", spec := "oracleAgain", apart := false, narrowed := true }
def OracleAgainUptoSaid : Prop := oracleAgainUptoRow.holds Try.pinned (OpenSpec.upto oracleAgainSpec)

end Rows
end Go.Proofs.Ytibljocjdlgfbab
