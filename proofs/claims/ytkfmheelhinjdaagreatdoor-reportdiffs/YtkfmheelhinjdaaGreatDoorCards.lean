/-
  DERIVED. GIVEN WITH THE SEED: THE CARDS: each row of YtkfmheelhinjdaaGreatDoorRows.lean that lists a variable, with what it lists TIED to the program's text (the seventh form; the later family's looks); each row that meets fmt, with fmt's text TOLD by the authors' own Lean function (tested against real Go, not proved from fmt's source: count such statements apart). THE CARD IS WHAT COUNTS. Prove the row's statement (the work); the ties are given (YtkfmheelhinjdaaGreatDoorTie.lean); close each card by the builder's one call (the guide's Derived/Test/ToyasCard.lean, 'card_holds'). Laid BY PROGRAM, IN A SANDBOX (cutbox-door.mjs). By AI agents, Wed Nov 11 2026. No macro, syntax, notation, axiom, sorry.
-/
import Derived.Test.YtkfmheelhinjdaaGreatDoorRows
import GoSem.ClaimSeven
namespace Go.Proofs.YtkfmheelhinjdaaGreatDoor
namespace Rows

/-- THE TIED CARD OF 'croftlaw20.ReportKnown'. -/
def reportKnownCard : Claim7 := { stood := { row := reportKnownRow, standIns := [], harness := (true, "570b05a6409e76a93cdc418b2039edbe8e9071d8a2de194fb84c69c913d609b4"), looks := true }, kinds := [], alts := [], laidByText := true, laidKinds := [.data, .data, .data, .data], laidTests := true, laidLooks := .later }
def ReportKnownCardSaid : Prop := Claim7.holds Tryz.pinned (.plain (OpenSpec.ofChange reportKnownSpec)) reportKnownCard

/-- THE TIED CARD OF 'croftlaw20.ReportSizes'. -/
def reportSizesCard : Claim7 := { stood := { row := reportSizesRow, standIns := [], harness := (true, "570b05a6409e76a93cdc418b2039edbe8e9071d8a2de194fb84c69c913d609b4"), looks := true }, kinds := [], alts := [], laidByText := true, laidKinds := [.data, .data, .data, .data], laidTests := true, laidLooks := .later }
def ReportSizesCardSaid : Prop := Claim7.holds Tryz.pinned (.plain (OpenSpec.ofChange reportSizesSpec)) reportSizesCard

/-- THE TIED CARD OF 'croftlaw20.ReportPages'. -/
def reportPagesCard : Claim7 := { stood := { row := reportPagesRow, standIns := [], harness := (true, "570b05a6409e76a93cdc418b2039edbe8e9071d8a2de194fb84c69c913d609b4"), looks := true }, kinds := [], alts := [], laidByText := true, laidKinds := [.data, .data, .data, .data], laidTests := true, laidLooks := .later }
def ReportPagesCardSaid : Prop := Claim7.holds Tryz.pinned (.plain (OpenSpec.ofChange reportPagesSpec)) reportPagesCard

/-- THE TIED CARD OF 'croftlaw20.ReportFrees'. -/
def reportFreesCard : Claim7 := { stood := { row := reportFreesRow, standIns := [], harness := (true, "570b05a6409e76a93cdc418b2039edbe8e9071d8a2de194fb84c69c913d609b4"), looks := true }, kinds := [], alts := [], laidByText := true, laidKinds := [.data, .data, .data, .data], laidTests := true, laidLooks := .later }
def ReportFreesCardSaid : Prop := Claim7.holds Tryz.pinned (.plain (OpenSpec.ofChange reportFreesSpec)) reportFreesCard

/-- THE TIED CARD OF 'croftlaw20.ReportWastes'. -/
def reportWastesCard : Claim7 := { stood := { row := reportWastesRow, standIns := [], harness := (true, "570b05a6409e76a93cdc418b2039edbe8e9071d8a2de194fb84c69c913d609b4"), looks := true }, kinds := [], alts := [], laidByText := true, laidKinds := [.data, .data, .data, .data], laidTests := true, laidLooks := .later }
def ReportWastesCardSaid : Prop := Claim7.holds Tryz.pinned (.plain (OpenSpec.ofChange reportWastesSpec)) reportWastesCard

/-- THE TIED CARD OF 'croftlaw20.ReportDiffs'. -/
def reportDiffsCard : Claim7 := { stood := { row := reportDiffsRow, standIns := [], harness := (true, "570b05a6409e76a93cdc418b2039edbe8e9071d8a2de194fb84c69c913d609b4"), looks := true }, kinds := [], alts := [], laidByText := true, laidKinds := [.data, .data, .data, .data], laidTests := true, laidLooks := .later }
def ReportDiffsCardSaid : Prop := Claim7.holds Tryz.pinned (.plain (OpenSpec.ofChange reportDiffsSpec)) reportDiffsCard

/-- THE TIED CARD OF 'croftlaw20.ReportAgrees'. -/
def reportAgreesCard : Claim7 := { stood := { row := reportAgreesRow, standIns := [], harness := (true, "570b05a6409e76a93cdc418b2039edbe8e9071d8a2de194fb84c69c913d609b4"), looks := true }, kinds := [], alts := [], laidByText := true, laidKinds := [.data, .data, .data, .data], laidTests := true, laidLooks := .later }
def ReportAgreesCardSaid : Prop := Claim7.holds Tryz.pinned (.plain (OpenSpec.ofChange reportAgreesSpec)) reportAgreesCard

/-- THE SECOND FORM's CARD OF 'croftlaw20.ReportKnown'. -/
def reportKnownUptoCard : Claim7 := { stood := { row := reportKnownUptoRow, standIns := [], harness := (true, "570b05a6409e76a93cdc418b2039edbe8e9071d8a2de194fb84c69c913d609b4"), looks := true }, kinds := [], alts := [], laidByText := true, laidKinds := [.data, .data, .data, .data], laidTests := true, laidLooks := .later }
def ReportKnownUptoCardSaid : Prop := Claim7.holds Tryz.pinned (.plain (OpenSpec.upto reportKnownSpec)) reportKnownUptoCard

/-- THE SECOND FORM's CARD OF 'croftlaw20.ReportSizes'. -/
def reportSizesUptoCard : Claim7 := { stood := { row := reportSizesUptoRow, standIns := [], harness := (true, "570b05a6409e76a93cdc418b2039edbe8e9071d8a2de194fb84c69c913d609b4"), looks := true }, kinds := [], alts := [], laidByText := true, laidKinds := [.data, .data, .data, .data], laidTests := true, laidLooks := .later }
def ReportSizesUptoCardSaid : Prop := Claim7.holds Tryz.pinned (.plain (OpenSpec.upto reportSizesSpec)) reportSizesUptoCard

/-- THE SECOND FORM's CARD OF 'croftlaw20.ReportPages'. -/
def reportPagesUptoCard : Claim7 := { stood := { row := reportPagesUptoRow, standIns := [], harness := (true, "570b05a6409e76a93cdc418b2039edbe8e9071d8a2de194fb84c69c913d609b4"), looks := true }, kinds := [], alts := [], laidByText := true, laidKinds := [.data, .data, .data, .data], laidTests := true, laidLooks := .later }
def ReportPagesUptoCardSaid : Prop := Claim7.holds Tryz.pinned (.plain (OpenSpec.upto reportPagesSpec)) reportPagesUptoCard

/-- THE SECOND FORM's CARD OF 'croftlaw20.ReportFrees'. -/
def reportFreesUptoCard : Claim7 := { stood := { row := reportFreesUptoRow, standIns := [], harness := (true, "570b05a6409e76a93cdc418b2039edbe8e9071d8a2de194fb84c69c913d609b4"), looks := true }, kinds := [], alts := [], laidByText := true, laidKinds := [.data, .data, .data, .data], laidTests := true, laidLooks := .later }
def ReportFreesUptoCardSaid : Prop := Claim7.holds Tryz.pinned (.plain (OpenSpec.upto reportFreesSpec)) reportFreesUptoCard

/-- THE SECOND FORM's CARD OF 'croftlaw20.ReportWastes'. -/
def reportWastesUptoCard : Claim7 := { stood := { row := reportWastesUptoRow, standIns := [], harness := (true, "570b05a6409e76a93cdc418b2039edbe8e9071d8a2de194fb84c69c913d609b4"), looks := true }, kinds := [], alts := [], laidByText := true, laidKinds := [.data, .data, .data, .data], laidTests := true, laidLooks := .later }
def ReportWastesUptoCardSaid : Prop := Claim7.holds Tryz.pinned (.plain (OpenSpec.upto reportWastesSpec)) reportWastesUptoCard

/-- THE SECOND FORM's CARD OF 'croftlaw20.ReportDiffs'. -/
def reportDiffsUptoCard : Claim7 := { stood := { row := reportDiffsUptoRow, standIns := [], harness := (true, "570b05a6409e76a93cdc418b2039edbe8e9071d8a2de194fb84c69c913d609b4"), looks := true }, kinds := [], alts := [], laidByText := true, laidKinds := [.data, .data, .data, .data], laidTests := true, laidLooks := .later }
def ReportDiffsUptoCardSaid : Prop := Claim7.holds Tryz.pinned (.plain (OpenSpec.upto reportDiffsSpec)) reportDiffsUptoCard

/-- THE SECOND FORM's CARD OF 'croftlaw20.ReportAgrees'. -/
def reportAgreesUptoCard : Claim7 := { stood := { row := reportAgreesUptoRow, standIns := [], harness := (true, "570b05a6409e76a93cdc418b2039edbe8e9071d8a2de194fb84c69c913d609b4"), looks := true }, kinds := [], alts := [], laidByText := true, laidKinds := [.data, .data, .data, .data], laidTests := true, laidLooks := .later }
def ReportAgreesUptoCardSaid : Prop := Claim7.holds Tryz.pinned (.plain (OpenSpec.upto reportAgreesSpec)) reportAgreesUptoCard
end Rows
end Go.Proofs.YtkfmheelhinjdaaGreatDoor
