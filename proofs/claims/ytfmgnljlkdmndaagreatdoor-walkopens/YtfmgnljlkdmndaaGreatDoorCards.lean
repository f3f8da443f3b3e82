/-
  DERIVED. GIVEN WITH THE SEED: THE CARDS: each row of YtfmgnljlkdmndaaGreatDoorRows.lean that lists a variable, with what it lists TIED to the program's text (the seventh form; the later family's looks); each row that meets fmt, with fmt's text TOLD by the authors' own Lean function (tested against real Go, not proved from fmt's source: count such statements apart). THE CARD IS WHAT COUNTS. Prove the row's statement (the work); the ties are given (YtfmgnljlkdmndaaGreatDoorTie.lean); close each card by the builder's one call (the guide's Derived/Test/ToyasCard.lean, 'card_holds'). Laid BY PROGRAM, IN A SANDBOX (cutbox-door.mjs). By AI agents, Wed Nov 11 2026. No macro, syntax, notation, axiom, sorry.
-/
import Derived.Test.YtfmgnljlkdmndaaGreatDoorRows
import GoSem.ClaimSeven
namespace Go.Proofs.YtfmgnljlkdmndaaGreatDoor
namespace Rows

/-- THE TIED CARD OF 'croftlaw9.WalkTrue'. -/
def walkTrueCard : Claim7 := { stood := { row := walkTrueRow, standIns := [], harness := (true, "1cc982508ecc715c8a692e1a8bdbddd954ee99fc9371718e707401956abadeea"), looks := true }, kinds := [], alts := [], laidByText := true, laidKinds := [.data], laidTests := true, laidLooks := .later }
def WalkTrueCardSaid : Prop := Claim7.holds Tryz.pinned (.plain (OpenSpec.ofChange walkTrueSpec)) walkTrueCard

/-- THE TIED CARD OF 'croftlaw9.WalkOpens'. -/
def walkOpensCard : Claim7 := { stood := { row := walkOpensRow, standIns := [], harness := (true, "1cc982508ecc715c8a692e1a8bdbddd954ee99fc9371718e707401956abadeea"), looks := true }, kinds := [], alts := [], laidByText := true, laidKinds := [.data], laidTests := true, laidLooks := .later }
def WalkOpensCardSaid : Prop := Claim7.holds Tryz.pinned (.plain (OpenSpec.ofChange walkOpensSpec)) walkOpensCard

/-- THE SECOND FORM's CARD OF 'croftlaw9.WalkTrue'. -/
def walkTrueUptoCard : Claim7 := { stood := { row := walkTrueUptoRow, standIns := [], harness := (true, "1cc982508ecc715c8a692e1a8bdbddd954ee99fc9371718e707401956abadeea"), looks := true }, kinds := [], alts := [], laidByText := true, laidKinds := [.data], laidTests := true, laidLooks := .later }
def WalkTrueUptoCardSaid : Prop := Claim7.holds Tryz.pinned (.plain (OpenSpec.upto walkTrueSpec)) walkTrueUptoCard

/-- THE SECOND FORM's CARD OF 'croftlaw9.WalkOpens'. -/
def walkOpensUptoCard : Claim7 := { stood := { row := walkOpensUptoRow, standIns := [], harness := (true, "1cc982508ecc715c8a692e1a8bdbddd954ee99fc9371718e707401956abadeea"), looks := true }, kinds := [], alts := [], laidByText := true, laidKinds := [.data], laidTests := true, laidLooks := .later }
def WalkOpensUptoCardSaid : Prop := Claim7.holds Tryz.pinned (.plain (OpenSpec.upto walkOpensSpec)) walkOpensUptoCard
end Rows
end Go.Proofs.YtfmgnljlkdmndaaGreatDoor
