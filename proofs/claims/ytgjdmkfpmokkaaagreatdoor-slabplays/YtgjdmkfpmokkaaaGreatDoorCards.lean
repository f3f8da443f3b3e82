/-
  DERIVED. GIVEN WITH THE SEED: THE CARDS: each row of YtgjdmkfpmokkaaaGreatDoorRows.lean that lists a variable, with what it lists TIED to the program's text (the seventh form; the later family's looks); each row that meets fmt, with fmt's text TOLD by the authors' own Lean function (tested against real Go, not proved from fmt's source: count such statements apart). THE CARD IS WHAT COUNTS. Prove the row's statement (the work); the ties are given (YtgjdmkfpmokkaaaGreatDoorTie.lean); close each card by the builder's one call (the guide's Derived/Test/ToyasCard.lean, 'card_holds'). Laid BY PROGRAM, IN A SANDBOX (cutbox-door.mjs). By AI agents, Wed Nov 11 2026. No macro, syntax, notation, axiom, sorry.
-/
import Derived.Test.YtgjdmkfpmokkaaaGreatDoorRows
import GoSem.ClaimSeven
namespace Go.Proofs.YtgjdmkfpmokkaaaGreatDoor
namespace Rows

/-- THE TIED CARD OF 'croftlaw7.SlabKnown'. -/
def slabKnownCard : Claim7 := { stood := { row := slabKnownRow, standIns := [], harness := (true, "701c9bc044d606e4531eb44ed8cdb65b038f753e65754bf2851fc00107080ad8"), looks := false }, kinds := [], alts := [], laidByText := true, laidKinds := [.data], laidTests := true, laidLooks := .later }
def SlabKnownCardSaid : Prop := Claim7.holds Tryz.pinned (.plain (OpenSpec.ofChange slabKnownSpec)) slabKnownCard

/-- THE TIED CARD OF 'croftlaw7.SlabPlays'. -/
def slabPlaysCard : Claim7 := { stood := { row := slabPlaysRow, standIns := [], harness := (true, "701c9bc044d606e4531eb44ed8cdb65b038f753e65754bf2851fc00107080ad8"), looks := false }, kinds := [], alts := [], laidByText := true, laidKinds := [.data], laidTests := true, laidLooks := .later }
def SlabPlaysCardSaid : Prop := Claim7.holds Tryz.pinned (.plain (OpenSpec.ofChange slabPlaysSpec)) slabPlaysCard

/-- THE TIED CARD OF 'croftlaw7.SlabExactly'. -/
def slabExactlyCard : Claim7 := { stood := { row := slabExactlyRow, standIns := [], harness := (true, "701c9bc044d606e4531eb44ed8cdb65b038f753e65754bf2851fc00107080ad8"), looks := false }, kinds := [], alts := [], laidByText := true, laidKinds := [.data], laidTests := true, laidLooks := .later }
def SlabExactlyCardSaid : Prop := Claim7.holds Tryz.pinned (.plain (OpenSpec.ofChange slabExactlySpec)) slabExactlyCard

/-- THE TIED CARD OF 'croftlaw7.SlabKeeps'. -/
def slabKeepsCard : Claim7 := { stood := { row := slabKeepsRow, standIns := [], harness := (true, "701c9bc044d606e4531eb44ed8cdb65b038f753e65754bf2851fc00107080ad8"), looks := false }, kinds := [], alts := [], laidByText := true, laidKinds := [.data], laidTests := true, laidLooks := .later }
def SlabKeepsCardSaid : Prop := Claim7.holds Tryz.pinned (.plain (OpenSpec.ofChange slabKeepsSpec)) slabKeepsCard

/-- THE SECOND FORM's CARD OF 'croftlaw7.SlabKnown'. -/
def slabKnownUptoCard : Claim7 := { stood := { row := slabKnownUptoRow, standIns := [], harness := (true, "701c9bc044d606e4531eb44ed8cdb65b038f753e65754bf2851fc00107080ad8"), looks := false }, kinds := [], alts := [], laidByText := true, laidKinds := [.data], laidTests := true, laidLooks := .later }
def SlabKnownUptoCardSaid : Prop := Claim7.holds Tryz.pinned (.plain (OpenSpec.upto slabKnownSpec)) slabKnownUptoCard

/-- THE SECOND FORM's CARD OF 'croftlaw7.SlabPlays'. -/
def slabPlaysUptoCard : Claim7 := { stood := { row := slabPlaysUptoRow, standIns := [], harness := (true, "701c9bc044d606e4531eb44ed8cdb65b038f753e65754bf2851fc00107080ad8"), looks := false }, kinds := [], alts := [], laidByText := true, laidKinds := [.data], laidTests := true, laidLooks := .later }
def SlabPlaysUptoCardSaid : Prop := Claim7.holds Tryz.pinned (.plain (OpenSpec.upto slabPlaysSpec)) slabPlaysUptoCard

/-- THE SECOND FORM's CARD OF 'croftlaw7.SlabExactly'. -/
def slabExactlyUptoCard : Claim7 := { stood := { row := slabExactlyUptoRow, standIns := [], harness := (true, "701c9bc044d606e4531eb44ed8cdb65b038f753e65754bf2851fc00107080ad8"), looks := false }, kinds := [], alts := [], laidByText := true, laidKinds := [.data], laidTests := true, laidLooks := .later }
def SlabExactlyUptoCardSaid : Prop := Claim7.holds Tryz.pinned (.plain (OpenSpec.upto slabExactlySpec)) slabExactlyUptoCard

/-- THE SECOND FORM's CARD OF 'croftlaw7.SlabKeeps'. -/
def slabKeepsUptoCard : Claim7 := { stood := { row := slabKeepsUptoRow, standIns := [], harness := (true, "701c9bc044d606e4531eb44ed8cdb65b038f753e65754bf2851fc00107080ad8"), looks := false }, kinds := [], alts := [], laidByText := true, laidKinds := [.data], laidTests := true, laidLooks := .later }
def SlabKeepsUptoCardSaid : Prop := Claim7.holds Tryz.pinned (.plain (OpenSpec.upto slabKeepsSpec)) slabKeepsUptoCard
end Rows
end Go.Proofs.YtgjdmkfpmokkaaaGreatDoor
