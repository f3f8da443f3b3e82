/-
  DERIVED. GIVEN WITH THE SEED: THE CARDS: each row of YtbgbfpklgfpepaaGreatDoorRows.lean that lists a variable, with what it lists TIED to the program's text (the seventh form; the later family's looks); each row that meets fmt, with fmt's text TOLD by the authors' own Lean function (tested against real Go, not proved from fmt's source: count such statements apart). THE CARD IS WHAT COUNTS. Prove the row's statement (the work); the ties are given (YtbgbfpklgfpepaaGreatDoorTie.lean); close each card by the builder's one call (the guide's Derived/Test/ToyasCard.lean, 'card_holds'). Laid BY PROGRAM, IN A SANDBOX (cutbox-door.mjs). By AI agents, Wed Nov 11 2026. No macro, syntax, notation, axiom, sorry.
-/
import Derived.Test.YtbgbfpklgfpepaaGreatDoorRows
import GoSem.ClaimSeven
namespace Go.Proofs.YtbgbfpklgfpepaaGreatDoor
namespace Rows

/-- THE TIED CARD OF 'croftlaw8.HeapKnown'. -/
def heapKnownCard : Claim7 := { stood := { row := heapKnownRow, standIns := [], harness := (true, "d3c8e34d3954c23cc256a6a07af2f70f01be524736f456480f9bf7de0f1d5afc"), looks := false }, kinds := [], alts := [], laidByText := true, laidKinds := [.data], laidTests := true, laidLooks := .later }
def HeapKnownCardSaid : Prop := Claim7.holds Tryz.pinned (.plain (OpenSpec.ofChange heapKnownSpec)) heapKnownCard

/-- THE TIED CARD OF 'croftlaw8.HeapPlays'. -/
def heapPlaysCard : Claim7 := { stood := { row := heapPlaysRow, standIns := [], harness := (true, "d3c8e34d3954c23cc256a6a07af2f70f01be524736f456480f9bf7de0f1d5afc"), looks := false }, kinds := [], alts := [], laidByText := true, laidKinds := [.data], laidTests := true, laidLooks := .later }
def HeapPlaysCardSaid : Prop := Claim7.holds Tryz.pinned (.plain (OpenSpec.ofChange heapPlaysSpec)) heapPlaysCard

/-- THE TIED CARD OF 'croftlaw8.HeapTight'. -/
def heapTightCard : Claim7 := { stood := { row := heapTightRow, standIns := [], harness := (true, "d3c8e34d3954c23cc256a6a07af2f70f01be524736f456480f9bf7de0f1d5afc"), looks := false }, kinds := [], alts := [], laidByText := true, laidKinds := [.data], laidTests := true, laidLooks := .later }
def HeapTightCardSaid : Prop := Claim7.holds Tryz.pinned (.plain (OpenSpec.ofChange heapTightSpec)) heapTightCard

/-- THE TIED CARD OF 'croftlaw8.HeapEmpty'. -/
def heapEmptyCard : Claim7 := { stood := { row := heapEmptyRow, standIns := [], harness := (true, "d3c8e34d3954c23cc256a6a07af2f70f01be524736f456480f9bf7de0f1d5afc"), looks := false }, kinds := [], alts := [], laidByText := true, laidKinds := [.data], laidTests := true, laidLooks := .later }
def HeapEmptyCardSaid : Prop := Claim7.holds Tryz.pinned (.plain (OpenSpec.ofChange heapEmptySpec)) heapEmptyCard

/-- THE TIED CARD OF 'croftlaw8.HeapTwo'. -/
def heapTwoCard : Claim7 := { stood := { row := heapTwoRow, standIns := [], harness := (true, "d3c8e34d3954c23cc256a6a07af2f70f01be524736f456480f9bf7de0f1d5afc"), looks := false }, kinds := [], alts := [], laidByText := true, laidKinds := [.data], laidTests := true, laidLooks := .later }
def HeapTwoCardSaid : Prop := Claim7.holds Tryz.pinned (.plain (OpenSpec.ofChange heapTwoSpec)) heapTwoCard

/-- THE SECOND FORM's CARD OF 'croftlaw8.HeapKnown'. -/
def heapKnownUptoCard : Claim7 := { stood := { row := heapKnownUptoRow, standIns := [], harness := (true, "d3c8e34d3954c23cc256a6a07af2f70f01be524736f456480f9bf7de0f1d5afc"), looks := false }, kinds := [], alts := [], laidByText := true, laidKinds := [.data], laidTests := true, laidLooks := .later }
def HeapKnownUptoCardSaid : Prop := Claim7.holds Tryz.pinned (.plain (OpenSpec.upto heapKnownSpec)) heapKnownUptoCard

/-- THE SECOND FORM's CARD OF 'croftlaw8.HeapPlays'. -/
def heapPlaysUptoCard : Claim7 := { stood := { row := heapPlaysUptoRow, standIns := [], harness := (true, "d3c8e34d3954c23cc256a6a07af2f70f01be524736f456480f9bf7de0f1d5afc"), looks := false }, kinds := [], alts := [], laidByText := true, laidKinds := [.data], laidTests := true, laidLooks := .later }
def HeapPlaysUptoCardSaid : Prop := Claim7.holds Tryz.pinned (.plain (OpenSpec.upto heapPlaysSpec)) heapPlaysUptoCard

/-- THE SECOND FORM's CARD OF 'croftlaw8.HeapTight'. -/
def heapTightUptoCard : Claim7 := { stood := { row := heapTightUptoRow, standIns := [], harness := (true, "d3c8e34d3954c23cc256a6a07af2f70f01be524736f456480f9bf7de0f1d5afc"), looks := false }, kinds := [], alts := [], laidByText := true, laidKinds := [.data], laidTests := true, laidLooks := .later }
def HeapTightUptoCardSaid : Prop := Claim7.holds Tryz.pinned (.plain (OpenSpec.upto heapTightSpec)) heapTightUptoCard

/-- THE SECOND FORM's CARD OF 'croftlaw8.HeapEmpty'. -/
def heapEmptyUptoCard : Claim7 := { stood := { row := heapEmptyUptoRow, standIns := [], harness := (true, "d3c8e34d3954c23cc256a6a07af2f70f01be524736f456480f9bf7de0f1d5afc"), looks := false }, kinds := [], alts := [], laidByText := true, laidKinds := [.data], laidTests := true, laidLooks := .later }
def HeapEmptyUptoCardSaid : Prop := Claim7.holds Tryz.pinned (.plain (OpenSpec.upto heapEmptySpec)) heapEmptyUptoCard

/-- THE SECOND FORM's CARD OF 'croftlaw8.HeapTwo'. -/
def heapTwoUptoCard : Claim7 := { stood := { row := heapTwoUptoRow, standIns := [], harness := (true, "d3c8e34d3954c23cc256a6a07af2f70f01be524736f456480f9bf7de0f1d5afc"), looks := false }, kinds := [], alts := [], laidByText := true, laidKinds := [.data], laidTests := true, laidLooks := .later }
def HeapTwoUptoCardSaid : Prop := Claim7.holds Tryz.pinned (.plain (OpenSpec.upto heapTwoSpec)) heapTwoUptoCard
end Rows
end Go.Proofs.YtbgbfpklgfpepaaGreatDoor
