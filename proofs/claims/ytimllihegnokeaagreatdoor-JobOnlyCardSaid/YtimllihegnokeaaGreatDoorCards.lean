/-
  DERIVED. GIVEN WITH THE SEED: THE CARDS: each row of YtimllihegnokeaaGreatDoorRows.lean that lists a variable, with what it lists TIED to the program's text (the seventh form; the later family's looks); each row that meets fmt, with fmt's text TOLD by the authors' own Lean function (tested against real Go, not proved from fmt's source: count such statements apart). THE CARD IS WHAT COUNTS. Prove the row's statement (the work); the ties are given (YtimllihegnokeaaGreatDoorTie.lean); close each card by the builder's one call (the guide's Derived/Test/ToyasCard.lean, 'card_holds'). Laid BY PROGRAM, IN A SANDBOX (cutbox-door.mjs). By AI agents, Wed Nov 11 2026. No macro, syntax, notation, axiom, sorry.
-/
import Derived.Test.YtimllihegnokeaaGreatDoorRows
import GoSem.ClaimSeven
namespace Go.Proofs.YtimllihegnokeaaGreatDoor
namespace Rows

/-- THE TIED CARD OF 'stooklaw10.JobBack'. -/
def jobBackCard : Claim7 := { stood := { row := jobBackRow, standIns := [], harness := (true, "7062f356e4610214ecd86a395d060dd0316a58068ee50a5f1a3b5f1a0bbff769"), looks := false }, kinds := [], alts := [], laidByText := true, laidKinds := [.data, .data, .data, .data, .data, .data, .pinned], laidTests := true, laidLooks := .later }
def JobBackCardSaid : Prop := Claim7.holds Tryz.pinned (.plain (OpenSpec.ofChange jobBackSpec)) jobBackCard

/-- THE TIED CARD OF 'stooklaw10.JobOnly'. -/
def jobOnlyCard : Claim7 := { stood := { row := jobOnlyRow, standIns := [], harness := (true, "7062f356e4610214ecd86a395d060dd0316a58068ee50a5f1a3b5f1a0bbff769"), looks := false }, kinds := [], alts := [], laidByText := true, laidKinds := [.data, .data, .data, .data, .data, .data, .pinned], laidTests := true, laidLooks := .later }
def JobOnlyCardSaid : Prop := Claim7.holds Tryz.pinned (.plain (OpenSpec.ofChange jobOnlySpec)) jobOnlyCard

/-- THE TIED CARD OF 'stooklaw10.JobPlays'. -/
def jobPlaysCard : Claim7 := { stood := { row := jobPlaysRow, standIns := [], harness := (true, "7062f356e4610214ecd86a395d060dd0316a58068ee50a5f1a3b5f1a0bbff769"), looks := false }, kinds := [], alts := [], laidByText := true, laidKinds := [.data, .data, .data, .data, .data], laidTests := true, laidLooks := .later }
def JobPlaysCardSaid : Prop := Claim7.holds Tryz.pinned (.plain (OpenSpec.ofChange jobPlaysSpec)) jobPlaysCard

/-- THE TIED CARD OF 'stooklaw10.JobParts'. -/
def jobPartsCard : Claim7 := { stood := { row := jobPartsRow, standIns := [], harness := (true, "7062f356e4610214ecd86a395d060dd0316a58068ee50a5f1a3b5f1a0bbff769"), looks := false }, kinds := [], alts := [], laidByText := true, laidKinds := [.data, .data, .data, .data], laidTests := true, laidLooks := .later }
def JobPartsCardSaid : Prop := Claim7.holds Tryz.pinned (.plain (OpenSpec.ofChange jobPartsSpec)) jobPartsCard

/-- THE TIED CARD OF 'stooklaw10.JobPartsIn'. -/
def jobPartsInCard : Claim7 := { stood := { row := jobPartsInRow, standIns := [], harness := (true, "7062f356e4610214ecd86a395d060dd0316a58068ee50a5f1a3b5f1a0bbff769"), looks := false }, kinds := [], alts := [], laidByText := true, laidKinds := [.data, .data, .data, .data], laidTests := true, laidLooks := .later }
def JobPartsInCardSaid : Prop := Claim7.holds Tryz.pinned (.plain (OpenSpec.ofChange jobPartsInSpec)) jobPartsInCard

/-- THE SECOND FORM's CARD OF 'stooklaw10.JobBack'. -/
def jobBackUptoCard : Claim7 := { stood := { row := jobBackUptoRow, standIns := [], harness := (true, "7062f356e4610214ecd86a395d060dd0316a58068ee50a5f1a3b5f1a0bbff769"), looks := false }, kinds := [], alts := [], laidByText := true, laidKinds := [.data, .data, .data, .data, .data, .data, .pinned], laidTests := true, laidLooks := .later }
def JobBackUptoCardSaid : Prop := Claim7.holds Tryz.pinned (.plain (OpenSpec.upto jobBackSpec)) jobBackUptoCard

/-- THE SECOND FORM's CARD OF 'stooklaw10.JobOnly'. -/
def jobOnlyUptoCard : Claim7 := { stood := { row := jobOnlyUptoRow, standIns := [], harness := (true, "7062f356e4610214ecd86a395d060dd0316a58068ee50a5f1a3b5f1a0bbff769"), looks := false }, kinds := [], alts := [], laidByText := true, laidKinds := [.data, .data, .data, .data, .data, .data, .pinned], laidTests := true, laidLooks := .later }
def JobOnlyUptoCardSaid : Prop := Claim7.holds Tryz.pinned (.plain (OpenSpec.upto jobOnlySpec)) jobOnlyUptoCard

/-- THE SECOND FORM's CARD OF 'stooklaw10.JobPlays'. -/
def jobPlaysUptoCard : Claim7 := { stood := { row := jobPlaysUptoRow, standIns := [], harness := (true, "7062f356e4610214ecd86a395d060dd0316a58068ee50a5f1a3b5f1a0bbff769"), looks := false }, kinds := [], alts := [], laidByText := true, laidKinds := [.data, .data, .data, .data, .data], laidTests := true, laidLooks := .later }
def JobPlaysUptoCardSaid : Prop := Claim7.holds Tryz.pinned (.plain (OpenSpec.upto jobPlaysSpec)) jobPlaysUptoCard

/-- THE SECOND FORM's CARD OF 'stooklaw10.JobParts'. -/
def jobPartsUptoCard : Claim7 := { stood := { row := jobPartsUptoRow, standIns := [], harness := (true, "7062f356e4610214ecd86a395d060dd0316a58068ee50a5f1a3b5f1a0bbff769"), looks := false }, kinds := [], alts := [], laidByText := true, laidKinds := [.data, .data, .data, .data], laidTests := true, laidLooks := .later }
def JobPartsUptoCardSaid : Prop := Claim7.holds Tryz.pinned (.plain (OpenSpec.upto jobPartsSpec)) jobPartsUptoCard

/-- THE SECOND FORM's CARD OF 'stooklaw10.JobPartsIn'. -/
def jobPartsInUptoCard : Claim7 := { stood := { row := jobPartsInUptoRow, standIns := [], harness := (true, "7062f356e4610214ecd86a395d060dd0316a58068ee50a5f1a3b5f1a0bbff769"), looks := false }, kinds := [], alts := [], laidByText := true, laidKinds := [.data, .data, .data, .data], laidTests := true, laidLooks := .later }
def JobPartsInUptoCardSaid : Prop := Claim7.holds Tryz.pinned (.plain (OpenSpec.upto jobPartsInSpec)) jobPartsInUptoCard
end Rows
end Go.Proofs.YtimllihegnokeaaGreatDoor
