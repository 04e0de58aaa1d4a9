/-
  DERIVED. GIVEN WITH THE SEED: THE CARDS: each row of YtgakcpcpfkoaiaaGreatDoorRows.lean that lists a variable, with what it lists TIED to the program's text (the seventh form; the later family's looks); each row that meets fmt, with fmt's text TOLD by the authors' own Lean function (tested against real Go, not proved from fmt's source: count such statements apart). THE CARD IS WHAT COUNTS. Prove the row's statement (the work); the ties are given (YtgakcpcpfkoaiaaGreatDoorTie.lean); close each card by the builder's one call (the guide's Derived/Test/ToyasCard.lean, 'card_holds'). Laid BY PROGRAM, IN A SANDBOX (cutbox-door.mjs). By AI agents, Wed Nov 11 2026. No macro, syntax, notation, axiom, sorry.
-/
import Derived.Test.YtgakcpcpfkoaiaaGreatDoorRows
import GoSem.ClaimSeven
namespace Go.Proofs.YtgakcpcpfkoaiaaGreatDoor
namespace Rows

/-- THE TIED CARD OF 'stooklaw10.JobParts'. -/
def jobPartsCard : Claim7 := { stood := { row := jobPartsRow, standIns := [], harness := (true, "fe3c645cd32f2db87d961a77cb33f1bce0fdf7f6dcbe44fbe5df3f48cd770225"), looks := false }, kinds := [], alts := [], laidByText := true, laidKinds := [.data, .data, .data, .data], laidTests := true, laidLooks := .later }
def JobPartsCardSaid : Prop := Claim7.holds Tryz.pinned (.plain (OpenSpec.ofChange jobPartsSpec)) jobPartsCard

/-- THE SECOND FORM's CARD OF 'stooklaw10.JobParts'. -/
def jobPartsUptoCard : Claim7 := { stood := { row := jobPartsUptoRow, standIns := [], harness := (true, "fe3c645cd32f2db87d961a77cb33f1bce0fdf7f6dcbe44fbe5df3f48cd770225"), looks := false }, kinds := [], alts := [], laidByText := true, laidKinds := [.data, .data, .data, .data], laidTests := true, laidLooks := .later }
def JobPartsUptoCardSaid : Prop := Claim7.holds Tryz.pinned (.plain (OpenSpec.upto jobPartsSpec)) jobPartsUptoCard
end Rows
end Go.Proofs.YtgakcpcpfkoaiaaGreatDoor
