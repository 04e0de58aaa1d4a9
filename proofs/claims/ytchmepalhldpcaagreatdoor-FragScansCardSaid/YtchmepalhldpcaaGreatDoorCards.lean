/-
  DERIVED. GIVEN WITH THE SEED: THE CARDS: each row of YtchmepalhldpcaaGreatDoorRows.lean that lists a variable, with what it lists TIED to the program's text (the seventh form; the later family's looks); each row that meets fmt, with fmt's text TOLD by the authors' own Lean function (tested against real Go, not proved from fmt's source: count such statements apart). THE CARD IS WHAT COUNTS. Prove the row's statement (the work); the ties are given (YtchmepalhldpcaaGreatDoorTie.lean); close each card by the builder's one call (the guide's Derived/Test/ToyasCard.lean, 'card_holds'). Laid BY PROGRAM, IN A SANDBOX (cutbox-door.mjs). By AI agents, Wed Nov 11 2026. No macro, syntax, notation, axiom, sorry.
-/
import Derived.Test.YtchmepalhldpcaaGreatDoorRows
import GoSem.ClaimSeven
namespace Go.Proofs.YtchmepalhldpcaaGreatDoor
namespace Rows

/-- THE TIED CARD OF 'stooklaw15.FragSpoilt'. -/
def fragSpoiltCard : Claim7 := { stood := { row := fragSpoiltRow, standIns := [], harness := (true, "b1ca20c8c91c55cf58e920e153949ab79ab43224be273b6cb9c298c247c88478"), looks := true }, kinds := [], alts := [], laidByText := true, laidKinds := [.data, .data, .data, .sentinel, .sentinel], laidTests := true, laidLooks := .later }
def FragSpoiltCardSaid : Prop := Claim7.holds Tryz.pinned (.plain (OpenSpec.ofChange fragSpoiltSpec)) fragSpoiltCard

/-- THE TIED CARD OF 'stooklaw15.FragScans'. -/
def fragScansCard : Claim7 := { stood := { row := fragScansRow, standIns := [], harness := (true, "b1ca20c8c91c55cf58e920e153949ab79ab43224be273b6cb9c298c247c88478"), looks := true }, kinds := [], alts := [], laidByText := true, laidKinds := [.data, .data, .data, .sentinel, .sentinel], laidTests := true, laidLooks := .later }
def FragScansCardSaid : Prop := Claim7.holds Tryz.pinned (.plain (OpenSpec.ofChange fragScansSpec)) fragScansCard

/-- THE SECOND FORM's CARD OF 'stooklaw15.FragSpoilt'. -/
def fragSpoiltUptoCard : Claim7 := { stood := { row := fragSpoiltUptoRow, standIns := [], harness := (true, "b1ca20c8c91c55cf58e920e153949ab79ab43224be273b6cb9c298c247c88478"), looks := true }, kinds := [], alts := [], laidByText := true, laidKinds := [.data, .data, .data, .sentinel, .sentinel], laidTests := true, laidLooks := .later }
def FragSpoiltUptoCardSaid : Prop := Claim7.holds Tryz.pinned (.plain (OpenSpec.upto fragSpoiltSpec)) fragSpoiltUptoCard

/-- THE SECOND FORM's CARD OF 'stooklaw15.FragScans'. -/
def fragScansUptoCard : Claim7 := { stood := { row := fragScansUptoRow, standIns := [], harness := (true, "b1ca20c8c91c55cf58e920e153949ab79ab43224be273b6cb9c298c247c88478"), looks := true }, kinds := [], alts := [], laidByText := true, laidKinds := [.data, .data, .data, .sentinel, .sentinel], laidTests := true, laidLooks := .later }
def FragScansUptoCardSaid : Prop := Claim7.holds Tryz.pinned (.plain (OpenSpec.upto fragScansSpec)) fragScansUptoCard
end Rows
end Go.Proofs.YtchmepalhldpcaaGreatDoor
