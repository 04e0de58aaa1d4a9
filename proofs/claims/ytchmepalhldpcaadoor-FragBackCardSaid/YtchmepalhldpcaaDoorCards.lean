/-
  DERIVED. GIVEN WITH THE SEED: THE CARDS: each row of YtchmepalhldpcaaDoorRows.lean that lists a variable, with what it lists TIED to the program's text (the seventh form; the later family's looks); each row that meets fmt, with fmt's text TOLD by the authors' own Lean function (tested against real Go, not proved from fmt's source: count such statements apart). THE CARD IS WHAT COUNTS. Prove the row's statement (the work); the ties are given (YtchmepalhldpcaaDoorTie.lean); close each card by the builder's one call (the guide's Derived/Test/ToyasCard.lean, 'card_holds'). Laid BY PROGRAM, IN A SANDBOX (cutbox-door.mjs). By AI agents, Wed Nov 11 2026. No macro, syntax, notation, axiom, sorry.
-/
import Derived.Test.YtchmepalhldpcaaDoorRows
import GoSem.ClaimSeven
namespace Go.Proofs.YtchmepalhldpcaaDoor
namespace Rows

/-- THE TIED CARD OF 'stooklaw15.FragBack'. -/
def fragBackCard : Claim7 := { stood := { row := fragBackRow, standIns := [], harness := (true, "1c7f16be096ff916b541c90ede1d67871dcad303e38aa821abd262da540aa1e9"), looks := true }, kinds := [], alts := [], laidByText := true, laidKinds := [.data, .data, .data, .sentinel, .sentinel], laidTests := true, laidLooks := .later }
def FragBackCardSaid : Prop := Claim7.holds Tryd.pinned (.plain (OpenSpec.ofChange fragBackSpec)) fragBackCard

/-- THE TIED CARD OF 'stooklaw15.FragNames'. -/
def fragNamesCard : Claim7 := { stood := { row := fragNamesRow, standIns := [], harness := (true, "1c7f16be096ff916b541c90ede1d67871dcad303e38aa821abd262da540aa1e9"), looks := true }, kinds := [], alts := [], laidByText := true, laidKinds := [.data, .data, .data, .sentinel, .sentinel], laidTests := true, laidLooks := .later }
def FragNamesCardSaid : Prop := Claim7.holds Tryd.pinned (.plain (OpenSpec.ofChange fragNamesSpec)) fragNamesCard

/-- THE SECOND FORM's CARD OF 'stooklaw15.FragBack'. -/
def fragBackUptoCard : Claim7 := { stood := { row := fragBackUptoRow, standIns := [], harness := (true, "1c7f16be096ff916b541c90ede1d67871dcad303e38aa821abd262da540aa1e9"), looks := true }, kinds := [], alts := [], laidByText := true, laidKinds := [.data, .data, .data, .sentinel, .sentinel], laidTests := true, laidLooks := .later }
def FragBackUptoCardSaid : Prop := Claim7.holds Tryd.pinned (.plain (OpenSpec.upto fragBackSpec)) fragBackUptoCard

/-- THE SECOND FORM's CARD OF 'stooklaw15.FragNames'. -/
def fragNamesUptoCard : Claim7 := { stood := { row := fragNamesUptoRow, standIns := [], harness := (true, "1c7f16be096ff916b541c90ede1d67871dcad303e38aa821abd262da540aa1e9"), looks := true }, kinds := [], alts := [], laidByText := true, laidKinds := [.data, .data, .data, .sentinel, .sentinel], laidTests := true, laidLooks := .later }
def FragNamesUptoCardSaid : Prop := Claim7.holds Tryd.pinned (.plain (OpenSpec.upto fragNamesSpec)) fragNamesUptoCard
end Rows
end Go.Proofs.YtchmepalhldpcaaDoor
