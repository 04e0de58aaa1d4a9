/-
  No cell of these rows narrows 'for every input' (looked for: loops, veiled, ifaces, maps, wideKeys, modest, calm, conditions, laid).
  DERIVED. THE GIVEN ROWS OF THIS SEAT. 6 by the template 'for every input the law returns true; each argument reads behind the call as it read before'; 0 by the template 'total and deterministic' (their statements: YtjgaaeomfilhoaaTotals.lean).
  GIVEN WITH THE SEED: the statements are not yours to turn. If you find one false, say at which input.
  Laid BY PROGRAM, IN A SANDBOX (cutbox-rows.mjs): the forced cells as the released guide's own fill.sh prints them over the translation 236942d8de1b44ed… (all of the seat's roots in one cut). By AI agents, Wed Nov 11 2026. No macro, syntax, notation, axiom, sorry.
-/
import Derived.Test.YtjgaaeomfilhoaaChecked
import GoSem.Claim
import GoSem.ClaimJoined
import GoSem.ClaimMapViews
import Derived.JoinedTies
import Derived.KernelRfl
namespace Go.Proofs.Ytjgaaeomfilhoaa
/- THE CELL 'sum', in the pinned program and in every row, IS THE sha256 OF THE DUMP (.gsa) THAT YtjgaaeomfilhoaaProg.lean LOADS. Nothing in Lean hashes anything: it is a label: what it is worth is what the hold of that sum in a sandbox is worth. -/
noncomputable def Try.pinned : Pinned := { name := "ytjgaaeomfilhoaa", sum := "236942d8de1b44ed50763485caf30ecf128799179ecbcccd0a26bb07f3c70411", checked := Try.checked }
namespace Rows
def none {H : Type} : Left H := { results := [], args := [] }

/-- 'stooklaw06.GaussLaws': WHATEVER THE INPUT: true; the input reads as it did. -/
def gaussLawsSpec : ChangeSpec := { name := "gaussLaws", fn := fun _ => fun
  | [d1, d2, d3] => { results := [.lit (.bool true)], args := [d1, d2, d3] }
  | _ => none }
def gaussLawsRow : OpenClaim := { program := "ytjgaaeomfilhoaa", sum := "236942d8de1b44ed50763485caf30ecf128799179ecbcccd0a26bb07f3c70411", func := "stook/stooklaw06.GaussLaws", spec := "gaussLaws", apart := false }
def GaussLawsSaid : Prop := gaussLawsRow.holds Try.pinned (OpenSpec.ofChange gaussLawsSpec)

/-- ITS FALSE NEIGHBOUR: 'it returns false'. Refute it at one input. -/
def gaussLawsWrong : ChangeSpec := { name := "gaussLaws", fn := fun _ => fun
  | [d1, d2, d3] => { results := [.lit (.bool false)], args := [d1, d2, d3] }
  | _ => none }
def GaussLawsWrongFalsely : Prop := gaussLawsRow.holds Try.pinned (OpenSpec.ofChange gaussLawsWrong)

/-- 'stooklaw06.GaussDiv': WHATEVER THE INPUT: true; the input reads as it did. -/
def gaussDivSpec : ChangeSpec := { name := "gaussDiv", fn := fun _ => fun
  | [d1, d2] => { results := [.lit (.bool true)], args := [d1, d2] }
  | _ => none }
def gaussDivRow : OpenClaim := { program := "ytjgaaeomfilhoaa", sum := "236942d8de1b44ed50763485caf30ecf128799179ecbcccd0a26bb07f3c70411", func := "stook/stooklaw06.GaussDiv", spec := "gaussDiv", apart := false }
def GaussDivSaid : Prop := gaussDivRow.holds Try.pinned (OpenSpec.ofChange gaussDivSpec)

/-- ITS FALSE NEIGHBOUR: 'it returns false'. Refute it at one input. -/
def gaussDivWrong : ChangeSpec := { name := "gaussDiv", fn := fun _ => fun
  | [d1, d2] => { results := [.lit (.bool false)], args := [d1, d2] }
  | _ => none }
def GaussDivWrongFalsely : Prop := gaussDivRow.holds Try.pinned (OpenSpec.ofChange gaussDivWrong)

/-- 'stooklaw06.GaussCommon': WHATEVER THE INPUT: true; the input reads as it did. -/
def gaussCommonSpec : ChangeSpec := { name := "gaussCommon", fn := fun _ => fun
  | [d1, d2, d3] => { results := [.lit (.bool true)], args := [d1, d2, d3] }
  | _ => none }
def gaussCommonRow : OpenClaim := { program := "ytjgaaeomfilhoaa", sum := "236942d8de1b44ed50763485caf30ecf128799179ecbcccd0a26bb07f3c70411", func := "stook/stooklaw06.GaussCommon", spec := "gaussCommon", apart := false }
def GaussCommonSaid : Prop := gaussCommonRow.holds Try.pinned (OpenSpec.ofChange gaussCommonSpec)

/-- ITS FALSE NEIGHBOUR: 'it returns false'. Refute it at one input. -/
def gaussCommonWrong : ChangeSpec := { name := "gaussCommon", fn := fun _ => fun
  | [d1, d2, d3] => { results := [.lit (.bool false)], args := [d1, d2, d3] }
  | _ => none }
def GaussCommonWrongFalsely : Prop := gaussCommonRow.holds Try.pinned (OpenSpec.ofChange gaussCommonWrong)

/-- 'stooklaw06.GaussPlays': WHATEVER THE INPUT: true; the input reads as it did. -/
def gaussPlaysSpec : ChangeSpec := { name := "gaussPlays", fn := fun _ => fun
  | [d1, d2, d3] => { results := [.lit (.bool true)], args := [d1, d2, d3] }
  | _ => none }
def gaussPlaysRow : OpenClaim := { program := "ytjgaaeomfilhoaa", sum := "236942d8de1b44ed50763485caf30ecf128799179ecbcccd0a26bb07f3c70411", func := "stook/stooklaw06.GaussPlays", spec := "gaussPlays", apart := false }
def GaussPlaysSaid : Prop := gaussPlaysRow.holds Try.pinned (OpenSpec.ofChange gaussPlaysSpec)

/-- ITS FALSE NEIGHBOUR: 'it returns false'. Refute it at one input. -/
def gaussPlaysWrong : ChangeSpec := { name := "gaussPlays", fn := fun _ => fun
  | [d1, d2, d3] => { results := [.lit (.bool false)], args := [d1, d2, d3] }
  | _ => none }
def GaussPlaysWrongFalsely : Prop := gaussPlaysRow.holds Try.pinned (OpenSpec.ofChange gaussPlaysWrong)

/-- 'stooklaw06.GaussQuotients': WHATEVER THE INPUT: true; the input reads as it did. -/
def gaussQuotientsSpec : ChangeSpec := { name := "gaussQuotients", fn := fun _ => fun
  | [d1, d2] => { results := [.lit (.bool true)], args := [d1, d2] }
  | _ => none }
def gaussQuotientsRow : OpenClaim := { program := "ytjgaaeomfilhoaa", sum := "236942d8de1b44ed50763485caf30ecf128799179ecbcccd0a26bb07f3c70411", func := "stook/stooklaw06.GaussQuotients", spec := "gaussQuotients", recurses := true, apart := false }
def GaussQuotientsSaid : Prop := gaussQuotientsRow.holds Try.pinned (OpenSpec.ofChange gaussQuotientsSpec)

/-- ITS FALSE NEIGHBOUR: 'it returns false'. Refute it at one input. -/
def gaussQuotientsWrong : ChangeSpec := { name := "gaussQuotients", fn := fun _ => fun
  | [d1, d2] => { results := [.lit (.bool false)], args := [d1, d2] }
  | _ => none }
def GaussQuotientsWrongFalsely : Prop := gaussQuotientsRow.holds Try.pinned (OpenSpec.ofChange gaussQuotientsWrong)

/-- 'stooklaw06.GaussTurns': WHATEVER THE INPUT: true; the input reads as it did. -/
def gaussTurnsSpec : ChangeSpec := { name := "gaussTurns", fn := fun _ => fun
  | [d1, d2] => { results := [.lit (.bool true)], args := [d1, d2] }
  | _ => none }
def gaussTurnsRow : OpenClaim := { program := "ytjgaaeomfilhoaa", sum := "236942d8de1b44ed50763485caf30ecf128799179ecbcccd0a26bb07f3c70411", func := "stook/stooklaw06.GaussTurns", spec := "gaussTurns", apart := false }
def GaussTurnsSaid : Prop := gaussTurnsRow.holds Try.pinned (OpenSpec.ofChange gaussTurnsSpec)

/-- ITS FALSE NEIGHBOUR: 'it returns false'. Refute it at one input. -/
def gaussTurnsWrong : ChangeSpec := { name := "gaussTurns", fn := fun _ => fun
  | [d1, d2] => { results := [.lit (.bool false)], args := [d1, d2] }
  | _ => none }
def GaussTurnsWrongFalsely : Prop := gaussTurnsRow.holds Try.pinned (OpenSpec.ofChange gaussTurnsWrong)

/- THE SECOND FORM. 'bulk': how many values and letters a reading holds, each counted each time it is reached (what is shared counts as often as it is met; a slice's spare places count too). A statement '..UptoSaid' is the law's where the arguments, and the package variables that the reading takes, are together of bulk at most 1048576: NARROWER than '..Said'. Prove '..Said' where nothing that the law and all that it calls make is longer than what came in: it says more and counts as full. Else prove '..UptoSaid'. A law counts once. -/
mutual
def uptoBulk {H : Type} : DataW H → Nat
  | .lit (.string bytes) => bytes.length + 1
  | .lit _ => 1
  | .nil => 1
  | .ptr d => uptoBulk d + 1
  | .slice elems spare => uptoBulkAll elems + uptoBulkAll spare + 1
  | .agg parts => uptoBulkAll parts + 1
  | .iface _ d => uptoBulk d + 1
  | .map entries => uptoBulkEntries entries + 1
  | .held _ => 1
def uptoBulkAll {H : Type} : List (DataW H) → Nat
  | [] => 0
  | d :: r => uptoBulk d + uptoBulkAll r
def uptoBulkEntries {H : Type} : List (Lit × DataW H) → Nat
  | [] => 0
  | x :: r => uptoBulkEntry x + uptoBulkEntries r
def uptoBulkEntry {H : Type} : Lit × DataW H → Nat
  | (.string bytes, d) => bytes.length + uptoBulk d + 1
  | (_, d) => uptoBulk d + 1
 end
def uptoSmall : (H : Type) → List (DataW H) → Bool := fun _ ds => decide (uptoBulkAll ds ≤ 1048576)
def OpenSpec.upto (s : _root_.Go.ChangeSpec) : _root_.Go.OpenSpec := { _root_.Go.OpenSpec.ofChange s with cond := some uptoSmall }

/-- 'stooklaw06.GaussLaws', WHERE WHAT IT READS IS OF BULK AT MOST 1048576: true; the input reads as it did. -/
def gaussLawsUptoRow : OpenClaim := { program := "ytjgaaeomfilhoaa", sum := "236942d8de1b44ed50763485caf30ecf128799179ecbcccd0a26bb07f3c70411", func := "stook/stooklaw06.GaussLaws", spec := "gaussLaws", apart := false, narrowed := true }
def GaussLawsUptoSaid : Prop := gaussLawsUptoRow.holds Try.pinned (OpenSpec.upto gaussLawsSpec)

/-- 'stooklaw06.GaussDiv', WHERE WHAT IT READS IS OF BULK AT MOST 1048576: true; the input reads as it did. -/
def gaussDivUptoRow : OpenClaim := { program := "ytjgaaeomfilhoaa", sum := "236942d8de1b44ed50763485caf30ecf128799179ecbcccd0a26bb07f3c70411", func := "stook/stooklaw06.GaussDiv", spec := "gaussDiv", apart := false, narrowed := true }
def GaussDivUptoSaid : Prop := gaussDivUptoRow.holds Try.pinned (OpenSpec.upto gaussDivSpec)

/-- 'stooklaw06.GaussCommon', WHERE WHAT IT READS IS OF BULK AT MOST 1048576: true; the input reads as it did. -/
def gaussCommonUptoRow : OpenClaim := { program := "ytjgaaeomfilhoaa", sum := "236942d8de1b44ed50763485caf30ecf128799179ecbcccd0a26bb07f3c70411", func := "stook/stooklaw06.GaussCommon", spec := "gaussCommon", apart := false, narrowed := true }
def GaussCommonUptoSaid : Prop := gaussCommonUptoRow.holds Try.pinned (OpenSpec.upto gaussCommonSpec)

/-- 'stooklaw06.GaussPlays', WHERE WHAT IT READS IS OF BULK AT MOST 1048576: true; the input reads as it did. -/
def gaussPlaysUptoRow : OpenClaim := { program := "ytjgaaeomfilhoaa", sum := "236942d8de1b44ed50763485caf30ecf128799179ecbcccd0a26bb07f3c70411", func := "stook/stooklaw06.GaussPlays", spec := "gaussPlays", apart := false, narrowed := true }
def GaussPlaysUptoSaid : Prop := gaussPlaysUptoRow.holds Try.pinned (OpenSpec.upto gaussPlaysSpec)

/-- 'stooklaw06.GaussQuotients', WHERE WHAT IT READS IS OF BULK AT MOST 1048576: true; the input reads as it did. -/
def gaussQuotientsUptoRow : OpenClaim := { program := "ytjgaaeomfilhoaa", sum := "236942d8de1b44ed50763485caf30ecf128799179ecbcccd0a26bb07f3c70411", func := "stook/stooklaw06.GaussQuotients", spec := "gaussQuotients", recurses := true, apart := false, narrowed := true }
def GaussQuotientsUptoSaid : Prop := gaussQuotientsUptoRow.holds Try.pinned (OpenSpec.upto gaussQuotientsSpec)

/-- 'stooklaw06.GaussTurns', WHERE WHAT IT READS IS OF BULK AT MOST 1048576: true; the input reads as it did. -/
def gaussTurnsUptoRow : OpenClaim := { program := "ytjgaaeomfilhoaa", sum := "236942d8de1b44ed50763485caf30ecf128799179ecbcccd0a26bb07f3c70411", func := "stook/stooklaw06.GaussTurns", spec := "gaussTurns", apart := false, narrowed := true }
def GaussTurnsUptoSaid : Prop := gaussTurnsUptoRow.holds Try.pinned (OpenSpec.upto gaussTurnsSpec)

end Rows
end Go.Proofs.Ytjgaaeomfilhoaa
