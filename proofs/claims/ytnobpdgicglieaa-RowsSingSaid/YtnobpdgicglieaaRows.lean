/-
  No cell of these rows narrows 'for every input' (looked for: loops, veiled, ifaces, maps, wideKeys, modest, calm, conditions, laid).
  DERIVED. THE GIVEN ROWS OF THIS SEAT. 7 by the template 'for every input the law returns true; each argument reads behind the call as it read before'; 0 by the template 'total and deterministic' (their statements: YtnobpdgicglieaaTotals.lean).
  GIVEN WITH THE SEED: the statements are not yours to turn. If you find one false, say at which input.
  Laid BY PROGRAM, IN A SANDBOX (cutbox-rows.mjs): the forced cells as the released guide's own fill.sh prints them over the translation 23636bfaa6d3f8af… (all of the seat's roots in one cut). By AI agents, Wed Nov 11 2026. No macro, syntax, notation, axiom, sorry.
-/
import Derived.Test.YtnobpdgicglieaaChecked
import GoSem.Claim
import GoSem.ClaimJoined
import GoSem.ClaimMapViews
import Derived.JoinedTies
import Derived.KernelRfl
namespace Go.Proofs.Ytnobpdgicglieaa
/- THE CELL 'sum', in the pinned program and in every row, IS THE sha256 OF THE DUMP (.gsa) THAT YtnobpdgicglieaaProg.lean LOADS. Nothing in Lean hashes anything: it is a label: what it is worth is what the hold of that sum in a sandbox is worth. -/
noncomputable def Try.pinned : Pinned := { name := "ytnobpdgicglieaa", sum := "23636bfaa6d3f8af1d1d76f0d36153430c281b976df2456cb62d758b929362dd", checked := Try.checked }
namespace Rows
def none {H : Type} : Left H := { results := [], args := [] }

/-- 'stooklaw02.RowsUndo': WHATEVER THE INPUT: true; the input reads as it did. -/
def rowsUndoSpec : ChangeSpec := { name := "rowsUndo", fn := fun _ => fun
  | [d] => { results := [.lit (.bool true)], args := [d] }
  | _ => none }
def rowsUndoRow : OpenClaim := { program := "ytnobpdgicglieaa", sum := "23636bfaa6d3f8af1d1d76f0d36153430c281b976df2456cb62d758b929362dd", func := "stook/stooklaw02.RowsUndo", spec := "rowsUndo", apart := false }
def RowsUndoSaid : Prop := rowsUndoRow.holds Try.pinned (OpenSpec.ofChange rowsUndoSpec)

/-- ITS FALSE NEIGHBOUR: 'it returns false'. Refute it at one input. -/
def rowsUndoWrong : ChangeSpec := { name := "rowsUndo", fn := fun _ => fun
  | [d] => { results := [.lit (.bool false)], args := [d] }
  | _ => none }
def RowsUndoWrongFalsely : Prop := rowsUndoRow.holds Try.pinned (OpenSpec.ofChange rowsUndoWrong)

/-- 'stooklaw02.RowsBrackets': WHATEVER THE INPUT: true; the input reads as it did. -/
def rowsBracketsSpec : ChangeSpec := { name := "rowsBrackets", fn := fun _ => fun
  | [d1, d2, d3] => { results := [.lit (.bool true)], args := [d1, d2, d3] }
  | _ => none }
def rowsBracketsRow : OpenClaim := { program := "ytnobpdgicglieaa", sum := "23636bfaa6d3f8af1d1d76f0d36153430c281b976df2456cb62d758b929362dd", func := "stook/stooklaw02.RowsBrackets", spec := "rowsBrackets", apart := false }
def RowsBracketsSaid : Prop := rowsBracketsRow.holds Try.pinned (OpenSpec.ofChange rowsBracketsSpec)

/-- ITS FALSE NEIGHBOUR: 'it returns false'. Refute it at one input. -/
def rowsBracketsWrong : ChangeSpec := { name := "rowsBrackets", fn := fun _ => fun
  | [d1, d2, d3] => { results := [.lit (.bool false)], args := [d1, d2, d3] }
  | _ => none }
def RowsBracketsWrongFalsely : Prop := rowsBracketsRow.holds Try.pinned (OpenSpec.ofChange rowsBracketsWrong)

/-- 'stooklaw02.RowsPowers': WHATEVER THE INPUT: true; the input reads as it did. -/
def rowsPowersSpec : ChangeSpec := { name := "rowsPowers", fn := fun _ => fun
  | [d1, d2, d3] => { results := [.lit (.bool true)], args := [d1, d2, d3] }
  | _ => none }
def rowsPowersRow : OpenClaim := { program := "ytnobpdgicglieaa", sum := "23636bfaa6d3f8af1d1d76f0d36153430c281b976df2456cb62d758b929362dd", func := "stook/stooklaw02.RowsPowers", spec := "rowsPowers", apart := false }
def RowsPowersSaid : Prop := rowsPowersRow.holds Try.pinned (OpenSpec.ofChange rowsPowersSpec)

/-- ITS FALSE NEIGHBOUR: 'it returns false'. Refute it at one input. -/
def rowsPowersWrong : ChangeSpec := { name := "rowsPowers", fn := fun _ => fun
  | [d1, d2, d3] => { results := [.lit (.bool false)], args := [d1, d2, d3] }
  | _ => none }
def RowsPowersWrongFalsely : Prop := rowsPowersRow.holds Try.pinned (OpenSpec.ofChange rowsPowersWrong)

/-- 'stooklaw02.RowsPlays': WHATEVER THE INPUT: true; the input reads as it did. -/
def rowsPlaysSpec : ChangeSpec := { name := "rowsPlays", fn := fun _ => fun
  | [d1, d2, d3, d4] => { results := [.lit (.bool true)], args := [d1, d2, d3, d4] }
  | _ => none }
def rowsPlaysRow : OpenClaim := { program := "ytnobpdgicglieaa", sum := "23636bfaa6d3f8af1d1d76f0d36153430c281b976df2456cb62d758b929362dd", func := "stook/stooklaw02.RowsPlays", spec := "rowsPlays", apart := false }
def RowsPlaysSaid : Prop := rowsPlaysRow.holds Try.pinned (OpenSpec.ofChange rowsPlaysSpec)

/-- ITS FALSE NEIGHBOUR: 'it returns false'. Refute it at one input. -/
def rowsPlaysWrong : ChangeSpec := { name := "rowsPlays", fn := fun _ => fun
  | [d1, d2, d3, d4] => { results := [.lit (.bool false)], args := [d1, d2, d3, d4] }
  | _ => none }
def RowsPlaysWrongFalsely : Prop := rowsPlaysRow.holds Try.pinned (OpenSpec.ofChange rowsPlaysWrong)

/-- 'stooklaw02.RowsSing': WHATEVER THE INPUT: true; the input reads as it did. -/
def rowsSingSpec : ChangeSpec := { name := "rowsSing", fn := fun _ => fun
  | [d] => { results := [.lit (.bool true)], args := [d] }
  | _ => none }
def rowsSingRow : OpenClaim := { program := "ytnobpdgicglieaa", sum := "23636bfaa6d3f8af1d1d76f0d36153430c281b976df2456cb62d758b929362dd", func := "stook/stooklaw02.RowsSing", spec := "rowsSing", apart := false }
def RowsSingSaid : Prop := rowsSingRow.holds Try.pinned (OpenSpec.ofChange rowsSingSpec)

/-- ITS FALSE NEIGHBOUR: 'it returns false'. Refute it at one input. -/
def rowsSingWrong : ChangeSpec := { name := "rowsSing", fn := fun _ => fun
  | [d] => { results := [.lit (.bool false)], args := [d] }
  | _ => none }
def RowsSingWrongFalsely : Prop := rowsSingRow.holds Try.pinned (OpenSpec.ofChange rowsSingWrong)

/-- 'stooklaw02.RowsPicks': WHATEVER THE INPUT: true; the input reads as it did. -/
def rowsPicksSpec : ChangeSpec := { name := "rowsPicks", fn := fun _ => fun
  | [d1, d2] => { results := [.lit (.bool true)], args := [d1, d2] }
  | _ => none }
def rowsPicksRow : OpenClaim := { program := "ytnobpdgicglieaa", sum := "23636bfaa6d3f8af1d1d76f0d36153430c281b976df2456cb62d758b929362dd", func := "stook/stooklaw02.RowsPicks", spec := "rowsPicks", apart := false }
def RowsPicksSaid : Prop := rowsPicksRow.holds Try.pinned (OpenSpec.ofChange rowsPicksSpec)

/-- ITS FALSE NEIGHBOUR: 'it returns false'. Refute it at one input. -/
def rowsPicksWrong : ChangeSpec := { name := "rowsPicks", fn := fun _ => fun
  | [d1, d2] => { results := [.lit (.bool false)], args := [d1, d2] }
  | _ => none }
def RowsPicksWrongFalsely : Prop := rowsPicksRow.holds Try.pinned (OpenSpec.ofChange rowsPicksWrong)

/-- 'stooklaw02.RowsTwice': WHATEVER THE INPUT: true; the input reads as it did. -/
def rowsTwiceSpec : ChangeSpec := { name := "rowsTwice", fn := fun _ => fun
  | [d1, d2] => { results := [.lit (.bool true)], args := [d1, d2] }
  | _ => none }
def rowsTwiceRow : OpenClaim := { program := "ytnobpdgicglieaa", sum := "23636bfaa6d3f8af1d1d76f0d36153430c281b976df2456cb62d758b929362dd", func := "stook/stooklaw02.RowsTwice", spec := "rowsTwice", apart := false }
def RowsTwiceSaid : Prop := rowsTwiceRow.holds Try.pinned (OpenSpec.ofChange rowsTwiceSpec)

/-- ITS FALSE NEIGHBOUR: 'it returns false'. Refute it at one input. -/
def rowsTwiceWrong : ChangeSpec := { name := "rowsTwice", fn := fun _ => fun
  | [d1, d2] => { results := [.lit (.bool false)], args := [d1, d2] }
  | _ => none }
def RowsTwiceWrongFalsely : Prop := rowsTwiceRow.holds Try.pinned (OpenSpec.ofChange rowsTwiceWrong)

/- THE SECOND FORM. 'bulk': how many values and letters a reading holds, each counted each time it is reached (what is shared counts as often as it is met; a slice's spare places count too). A statement '..UptoSaid' is the law's where the arguments, and the package variables that the reading takes, are together of bulk at most 1048576: NARROWER than '..Said'. Prove '..Said' where nothing that the law and all that it calls make is longer than what came in: it says more and counts as full. Else prove '..UptoSaid'. A law counts once. -/
mutual
def uptoBulk {H : Type} : DataW H → Nat
  | .lit (.string bytes) => bytes.length + 1
  | .lit _ => 1
  | .nil => 1
  | .ptr d => uptoBulk d + 1
  | .slice elems spare => uptoBulkAll elems + uptoBulkAll spare + 1
  | .agg parts => uptoBulkAll parts + 1
  | .iface _ d => uptoBulk d + 1
  | .map entries => uptoBulkEntries entries + 1
  | .held _ => 1
def uptoBulkAll {H : Type} : List (DataW H) → Nat
  | [] => 0
  | d :: r => uptoBulk d + uptoBulkAll r
def uptoBulkEntries {H : Type} : List (Lit × DataW H) → Nat
  | [] => 0
  | x :: r => uptoBulkEntry x + uptoBulkEntries r
def uptoBulkEntry {H : Type} : Lit × DataW H → Nat
  | (.string bytes, d) => bytes.length + uptoBulk d + 1
  | (_, d) => uptoBulk d + 1
 end
def uptoSmall : (H : Type) → List (DataW H) → Bool := fun _ ds => decide (uptoBulkAll ds ≤ 1048576)
def OpenSpec.upto (s : _root_.Go.ChangeSpec) : _root_.Go.OpenSpec := { _root_.Go.OpenSpec.ofChange s with cond := some uptoSmall }

/-- 'stooklaw02.RowsUndo', WHERE WHAT IT READS IS OF BULK AT MOST 1048576: true; the input reads as it did. -/
def rowsUndoUptoRow : OpenClaim := { program := "ytnobpdgicglieaa", sum := "23636bfaa6d3f8af1d1d76f0d36153430c281b976df2456cb62d758b929362dd", func := "stook/stooklaw02.RowsUndo", spec := "rowsUndo", apart := false, narrowed := true }
def RowsUndoUptoSaid : Prop := rowsUndoUptoRow.holds Try.pinned (OpenSpec.upto rowsUndoSpec)

/-- 'stooklaw02.RowsBrackets', WHERE WHAT IT READS IS OF BULK AT MOST 1048576: true; the input reads as it did. -/
def rowsBracketsUptoRow : OpenClaim := { program := "ytnobpdgicglieaa", sum := "23636bfaa6d3f8af1d1d76f0d36153430c281b976df2456cb62d758b929362dd", func := "stook/stooklaw02.RowsBrackets", spec := "rowsBrackets", apart := false, narrowed := true }
def RowsBracketsUptoSaid : Prop := rowsBracketsUptoRow.holds Try.pinned (OpenSpec.upto rowsBracketsSpec)

/-- 'stooklaw02.RowsPowers', WHERE WHAT IT READS IS OF BULK AT MOST 1048576: true; the input reads as it did. -/
def rowsPowersUptoRow : OpenClaim := { program := "ytnobpdgicglieaa", sum := "23636bfaa6d3f8af1d1d76f0d36153430c281b976df2456cb62d758b929362dd", func := "stook/stooklaw02.RowsPowers", spec := "rowsPowers", apart := false, narrowed := true }
def RowsPowersUptoSaid : Prop := rowsPowersUptoRow.holds Try.pinned (OpenSpec.upto rowsPowersSpec)

/-- 'stooklaw02.RowsPlays', WHERE WHAT IT READS IS OF BULK AT MOST 1048576: true; the input reads as it did. -/
def rowsPlaysUptoRow : OpenClaim := { program := "ytnobpdgicglieaa", sum := "23636bfaa6d3f8af1d1d76f0d36153430c281b976df2456cb62d758b929362dd", func := "stook/stooklaw02.RowsPlays", spec := "rowsPlays", apart := false, narrowed := true }
def RowsPlaysUptoSaid : Prop := rowsPlaysUptoRow.holds Try.pinned (OpenSpec.upto rowsPlaysSpec)

/-- 'stooklaw02.RowsSing', WHERE WHAT IT READS IS OF BULK AT MOST 1048576: true; the input reads as it did. -/
def rowsSingUptoRow : OpenClaim := { program := "ytnobpdgicglieaa", sum := "23636bfaa6d3f8af1d1d76f0d36153430c281b976df2456cb62d758b929362dd", func := "stook/stooklaw02.RowsSing", spec := "rowsSing", apart := false, narrowed := true }
def RowsSingUptoSaid : Prop := rowsSingUptoRow.holds Try.pinned (OpenSpec.upto rowsSingSpec)

/-- 'stooklaw02.RowsPicks', WHERE WHAT IT READS IS OF BULK AT MOST 1048576: true; the input reads as it did. -/
def rowsPicksUptoRow : OpenClaim := { program := "ytnobpdgicglieaa", sum := "23636bfaa6d3f8af1d1d76f0d36153430c281b976df2456cb62d758b929362dd", func := "stook/stooklaw02.RowsPicks", spec := "rowsPicks", apart := false, narrowed := true }
def RowsPicksUptoSaid : Prop := rowsPicksUptoRow.holds Try.pinned (OpenSpec.upto rowsPicksSpec)

/-- 'stooklaw02.RowsTwice', WHERE WHAT IT READS IS OF BULK AT MOST 1048576: true; the input reads as it did. -/
def rowsTwiceUptoRow : OpenClaim := { program := "ytnobpdgicglieaa", sum := "23636bfaa6d3f8af1d1d76f0d36153430c281b976df2456cb62d758b929362dd", func := "stook/stooklaw02.RowsTwice", spec := "rowsTwice", apart := false, narrowed := true }
def RowsTwiceUptoSaid : Prop := rowsTwiceUptoRow.holds Try.pinned (OpenSpec.upto rowsTwiceSpec)

end Rows
end Go.Proofs.Ytnobpdgicglieaa
