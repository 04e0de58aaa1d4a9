/-
  No cell of these rows narrows 'for every input' (looked for: loops, veiled, ifaces, maps, wideKeys, modest, calm, conditions, laid).
  DERIVED. THE GIVEN ROWS OF THIS SEAT. 6 by the template 'for every input the law returns true; each argument reads behind the call as it read before'; 0 by the template 'total and deterministic' (their statements: YtkbhnphkopgccaaTotals.lean).
  GIVEN WITH THE SEED: the statements are not yours to turn. If you find one false, say at which input.
  Laid BY PROGRAM, IN A SANDBOX (cutbox-rows.mjs): the forced cells as the released guide's own fill.sh prints them over the translation ad07542b3a7a7fcc… (all of the seat's roots in one cut). By AI agents, Wed Nov 11 2026. No macro, syntax, notation, axiom, sorry.
-/
import Derived.Test.YtkbhnphkopgccaaChecked
import GoSem.Claim
import GoSem.ClaimJoined
import GoSem.ClaimMapViews
import Derived.JoinedTies
import Derived.KernelRfl
namespace Go.Proofs.Ytkbhnphkopgccaa
/- THE CELL 'sum', in the pinned program and in every row, IS THE sha256 OF THE DUMP (.gsa) THAT YtkbhnphkopgccaaProg.lean LOADS. Nothing in Lean hashes anything: it is a label: what it is worth is what the hold of that sum in a sandbox is worth. -/
noncomputable def Try.pinned : Pinned := { name := "ytkbhnphkopgccaa", sum := "ad07542b3a7a7fcc7901a11828ae306f7946033d60d257bc4fed2d084f227a67", checked := Try.checked }
namespace Rows
def none {H : Type} : Left H := { results := [], args := [] }

/-- 'stooklaw12.SorterRoom': WHATEVER THE INPUT: true; the input reads as it did. -/
def sorterRoomSpec : ChangeSpec := { name := "sorterRoom", fn := fun _ => fun
  | [d1, d2, d3] => { results := [.lit (.bool true)], args := [d1, d2, d3] }
  | _ => none }
def sorterRoomRow : OpenClaim := { program := "ytkbhnphkopgccaa", sum := "ad07542b3a7a7fcc7901a11828ae306f7946033d60d257bc4fed2d084f227a67", func := "stook/stooklaw12.SorterRoom", spec := "sorterRoom", unfollowed := true, recurses := true, apart := false }
def SorterRoomSaid : Prop := sorterRoomRow.holds Try.pinned (OpenSpec.ofChange sorterRoomSpec)

/-- ITS FALSE NEIGHBOUR: 'it returns false'. Refute it at one input. -/
def sorterRoomWrong : ChangeSpec := { name := "sorterRoom", fn := fun _ => fun
  | [d1, d2, d3] => { results := [.lit (.bool false)], args := [d1, d2, d3] }
  | _ => none }
def SorterRoomWrongFalsely : Prop := sorterRoomRow.holds Try.pinned (OpenSpec.ofChange sorterRoomWrong)

/-- 'stooklaw12.SorterFolds': WHATEVER THE INPUT: true; the input reads as it did. -/
def sorterFoldsSpec : ChangeSpec := { name := "sorterFolds", fn := fun _ => fun
  | [d1, d2, d3] => { results := [.lit (.bool true)], args := [d1, d2, d3] }
  | _ => none }
def sorterFoldsRow : OpenClaim := { program := "ytkbhnphkopgccaa", sum := "ad07542b3a7a7fcc7901a11828ae306f7946033d60d257bc4fed2d084f227a67", func := "stook/stooklaw12.SorterFolds", spec := "sorterFolds", unfollowed := true, recurses := true, apart := false }
def SorterFoldsSaid : Prop := sorterFoldsRow.holds Try.pinned (OpenSpec.ofChange sorterFoldsSpec)

/-- ITS FALSE NEIGHBOUR: 'it returns false'. Refute it at one input. -/
def sorterFoldsWrong : ChangeSpec := { name := "sorterFolds", fn := fun _ => fun
  | [d1, d2, d3] => { results := [.lit (.bool false)], args := [d1, d2, d3] }
  | _ => none }
def SorterFoldsWrongFalsely : Prop := sorterFoldsRow.holds Try.pinned (OpenSpec.ofChange sorterFoldsWrong)

/-- 'stooklaw12.SorterPlays': WHATEVER THE INPUT: true; the input reads as it did. -/
def sorterPlaysSpec : ChangeSpec := { name := "sorterPlays", fn := fun _ => fun
  | [d1, d2, d3] => { results := [.lit (.bool true)], args := [d1, d2, d3] }
  | _ => none }
def sorterPlaysRow : OpenClaim := { program := "ytkbhnphkopgccaa", sum := "ad07542b3a7a7fcc7901a11828ae306f7946033d60d257bc4fed2d084f227a67", func := "stook/stooklaw12.SorterPlays", spec := "sorterPlays", unfollowed := true, recurses := true, apart := false }
def SorterPlaysSaid : Prop := sorterPlaysRow.holds Try.pinned (OpenSpec.ofChange sorterPlaysSpec)

/-- ITS FALSE NEIGHBOUR: 'it returns false'. Refute it at one input. -/
def sorterPlaysWrong : ChangeSpec := { name := "sorterPlays", fn := fun _ => fun
  | [d1, d2, d3] => { results := [.lit (.bool false)], args := [d1, d2, d3] }
  | _ => none }
def SorterPlaysWrongFalsely : Prop := sorterPlaysRow.holds Try.pinned (OpenSpec.ofChange sorterPlaysWrong)

/-- 'stooklaw12.SorterMerges': WHATEVER THE INPUT: true; the input reads as it did. -/
def sorterMergesSpec : ChangeSpec := { name := "sorterMerges", fn := fun _ => fun
  | [d1, d2, d3, d4] => { results := [.lit (.bool true)], args := [d1, d2, d3, d4] }
  | _ => none }
def sorterMergesRow : OpenClaim := { program := "ytkbhnphkopgccaa", sum := "ad07542b3a7a7fcc7901a11828ae306f7946033d60d257bc4fed2d084f227a67", func := "stook/stooklaw12.SorterMerges", spec := "sorterMerges", unfollowed := true, recurses := true, apart := false }
def SorterMergesSaid : Prop := sorterMergesRow.holds Try.pinned (OpenSpec.ofChange sorterMergesSpec)

/-- ITS FALSE NEIGHBOUR: 'it returns false'. Refute it at one input. -/
def sorterMergesWrong : ChangeSpec := { name := "sorterMerges", fn := fun _ => fun
  | [d1, d2, d3, d4] => { results := [.lit (.bool false)], args := [d1, d2, d3, d4] }
  | _ => none }
def SorterMergesWrongFalsely : Prop := sorterMergesRow.holds Try.pinned (OpenSpec.ofChange sorterMergesWrong)

/-- 'stooklaw12.SorterNil': WHATEVER THE INPUT: true; the input reads as it did. -/
def sorterNilSpec : ChangeSpec := { name := "sorterNil", fn := fun _ => fun
  | [d] => { results := [.lit (.bool true)], args := [d] }
  | _ => none }
def sorterNilRow : OpenClaim := { program := "ytkbhnphkopgccaa", sum := "ad07542b3a7a7fcc7901a11828ae306f7946033d60d257bc4fed2d084f227a67", func := "stook/stooklaw12.SorterNil", spec := "sorterNil", unfollowed := true, recurses := true, apart := false }
def SorterNilSaid : Prop := sorterNilRow.holds Try.pinned (OpenSpec.ofChange sorterNilSpec)

/-- ITS FALSE NEIGHBOUR: 'it returns false'. Refute it at one input. -/
def sorterNilWrong : ChangeSpec := { name := "sorterNil", fn := fun _ => fun
  | [d] => { results := [.lit (.bool false)], args := [d] }
  | _ => none }
def SorterNilWrongFalsely : Prop := sorterNilRow.holds Try.pinned (OpenSpec.ofChange sorterNilWrong)

/-- 'stooklaw12.SorterRuns': WHATEVER THE INPUT: true; the input reads as it did. -/
def sorterRunsSpec : ChangeSpec := { name := "sorterRuns", fn := fun _ => fun
  | [d1, d2] => { results := [.lit (.bool true)], args := [d1, d2] }
  | _ => none }
def sorterRunsRow : OpenClaim := { program := "ytkbhnphkopgccaa", sum := "ad07542b3a7a7fcc7901a11828ae306f7946033d60d257bc4fed2d084f227a67", func := "stook/stooklaw12.SorterRuns", spec := "sorterRuns", unfollowed := true, recurses := true, apart := false }
def SorterRunsSaid : Prop := sorterRunsRow.holds Try.pinned (OpenSpec.ofChange sorterRunsSpec)

/-- ITS FALSE NEIGHBOUR: 'it returns false'. Refute it at one input. -/
def sorterRunsWrong : ChangeSpec := { name := "sorterRuns", fn := fun _ => fun
  | [d1, d2] => { results := [.lit (.bool false)], args := [d1, d2] }
  | _ => none }
def SorterRunsWrongFalsely : Prop := sorterRunsRow.holds Try.pinned (OpenSpec.ofChange sorterRunsWrong)

/- THE SECOND FORM. 'bulk': how many values and letters a reading holds, each counted each time it is reached (what is shared counts as often as it is met; a slice's spare places count too). A statement '..UptoSaid' is the law's where the arguments, and the package variables that the reading takes, are together of bulk at most 1048576: NARROWER than '..Said'. Prove '..Said' where nothing that the law and all that it calls make is longer than what came in: it says more and counts as full. Else prove '..UptoSaid'. A law counts once. -/
mutual
def uptoBulk {H : Type} : DataW H → Nat
  | .lit (.string bytes) => bytes.length + 1
  | .lit _ => 1
  | .nil => 1
  | .ptr d => uptoBulk d + 1
  | .slice elems spare => uptoBulkAll elems + uptoBulkAll spare + 1
  | .agg parts => uptoBulkAll parts + 1
  | .iface _ d => uptoBulk d + 1
  | .map entries => uptoBulkEntries entries + 1
  | .held _ => 1
def uptoBulkAll {H : Type} : List (DataW H) → Nat
  | [] => 0
  | d :: r => uptoBulk d + uptoBulkAll r
def uptoBulkEntries {H : Type} : List (Lit × DataW H) → Nat
  | [] => 0
  | x :: r => uptoBulkEntry x + uptoBulkEntries r
def uptoBulkEntry {H : Type} : Lit × DataW H → Nat
  | (.string bytes, d) => bytes.length + uptoBulk d + 1
  | (_, d) => uptoBulk d + 1
 end
def uptoSmall : (H : Type) → List (DataW H) → Bool := fun _ ds => decide (uptoBulkAll ds ≤ 1048576)
def OpenSpec.upto (s : _root_.Go.ChangeSpec) : _root_.Go.OpenSpec := { _root_.Go.OpenSpec.ofChange s with cond := some uptoSmall }

/-- 'stooklaw12.SorterRoom', WHERE WHAT IT READS IS OF BULK AT MOST 1048576: true; the input reads as it did. -/
def sorterRoomUptoRow : OpenClaim := { program := "ytkbhnphkopgccaa", sum := "ad07542b3a7a7fcc7901a11828ae306f7946033d60d257bc4fed2d084f227a67", func := "stook/stooklaw12.SorterRoom", spec := "sorterRoom", unfollowed := true, recurses := true, apart := false, narrowed := true }
def SorterRoomUptoSaid : Prop := sorterRoomUptoRow.holds Try.pinned (OpenSpec.upto sorterRoomSpec)

/-- 'stooklaw12.SorterFolds', WHERE WHAT IT READS IS OF BULK AT MOST 1048576: true; the input reads as it did. -/
def sorterFoldsUptoRow : OpenClaim := { program := "ytkbhnphkopgccaa", sum := "ad07542b3a7a7fcc7901a11828ae306f7946033d60d257bc4fed2d084f227a67", func := "stook/stooklaw12.SorterFolds", spec := "sorterFolds", unfollowed := true, recurses := true, apart := false, narrowed := true }
def SorterFoldsUptoSaid : Prop := sorterFoldsUptoRow.holds Try.pinned (OpenSpec.upto sorterFoldsSpec)

/-- 'stooklaw12.SorterPlays', WHERE WHAT IT READS IS OF BULK AT MOST 1048576: true; the input reads as it did. -/
def sorterPlaysUptoRow : OpenClaim := { program := "ytkbhnphkopgccaa", sum := "ad07542b3a7a7fcc7901a11828ae306f7946033d60d257bc4fed2d084f227a67", func := "stook/stooklaw12.SorterPlays", spec := "sorterPlays", unfollowed := true, recurses := true, apart := false, narrowed := true }
def SorterPlaysUptoSaid : Prop := sorterPlaysUptoRow.holds Try.pinned (OpenSpec.upto sorterPlaysSpec)

/-- 'stooklaw12.SorterMerges', WHERE WHAT IT READS IS OF BULK AT MOST 1048576: true; the input reads as it did. -/
def sorterMergesUptoRow : OpenClaim := { program := "ytkbhnphkopgccaa", sum := "ad07542b3a7a7fcc7901a11828ae306f7946033d60d257bc4fed2d084f227a67", func := "stook/stooklaw12.SorterMerges", spec := "sorterMerges", unfollowed := true, recurses := true, apart := false, narrowed := true }
def SorterMergesUptoSaid : Prop := sorterMergesUptoRow.holds Try.pinned (OpenSpec.upto sorterMergesSpec)

/-- 'stooklaw12.SorterNil', WHERE WHAT IT READS IS OF BULK AT MOST 1048576: true; the input reads as it did. -/
def sorterNilUptoRow : OpenClaim := { program := "ytkbhnphkopgccaa", sum := "ad07542b3a7a7fcc7901a11828ae306f7946033d60d257bc4fed2d084f227a67", func := "stook/stooklaw12.SorterNil", spec := "sorterNil", unfollowed := true, recurses := true, apart := false, narrowed := true }
def SorterNilUptoSaid : Prop := sorterNilUptoRow.holds Try.pinned (OpenSpec.upto sorterNilSpec)

/-- 'stooklaw12.SorterRuns', WHERE WHAT IT READS IS OF BULK AT MOST 1048576: true; the input reads as it did. -/
def sorterRunsUptoRow : OpenClaim := { program := "ytkbhnphkopgccaa", sum := "ad07542b3a7a7fcc7901a11828ae306f7946033d60d257bc4fed2d084f227a67", func := "stook/stooklaw12.SorterRuns", spec := "sorterRuns", unfollowed := true, recurses := true, apart := false, narrowed := true }
def SorterRunsUptoSaid : Prop := sorterRunsUptoRow.holds Try.pinned (OpenSpec.upto sorterRunsSpec)

end Rows
end Go.Proofs.Ytkbhnphkopgccaa
