/-
  No cell of these rows narrows 'for every input' (looked for: loops, veiled, ifaces, maps, wideKeys, modest, calm, conditions, laid).
  DERIVED. THE GIVEN ROWS OF THIS SEAT. 4 by the template 'for every input the law returns true; each argument reads behind the call as it read before'; 0 by the template 'total and deterministic' (their statements: YtkgfkchdbbeljaaTotals.lean).
  GIVEN WITH THE SEED: the statements are not yours to turn. If you find one false, say at which input.
  Laid BY PROGRAM, IN A SANDBOX (cutbox-rows.mjs): the forced cells as the released guide's own fill.sh prints them over the translation 3b1a8157c9ce4d78… (all of the seat's roots in one cut). By AI agents, Wed Nov 11 2026. No macro, syntax, notation, axiom, sorry.
-/
import Derived.Test.YtkgfkchdbbeljaaChecked
import GoSem.Claim
import GoSem.ClaimJoined
import GoSem.ClaimMapViews
import Derived.JoinedTies
import Derived.KernelRfl
namespace Go.Proofs.Ytkgfkchdbbeljaa
/- THE CELL 'sum', in the pinned program and in every row, IS THE sha256 OF THE DUMP (.gsa) THAT YtkgfkchdbbeljaaProg.lean LOADS. Nothing in Lean hashes anything: it is a label: what it is worth is what the hold of that sum in a sandbox is worth. -/
noncomputable def Try.pinned : Pinned := { name := "ytkgfkchdbbeljaa", sum := "3b1a8157c9ce4d78e39625086f96bac56d6bec480eef5d14832b6033b98d0714", checked := Try.checked }
namespace Rows
def none {H : Type} : Left H := { results := [], args := [] }

/-- 'stooklaw03.CoderReads': WHATEVER THE INPUT: true; the input reads as it did. -/
def coderReadsSpec : ChangeSpec := { name := "coderReads", fn := fun _ => fun
  | [d1, d2, d3, d4, d5] => { results := [.lit (.bool true)], args := [d1, d2, d3, d4, d5] }
  | _ => none }
def coderReadsRow : OpenClaim := { program := "ytkgfkchdbbeljaa", sum := "3b1a8157c9ce4d78e39625086f96bac56d6bec480eef5d14832b6033b98d0714", func := "stook/stooklaw03.CoderReads", spec := "coderReads", apart := false }
def CoderReadsSaid : Prop := coderReadsRow.holds Try.pinned (OpenSpec.ofChange coderReadsSpec)

/-- ITS FALSE NEIGHBOUR: 'it returns false'. Refute it at one input. -/
def coderReadsWrong : ChangeSpec := { name := "coderReads", fn := fun _ => fun
  | [d1, d2, d3, d4, d5] => { results := [.lit (.bool false)], args := [d1, d2, d3, d4, d5] }
  | _ => none }
def CoderReadsWrongFalsely : Prop := coderReadsRow.holds Try.pinned (OpenSpec.ofChange coderReadsWrong)

/-- 'stooklaw03.CoderSums': WHATEVER THE INPUT: true; the input reads as it did. -/
def coderSumsSpec : ChangeSpec := { name := "coderSums", fn := fun _ => fun
  | [d1, d2, d3] => { results := [.lit (.bool true)], args := [d1, d2, d3] }
  | _ => none }
def coderSumsRow : OpenClaim := { program := "ytkgfkchdbbeljaa", sum := "3b1a8157c9ce4d78e39625086f96bac56d6bec480eef5d14832b6033b98d0714", func := "stook/stooklaw03.CoderSums", spec := "coderSums", apart := false }
def CoderSumsSaid : Prop := coderSumsRow.holds Try.pinned (OpenSpec.ofChange coderSumsSpec)

/-- ITS FALSE NEIGHBOUR: 'it returns false'. Refute it at one input. -/
def coderSumsWrong : ChangeSpec := { name := "coderSums", fn := fun _ => fun
  | [d1, d2, d3] => { results := [.lit (.bool false)], args := [d1, d2, d3] }
  | _ => none }
def CoderSumsWrongFalsely : Prop := coderSumsRow.holds Try.pinned (OpenSpec.ofChange coderSumsWrong)

/-- 'stooklaw03.CoderRefuses': WHATEVER THE INPUT: true; the input reads as it did. -/
def coderRefusesSpec : ChangeSpec := { name := "coderRefuses", fn := fun _ => fun
  | [d1, d2, d3, d4] => { results := [.lit (.bool true)], args := [d1, d2, d3, d4] }
  | _ => none }
def coderRefusesRow : OpenClaim := { program := "ytkgfkchdbbeljaa", sum := "3b1a8157c9ce4d78e39625086f96bac56d6bec480eef5d14832b6033b98d0714", func := "stook/stooklaw03.CoderRefuses", spec := "coderRefuses", apart := false }
def CoderRefusesSaid : Prop := coderRefusesRow.holds Try.pinned (OpenSpec.ofChange coderRefusesSpec)

/-- ITS FALSE NEIGHBOUR: 'it returns false'. Refute it at one input. -/
def coderRefusesWrong : ChangeSpec := { name := "coderRefuses", fn := fun _ => fun
  | [d1, d2, d3, d4] => { results := [.lit (.bool false)], args := [d1, d2, d3, d4] }
  | _ => none }
def CoderRefusesWrongFalsely : Prop := coderRefusesRow.holds Try.pinned (OpenSpec.ofChange coderRefusesWrong)

/-- 'stooklaw03.CoderAll': WHATEVER THE INPUT: true; the input reads as it did. -/
def coderAllSpec : ChangeSpec := { name := "coderAll", fn := fun _ => fun
  | [d1, d2, d3, d4] => { results := [.lit (.bool true)], args := [d1, d2, d3, d4] }
  | _ => none }
def coderAllRow : OpenClaim := { program := "ytkgfkchdbbeljaa", sum := "3b1a8157c9ce4d78e39625086f96bac56d6bec480eef5d14832b6033b98d0714", func := "stook/stooklaw03.CoderAll", spec := "coderAll", apart := false }
def CoderAllSaid : Prop := coderAllRow.holds Try.pinned (OpenSpec.ofChange coderAllSpec)

/-- ITS FALSE NEIGHBOUR: 'it returns false'. Refute it at one input. -/
def coderAllWrong : ChangeSpec := { name := "coderAll", fn := fun _ => fun
  | [d1, d2, d3, d4] => { results := [.lit (.bool false)], args := [d1, d2, d3, d4] }
  | _ => none }
def CoderAllWrongFalsely : Prop := coderAllRow.holds Try.pinned (OpenSpec.ofChange coderAllWrong)

/- THE SECOND FORM. 'bulk': how many values and letters a reading holds, each counted each time it is reached (what is shared counts as often as it is met; a slice's spare places count too). A statement '..UptoSaid' is the law's where the arguments, and the package variables that the reading takes, are together of bulk at most 1048576: NARROWER than '..Said'. Prove '..Said' where nothing that the law and all that it calls make is longer than what came in: it says more and counts as full. Else prove '..UptoSaid'. A law counts once. -/
mutual
def uptoBulk {H : Type} : DataW H → Nat
  | .lit (.string bytes) => bytes.length + 1
  | .lit _ => 1
  | .nil => 1
  | .ptr d => uptoBulk d + 1
  | .slice elems spare => uptoBulkAll elems + uptoBulkAll spare + 1
  | .agg parts => uptoBulkAll parts + 1
  | .iface _ d => uptoBulk d + 1
  | .map entries => uptoBulkEntries entries + 1
  | .held _ => 1
def uptoBulkAll {H : Type} : List (DataW H) → Nat
  | [] => 0
  | d :: r => uptoBulk d + uptoBulkAll r
def uptoBulkEntries {H : Type} : List (Lit × DataW H) → Nat
  | [] => 0
  | x :: r => uptoBulkEntry x + uptoBulkEntries r
def uptoBulkEntry {H : Type} : Lit × DataW H → Nat
  | (.string bytes, d) => bytes.length + uptoBulk d + 1
  | (_, d) => uptoBulk d + 1
 end
def uptoSmall : (H : Type) → List (DataW H) → Bool := fun _ ds => decide (uptoBulkAll ds ≤ 1048576)
def OpenSpec.upto (s : _root_.Go.ChangeSpec) : _root_.Go.OpenSpec := { _root_.Go.OpenSpec.ofChange s with cond := some uptoSmall }

/-- 'stooklaw03.CoderReads', WHERE WHAT IT READS IS OF BULK AT MOST 1048576: true; the input reads as it did. -/
def coderReadsUptoRow : OpenClaim := { program := "ytkgfkchdbbeljaa", sum := "3b1a8157c9ce4d78e39625086f96bac56d6bec480eef5d14832b6033b98d0714", func := "stook/stooklaw03.CoderReads", spec := "coderReads", apart := false, narrowed := true }
def CoderReadsUptoSaid : Prop := coderReadsUptoRow.holds Try.pinned (OpenSpec.upto coderReadsSpec)

/-- 'stooklaw03.CoderSums', WHERE WHAT IT READS IS OF BULK AT MOST 1048576: true; the input reads as it did. -/
def coderSumsUptoRow : OpenClaim := { program := "ytkgfkchdbbeljaa", sum := "3b1a8157c9ce4d78e39625086f96bac56d6bec480eef5d14832b6033b98d0714", func := "stook/stooklaw03.CoderSums", spec := "coderSums", apart := false, narrowed := true }
def CoderSumsUptoSaid : Prop := coderSumsUptoRow.holds Try.pinned (OpenSpec.upto coderSumsSpec)

/-- 'stooklaw03.CoderRefuses', WHERE WHAT IT READS IS OF BULK AT MOST 1048576: true; the input reads as it did. -/
def coderRefusesUptoRow : OpenClaim := { program := "ytkgfkchdbbeljaa", sum := "3b1a8157c9ce4d78e39625086f96bac56d6bec480eef5d14832b6033b98d0714", func := "stook/stooklaw03.CoderRefuses", spec := "coderRefuses", apart := false, narrowed := true }
def CoderRefusesUptoSaid : Prop := coderRefusesUptoRow.holds Try.pinned (OpenSpec.upto coderRefusesSpec)

/-- 'stooklaw03.CoderAll', WHERE WHAT IT READS IS OF BULK AT MOST 1048576: true; the input reads as it did. -/
def coderAllUptoRow : OpenClaim := { program := "ytkgfkchdbbeljaa", sum := "3b1a8157c9ce4d78e39625086f96bac56d6bec480eef5d14832b6033b98d0714", func := "stook/stooklaw03.CoderAll", spec := "coderAll", apart := false, narrowed := true }
def CoderAllUptoSaid : Prop := coderAllUptoRow.holds Try.pinned (OpenSpec.upto coderAllSpec)

end Rows
end Go.Proofs.Ytkgfkchdbbeljaa
