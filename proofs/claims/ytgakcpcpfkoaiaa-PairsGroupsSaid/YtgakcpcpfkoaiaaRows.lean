/-
  No cell of these rows narrows 'for every input' (looked for: loops, veiled, ifaces, maps, wideKeys, modest, calm, conditions, laid).
  DERIVED. THE GIVEN ROWS OF THIS SEAT. 5 by the template 'for every input the law returns true; each argument reads behind the call as it read before'; 0 by the template 'total and deterministic' (their statements: YtgakcpcpfkoaiaaTotals.lean).
  GIVEN WITH THE SEED: the statements are not yours to turn. If you find one false, say at which input.
  Laid BY PROGRAM, IN A SANDBOX (cutbox-rows.mjs): the forced cells as the released guide's own fill.sh prints them over the translation 2154e28f10595346… (all of the seat's roots in one cut). By AI agents, Wed Nov 11 2026. No macro, syntax, notation, axiom, sorry.
-/
import Derived.Test.YtgakcpcpfkoaiaaChecked
import GoSem.Claim
import GoSem.ClaimJoined
import GoSem.ClaimMapViews
import Derived.JoinedTies
import Derived.KernelRfl
namespace Go.Proofs.Ytgakcpcpfkoaiaa
/- THE CELL 'sum', in the pinned program and in every row, IS THE sha256 OF THE DUMP (.gsa) THAT YtgakcpcpfkoaiaaProg.lean LOADS. Nothing in Lean hashes anything: it is a label: what it is worth is what the hold of that sum in a sandbox is worth. -/
noncomputable def Try.pinned : Pinned := { name := "ytgakcpcpfkoaiaa", sum := "2154e28f1059534636e16e3a46e789057eda9ea647471f38c9285862e023b1a3", checked := Try.checked }
namespace Rows
def none {H : Type} : Left H := { results := [], args := [] }

/-- 'stooklaw11.PairsBack': WHATEVER THE INPUT: true; the input reads as it did. -/
def pairsBackSpec : ChangeSpec := { name := "pairsBack", fn := fun _ => fun
  | [d] => { results := [.lit (.bool true)], args := [d] }
  | _ => none }
def pairsBackRow : OpenClaim := { program := "ytgakcpcpfkoaiaa", sum := "2154e28f1059534636e16e3a46e789057eda9ea647471f38c9285862e023b1a3", func := "stook/stooklaw11.PairsBack", spec := "pairsBack", inPlace := ["internal/abi.NoEscape"], unfollowed := true, recurses := true, apart := false }
def PairsBackSaid : Prop := pairsBackRow.holds Try.pinned (OpenSpec.ofChange pairsBackSpec)

/-- ITS FALSE NEIGHBOUR: 'it returns false'. Refute it at one input. -/
def pairsBackWrong : ChangeSpec := { name := "pairsBack", fn := fun _ => fun
  | [d] => { results := [.lit (.bool false)], args := [d] }
  | _ => none }
def PairsBackWrongFalsely : Prop := pairsBackRow.holds Try.pinned (OpenSpec.ofChange pairsBackWrong)

/-- 'stooklaw11.PairsOnly': WHATEVER THE INPUT: true; the input reads as it did. -/
def pairsOnlySpec : ChangeSpec := { name := "pairsOnly", fn := fun _ => fun
  | [d] => { results := [.lit (.bool true)], args := [d] }
  | _ => none }
def pairsOnlyRow : OpenClaim := { program := "ytgakcpcpfkoaiaa", sum := "2154e28f1059534636e16e3a46e789057eda9ea647471f38c9285862e023b1a3", func := "stook/stooklaw11.PairsOnly", spec := "pairsOnly", inPlace := ["internal/abi.NoEscape"], unfollowed := true, recurses := true, apart := false }
def PairsOnlySaid : Prop := pairsOnlyRow.holds Try.pinned (OpenSpec.ofChange pairsOnlySpec)

/-- ITS FALSE NEIGHBOUR: 'it returns false'. Refute it at one input. -/
def pairsOnlyWrong : ChangeSpec := { name := "pairsOnly", fn := fun _ => fun
  | [d] => { results := [.lit (.bool false)], args := [d] }
  | _ => none }
def PairsOnlyWrongFalsely : Prop := pairsOnlyRow.holds Try.pinned (OpenSpec.ofChange pairsOnlyWrong)

/-- 'stooklaw11.PairsJoin': WHATEVER THE INPUT: true; the input reads as it did. -/
def pairsJoinSpec : ChangeSpec := { name := "pairsJoin", fn := fun _ => fun
  | [d1, d2, d3] => { results := [.lit (.bool true)], args := [d1, d2, d3] }
  | _ => none }
def pairsJoinRow : OpenClaim := { program := "ytgakcpcpfkoaiaa", sum := "2154e28f1059534636e16e3a46e789057eda9ea647471f38c9285862e023b1a3", func := "stook/stooklaw11.PairsJoin", spec := "pairsJoin", unfollowed := true, recurses := true, apart := false }
def PairsJoinSaid : Prop := pairsJoinRow.holds Try.pinned (OpenSpec.ofChange pairsJoinSpec)

/-- ITS FALSE NEIGHBOUR: 'it returns false'. Refute it at one input. -/
def pairsJoinWrong : ChangeSpec := { name := "pairsJoin", fn := fun _ => fun
  | [d1, d2, d3] => { results := [.lit (.bool false)], args := [d1, d2, d3] }
  | _ => none }
def PairsJoinWrongFalsely : Prop := pairsJoinRow.holds Try.pinned (OpenSpec.ofChange pairsJoinWrong)

/-- 'stooklaw11.PairsGroups': WHATEVER THE INPUT: true; the input reads as it did. -/
def pairsGroupsSpec : ChangeSpec := { name := "pairsGroups", fn := fun _ => fun
  | [d1, d2] => { results := [.lit (.bool true)], args := [d1, d2] }
  | _ => none }
def pairsGroupsRow : OpenClaim := { program := "ytgakcpcpfkoaiaa", sum := "2154e28f1059534636e16e3a46e789057eda9ea647471f38c9285862e023b1a3", func := "stook/stooklaw11.PairsGroups", spec := "pairsGroups", unfollowed := true, recurses := true, apart := false }
def PairsGroupsSaid : Prop := pairsGroupsRow.holds Try.pinned (OpenSpec.ofChange pairsGroupsSpec)

/-- ITS FALSE NEIGHBOUR: 'it returns false'. Refute it at one input. -/
def pairsGroupsWrong : ChangeSpec := { name := "pairsGroups", fn := fun _ => fun
  | [d1, d2] => { results := [.lit (.bool false)], args := [d1, d2] }
  | _ => none }
def PairsGroupsWrongFalsely : Prop := pairsGroupsRow.holds Try.pinned (OpenSpec.ofChange pairsGroupsWrong)

/-- 'stooklaw11.PairsOnce': WHATEVER THE INPUT: true; the input reads as it did. -/
def pairsOnceSpec : ChangeSpec := { name := "pairsOnce", fn := fun _ => fun
  | [d1, d2] => { results := [.lit (.bool true)], args := [d1, d2] }
  | _ => none }
def pairsOnceRow : OpenClaim := { program := "ytgakcpcpfkoaiaa", sum := "2154e28f1059534636e16e3a46e789057eda9ea647471f38c9285862e023b1a3", func := "stook/stooklaw11.PairsOnce", spec := "pairsOnce", unfollowed := true, recurses := true, apart := false }
def PairsOnceSaid : Prop := pairsOnceRow.holds Try.pinned (OpenSpec.ofChange pairsOnceSpec)

/-- ITS FALSE NEIGHBOUR: 'it returns false'. Refute it at one input. -/
def pairsOnceWrong : ChangeSpec := { name := "pairsOnce", fn := fun _ => fun
  | [d1, d2] => { results := [.lit (.bool false)], args := [d1, d2] }
  | _ => none }
def PairsOnceWrongFalsely : Prop := pairsOnceRow.holds Try.pinned (OpenSpec.ofChange pairsOnceWrong)

/- THE SECOND FORM. 'bulk': how many values and letters a reading holds, each counted each time it is reached (what is shared counts as often as it is met; a slice's spare places count too). A statement '..UptoSaid' is the law's where the arguments, and the package variables that the reading takes, are together of bulk at most 1048576: NARROWER than '..Said'. Prove '..Said' where nothing that the law and all that it calls make is longer than what came in: it says more and counts as full. Else prove '..UptoSaid'. A law counts once. -/
mutual
def uptoBulk {H : Type} : DataW H → Nat
  | .lit (.string bytes) => bytes.length + 1
  | .lit _ => 1
  | .nil => 1
  | .ptr d => uptoBulk d + 1
  | .slice elems spare => uptoBulkAll elems + uptoBulkAll spare + 1
  | .agg parts => uptoBulkAll parts + 1
  | .iface _ d => uptoBulk d + 1
  | .map entries => uptoBulkEntries entries + 1
  | .held _ => 1
def uptoBulkAll {H : Type} : List (DataW H) → Nat
  | [] => 0
  | d :: r => uptoBulk d + uptoBulkAll r
def uptoBulkEntries {H : Type} : List (Lit × DataW H) → Nat
  | [] => 0
  | x :: r => uptoBulkEntry x + uptoBulkEntries r
def uptoBulkEntry {H : Type} : Lit × DataW H → Nat
  | (.string bytes, d) => bytes.length + uptoBulk d + 1
  | (_, d) => uptoBulk d + 1
 end
def uptoSmall : (H : Type) → List (DataW H) → Bool := fun _ ds => decide (uptoBulkAll ds ≤ 1048576)
def OpenSpec.upto (s : _root_.Go.ChangeSpec) : _root_.Go.OpenSpec := { _root_.Go.OpenSpec.ofChange s with cond := some uptoSmall }

/-- 'stooklaw11.PairsBack', WHERE WHAT IT READS IS OF BULK AT MOST 1048576: true; the input reads as it did. -/
def pairsBackUptoRow : OpenClaim := { program := "ytgakcpcpfkoaiaa", sum := "2154e28f1059534636e16e3a46e789057eda9ea647471f38c9285862e023b1a3", func := "stook/stooklaw11.PairsBack", spec := "pairsBack", inPlace := ["internal/abi.NoEscape"], unfollowed := true, recurses := true, apart := false, narrowed := true }
def PairsBackUptoSaid : Prop := pairsBackUptoRow.holds Try.pinned (OpenSpec.upto pairsBackSpec)

/-- 'stooklaw11.PairsOnly', WHERE WHAT IT READS IS OF BULK AT MOST 1048576: true; the input reads as it did. -/
def pairsOnlyUptoRow : OpenClaim := { program := "ytgakcpcpfkoaiaa", sum := "2154e28f1059534636e16e3a46e789057eda9ea647471f38c9285862e023b1a3", func := "stook/stooklaw11.PairsOnly", spec := "pairsOnly", inPlace := ["internal/abi.NoEscape"], unfollowed := true, recurses := true, apart := false, narrowed := true }
def PairsOnlyUptoSaid : Prop := pairsOnlyUptoRow.holds Try.pinned (OpenSpec.upto pairsOnlySpec)

/-- 'stooklaw11.PairsJoin', WHERE WHAT IT READS IS OF BULK AT MOST 1048576: true; the input reads as it did. -/
def pairsJoinUptoRow : OpenClaim := { program := "ytgakcpcpfkoaiaa", sum := "2154e28f1059534636e16e3a46e789057eda9ea647471f38c9285862e023b1a3", func := "stook/stooklaw11.PairsJoin", spec := "pairsJoin", unfollowed := true, recurses := true, apart := false, narrowed := true }
def PairsJoinUptoSaid : Prop := pairsJoinUptoRow.holds Try.pinned (OpenSpec.upto pairsJoinSpec)

/-- 'stooklaw11.PairsGroups', WHERE WHAT IT READS IS OF BULK AT MOST 1048576: true; the input reads as it did. -/
def pairsGroupsUptoRow : OpenClaim := { program := "ytgakcpcpfkoaiaa", sum := "2154e28f1059534636e16e3a46e789057eda9ea647471f38c9285862e023b1a3", func := "stook/stooklaw11.PairsGroups", spec := "pairsGroups", unfollowed := true, recurses := true, apart := false, narrowed := true }
def PairsGroupsUptoSaid : Prop := pairsGroupsUptoRow.holds Try.pinned (OpenSpec.upto pairsGroupsSpec)

/-- 'stooklaw11.PairsOnce', WHERE WHAT IT READS IS OF BULK AT MOST 1048576: true; the input reads as it did. -/
def pairsOnceUptoRow : OpenClaim := { program := "ytgakcpcpfkoaiaa", sum := "2154e28f1059534636e16e3a46e789057eda9ea647471f38c9285862e023b1a3", func := "stook/stooklaw11.PairsOnce", spec := "pairsOnce", unfollowed := true, recurses := true, apart := false, narrowed := true }
def PairsOnceUptoSaid : Prop := pairsOnceUptoRow.holds Try.pinned (OpenSpec.upto pairsOnceSpec)

end Rows
end Go.Proofs.Ytgakcpcpfkoaiaa
