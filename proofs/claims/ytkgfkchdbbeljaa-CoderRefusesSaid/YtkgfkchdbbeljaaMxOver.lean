/-
  A region that draws its order, whose callees may make memory of their own but answer one value whatever was made: walked once, in the order of the text. The worlds are all that lie over the first one.
-/
import Derived.Test.YtkgfkchdbbeljaaMxMem
import Derived.BigQuiet
namespace Go.Proofs.Ytkgfkchdbbeljaa.Mx
open Go.ChangeShapes Go.WideShapes Go.ChangeAt Go.RowKit

/-- A world in which all that was there is as it was. -/
def Over (w : World) : Type := { x : World // Below w.heap.size w x }
instance (w : World) : Nonempty (Over w) := ⟨⟨w, Below.refl _ _⟩⟩
theorem wp_over {P : Program} {id : Nat} {Q : Exit → Act → World → Prop} {a : Act} {w : World} {l : List Oper} (hm : P.follows .mixedOrders = true) (hB : Region.lexB .any l.toArray = true)
    (h : wpQuiet P l.toArray (fun w' => ∃ q : Over w, w' = q.val) (fun a' => ∀ w', (∃ q : Over w, w' = q.val) → Q .normal a' w') l a) : (Code.region id l.toArray true).wp P Q a w :=
  wp_region_quiet (C := fun w' => ∃ q : Over w, w' = q.val) hm hB ⟨⟨w.drew, below_drewN (Below.refl _ _) 1⟩, rfl⟩ (by simpa using h)
section
variable {w : World}
theorem over_cell (q : Over w) {p : Addr} {v : Value} (h : w.cell? p = some v) : q.val.cell? p = some v := by
  rw [q.property.cell (p := p) (block_lt_of_cell h)]; exact h
theorem over_make {P : Program} {f : FuncId} {args : Array Value} {v : Value} (q : Over w) (h : Calls P f args q.val fun e w' => e = .returned v ∧ Below q.val.heap.size q.val w') :
    Calls P f args q.val fun e w' => e = .returned v ∧ ∃ q' : Over w, w' = q'.val :=
  h.mono fun _ w' ⟨he, hb⟩ => ⟨he, ⟨w', Below.next q.property hb⟩, rfl⟩
theorem over_same {P : Program} {f : FuncId} {args : Array Value} {v : Value} (q : Over w) (h : Calls P f args q.val fun e w' => e = .returned v ∧ w' = q.val) :
    Calls P f args q.val fun e w' => e = .returned v ∧ ∃ q' : Over w, w' = q'.val :=
  h.mono fun _ _ ⟨he, hw⟩ => ⟨he, q, hw⟩
theorem over_drew {P : Program} {f : FuncId} {args : Array Value} {v : Value} (q : Over w) (h : Calls P f args q.val fun e w' => e = .returned v ∧ ∃ m, w' = q.val.drewN m) :
    Calls P f args q.val fun e w' => e = .returned v ∧ ∃ q' : Over w, w' = q'.val :=
  h.mono fun _ _ ⟨he, m, hw⟩ => ⟨he, ⟨q.val.drewN m, below_drewN q.property m⟩, hw⟩
end
end Go.Proofs.Ytkgfkchdbbeljaa.Mx
