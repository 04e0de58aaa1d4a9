/-
  Of any seat that holds strings.Builder: a builder of the call's own, through calls that make memory.
-/
import Derived.Test.YtpickeicchmhnaaDoorOvBuild
namespace Go.Proofs.YtpickeicchmhnaaDoor.Ov
open Go.ChangeShapes Go.WideShapes Go.ChangeAt Go.RowKit

theorem Bld.fresh (w : World) : Bld w.heap.size w.heap.size [] (w.alloc (.cells #[.pointer none, .slice none 0 0] 64)) := Lib.fresh_isBuilder _ _ w
theorem Bld.old {B b : Nat} {l : List UInt8} {w w' : World} (h : Bld B b l w) (k : Below w.heap.size w w') : Bld B b l w' := by
  have key : ∀ p, Lib.BuilderAt 64 5 B b p (Lib.byteCells l) w → Lib.BuilderAt 64 5 B b p (Lib.byteCells l) w' := fun p h => by
    have hlt := h.lt
    obtain ⟨hB, v, hb, hown, hne⟩ := h
    refine ⟨hB, v, by rw [k.block b hlt]; exact hb, hown.kept (row := none) ⟨k.os, k.tape, k.output, k.size, fun i hi _ => k.block i hi⟩ ?_, hne⟩
    cases hv : v.ownBlock with
    | none => exact Or.inl rfl
    | some g => exact Or.inr (by simp)
  exact h.elim (fun h => Or.inl (key _ h)) (fun h => Or.inr (key _ h))
theorem Bld.cast {B b : Nat} {l l' : List UInt8} {w : World} (h : Bld B b l w) (e : l = l') : Bld B b l' w := e ▸ h
end Go.Proofs.YtpickeicchmhnaaDoor.Ov
