/-
  Of any seat that holds strings.Builder: WriteString, WriteByte, String, Len, by the shelf's forms that keep what lies above the builder (laid in plain words; written by gen_lay.py).
-/
import Derived.Test.YtgakcpcpfkoaiaaOvBuild
import Derived.Shelf.Strings.BuilderK
import Derived.Lib.OthersKept
namespace Go.Proofs.Ytgakcpcpfkoaiaa.Ov
open Go.ChangeShapes Go.WideShapes Go.ChangeAt Go.RowKit Go.Shelf

/-- A builder of the call's own in block b, in which the bytes l lie. -/
def BldF (B b : Nat) (l : List UInt8) (w : World) : Prop := Lib.IsBuilderF 50 5 B b (Lib.byteCells l) w
/-- Every block that isn't the builder's and no row of bytes stands as it stood. -/
def Kept (b : Nat) (w w' : World) : Prop := Lib.OthersKept 5 (some b) w w'
theorem writeK_any (B b : Nat) (l : List UInt8) (s : ByteArray) (w : World) (h : BldF B b l w) (hlen : l.length + s.size ≤ 140737488355328) (hB : B ≤ w.heap.size) :
    Calls Try.prog 19 #[.pointer (some ⟨b, 0, none⟩), .string s] w fun e w' => e = .returned (.tuple #[.int .i64 s.size, .nilIface]) ∧ BldF B b (l ++ s.data.toList) w' ∧ Below B w w' ∧ Kept b w w' :=
  (Any.Builder_WriteString_k bwsLays bwsExtra B b (Lib.byteCells l) s w h (by rw [Lib.byteCells_length]; exact hlen) hB).mono fun _ w' ⟨he, h1, hb, hk⟩ =>
    ⟨he, by
      rw [Lib.strCells_eq, ← Lib.byteCells_append] at h1
      exact Or.inr h1, hb, hk⟩
theorem stringK_any (B b : Nat) (l : List UInt8) (w : World) (h : BldF B b l w) (hB : B ≤ w.heap.size) :
    Calls Try.prog 23 #[.pointer (some ⟨b, 0, none⟩)] w fun e w' => e = .returned (.string (tx l)) ∧ BldF B b l w' ∧ Below B w w' ∧ Kept b w w' :=
  (Any.Builder_String_any_k bstLays bstExtra B b l w h hB).mono fun _ _ ⟨he, h1, hb, hk⟩ => ⟨he, h1, hb, hk⟩
theorem BldF.fresh (w : World) : BldF w.heap.size w.heap.size [] (w.alloc (.cells #[.pointer none, .slice none 0 0] 50)) := Lib.IsBuilderF.of (Lib.fresh_isBuilder _ _ w)
theorem BldF.old {B b : Nat} {l : List UInt8} {w w' : World} (h : BldF B b l w) (k : Below w.heap.size w w') : BldF B b l w' := by
  have key : ∀ p, Lib.BuilderAtF 50 5 B b p (Lib.byteCells l) w → Lib.BuilderAtF 50 5 B b p (Lib.byteCells l) w' := fun p h => by
    have hlt := h.lt
    obtain ⟨hB, v, hb, hown, hne⟩ := h
    refine ⟨hB, v, by rw [k.block b hlt]; exact hb, hown.kept (row := none) ⟨k.os, k.tape, k.output, k.size, fun i hi _ => k.block i hi⟩ ?_, hne⟩
    cases hv : v.ownBlock with
    | none => exact Or.inl rfl
    | some g => exact Or.inr (by simp)
  exact h.elim (fun h => Or.inl (key _ h)) (fun h => Or.inr (key _ h))
theorem BldF.cast {B b : Nat} {l l' : List UInt8} {w : World} (h : BldF B b l w) (e : l = l') : BldF B b l' w := e ▸ h
theorem BldF.lt {B b : Nat} {l : List UInt8} {w : World} (h : BldF B b l w) : b < w.heap.size := h.elim (fun h => h.lt) (fun h => h.lt)
theorem BldF.lo {B b : Nat} {l : List UInt8} {w : World} (h : BldF B b l w) : B ≤ b := h.elim (fun h => h.1) (fun h => h.1)
theorem Kept.refl (b : Nat) (w : World) : Kept b w w := Lib.OthersKept.refl _ _ _
theorem Kept.trans {b : Nat} {w w1 w2 : World} (h : Kept b w w1) (k : Kept b w1 w2) : Kept b w w2 := Lib.OthersKept.trans h k
theorem Kept.of_below {b : Nat} {w w' : World} (k : Below w.heap.size w w') : Kept b w w' := fun i o hi _ _ => by
  rw [k.block i (Array.getElem?_eq_some_iff.1 hi).1]; exact hi
end Go.Proofs.Ytgakcpcpfkoaiaa.Ov
