/-
  Of any seat that holds strings.Builder: what WriteString, WriteByte and String answer, by the shelf (laid in plain words; written by gen_lay.py).
-/
import Derived.Test.YtgakcpcpfkoaiaaOvBase
import Derived.Shelf.Strings.Builder1
namespace Go.Proofs.Ytgakcpcpfkoaiaa.Ov
open Go.ChangeShapes Go.WideShapes Go.ChangeAt Go.RowKit Go.Shelf

/-- A builder of the call's own in block b, in which the bytes l lie. -/
def Bld (B b : Nat) (l : List UInt8) (w : World) : Prop := Lib.IsBuilder 50 5 B b (Lib.byteCells l) w
def bwsRen : Ren := ⟨fun | 166 => 19 | 240 => 39 | 276 => 53 | n => n, fun | 0 => 0 | 3 => 3 | 4 => 4 | 5 => 5 | 9 => 9 | 20 => 20 | 37 => 48 | 70 => 47 | 72 => 50 | 75 => 52 | 80 => 58 | 164 => 90 | n => n, fun n => n⟩
theorem bwsLays : Lays.n166 Try.prog bwsRen :=
  { mixed := by kernel_rfl
    f166 := by kernel_rfl
    f240 := by kernel_rfl
    f276 := by kernel_rfl
    t0 := by kernel_rfl
    a0 := fun _ => by kernel_rfl
    z0 := fun _ => by kernel_rfl
    v0 := fun _ => by kernel_rfl
    t3 := by kernel_rfl
    a3 := fun _ => by kernel_rfl
    z3 := fun _ => by kernel_rfl
    v3 := fun _ => by kernel_rfl
    t4 := by kernel_rfl
    a4 := fun _ => by kernel_rfl
    z4 := fun _ => by kernel_rfl
    v4 := fun _ => by kernel_rfl
    t9 := by kernel_rfl
    a9 := fun _ => by kernel_rfl
    z9 := fun _ => by kernel_rfl
    v9 := fun _ => by kernel_rfl
    t20 := by kernel_rfl
    a20 := fun _ => by kernel_rfl
    z20 := fun _ => by kernel_rfl
    v20 := fun _ => by kernel_rfl
    t37 := by kernel_rfl
    a37 := fun _ => by kernel_rfl
    z37 := fun _ => by kernel_rfl
    v37 := fun _ => by kernel_rfl
    t70 := by kernel_rfl
    a70 := fun _ => by kernel_rfl
    z70 := fun _ => by kernel_rfl
    v70 := fun _ => by kernel_rfl
    t72 := by kernel_rfl
    a72 := fun _ => by kernel_rfl
    z72 := fun _ => by kernel_rfl
    v72 := fun _ => by kernel_rfl
    t75 := by kernel_rfl
    a75 := fun _ => by kernel_rfl
    z75 := fun _ => by kernel_rfl
    v75 := fun _ => by kernel_rfl
    t164 := by kernel_rfl
    a164 := fun _ => by kernel_rfl
    z164 := fun _ => by kernel_rfl
    v164 := fun _ => by kernel_rfl }
theorem bwsExtra : Builder.Extra Try.prog bwsRen :=
  { sizeBuilder := by kernel_rfl
    liesBuilder := by kernel_rfl
    t5 := by kernel_rfl
    a5 := fun _ => by kernel_rfl
    z5 := fun _ => by kernel_rfl
    v5 := fun _ => by kernel_rfl
    infoByte := by kernel_rfl
    cellsByte := by kernel_rfl
    sizeByte := by kernel_rfl
    neB5 := by decide }
theorem write_any (B b : Nat) (l : List UInt8) (s : ByteArray) (w : World) (h : Bld B b l w) (hlen : l.length + s.size ≤ 140737488355328) (hB : B ≤ w.heap.size) :
    Calls Try.prog 19 #[.pointer (some ⟨b, 0, none⟩), .string s] w fun e w' => e = .returned (.tuple #[.int .i64 s.size, .nilIface]) ∧ Bld B b (l ++ s.data.toList) w' ∧ Below B w w' :=
  (Any.Builder_WriteString bwsLays bwsExtra B b (Lib.byteCells l) s w h (by rw [Lib.byteCells_length]; exact hlen) hB).mono fun _ w' ⟨he, h1, hb⟩ =>
    ⟨he, by
      rw [Lib.strCells_eq, ← Lib.byteCells_append] at h1
      exact Or.inr h1, hb⟩
def bstRen : Ren := ⟨fun | 169 => 23 | n => n, fun | 0 => 0 | 3 => 3 | 5 => 5 | 9 => 9 | 37 => 48 | 70 => 47 | 72 => 50 | 127 => 76 | n => n, fun n => n⟩
theorem bstLays : Lays.n169 Try.prog bstRen :=
  { mixed := by kernel_rfl
    f169 := by kernel_rfl
    t0 := by kernel_rfl
    a0 := fun _ => by kernel_rfl
    z0 := fun _ => by kernel_rfl
    v0 := fun _ => by kernel_rfl
    t3 := by kernel_rfl
    a3 := fun _ => by kernel_rfl
    z3 := fun _ => by kernel_rfl
    v3 := fun _ => by kernel_rfl
    t9 := by kernel_rfl
    a9 := fun _ => by kernel_rfl
    z9 := fun _ => by kernel_rfl
    v9 := fun _ => by kernel_rfl
    t37 := by kernel_rfl
    a37 := fun _ => by kernel_rfl
    z37 := fun _ => by kernel_rfl
    v37 := fun _ => by kernel_rfl
    t70 := by kernel_rfl
    a70 := fun _ => by kernel_rfl
    z70 := fun _ => by kernel_rfl
    v70 := fun _ => by kernel_rfl
    t72 := by kernel_rfl
    a72 := fun _ => by kernel_rfl
    z72 := fun _ => by kernel_rfl
    v72 := fun _ => by kernel_rfl
    t127 := by kernel_rfl
    a127 := fun _ => by kernel_rfl
    z127 := fun _ => by kernel_rfl
    v127 := fun _ => by kernel_rfl }
theorem bstExtra : Builder.Extra Try.prog bstRen :=
  { sizeBuilder := by kernel_rfl
    liesBuilder := by kernel_rfl
    t5 := by kernel_rfl
    a5 := fun _ => by kernel_rfl
    z5 := fun _ => by kernel_rfl
    v5 := fun _ => by kernel_rfl
    infoByte := by kernel_rfl
    cellsByte := by kernel_rfl
    sizeByte := by kernel_rfl
    neB5 := by decide }
theorem string_any (B b : Nat) (l : List UInt8) (w : World) (h : Bld B b l w) (hB : B ≤ w.heap.size) :
    Calls Try.prog 23 #[.pointer (some ⟨b, 0, none⟩)] w fun e w' => e = .returned (.string (tx l)) ∧ Below B w w' :=
  Any.Builder_String_any bstLays bstExtra B b l w h hB
end Go.Proofs.Ytgakcpcpfkoaiaa.Ov
