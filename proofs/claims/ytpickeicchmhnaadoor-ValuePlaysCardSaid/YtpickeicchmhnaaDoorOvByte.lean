/-
  Of any seat that holds strings.IndexByte: what it answers, by the shelf (laid in plain words; written by gen_lay.py).
-/
import Derived.Test.YtpickeicchmhnaaDoorOvBase
import Derived.Shelf.Small.Strs
namespace Go.Proofs.YtpickeicchmhnaaDoor.Ov
open Go.ChangeShapes Go.WideShapes Go.ChangeAt Go.RowKit Go.Shelf

def ixbRen : Ren := ⟨fun | 137 => 68 | 217 => 77 | 266 => 83 | n => n, fun | 3 => 3 | 5 => 5 | 9 => 9 | n => n, fun n => n⟩
theorem ixbLays : Lays.n137 Tryd.prog ixbRen :=
  { mixed := by kernel_rfl
    f137 := by kernel_rfl
    f217 := by kernel_rfl
    f266 := by kernel_rfl
    t3 := by kernel_rfl
    a3 := fun _ => by kernel_rfl
    z3 := fun _ => by kernel_rfl
    v3 := fun _ => by kernel_rfl
    t5 := by kernel_rfl
    a5 := fun _ => by kernel_rfl
    z5 := fun _ => by kernel_rfl
    v5 := fun _ => by kernel_rfl
    t9 := by kernel_rfl
    a9 := fun _ => by kernel_rfl
    z9 := fun _ => by kernel_rfl
    v9 := fun _ => by kernel_rfl }
theorem index_any (s : ByteArray) (c : UInt8) (w : World) :
    Calls Tryd.prog 68 #[.string s, .int .u8 (c.toNat : Int)] w fun e w' => e = .returned (.int .i64 (Lib.indexByte s.data.toList c)) ∧ w = w' :=
  (Any.strings_IndexByte ixbLays s (c.toNat : Int) w).mono fun _ _ ⟨he, hw⟩ => ⟨by rw [he]; simp, hw.symm⟩
end Go.Proofs.YtpickeicchmhnaaDoor.Ov
