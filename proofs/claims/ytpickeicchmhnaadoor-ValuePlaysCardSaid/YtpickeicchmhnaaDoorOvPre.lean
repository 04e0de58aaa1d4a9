/-
  Of any seat that holds strings.HasPrefix: what it answers of a text of one byte, by the shelf (laid in plain words; written by gen_lay.py).
-/
import Derived.Test.YtpickeicchmhnaaDoorOvBase
import Derived.Shelf.Strings.Prefix
namespace Go.Proofs.YtpickeicchmhnaaDoor.Ov
open Go.ChangeShapes Go.WideShapes Go.ChangeAt Go.RowKit Go.Shelf

def preRen : Ren := ⟨fun | 99 => 59 | 206 => 70 | n => n, fun | 3 => 3 | 4 => 4 | 9 => 9 | n => n, fun n => n⟩
theorem preLays : Lays.n99 Tryd.prog preRen :=
  { mixed := by kernel_rfl
    f99 := by kernel_rfl
    f206 := by kernel_rfl
    t3 := by kernel_rfl
    a3 := fun _ => by kernel_rfl
    z3 := fun _ => by kernel_rfl
    v3 := fun _ => by kernel_rfl
    t4 := by kernel_rfl
    a4 := fun _ => by kernel_rfl
    z4 := fun _ => by kernel_rfl
    v4 := fun _ => by kernel_rfl
    t9 := by kernel_rfl
    a9 := fun _ => by kernel_rfl
    z9 := fun _ => by kernel_rfl
    v9 := fun _ => by kernel_rfl }
theorem prefix_any (s : ByteArray) (c : UInt8) (w : World) :
    Calls Tryd.prog 59 #[.string s, .string ⟨#[c]⟩] w fun e w' => e = .returned (.bool (decide (s.data.toList.head? = some c))) ∧ w = w' :=
  (Any.strings_HasPrefix preLays s ⟨#[c]⟩ w).mono fun _ _ ⟨he, hw⟩ => ⟨by
    rw [he]
    have e : Lib.hasPrefix s.data.toList [c] = decide (s.data.toList.head? = some c) := by
      unfold Lib.hasPrefix
      cases s.data.toList with
      | nil => rfl
      | cons a t => rw [Bool.eq_iff_iff]; simp [List.isPrefixOf]; exact eq_comm
    exact congrArg (fun b => Ending.returned (.bool b)) e, hw.symm⟩
end Go.Proofs.YtpickeicchmhnaaDoor.Ov
