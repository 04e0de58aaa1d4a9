/-
  The document's examples, as the laws of layer 4 ask them (awake): they come out.
-/
import Derived.Test.YtkaofakcahnagaaCrMore
namespace Go.Proofs.Ytkaofakcahnagaa.Cr
open Go.ChangeShapes Go.WideShapes Go.ChangeAt Go.RowKit Go.Proofs.Ytkaofakcahnagaa.Ov

theorem ex9 : (sm (⟨#[49, 50, 51, 52, 53, 54, 55, 56, 57]⟩ : ByteArray).data.toList : Int) = 3421780262 := by decide +kernel
theorem ex0 : (sm (⟨#[]⟩ : ByteArray).data.toList : Int) = 0 := by decide +kernel
set_option maxHeartbeats 400000 in
theorem awake_any (w : World) :
    Calls Try.prog 8 #[] w fun e w' => e = .returned (.bool true) ∧ Below w.heap.size w w' := by
  go_enter Try.func8, Try.ntmps8
  go_wp2_with fail
  refine (sum_any _ _ (by decide)).mono ?_
  rintro e w1 ⟨rfl, hb⟩
  have HB := Lib.hid hb; clear hb
  rw [ex9]
  go_wp2_with fail
  refine (sum_any _ _ (by decide)).mono ?_
  rintro e w2 ⟨rfl, hb2⟩
  have HB2 := Lib.hid (Below.next HB.out hb2); clear hb2
  rw [ex0]
  go_wp2_with fail
  go_ret
  exact ⟨rfl, HB2.out⟩
end Go.Proofs.Ytkaofakcahnagaa.Cr
