/-
  The document's examples for layer 5.
-/
import Derived.Test.YtajdlaihdebmmaaTpNum
namespace Go.Proofs.Ytajdlaihdebmmaa.Tp
open Go.ChangeShapes Go.WideShapes Go.ChangeAt Go.RowKit Go.Proofs.Ytajdlaihdebmmaa.Ov

theorem num_300 (w : World) : Calls Try.prog 10 #[.int .i64 300] w fun e w' => e = .returned (.string ⟨#[172, 2]⟩) ∧ Below w.heap.size w w' := by
  have h := num_yes 300 w (by omega)
  have e : nb 300 = [172, 2] := by
    rw [nb_ge (by omega), nb_lt (by omega)]; rfl
  rw [e] at h
  exact h
theorem whole_1 (w : World) : Calls Try.prog 11 #[.int .i64 (-1)] w fun e w' => e = .returned (.string ⟨#[1]⟩) ∧ Below w.heap.size w w' := by
  have h := whole_any (-1) w
  have e : wv (-1) = [1] := by
    have e1 : wv (-1) = nb (wn (-1)) := if_neg (by omega)
    have e2 : wn (-1) = 1 := rfl
    rw [e1, e2, nb_lt (by omega)]; rfl
  rw [e] at h
  exact h
set_option maxHeartbeats 1000000 in
theorem awake_any (w : World) : Calls Try.prog 8 #[] w fun e w' => e = .returned (.bool true) ∧ Below w.heap.size w w' := by
  go_enter Try.func8, Try.ntmps8
  go_wp2_with (fail)
  refine (num_300 _).mono ?_
  rintro e w1 ⟨rfl, hb⟩
  have HB := Lib.hid hb; clear hb
  go_wp2_with (fail)
  refine (whole_1 _).mono ?_
  rintro e w2 ⟨rfl, hb⟩
  have HB2 := Lib.hid (Below.next HB.out hb); clear hb
  go_wp2_with (fail)
  go_ret
  exact ⟨rfl, HB2.out⟩
end Go.Proofs.Ytajdlaihdebmmaa.Tp
