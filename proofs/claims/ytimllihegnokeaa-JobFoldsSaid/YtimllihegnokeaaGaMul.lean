/-
  Products of points.
-/
import Derived.Test.YtimllihegnokeaaGaAdd
namespace Go.Proofs.Ytimllihegnokeaa.Ga
open Go.ChangeShapes Go.WideShapes Go.ChangeAt Go.RowKit Go.Proofs.Ytimllihegnokeaa.Ov

theorem natAbs_big {n : Int} (h : -281474976710656 ≤ n ∧ n ≤ 281474976710656) : n.natAbs < 4503599627370496 := by omega
/-- The product of two points as complex numbers: what the language makes of it. -/
theorem run_cmul {x y u v : Int} (hx : -16777216 ≤ x ∧ x ≤ 16777216) (hy : -16777216 ≤ y ∧ y ≤ 16777216) (hu : -16777216 ≤ u ∧ u ≤ 16777216) (hv : -16777216 ≤ v ∧ v ≤ 16777216) :
    ∃ re im, (∀ w : World, (binOp .mul 58 (.complex .f64 (floatOfInt .f64 x) (floatOfInt .f64 y)) (.complex .f64 (floatOfInt .f64 u) (floatOfInt .f64 v))).run Try.prog w = .ok (.complex .f64 re im) w) ∧
      Is re (x * u - y * v) ∧ Is im (x * v + y * u) := by
  obtain ⟨re, im, h, h1, h2⟩ := cmul (Is.ofInt (n := x) (by omega)) (Is.ofInt (n := y) (by omega)) (Is.ofInt (n := u) (by omega)) (Is.ofInt (n := v) (by omega))
    (natAbs_big (mul_big hx hu)) (natAbs_big (mul_big hy hv)) (natAbs_big (mul_big hx hv)) (natAbs_big (mul_big hy hu))
  exact ⟨re, im, fun w => run_complex_mul w _ _ _ _ _ _ _ h, h1, h2⟩
end Go.Proofs.Ytimllihegnokeaa.Ga
