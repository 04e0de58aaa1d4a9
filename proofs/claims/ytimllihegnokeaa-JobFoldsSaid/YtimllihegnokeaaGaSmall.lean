/-
  The calls of package gauss that turn points about, into complex numbers and back: ifRight, toComplex, toSpot, mirror, norm, nearest.
-/
import Derived.Test.YtimllihegnokeaaGaCalls
import Derived.Test.YtimllihegnokeaaOvTail
import Derived.Test.YtimllihegnokeaaOvFloat
namespace Go.Proofs.Ytimllihegnokeaa.Ga
open Go.ChangeShapes Go.WideShapes Go.ChangeAt Go.RowKit Go.Proofs.Ytimllihegnokeaa.Ov

theorem complex_any (x y : Int) (w : World) : Calls Try.prog 34 #[.agg #[.int .i64 x, .int .i64 y]] w fun e w' => e = .returned (.complex .f64 (floatOfInt .f64 x) (floatOfInt .f64 y)) ∧ Below w.heap.size w w' := by
  go_enter Try.func34, Try.ntmps34
  go_wp2_with (fail)
  go_ret
  exact ⟨rfl, (Below.refl _ _).alloc (Nat.le_refl _) _⟩
theorem spot_any {re im : Nat} {x y : Int} (hx : Is re x) (hy : Is im y) (bx : -9007199254740992 < x ∧ x < 9007199254740992) (by_ : -9007199254740992 < y ∧ y < 9007199254740992) (w : World) :
    Calls Try.prog 33 #[.complex .f64 re im] w fun e w' => e = .returned (.agg #[.int .i64 x, .int .i64 y]) ∧ Below w.heap.size w w' := by
  have r1 : ∀ w : World, (convert 62 3 (.float .f64 re)).run Try.prog w = .ok (.int .i64 x) w := fun w => run_convert_float_int w 62 3 .f64 .i64 re x (by rw [Try.underlying62]; rfl) Try.underlying3 (hx.toInt bx.1 bx.2)
  have r2 : ∀ w : World, (convert 62 3 (.float .f64 im)).run Try.prog w = .ok (.int .i64 y) w := fun w => run_convert_float_int w 62 3 .f64 .i64 im y (by rw [Try.underlying62]; rfl) Try.underlying3 (hy.toInt by_.1 by_.2)
  clear hx hy bx by_
  go_enter Try.func33, Try.ntmps33
  go_wp2_with (fail)
  refine bodyPost_ret (v := .agg #[.int .i64 x, .int .i64 y]) (by simp [results, Try.results33, go_sem]) rfl ⟨rfl, ?_⟩
  exact (Below.refl _ _).alloc (Nat.le_refl _) _
theorem mirror_any {x y : Int} (by_ : -16777216 ≤ y ∧ y ≤ 16777216) (w : World) : Calls Try.prog 35 #[.agg #[.int .i64 x, .int .i64 y]] w fun e w' => e = .returned (.agg #[.int .i64 x, .int .i64 (-y)]) ∧ Below w.heap.size w w' := by
  obtain ⟨h1, h2⟩ := by_
  go_enter Try.func35, Try.ntmps35
  go_wp2_with (fail)
  refine bodyPost_ret (v := .agg #[.int .i64 x, .int .i64 (-y)]) (by simp [results, Try.results35, go_sem]) rfl ⟨rfl, ?_⟩
  exact ((Below.refl _ _).alloc (Nat.le_refl _) _).alloc (by simp) _
theorem norm_any {x y : Int} (bx : -16777216 ≤ x ∧ x ≤ 16777216) (by_ : -16777216 ≤ y ∧ y ≤ 16777216) (w : World) : Calls Try.prog 36 #[.agg #[.int .i64 x, .int .i64 y]] w fun e w' => e = .returned (.int .i64 (x * x + y * y)) ∧ Below w.heap.size w w' := by
  obtain ⟨h1, h2⟩ := mul_big bx bx
  obtain ⟨h3, h4⟩ := mul_big by_ by_
  clear bx by_
  go_enter Try.func36, Try.ntmps36
  go_wp2_with (fail)
  go_ret
  exact ⟨rfl, (Below.refl _ _).alloc (Nat.le_refl _) _⟩
end Go.Proofs.Ytimllihegnokeaa.Ga
