/-
  The calls of package gauss that turn points about, into complex numbers and back: ifRight, toComplex, toSpot, mirror, norm, nearest.
-/
import Derived.Test.YtjgaaeomfilhoaaGaCalls
namespace Go.Proofs.Ytjgaaeomfilhoaa.Ga
open Go.ChangeShapes Go.WideShapes Go.ChangeAt Go.RowKit Go.Proofs.Ytjgaaeomfilhoaa.Ov

theorem if_yes (x y : Int) (w : World) (h : rb ⟨x, y⟩ = true) : Calls Try.prog 27 #[.agg #[.int .i64 x, .int .i64 y]] w fun e w' => e = .returned (.tuple #[.agg #[.int .i64 x, .int .i64 y], .int .i64 0]) ∧ Below w.heap.size w w' := by
  have HX := Lib.hid (right_any x y); rw [h] at HX; clear h
  go_enter Try.func27, Try.ntmps27
  go_wp2_with (fail)
  refine (HX.out _).mono ?_
  rintro e w1 ⟨rfl, hb⟩
  have HB := Lib.hid hb
  obtain ⟨hc, hf⟩ := bcell hb
  have hz : w.heap.size + 1 < w1.heap.size := by have := hb.size; simp at this; omega
  clear hb
  go_wp2_with (fail)
  refine bodyPost_ret (v := .tuple #[.agg #[.int .i64 x, .int .i64 y], .int .i64 0]) (by simp [results, Try.results27, go_sem, hc]) rfl ⟨rfl, ?_⟩
  exact ((Below.next (((Below.refl _ _).alloc (Nat.le_refl _) _).alloc (by simp) _) HB.out).setCell (by simp) _).setCell (by simp) _
theorem if_no (x y : Int) (w : World) (h : rb ⟨x, y⟩ = false) : Calls Try.prog 27 #[.agg #[.int .i64 x, .int .i64 y]] w fun e w' => e = .returned (.tuple #[.agg #[.int .i64 0, .int .i64 0], .int .i64 14]) ∧ Below w.heap.size w w' := by
  have HX := Lib.hid (right_any x y); rw [h] at HX; clear h
  go_enter Try.func27, Try.ntmps27
  go_wp2_with (fail)
  refine (HX.out _).mono ?_
  rintro e w1 ⟨rfl, hb⟩
  have HB := Lib.hid hb
  obtain ⟨hc, hf⟩ := bcell hb
  have hz : w.heap.size + 1 < w1.heap.size := by have := hb.size; simp at this; omega
  clear hb
  go_wp2_with (fail)
  refine bodyPost_ret (v := .tuple #[.agg #[.int .i64 0, .int .i64 0], .int .i64 14]) (by simp [results, Try.results27, go_sem, hc]) rfl ⟨rfl, ?_⟩
  exact ((Below.next (((Below.refl _ _).alloc (Nat.le_refl _) _).alloc (by simp) _) HB.out).setCell (by simp) _).setCell (by simp) _
theorem complex_any (x y : Int) (w : World) : Calls Try.prog 29 #[.agg #[.int .i64 x, .int .i64 y]] w fun e w' => e = .returned (.complex .f64 (floatOfInt .f64 x) (floatOfInt .f64 y)) ∧ Below w.heap.size w w' := by
  go_enter Try.func29, Try.ntmps29
  go_wp2_with (fail)
  go_ret
  exact ⟨rfl, (Below.refl _ _).alloc (Nat.le_refl _) _⟩
theorem spot_any {re im : Nat} {x y : Int} (hx : Is re x) (hy : Is im y) (bx : -9007199254740992 < x ∧ x < 9007199254740992) (by_ : -9007199254740992 < y ∧ y < 9007199254740992) (w : World) :
    Calls Try.prog 28 #[.complex .f64 re im] w fun e w' => e = .returned (.agg #[.int .i64 x, .int .i64 y]) ∧ Below w.heap.size w w' := by
  have r1 : ∀ w : World, (convert 51 3 (.float .f64 re)).run Try.prog w = .ok (.int .i64 x) w := fun w => run_convert_float_int w 51 3 .f64 .i64 re x (by rw [Try.underlying51]; rfl) Try.underlying3 (hx.toInt bx.1 bx.2)
  have r2 : ∀ w : World, (convert 51 3 (.float .f64 im)).run Try.prog w = .ok (.int .i64 y) w := fun w => run_convert_float_int w 51 3 .f64 .i64 im y (by rw [Try.underlying51]; rfl) Try.underlying3 (hy.toInt by_.1 by_.2)
  clear hx hy bx by_
  go_enter Try.func28, Try.ntmps28
  go_wp2_with (fail)
  refine bodyPost_ret (v := .agg #[.int .i64 x, .int .i64 y]) (by simp [results, Try.results28, go_sem]) rfl ⟨rfl, ?_⟩
  exact (Below.refl _ _).alloc (Nat.le_refl _) _
theorem mirror_any {x y : Int} (by_ : -16777216 ≤ y ∧ y ≤ 16777216) (w : World) : Calls Try.prog 34 #[.agg #[.int .i64 x, .int .i64 y]] w fun e w' => e = .returned (.agg #[.int .i64 x, .int .i64 (-y)]) ∧ Below w.heap.size w w' := by
  obtain ⟨h1, h2⟩ := by_
  go_enter Try.func34, Try.ntmps34
  go_wp2_with (fail)
  refine bodyPost_ret (v := .agg #[.int .i64 x, .int .i64 (-y)]) (by simp [results, Try.results34, go_sem]) rfl ⟨rfl, ?_⟩
  exact ((Below.refl _ _).alloc (Nat.le_refl _) _).alloc (by simp) _
theorem norm_any {x y : Int} (bx : -16777216 ≤ x ∧ x ≤ 16777216) (by_ : -16777216 ≤ y ∧ y ≤ 16777216) (w : World) : Calls Try.prog 30 #[.agg #[.int .i64 x, .int .i64 y]] w fun e w' => e = .returned (.int .i64 (x * x + y * y)) ∧ Below w.heap.size w w' := by
  obtain ⟨h1, h2⟩ := mul_big bx bx
  obtain ⟨h3, h4⟩ := mul_big by_ by_
  clear bx by_
  go_enter Try.func30, Try.ntmps30
  go_wp2_with (fail)
  go_ret
  exact ⟨rfl, (Below.refl _ _).alloc (Nat.le_refl _) _⟩
end Go.Proofs.Ytjgaaeomfilhoaa.Ga
