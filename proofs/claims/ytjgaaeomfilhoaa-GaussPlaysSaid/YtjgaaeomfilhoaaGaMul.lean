/-
  Products of points.
-/
import Derived.Test.YtjgaaeomfilhoaaGaAdd
namespace Go.Proofs.Ytjgaaeomfilhoaa.Ga
open Go.ChangeShapes Go.WideShapes Go.ChangeAt Go.RowKit Go.Proofs.Ytjgaaeomfilhoaa.Ov

theorem over_gives {w : World} {P : Program} {f : FuncId} {args : Array Value} {v : Value} (q : Over w) (h : Calls P f args q.val (Gives v q.val)) :
    Calls P f args q.val fun e w' => e = .returned v ∧ ∃ q' : Over w, w' = q'.val := over_make q h
theorem natAbs_big {n : Int} (h : -281474976710656 ≤ n ∧ n ≤ 281474976710656) : n.natAbs < 4503599627370496 := by omega
/-- The product of two points as complex numbers: what the language makes of it. -/
theorem run_cmul {x y u v : Int} (hx : -16777216 ≤ x ∧ x ≤ 16777216) (hy : -16777216 ≤ y ∧ y ≤ 16777216) (hu : -16777216 ≤ u ∧ u ≤ 16777216) (hv : -16777216 ≤ v ∧ v ≤ 16777216) :
    ∃ re im, (∀ w : World, (binOp .mul 45 (.complex .f64 (floatOfInt .f64 x) (floatOfInt .f64 y)) (.complex .f64 (floatOfInt .f64 u) (floatOfInt .f64 v))).run Try.prog w = .ok (.complex .f64 re im) w) ∧
      Is re (x * u - y * v) ∧ Is im (x * v + y * u) := by
  obtain ⟨re, im, h, h1, h2⟩ := cmul (Is.ofInt (n := x) (by omega)) (Is.ofInt (n := y) (by omega)) (Is.ofInt (n := u) (by omega)) (Is.ofInt (n := v) (by omega))
    (natAbs_big (mul_big hx hu)) (natAbs_big (mul_big hy hv)) (natAbs_big (mul_big hx hv)) (natAbs_big (mul_big hy hu))
  exact ⟨re, im, fun w => run_complex_mul w _ _ _ _ _ _ _ h, h1, h2⟩
set_option maxHeartbeats 1000000 in
theorem mul_any (x y u v : Int) (w : World) : Calls Try.prog 10 #[.agg #[.int .i64 x, .int .i64 y], .agg #[.int .i64 u, .int .i64 v]] w (Gives (ans (rb ⟨x, y⟩ && rb ⟨u, v⟩ && rb (Pt.mul ⟨x, y⟩ ⟨u, v⟩)) (Pt.mul ⟨x, y⟩ ⟨u, v⟩)) w) := by
  have HR := Lib.hid (both_any x y u v)
  by_cases hr : (rb ⟨x, y⟩ && rb ⟨u, v⟩) = true
  · have h12 := hr; rw [Bool.and_eq_true] at h12
    obtain ⟨hx, hy⟩ := rb_yes h12.1
    obtain ⟨hu, hv⟩ := rb_yes h12.2
    obtain ⟨re, im, hm, i1, i2⟩ := run_cmul hx hy hu hv
    have m1 := mul_big hx hu; have m2 := mul_big hy hv; have m3 := mul_big hx hv; have m4 := mul_big hy hu
    have HS := Lib.hid (spot_any i1 i2 (by omega) (by omega))
    rw [hr] at HR ⊢
    clear h12 hr hx hy hu hv i1 i2 m1 m2 m3 m4
    rw [Bool.true_and]
    have HI := Lib.hid (if_any (x * u - y * v) (x * v + y * u))
    have HE : Hid (Pt.mul ⟨x, y⟩ ⟨u, v⟩ = ⟨x * u - y * v, x * v + y * u⟩) := rfl
    rw [HE.out]; clear HE
    generalize x * u - y * v = p at *
    generalize x * v + y * u = q at *
    have HC := Lib.hid (complex_any x y)
    have HD := Lib.hid (complex_any u v)
    generalize floatOfInt .f64 x = fx at *
    generalize floatOfInt .f64 y = fy at *
    generalize floatOfInt .f64 u = fu at *
    generalize floatOfInt .f64 v = fv at *
    cases hk : rb ⟨p, q⟩
    all_goals
      rw [hk] at HI
      clear hk
      first | rw [ans_true] at HI ⊢ | rw [ans_false] at HI ⊢
      go_enter Try.func10, Try.ntmps10
      go_wp2_with (fail)
      refine (HR.out _).mono ?_
      rintro e w1 ⟨rfl, hb⟩
      have HB := Lib.hid (Below.next (below3 w _ _ _) hb)
      obtain ⟨hc, hf⟩ := bcell hb
      have hz : w.heap.size + 2 < w1.heap.size := by have := hb.size; simp at this; omega
      clear hb
      go_wp2_with (fail)
      have k1 : ∀ r : Over w1, r.val.cell? ⟨w.heap.size, 0, none⟩ = some (.int .i64 x) := fun r => over_cell r (by rw [hc _ _ (by simp; omega)]; simp [go_sem])
      have k2 : ∀ r : Over w1, r.val.cell? ⟨w.heap.size, 1, none⟩ = some (.int .i64 y) := fun r => over_cell r (by rw [hc _ _ (by simp; omega)]; simp [go_sem])
      have k3 : ∀ r : Over w1, r.val.cell? ⟨w.heap.size + 1, 0, none⟩ = some (.int .i64 u) := fun r => over_cell r (by rw [hc _ _ (by simp)]; simp [go_sem])
      have k4 : ∀ r : Over w1, r.val.cell? ⟨w.heap.size + 1, 1, none⟩ = some (.int .i64 v) := fun r => over_cell r (by rw [hc _ _ (by simp)]; simp [go_sem])
      refine wp_over_tail 9 (by kernel_rfl) (by kernel_rfl) ?_
      simp only [List.take_succ_cons, List.take_zero, List.drop_succ_cons, List.drop_zero]
      repeat (go_big_quiet_step (first
        | with_reducible exact over_make _ (HC.out _)
        | with_reducible exact over_make _ (HD.out _)
        | with_reducible exact over_make _ (HS.out _)
        | with_reducible exact over_gives _ (HI.out _)))
      refine wpQuiet_nil ?_
      rintro w2 ⟨⟨w2, hb⟩, rfl⟩
      have HB2 := Lib.hid (Below.next HB.out hb)
      have hz2 : w.heap.size + 2 < w2.heap.size := by have := hb.size; omega
      have hf2 : w2.frozen? ⟨w.heap.size + 2, 0, none⟩ = w1.frozen? ⟨w.heap.size + 2, 0, none⟩ := hb.frozen (p := ⟨w.heap.size + 2, 0, none⟩) hz
      have hf3 : w2.frozen? ⟨w.heap.size + 2, 1, none⟩ = w1.frozen? ⟨w.heap.size + 2, 1, none⟩ := hb.frozen (p := ⟨w.heap.size + 2, 1, none⟩) hz
      have hc2 : w2.cell? ⟨w.heap.size + 2, 0, none⟩ = w1.cell? ⟨w.heap.size + 2, 0, none⟩ := hb.cell (p := ⟨w.heap.size + 2, 0, none⟩) hz
      have hc3 : w2.cell? ⟨w.heap.size + 2, 1, none⟩ = w1.cell? ⟨w.heap.size + 2, 1, none⟩ := hb.cell (p := ⟨w.heap.size + 2, 1, none⟩) hz
      clear hb k1 k2 k3 k4
      go_wp2_with (fail)
      refine bodyPost_ret (v := _) (by simp [results, Try.results10, go_sem, hc2, hc3, hc]) rfl ⟨rfl, ?_⟩
      exact (HB2.out.setCell (by first | (simp; done) | (simp; omega)) _).setCell (by first | (simp; done) | (simp; omega)) _
  · have hr2 : (rb ⟨x, y⟩ && rb ⟨u, v⟩) = false := by simpa using hr
    rw [hr2] at HR ⊢
    clear hr hr2
    rw [Bool.false_and, ans_false]
    go_enter Try.func10, Try.ntmps10
    go_wp2_with (fail)
    refine (HR.out _).mono ?_
    rintro e w1 ⟨rfl, hb⟩
    have HB := Lib.hid hb
    obtain ⟨hc, hf⟩ := bcell hb
    have hz : w.heap.size + 2 < w1.heap.size := by have := hb.size; simp at this; omega
    clear hb
    go_wp2_with (fail)
    refine bodyPost_ret (v := .tuple #[.agg #[.int .i64 0, .int .i64 0], .int .i64 14]) (by simp [results, Try.results10, go_sem, hc]) rfl ⟨rfl, ?_⟩
    exact ((Below.next (below3 w _ _ _) HB.out).setCell (by first | (simp; done) | (simp; omega)) _).setCell (by first | (simp; done) | (simp; omega)) _
end Go.Proofs.Ytjgaaeomfilhoaa.Ga
